import PyProof.Rows.All
import Wide.All
import OpenK.AllK
import Wide.FinOn
import Lean
import PyProof.EqAt
import PyProof.EqKinds
import PyProof.TupleCall
import PySem.Challenge.RW_allelse_k93_looks_and_contexts
set_option Elab.async false
set_option linter.all false
set_option maxRecDepth 100000
set_option maxHeartbeats 4000000
namespace L2
open PySem PySem.Spec PyProof.Rows
abbrev aa:=@wpAny_bind
abbrev ab:=@List.length_map
abbrev ae:=@wpAny_pure
abbrev af:=@List.getElem?_eq_some_iff
abbrev ai:=@Nat.le_refl
abbrev aj:=@List.mem_cons_self
abbrev ak:=@List.mem_cons_of_mem
abbrev am:=@Heap.get?_push_of_some
abbrev ao:=@Nat.le_trans
abbrev aq:=@List.getElem?_eq_getElem
abbrev ar:=@List.getElem?_set_ne
abbrev au:=@Heap.lt_size
abbrev av:=@List.map_cons
abbrev aw:=@List.mem_of_getElem?
abbrev ax:=@Option.map_eq_some_iff
abbrev ay:=@List.mem_map
abbrev az:=@List.map_map
abbrev aA:=@List.getElem?_map
abbrev aB:=@Heap.get?_push_size
abbrev aC:=@List.mem_singleton
abbrev aD:=@List.length_append
abbrev aE:=@List.length_range
abbrev aF:=@Nat.lt_of_lt_of_le
abbrev aG:=@Bool.false_ne_true
abbrev aH:=@List.getElem?_set_self
abbrev aI:=@List.mem_cons
abbrev aJ:=@Bool.false_eq_true
abbrev aK:=@decide_eq_true
abbrev aL:=@Nat.zero_le
abbrev aM:=@List.map_append
abbrev aN:=@List.mem_append
abbrev aO:=@Nat.ne_of_lt
abbrev aP:=@Array.length_toList
abbrev aQ:=@List.length_take
abbrev aR:=@Bool.and_eq_true
abbrev aS:=@decide_eq_false
abbrev aT:=@List.mem_filter
abbrev aU:=@Nat.lt_of_le_of_lt
abbrev aV:=@List.mem_append_right
abbrev aW:=@List.size_toArray
abbrev aX:=@PassesOwn.never
abbrev aY:=@List.mem_of_mem_take
abbrev aZ:=@List.getD_eq_getElem?_getD
abbrev a6:=@wpAny_call_entry
abbrev a8:=@List.length_cons
abbrev a9:=@List.take_length
abbrev ba:=@List.all_eq_true
abbrev bc:=@wpAny_newObj_type
abbrev bd:=@wpAny_setState_of
abbrev be:=@PyProof.Rows.boot_sorted
abbrev bf:=@List.mem_range
abbrev bg:=@List.getElem?_append_right
abbrev bh:=@Heap.SameBut.update
abbrev bi:=@PySem.boot_len
abbrev bj:=@List.mem_append_left
abbrev bm:=@sizeLine_eq
abbrev bn:=@wpAny_mono
abbrev bp:=@PySem.W.kia_one
abbrev bq:=@List.getElem?_append_left
abbrev br:=@Array.getElem?_eq_getElem
abbrev bt:=@Nat.lt_irrefl
abbrev bu:=@wpAny_askSetting
abbrev bv:=@Int.toNat_natCast
abbrev bw:=@of_decide_eq_true
abbrev bz:=@List.dropLast_concat_getLast
abbrev bA:=@PySem.F.slot_dict_keyiterator_next
abbrev bB:=@List.pairwise_cons
abbrev bC:=@Array.getD_eq_getD_getElem?
abbrev bD:=@List.length_set
abbrev bE:=@PyProof.Rows.boot_tuple
abbrev bF:=@PyProof.Rows.boot_list
abbrev bH:=@Nat.le_of_lt_succ
abbrev bI:=@wpAny_holding
abbrev bJ:=@Option.some.inj
abbrev bK:=@Bool.eq_iff_iff
abbrev bL:=@Int.emod_lt_of_pos
abbrev bM:=@decide_eq_true_iff
abbrev bN:=@wpAny_typeNameOfWhole_keyiter
abbrev bO:=@List.mem_iff_getElem
abbrev bP:=@wpAny_truthy_bool
abbrev bQ:=@Nat.lt_trichotomy
abbrev bR:=@List.append_assoc
abbrev bS:=@List.pairwise_map
abbrev bT:=@List.nodup_cons
abbrev bU:=@F.slot_int_rmul
abbrev bV:=@Nat.not_lt_zero
abbrev bW:=@Array.getElem?_eq_some_iff
abbrev bX:=@List.getElem_map
abbrev bY:=@List.all_cons
abbrev bZ:=@List.getElem_range
abbrev b5:=@Obj.data_mapFields
abbrev b6:=@wpAny_binaryOp_repeat_ref
abbrev b7:=@List.pairwise_iff_getElem
abbrev b8:=@Classical.byContradiction
abbrev b9:=@Nat.pow_le_pow_right
abbrev cb:=@call_meets
abbrev ce:=@Int.emod_nonneg
abbrev cg:=@List.filterMap_cons
abbrev ci:=@PySem.mem_of_lookup
abbrev cj:=@List.any_cons
abbrev ck:=@List.replicate_succ
abbrev cm:=@Bool.and_true
abbrev cq:=@List.getElem_inj
abbrev cr:=@List.lookup_cons
abbrev cw:=@List.getElem_mem
abbrev cy:=@typeIs_int
abbrev cz:=@List.mem_filterMap
abbrev cA:=@F.args_tuple_mul_2
abbrev cB:=@PyProof.Rows.boot_isinstance
abbrev cC:=@PyProof.Rows.callWith_type1
abbrev cD:=@List.find?_cons
abbrev cE:=@List.length_singleton
abbrev cF:=@Heap.get?_update_self
abbrev cG:=@List.take_sublist
abbrev cH:=@F.entry_tuple_mul
abbrev cI:=@Array.getElem_toList
abbrev cJ:=@Bool.and_false
abbrev cK:=@wpAny_setField
abbrev cL:=@PySem.F.args_dict_keyiterator_next_1
abbrev cN:=@AutoSeq1.idx_int
abbrev cO:=@F.slot_tuple_mul
abbrev cP:=@wpAny_isInstance
abbrev cQ:=@Nat.le_succ
abbrev cR:=@PySem.F.entry_dict_keyiterator_next
abbrev cS:=@Nat.le_of_lt
abbrev cT:=@List.getElem?_take_of_lt
abbrev cU:=@PySem.F.args_tuple_add_2
abbrev cV:=@wpAny_typeOf
abbrev cW:=@Nat.succ_pos
abbrev cY:=@wpAny_passesOwn
abbrev cZ:=@PySem.F.entry_tuple_add
abbrev c7:=@wpAny_standAt
abbrev c8:=@PySem.F.plainAttrs_list
abbrev c9:=@List.pairwise_singleton
abbrev dg:=@Nat.add_sub_cancel
abbrev dh:=@List.getElem?_cons_succ
abbrev di:=@PySem.F.slot_tuple_add
abbrev dj:=@List.flatten_cons
abbrev dq:=@F.args_int_rmul_2
abbrev du:=@Nat.mod_lt
abbrev dv:=@wpAny_storeSet_of
abbrev dw:=@Obj.isFreed_of_fields
abbrev dy:=@PyProof.Rows.boot_abs
abbrev dB:=@F.entry_int_rmul
abbrev dC:=@List.ext_getElem
abbrev dD:=@List.eq_nil_of_length_eq_zero
abbrev dE:=@List.not_mem_nil
abbrev dF:=@Int.mul_le_mul_of_nonneg_left
abbrev dG:=@Array.mem_toList_iff
abbrev dH:=@Bool.true_and
abbrev dJ:=@wpAny_attempt
abbrev dM:=@List.append_nil
abbrev dN:=@F.fills_int_mul
abbrev dO:=@eq_of_beq
abbrev dP:=@Heap.get?_update_ne
abbrev dQ:=@wpAny_setEntries_of
abbrev dR:=@List.flatMap_append
abbrev dU:=@Nat.ne_of_gt
abbrev dW:=@wpAny_Call_Name_kw
abbrev dX:=@List.filter_append
abbrev dZ:=@List.drop_zero
abbrev ee:=@wpAny_fieldsOf
abbrev eh:=@isSubtype_stop
abbrev ei:=@List.nodup_nil
abbrev ek:=@Nat.lt_succ_of_le
abbrev el:=@Obj.cls_mapFields
abbrev en:=@wpAny_pyIter_slot
abbrev eo:=@wpAny_dictEntries
abbrev er:=@List.foldl_append
abbrev eu:=@tupleItemsOf_
abbrev ez:=@Int.lt_irrefl
abbrev eA:=@Bool.not_true
abbrev eB:=@List.cons.inj
abbrev eC:=@noFill_tuple_add
abbrev eD:=@List.length_drop
abbrev eE:=@List.nodup_range
abbrev eF:=@wpAny_forIn_list
abbrev eG:=@List.mem_flatMap
abbrev eI:=@codeAny_mono
abbrev eJ:=@List.map_nil
abbrev eK:=@Nat.lt_trans
abbrev eL:=@Nat.sub_zero
abbrev eM:=@Nat.lt_or_ge
abbrev Key:=Sum Int Str
def zdd:Key->Value->Bool
 | .inl k,v=>Value.isInt k v
 | .inr x,v=>Value.isStrOf x v
def keyH (w:World):Key->Int
 | .inl k=>hashInt k
 | .inr x=>hashStr w x
theorem zI:∀ {k:Key} {v:Value},zdd k v=true->(∃i t,k=Sum.inl i/\v=Value.int i t)\/(∃x t,k=Sum.inr x/\v=Value.str x t)
 | .inl i,v,h=>by obtain⟨t,e⟩:=Value.isInt_shape (k:=i) (v:=v) h;exact .inl ⟨i,t,rfl,e⟩
 | .inr x,v,h=>by obtain⟨t,e⟩:=Value.isStrOf_shape (x:=x) (v:=v) h;exact .inr ⟨x,t,rfl,e⟩
theorem xY (i:Int)(t:Tok):zdd (.inl i) (.int i t)=true:=by simp[zdd,Value.isInt]
theorem zhb (x:Str)(t:Tok):zdd (.inr x) (.str x t)=true:=by simp[zdd,Value.isStrOf]
theorem znK (a b:Int):decide ((Sum.inl a:Key)=Sum.inl b)=(a==b):=by grind
theorem znN (a b:Str):decide ((Sum.inr a:Key)=Sum.inr b)=decide (a=b):=by grind
theorem znL (a:Int)(b:Str):decide ((Sum.inl a:Key)=Sum.inr b)=false:=rfl
theorem znM (a:Str)(b:Int):decide ((Sum.inr a:Key)=Sum.inl b)=false:=rfl
def zr (prog:Program)(w:World):PySem.KeyKind prog w Key where
 is:=zdd
 hash:=keyH w
 inj:=fun v a b ha hb=>by
  rcases zI ha with ⟨i,t,rfl,rfl⟩ | ⟨x,t,rfl,rfl⟩
  ·rcases zI hb with ⟨j,u,rfl,e⟩ | ⟨y,u,rfl,e⟩
   ·injection e with e1 _;rw[e1]
   ·exact nomatch e
  ·rcases zI hb with ⟨j,u,rfl,e⟩ | ⟨y,u,rfl,e⟩
   ·exact nomatch e
   ·injection e with e1 _;rw[e1]
 byValue:=fun k v h=>by rcases zI h with ⟨i,t,rfl,rfl⟩ | ⟨x,t,rfl,rfl⟩ <;> rfl
 pyHash:=fun hv h=>by
  rcases zI hv with ⟨i,t,rfl,rfl⟩ | ⟨x,t,rfl,rfl⟩
  ·exact wpAny_pyHash_int h
  ·exact wpAny_pyHash_str h
 eqBool:=fun hu hv h=>by
  rcases zI hu with ⟨i,t,rfl,rfl⟩ | ⟨x,t,rfl,rfl⟩
  ·rcases zI hv with ⟨j,u,rfl,rfl⟩ | ⟨y,u,rfl,rfl⟩
   ·rw[znK] at h;exact wpAny_eqBool_int h
   ·rw[znL] at h;exact SeqAt.EqAt.int_str i t y u _ _ _ _ h
  ·rcases zI hv with ⟨j,u,rfl,rfl⟩ | ⟨y,u,rfl,rfl⟩
   ·rw[znM] at h;exact SeqAt.EqAt.str_int x t j u _ _ _ _ h
   ·rw[znN] at h;exact wpAny_eqBool_str h
 «strs»:=fun k x t v h=>by
  rcases zI h with ⟨i,u,rfl,e⟩ | ⟨y,u,rfl,e⟩
  ·exact nomatch e
  ·injection e with e1 _;subst e1;cases v <;> rfl
theorem zfN (prog:Program)(w:World)(k:Key)(v:Value):(zr prog w).is k v=zdd k v:=rfl
theorem zei (prog:Program)(w:World)(i:Int)(t:Tok):(zr prog w).is (.inl i) (.int i t)=true:=xY i t
theorem zej (prog:Program)(w:World)(x:Str)(t:Tok):(zr prog w).is (.inr x) (.str x t)=true:=zhb x t
inductive V where
 | non | bl (b:Bool) | int (i:Int) | str (x:Str) | byt (b:Array UInt8) | flt (b:UInt64) | ref (a:Addr) | ty (n:String)
 deriving DecidableEq
def yo:V->Value->Prop
 | .non,u=>u=Value.none
 | .bl b,u=>u=Value.bool b
 | .int i,u=>∃t,u=Value.int i t
 | .str x,u=>∃t,u=Value.str x t
 | .byt b,u=>∃t,u=Value.bytes b t
 | .flt b,u=>∃t,u=Value.float b t
 | .ref a,u=>u=Value.ref a
 | .ty n,u=>u=Value.type n
abbrev zU:List V->List Value->Prop:=Paired yo
theorem zU.length {xs:List V}{us:List Value}(r:zU xs us):xs.length=us.length:=Paired.length r
theorem zU.get:∀ {xs:List V} {us:List Value} {i:Nat} {x:V},zU xs us->xs[i]?=some x->∃u,us[i]?=some u/\yo x u
 | _,_,_,_,.nil,e=>by simp at e
 | _,_,0,_,.cons r _,e=>by simp_all
 | _,_,i+1,x,.cons _ t,e=>by
  obtain⟨u,h1,h2⟩:=zU.get (i:=i) (x:=x) t (by simpa using e)
  simp_all
theorem zU.append:∀ {xs ys:List V} {us ws:List Value},zU xs us->zU ys ws->zU (xs++ys) (us++ws)
 | _,_,_,_,.nil,s=>s
 | _,_,_,_,.cons r t,s=>.cons r (zU.append t s)
theorem zU.take:∀ {xs:List V} {us:List Value} (n:Nat),zU xs us->zU (xs.take n) (us.take n)
 | _,_,0,_=>.nil
 | _,_,_+1,.nil=>.nil
 | _,_,n+1,.cons r t=>.cons r (zU.take n t)
theorem zU.drop:∀ {xs:List V} {us:List Value} (n:Nat),zU xs us->zU (xs.drop n) (us.drop n)
 | _,_,0,r=>r
 | _,_,_+1,.nil=>.nil
 | _,_,n+1,.cons _ t=>zU.drop n t
def zge:Option V->Option Value->Prop
 | some v,some u=>yo v u
 | none,none=>True
 | _,_=>False
def KV {κ:Type}:List (κ×V)->List (κ×Value)->Prop:=Paired fun (p:κ×V) (q:κ×Value)=>p.1=q.1/\yo p.2 q.2
def kV:Key->V
 | .inl i=>.int i
 | .inr x=>.str x
inductive HO where
  | lst (xs:List V)
  | tup (xs:List V)
  | dK (kvs:List (Key×V)) | dT (kvs:List (List Key×V))
  | set (S:Int->Bool) (n:Nat)
  | ins (C dx:Addr) (fs:List (Str×V))
  | own (x:Addr)
  | xd (fs:List (Str×V))
  | met (f x:Addr)
  | rng (lo hi:Int)
  | frz (o:Obj) (u:HO)
  | tbl (ps:Array Value)
  | ext (φ:Heap->Prop)
abbrev Hp:=Addr->Option HO
def upd (H:Hp)(a:Addr)(o:HO):Hp:=fun b=>if b=a then some o else H b
theorem zg {H:Hp}{a:Addr}{o:HO}:upd H a o a=some o:=by unfold upd;rw[if_pos rfl]
theorem zc {H:Hp}{a b:Addr}{o:HO}(h:b≠a):upd H a o b=H b:=by unfold upd;rw[if_neg h]
theorem zjl {H:Hp}{a b:Addr}{o u:HO}(h:H a=some o)(h':H b=some u)(d:o≠u):a≠b:=by grind
theorem zb {H:Hp}{a b:Addr}{o:HO}(h:H a=some o)(h':H b=none):a≠b:=by grind
def xP (h:Heap)(a:Addr)(items:Array Value):Prop:=∃o,h.get? a=some o/\o.cls = .type "tuple" /\ (∃n,o.data = .seq items n)/\o.dict=none
theorem xP.tup {h:Heap}{a:Addr}{items:Array Value}(x:xP h a items):IsTup h a items:=let ⟨o,h1,h2,h3,_⟩:=x;⟨o,h1,h2,h3⟩
theorem xP.lt {h:Heap}{a:Addr}{items:Array Value}(x:xP h a items):a<h.objs.size:=x.tup.lt
theorem xP.new (h:Heap)(items:Array Value):xP (h.push { cls:=.type "tuple",data:=.seq items }) h.objs.size items:=⟨_,aB _ rfl,rfl,⟨_,rfl⟩,rfl⟩
section
variable (P:Program)(w:World)
def zW (H:Hp)(h:Heap)(a:Addr):HO->Prop
 | .lst xs=>xs.length<=sizeLine/\∃ (its:List Value) (n:Nat),zU xs its/\h.get? a=some { cls:=.type "list",data:=.seq its.toArray n }
 | .tup xs=>xs.length<=sizeLine/\∃its:List Value,zU xs its/\xP h a its.toArray
 | .dK kvs=>kvs.length<=sizeLine/\(a==sysModules)=false/\∃vs,KV kvs vs/\h.DictOf (zr P w) a vs
 | .dT kvs=>kvs.length<=sizeLine/\(a==sysModules)=false/\∃xs:List (List Key×Addr×Value),
   Paired (fun (p:List Key×V) (q:List Key×Addr×Value)=>p.1=q.1/\H q.2.1=some (.tup (p.1.map kV))/\yo p.2 q.2.2) kvs xs/\
   ∃o es ep,h.get? a=some o/\o.ExactDict/\o.data = .dict es ep/\es.toList=xs.map (entryOfKey (tupleKind (zr P w)))/\(xs.map (·.1)).Nodup
 | .set S n=>h.SetOf (intKind P w) a S n
 | .ins C dx fs=>H dx=some (.own a)/\fs.length<=1000/\dx≠a/\h.get? a=some (PySem.W.instObj C dx)/\
   ∃mA,h.Ns1 dx mA/\(∀f,zge (fs.lookup f) (mA f))/\PySem.Within mA (fs.map (·.1))
 | .own _=>∃o,h.get? a=some o
 | .xd fs=>∃mA,h.Ns1 a mA/\∀f,zge (fs.lookup f) (mA f)
 | .rng lo hi=>∃t u v,h.get? a=some { cls:=.type "range",data:=.fields #[.int lo t,.int hi u,.int 1 v] }
 | .frz o u=>h.get? a=some o/\zW H h a u
 | .tbl ps=>h.get? a=some { cls:=.none,data:=.fields ps }
 | .met f x=>h.get? a=some (PySem.W.methodObj (.ref f) (.ref x))
 | .ext φ=>φ h/\(∃o,h.get? a=some o)/\∀h1 h2:Heap,φ h1->(∀o,h1.get? a=some o->h2.get? a=some o)->φ h2
def HOk (H:Hp)(h:Heap):Prop:=∀a o,H a=some o->zW P w H h a o
end
section
variable {P:Program}{w:World}{H H':Hp}{h h':Heap}{a:Addr}{o:HO}
theorem zW.lt (x:zW P w H h a o):a<h.objs.size:=by
 cases o with
 | lst xs=>obtain⟨_,_,_,_,e⟩:=x;exact au e
 | tup xs=>obtain⟨_,_,_,p⟩:=x;exact p.lt
 | dK kvs=>obtain⟨_,_,_,_,o,_,_,e,_⟩:=x;exact au e
 | dT kvs=>obtain⟨_,_,_,_,o,_,_,e,_⟩:=x;exact au e
 | set S n=>obtain⟨o,_,_,_,e,_⟩:=x;exact au e
 | ins C dx fs=>obtain⟨_,_,_,e,_⟩:=x;exact au e
 | own y=>obtain⟨_,e⟩:=x;exact au e
 | xd fs=>obtain⟨_,⟨_,_,_,e,_⟩,_⟩:=x;exact au e
 | rng lo hi=>obtain⟨_,_,_,e⟩:=x;exact au e
 | frz ob u=>obtain⟨e,_⟩:=x;exact au e
 | tbl ps=>exact au (show h.get? a=some _ from x)
 | met f y=>exact au (show h.get? a=some _ from x)
 | ext φ=>obtain⟨_,⟨_,e⟩,_⟩:=x;exact au e
theorem Paired.mapP {α β:Type}{F G:α->β->Prop}:∀ {l₁:List α} {l₂:List β},Paired F l₁ l₂->(∀a b,F a b->G a b)->Paired G l₁ l₂
 | _,_,.nil,_=>.nil
 | _,_,.cons r t,f=>.cons (f _ _ r) (Paired.mapP t f)
theorem zW.stay (x:zW P w H h a o)(k:∀b u,(b=a\/H b=some (.own a))->h.get? b=some u->h'.get? b=some u)
  (ho:∀b,H b=some (.own a)->H' b=some (.own a)) (ht:∀b xs,H b=some (.tup xs)->H' b=some (.tup xs)):zW P w H' h' a o:=by
 induction o with
 | lst xs=>obtain⟨z,its,n,r,e⟩:=x;exact⟨z,its,n,r,k _ _ (.inl rfl) e⟩
 | tup xs=>obtain⟨z,its,r,ob,e,c⟩:=x;exact⟨z,its,r,ob,k _ _ (.inl rfl) e,c⟩
 | dK kvs=>obtain⟨z,y,vs,r,ob,es,ep,e,c⟩:=x;exact⟨z,y,vs,r,ob,es,ep,k _ _ (.inl rfl) e,c⟩
 | dT kvs=>
  obtain⟨z,y,xs,r,ob,es,ep,e,c⟩:=x;exact⟨z,y,xs,Paired.mapP r fun p q z=>⟨z.1,ht _ _ z.2.1,z.2.2⟩,ob,es,ep,k _ _ (.inl rfl) e,c⟩
 | set S n=>obtain⟨ob,es,ep,t,e,c⟩:=x;exact⟨ob,es,ep,t,k _ _ (.inl rfl) e,c⟩
 | ins C dx fs=>
  obtain⟨d,z,ne,e,mA,⟨od,es,ep,e2,c⟩,r⟩:=x;exact⟨ho _ d,z,ne,k _ _ (.inl rfl) e,mA,⟨od,es,ep,k _ _ (.inr d) e2,c⟩,r⟩
 | own y=>obtain⟨ob,e⟩:=x;exact⟨ob,k _ _ (.inl rfl) e⟩
 | xd fs=>obtain⟨mA,⟨od,es,ep,e,c⟩,r⟩:=x;exact⟨mA,⟨od,es,ep,k _ _ (.inl rfl) e,c⟩,r⟩
 | rng lo hi=>obtain⟨t,u,v,e⟩:=x;exact⟨t,u,v,k _ _ (.inl rfl) e⟩
 | frz ob u ih=>obtain⟨e,q⟩:=x;exact⟨k _ _ (.inl rfl) e,ih q⟩
 | tbl ps=>
  have e:h.get? a=some { cls:=.none,data:=.fields ps }:=x;show h'.get? a=some { cls:=.none,data:=.fields ps };exact k a _ (.inl rfl) e
 | met f y=>
  have e:h.get? a=some (PySem.W.methodObj (.ref f) (.ref y)):=x;show h'.get? a=some (PySem.W.methodObj (.ref f) (.ref y));exact k a _ (.inl rfl) e
 | ext φ=>obtain⟨p,⟨o,e⟩,st⟩:=x;exact⟨st _ _ p fun o q=>k _ _ (.inl rfl) q,⟨o,k _ _ (.inl rfl) e⟩,st⟩
theorem HOk.lt (x:HOk P w H h)(e:H a=some o):a<h.objs.size:=(x a o e).lt
theorem HOk.fresh (x:HOk P w H h)(e:h.objs.size<=a):H a=none:=by
 cases q:H a with
 | none=>rfl
 | some u=>exact absurd (aF (x.lt q) e) (bt _)
theorem HOk.kept (x:HOk P w H h)(k:∀b u,h.get? b=some u->h'.get? b=some u):HOk P w H h':=fun a o e=>
 (x a o e).stay (fun b u _ q=>k b u q) (fun _ q=>q) fun _ _ q=>q
theorem HOk.laid (x:HOk P w H h)(k:∀b u,h.get? b=some u->h'.get? b=some u)(hp:h.objs.size<=a)(new:zW P w (upd H a o) h' a o):HOk P w (upd H a o) h':=fun b u e=>by
 have hn:=x.fresh hp;by_cases hb:b=a
 ·subst hb;rw[zg] at e;cases e;exact new
 ·rw[zc hb] at e;exact (x b u e).stay (fun c v _ q=>k c v q) (fun c q=>by rw[zc (zb q hn)];exact q) fun c xs q=>by rw[zc (zb q hn)];exact q
end
def Rd (H:Hp)(a:Addr)(u:HO):Prop:=H a=some u\/∃o,H a=some (.frz o u)
theorem Rd.ok {P:Program}{w:World}{H:Hp}{h:Heap}{a:Addr}{u:HO}(r:Rd H a u)(x:HOk P w H h):zW P w H h a u:=by
 rcases r with r | ⟨o,r⟩
 ·exact x a u r
 ·obtain⟨_,q⟩:=x a _ r;exact q
def Mut:Option HO->Prop
 | some (.lst _)=>True
 | some (.dK _)=>True
 | some (.dT _)=>True
 | some (.set _ _)=>True
 | some (.ins _ _ _)=>True
 | some (.ext _)=>True
 | _=>False
section
variable {P:Program}{w:World}{H:Hp}{h h':Heap}{x e:Addr}{o':HO}
theorem HOk.write (ok:HOk P w H h)(mu:Mut (H x))(he:e=x\/H e=some (.own x))(k:∀b u,b≠e->h.get? b=some u->h'.get? b=some u)(heo:∃u,h'.get? e=some u)
  (new:zW P w (upd H x o') h' x o'):HOk P w (upd H x o') h':=fun b u q=>by
 have nown:∀c y,H c=some (.own y)->c≠x:=fun c y r z=>by subst z;rw[r] at mu;exact mu
 have ntup:∀c xs,H c=some (.tup xs)->c≠x:=fun c xs r z=>by subst z;rw[r] at mu;exact mu
 by_cases hb:b=x
 ·subst hb;rw[zg] at q;cases q;exact new
 ·rw[zc hb] at q;by_cases hbe:b=e
  ·have q':H b=some (.own x):=by
    grind
   rw[q] at q';cases q';obtain⟨v,hv⟩:=heo;exact⟨v,by rw[hbe];exact hv⟩
  ·refine (ok b u q).stay (fun c v hc r=>k c v ?_ r) (fun c r=>by rw[zc (nown c b r)];exact r) fun c xs r=>by rw[zc (ntup c xs r)];exact r
   grind
end
structure Un (fs ex:List Addr)(H H':Hp)(h h':Heap):Prop where
 keep:∀b o,h.get? b=some o->H b=none->b∉fs->b∉ex->h'.get? b=some o
 slot:∀b o,h.get? b=some o->H b=none->b∈fs->b∉ex->∃sl,h'.get? b=some { o with slots:=sl }
 free:∀b o,h.get? b=some o->H b=none->b∉ex->H' b=none
 there:∀b o,h.get? b=some o->b∉ex->∃o',h'.get? b=some o'
 tups:∀b xs,H b=some (.tup xs)->H' b=some (.tup xs)
 frzs:∀b o u,H b=some (.frz o u)->H' b=some (.frz o u)
 tbls:∀b ps,H b=some (.tbl ps)->∃more,H' b=some (.tbl (ps++more))
section
variable {fs fs' ex ex':List Addr}{H H1 H2:Hp}{h h1 h2 h':Heap}{a x e:Addr}{o:HO}
theorem Un.any (u:Un fs ex H H1 h h1){b:Addr}{ob:Obj}(q:h.get? b=some ob)(n:H b=none)(hx:b∉ex):∃sl,h1.get? b=some { ob with slots:=sl }:=by
 by_cases hb:b∈fs
 ·exact u.slot b ob q n hb hx
 ·exact⟨ob.slots,u.keep b ob q n hb hx⟩
theorem Un.kept (k:∀b u,h.get? b=some u->h'.get? b=some u):Un fs ex H H h h':=
 ⟨fun b ob q _ _ _=>k b ob q,fun b ob q _ _ _=>⟨ob.slots,k b ob q⟩,fun _ _ _ n _=>n,fun b ob q _=>⟨ob,k b ob q⟩,fun _ _ q=>q,fun _ _ _ q=>q,fun _ ps q=>⟨#[],by rw[q];simp⟩⟩
theorem Un.refl:Un fs ex H H h h:=Un.kept fun _ _ q=>q
theorem Un.laid (k:∀b u,h.get? b=some u->h'.get? b=some u)(hp:h.objs.size<=a)(hn:H a=none):Un fs ex H (upd H a o) h h' where
 keep:=fun b u q _ _ _=>k b u q
 slot:=fun b u q _ _ _=>⟨u.slots,k b u q⟩
 free:=fun b u q n _=>by rw[zc (aO (aF (au q) hp))];exact n
 there:=fun b u q _=>⟨u,k b u q⟩
 tups:=fun b xs q=>by rw[zc (zb q hn)];exact q
 frzs:=fun b u xs q=>by rw[zc (zb q hn)];exact q
 tbls:=fun b ps q=>⟨#[],by rw[zc (zb q hn),q];simp⟩
theorem Un.write (mu:Mut (H x))(he:e=x\/H e=some (.own x))(k:∀b u,b≠e->h.get? b=some u->h'.get? b=some u)(heo:∃u,h'.get? e=some u):Un fs ex H (upd H x o) h h':=by
 have hx:∀b,H b=none->b≠x:=fun b n z=>by subst z;rw[n] at mu;exact mu
 have hb:∀b,H b=none->b≠e:=fun b n z=>by grind
 have hm:∀b u,H b=some u->¬ Mut (some u)->b≠x:=fun b u q nm z=>by subst z;rw[q] at mu;exact nm mu
 refine⟨fun b u q n _ _=>k b u (hb b n) q,fun b u q n _ _=>⟨u.slots,k b u (hb b n) q⟩,fun b u q n _=>by rw[zc (hx b n)];exact n,fun b u q _=>?_,
  fun b xs q=>by rw[zc (hm b _ q fun z=>z)];exact q,fun b u xs q=>by rw[zc (hm b _ q fun z=>z)];exact q,fun b ps q=>⟨#[],by rw[zc (hm b _ q fun z=>z),q];simp⟩⟩
 grind
end
def trk (h:Heap)(H:Hp):List Addr:=(List.range h.objs.size).filter fun a=>(H a).isSome
def ziZ (h:Heap)(H:Hp):Heap:=PySem.W.hideAll h (trk h H)
theorem zgS (h:Heap)(H:Hp):(ziZ h H).objs.size=h.objs.size:=PySem.W.hideAll_size _ _
theorem zi0 {h:Heap}{H:Hp}{b:Addr}{o:Obj}(e:h.get? b=some o)(n:H b=none):(ziZ h H).get? b=some o:=
 PySem.W.hideAll_get _ e fun hm=>by
  have q:(H b).isSome=true:=(aT.mp hm).2
  simp_all
theorem zlJ {h:Heap}{H:Hp}{b:Addr}{o:Obj}(e:(ziZ h H).get? b=some o):h.get? b=some o/\H b=none:=by
 have e':h.get? b=some o:=PySem.W.of_hideAll (trk h H) e;refine⟨e',?_⟩
 cases q:H b with
 | none=>rfl
 | some x=>
  have hm:b∈trk h H:=aT.mpr ⟨bf.mpr (au e'),by simp[q]⟩;have z:(ziZ h H).get? b=none:=PySem.W.hideAll_none (trk h H) hm
  grind
def zkK (g h:Heap)(L:Addr):List (Addr×Obj):=(List.range h.objs.size).filterMap fun a=>if a=L\/(g.get? a).isSome=true then none else (h.get? a).map fun o=>(a,o)
def yn (g h:Heap)(L d:Addr):List (Addr×Obj):=(zkK g h L).filter fun p=>decide (p.1≠d)
structure Mod (K:PySem.W.Frag)(mg:Str->Option Value)(base:Heap):Prop where
 kin:K.In base
 glob:base.Ns mainGlobals mg
 blt:∃mb,base.Ns builtinsNs mb/\∀x:Str,x ≠ "__name__" -> mb x=bootBuiltins x
 nolimit:base.NoLimit
structure Cx where
 prog:Program
 w:World
 K:PySem.W.Frag
 mg:Str->Option Value
 base:Heap
 A:Around
 N:List Str
 s₀:Shared
 H₀:Hp
 env:Env
 outer:List Env
 stack:List Env
 ex:List Addr
 fn:Str->Bool
 calm:Bool
 pn:List (Addr×Obj)
 xe:Value->Shared->Prop
def frs (l:List Env):List Addr:=l.filterMap (·.frame)
abbrev Cx.fs (X:Cx):List Addr:=frs X.outer
def Vis (sc:Scope)(x:Str):Prop:=sc.names.lookup x=some .local\/sc.names.lookup x=some .cell\/sc.names.lookup x=some .free
def Loc (sc:Scope)(x:Str):Prop:=sc.names.lookup x=some .local\/sc.names.lookup x=some .cell
def Look (env:Env)(h:Heap)(m:Str->Option Value)(x:Str)(u:Value):Prop:=
 (env.kindOf x=some .local/\m x=some u)\/((env.kindOf x=some .cell\/env.kindOf x=some .free)/\∃c,env.cells.lookup x=some c/\h.IsCell c (some u))
structure Cx.Ok (X:Cx):Prop where
 mod:Mod X.K X.mg X.base
 kind:X.env.scope.kind = .function
 glob:X.env.globals=mainGlobals
 blt:X.env.builtins=builtinsNs
 above:X.s₀.heap.objs.size<=X.env.locals
 inj:∀x y c,X.env.cells.lookup x=some c->X.env.cells.lookup y=some c->x=y
 has:∀x,(X.env.kindOf x=some .cell\/X.env.kindOf x=some .free)->∃c,X.env.cells.lookup x=some c
 cab:∀x c,X.fn x=true->X.env.cells.lookup x=some c->X.s₀.heap.objs.size<=c
 hd:X.calm=true->X.A.handled=none
 frames:X.A.frames=some X.stack
 stk:X.stack=X.outer\/(X.stack=X.env::X.outer/\X.env.frame=some X.env.locals)
 exf:∀b∈X.ex,b≠X.env.locals/\∀x c,X.env.cells.lookup x=some c->c≠b
 bs:∀b o,X.base.get? b=some o->X.s₀.heap.get? b=some o/\X.H₀ b=none
 bsz:X.base.objs.size<=X.s₀.heap.objs.size
 noex:∀b o,X.base.get? b=some o->b∉X.ex
 exfs:∀b∈X.ex,b∉X.fs
 funs:X.s₀.heap.FunFrames X.base X.outer
 frf:∀b∈X.fs,X.H₀ b=none
structure Inv (X:Cx)(pins:List (Addr×Obj))(σ:List (Option V))(H:Hp)(s:Shared):Prop where
 ok:X.Ok
 os:s.os=X.s₀.os
 bare:AllBare s.gens
 base:Un X.fs X.ex X.H₀ H X.s₀.heap s.heap
 loc:∃m,s.heap.Ns X.env.locals m/\∀ (i:Nat) (x:Str) (v:V),X.N[i]?=some x->σ[i]?=some (some v)->Vis X.env.scope x->∃u,yo v u/\Look X.env s.heap m x u
 cell:∀x c,X.env.cells.lookup x=some c->∃v,s.heap.IsCell c v
 free:H X.env.locals=none
 freeC:∀x c,X.env.cells.lookup x=some c->H c=none
 pin:∀p∈X.pn++pins,s.heap.get? p.1=some p.2/\H p.1=none/\p.1≠X.env.locals/\p.1∉X.fs/\∀v,p.2.data≠.cell v
 hok:HOk X.prog X.w H s.heap
 len:σ.length=X.N.length
section
variable {X:Cx}{pins:List (Addr×Obj)}{σ:List (Option V)}{H H':Hp}{s:Shared}{h':Heap}
theorem Cx.Ok.nofr (ok:X.Ok){b:Addr}{o:Obj}(e:X.base.get? b=some o):b∉X.fs:=fun hb=>by
 have:=(ok.funs.mem hb).1
 grind
theorem Inv.bs (I:Inv X pins σ H s):∀b o,X.base.get? b=some o->s.heap.get? b=some o/\H b=none:=fun b o e=>
 ⟨I.base.keep b o (I.ok.bs b o e).1 (I.ok.bs b o e).2 (I.ok.nofr e) (I.ok.noex b o e),I.base.free b o (I.ok.bs b o e).1 (I.ok.bs b o e).2 (I.ok.noex b o e)⟩
theorem Inv.bk (I:Inv X pins σ H s):∀b o,X.base.get? b=some o->s.heap.get? b=some o:=fun b o e=>(I.bs b o e).1
theorem Inv.mod (I:Inv X pins σ H s):Mod X.K X.mg X.base:=I.ok.mod
theorem Inv.kIn (I:Inv X pins σ H s):X.K.In s.heap:=I.ok.mod.kin.keeps I.bk
theorem Inv.lt (I:Inv X pins σ H s):X.env.locals<s.heap.objs.size:=let ⟨_,hn,_⟩:=I.loc;hn.lt
theorem Inv.sz (I:Inv X pins σ H s):X.s₀.heap.objs.size<=s.heap.objs.size:=ao I.ok.above (cS I.lt)
theorem Inv.nofs (I:Inv X pins σ H s){a:Addr}(h:s.heap.objs.size<=a):a∉X.fs:=fun hb=>by obtain⟨_,o,ho,_⟩:=I.ok.funs.mem hb;exact absurd (aF (au ho) (ao I.sz h)) (bt _)
theorem Inv.cne (I:Inv X pins σ H s):∀x c,X.env.cells.lookup x=some c->c≠X.env.locals:=fun x c e z=>by
 obtain⟨v,o,ho,hd⟩:=I.cell x c e;obtain⟨m,⟨o',es,ep,ho',hd',_⟩,_⟩:=I.loc
 grind
theorem Inv.funs (I:Inv X pins σ H s):s.heap.FunFrames X.base X.outer:=by
 have all:∀ (l:List Env),(∀b∈frs l,b∈X.fs)->X.s₀.heap.FunFrames X.base l->s.heap.FunFrames X.base l:=by
  intro l
  induction l with
  | nil=>intro _ _;trivial
  | cons env r ih=>
   intro hs hl;obtain⟨hk,⟨L,o,hf,hn,ho,hd⟩,hr⟩:=hl;have hL:L∈X.fs:=hs L (by unfold frs;rw[cg,hf];exact aj);obtain⟨sl,e⟩:=I.base.slot L o ho (I.ok.frf L hL) hL fun z=>I.ok.exfs L z hL;exact⟨hk,⟨L,_,hf,hn,e,hd⟩,ih (fun b hb=>hs b (by unfold frs;rw[cg,hf];exact ak _ hb)) hr⟩
 exact all X.outer (fun _ hb=>hb) I.ok.funs
theorem Inv.stack (I:Inv X pins σ H s):s.heap.FunFrames X.base X.stack:=by
 rcases I.ok.stk with e | ⟨e,hf⟩
 ·rw[e];exact I.funs
 ·rw[e];obtain⟨m,hn,_⟩:=I.loc;refine .cons (by rw[I.ok.kind];decide) hf hn ?_ I.funs;exact Heap.get?_none_of_le (ao I.ok.bsz I.ok.above)
theorem Inv.stkSub (I:Inv X pins σ H s):∀b∈frs X.stack,b∈X.env.locals::X.fs:=fun b hb=>by
 rcases I.ok.stk with e | ⟨e,hf⟩
 ·grind
 ·rw[e] at hb;unfold frs at hb;rw[cg,hf] at hb;exact hb
theorem Inv.stkFree (I:Inv X pins σ H s):∀b∈frs X.stack,H b=none:=fun b hb=>by
 rcases aI.mp (I.stkSub b hb) with e | hb
 ·rw[e];exact I.free
 ·obtain⟨_,o,ho,_⟩:=I.ok.funs.mem hb;exact I.base.free b o ho (I.ok.frf b hb) fun z=>I.ok.exfs b z hb
theorem Inv.step {g':Array GenState}{t':Nat}{d':Drawn}{ch:List Addr}(I:Inv X pins σ H s)
  (hch:∀b∈ch,(b∈X.ex\/X.s₀.heap.objs.size<=b)/\b≠X.env.locals/\(∀x c,X.env.cells.lookup x=some c->c≠b)/\∀p∈X.pn++pins,p.1≠b)
  (keep:∀b o,b≠X.env.locals->b∉X.fs->b∉ch->s.heap.get? b=some o->H b=none->h'.get? b=some o)
  (slot:∀b o,b≠X.env.locals->b∈X.fs->b∉ch->s.heap.get? b=some o->H b=none->∃sl,h'.get? b=some { o with slots:=sl }) (free:∀b o,b∉ch->s.heap.get? b=some o->H b=none->H' b=none)
  (there:∀b o,b∉ch->s.heap.get? b=some o->∃o',h'.get? b=some o')
  (tups:∀b xs,H b=some (.tup xs)->H' b=some (.tup xs)) (frzs:∀b o u,H b=some (.frz o u)->H' b=some (.frz o u)) (tbls:∀b ps,H b=some (.tbl ps)->∃more,H' b=some (.tbl (ps++more)))
  (ns:∀m,s.heap.Ns X.env.locals m->h'.Ns X.env.locals m) (hok:HOk X.prog X.w H' h') (hg:AllBare g') :
  Inv X pins σ H' { s with heap:=h',gens:=g',drawn:=d',toks:=t' }:=by
 have neL:∀b o,X.s₀.heap.get? b=some o->b≠X.env.locals:=fun b o e=>aO (aF (au e) I.ok.above)
 have neC:∀b o,X.s₀.heap.get? b=some o->b∉X.ex->b∉ch:=fun b o e hx hb=>by
  rcases (hch b hb).1 with z | z
  ·exact hx z
  ·exact absurd (aF (au e) z) (bt _)
 have cellK:∀x c,X.env.cells.lookup x=some c->∀v,s.heap.IsCell c v->h'.IsCell c v:=by
  rintro x c e v ⟨o,ho,hd⟩;have nch:c∉ch:=fun z=>(hch c z).2.2.1 x c e rfl;by_cases hc:c∈X.fs
  ·obtain⟨sl,q⟩:=slot c o (I.cne x c e) hc nch ho (I.freeC x c e);exact⟨_,q,hd⟩
  ·exact⟨o,keep c o (I.cne x c e) hc nch ho (I.freeC x c e),hd⟩
 refine⟨I.ok,I.os,hg,⟨fun b o e n hb hx=>?_,fun b o e n hb hx=>?_,fun b o e n hx=>?_,fun b o e hx=>?_,fun b xs e=>tups b xs (I.base.tups b xs e),fun b o xs e=>frzs b o xs (I.base.frzs b o xs e),fun b ps e=>?_⟩,?_,fun x c e=>?_,?_,fun x c e=>?_,fun p hp=>?_,hok,I.len⟩
 ·exact keep b o (neL b o e) hb (neC b o e hx) (I.base.keep b o e n hb hx) (I.base.free b o e n hx)
 ·obtain⟨sl,e1⟩:=I.base.slot b o e n hb hx;obtain⟨sl',e2⟩:=slot b _ (neL b o e) hb (neC b o e hx) e1 (I.base.free b o e n hx);exact⟨sl',e2⟩
 ·obtain⟨o',e1⟩:=I.base.there b o e hx;exact free b o' (neC b o e hx) e1 (I.base.free b o e n hx)
 ·obtain⟨o',e1⟩:=I.base.there b o e hx
  simp_all
 ·obtain⟨m1,e1⟩:=I.base.tbls b ps e
  grind
 ·obtain⟨m,hn,hl⟩:=I.loc;refine⟨m,ns m hn,fun i x v e1 e2 e3=>?_⟩;obtain⟨u,r,l⟩:=hl i x v e1 e2 e3;refine⟨u,r,?_⟩;rcases l with l | ⟨k,c,e,z⟩
  ·exact .inl l
  ·exact .inr ⟨k,c,e,cellK x c e _ z⟩
 ·obtain⟨v,z⟩:=I.cell x c e;exact⟨v,cellK x c e v z⟩
 ·obtain⟨m,⟨o,_,_,ho,_⟩,_⟩:=I.loc;exact free _ o (fun z=>(hch _ z).2.1 rfl) ho I.free
 ·obtain⟨v,o,ho,hd⟩:=I.cell x c e;exact free c o (fun z=>(hch c z).2.2.1 x c e rfl) ho (I.freeC x c e)
 ·obtain⟨e,n,ne,nf,d⟩:=I.pin p hp;have nch:p.1∉ch:=fun z=>(hch p.1 z).2.2.2 p hp rfl
  simp_all
theorem Inv.un {t':Nat}(I:Inv X pins σ H s)(u:Un X.fs [] H H' s.heap h')(hok:HOk X.prog X.w H' h'):Inv X pins σ H' { s with heap:=h',toks:=t' }:=by
 obtain⟨m,⟨o,es,ep,ho,r⟩,_⟩:=id I.loc;obtain⟨sl,hL⟩:=u.any ho I.free (by simp)
 exact I.step (g':=s.gens) (d':=s.drawn) (ch:=[]) (fun _ z=>nomatch z) (fun b o _ hb _ e n=>u.keep b o e n hb (by simp)) (fun b o _ hb _ e n=>u.slot b o e n hb (by simp)) (fun b o _ e n=>u.free b o e n (by simp)) (fun b o _ e=>u.there b o e (by simp)) u.tups u.frzs u.tbls (fun m' hm=>by obtain⟨o',es',ep',ho',r'⟩:=hm;rw[ho] at ho';cases ho';exact⟨_,es',ep',hL,r'⟩) hok I.bare
theorem Inv.call {g':Array GenState}{t':Nat}{d':Drawn}{ch:List Addr}(I:Inv X pins σ H s)(u:Un (frs X.stack) ch H H' s.heap h')(hok:HOk X.prog X.w H' h')(hg:AllBare g')
  (hch:∀b∈ch,(b∈X.ex\/X.s₀.heap.objs.size<=b)/\b≠X.env.locals/\(∀x c,X.env.cells.lookup x=some c->c≠b)/\∀p∈X.pn++pins,p.1≠b) :
  Inv X pins σ H' { s with heap:=h',gens:=g',drawn:=d',toks:=t' }:=by
 obtain⟨m,⟨o,es,ep,ho,r⟩,_⟩:=id I.loc;obtain⟨sl,hL⟩:=u.any ho I.free fun z=>(hch _ z).2.1 rfl
 exact I.step (ch:=ch) hch (fun b o hL hb hc e n=>u.keep b o e n (fun z=>(aI.mp (I.stkSub b z)).elim hL hb) hc) (fun b o _ _ hc e n=>u.any e n hc) (fun b o hc e n=>u.free b o e n hc) (fun b o hc e=>u.there b o e hc) u.tups u.frzs u.tbls (fun m' hm=>by obtain⟨o',es',ep',ho',r'⟩:=hm;rw[ho] at ho';cases ho';exact⟨_,es',ep',hL,r'⟩) hok hg
theorem Inv.turned {t':Nat}{it:Addr}(I:Inv X pins σ H s)(k:∀b o,b≠it->s.heap.get? b=some o->h'.get? b=some o)(hn:H it=none)(hL:it≠X.env.locals)
  (h1:it∈X.ex\/X.s₀.heap.objs.size<=it) (h2:∀x c,X.env.cells.lookup x=some c->c≠it) (h3:∀p∈X.pn++pins,p.1≠it):Inv X pins σ H { s with heap:=h',toks:=t' }:=by
 have nit:∀b u,H b=some u->b≠it:=fun b u e z=>by rw[z,hn] at e;cases e
 refine I.step (g':=s.gens) (d':=s.drawn) (ch:=[it]) (fun b hb=>?_) (fun b o _ _ hc e _=>k b o (fun z=>hc (by simp[z])) e) (fun b o _ _ hc e _=>⟨o.slots,k b o (fun z=>hc (by simp[z])) e⟩) (fun _ _ _ _ n=>n)
  (fun b o hc e=>⟨o,k b o (fun z=>hc (by simp[z])) e⟩) (fun _ _ e=>e) (fun _ _ _ e=>e) (fun b ps e=>⟨#[],by rw[e];simp⟩) (fun m hm=>?_) (fun b u e=>?_) I.bare
 ·have e:b=it:=by simpa using hb
  subst e;exact⟨h1,hL,h2,h3⟩
 ·obtain⟨o,es,ep,ho,r⟩:=hm;exact⟨o,es,ep,k _ o (Ne.symm hL) ho,r⟩
 ·refine (I.hok b u e).stay (fun c v hc q=>k c v ?_ q) (fun _ q=>q) fun _ _ q=>q
  grind
theorem Inv.tok (I:Inv X pins σ H s)(t:Nat):Inv X pins σ H { s with toks:=t }:=I.un (h':=s.heap) (t':=t) Un.refl I.hok
theorem Inv.kept {t':Nat}(I:Inv X pins σ H s)(k:∀b u,s.heap.get? b=some u->h'.get? b=some u):Inv X pins σ H { s with heap:=h',toks:=t' }:=I.un (Un.kept k) (I.hok.kept k)
theorem Inv.laid {a:Addr}{o:HO}{t':Nat}(I:Inv X pins σ H s)(k:∀b u,s.heap.get? b=some u->h'.get? b=some u)(hp:s.heap.objs.size<=a)(new:zW X.prog X.w (upd H a o) h' a o) :
  Inv X pins σ (upd H a o) { s with heap:=h',toks:=t' }:=I.un (Un.laid k hp (I.hok.fresh hp)) (I.hok.laid k hp new)
theorem Inv.write {x e:Addr}{o:HO}{t':Nat}(I:Inv X pins σ H s)(mu:Mut (H x))(he:e=x\/H e=some (.own x))(k:∀b u,b≠e->s.heap.get? b=some u->h'.get? b=some u)(heo:∃u,h'.get? e=some u)
  (new:zW X.prog X.w (upd H x o) h' x o):Inv X pins σ (upd H x o) { s with heap:=h',toks:=t' }:=I.un (Un.write mu he k heo) (I.hok.write mu he k heo new)
theorem Inv.pins_of {pins':List (Addr×Obj)}(I:Inv X pins σ H s)(h:∀p∈pins',s.heap.get? p.1=some p.2/\H p.1=none/\p.1≠X.env.locals/\p.1∉X.fs/\∀v,p.2.data≠.cell v):Inv X pins' σ H s:=
 ⟨I.ok,I.os,I.bare,I.base,I.loc,I.cell,I.free,I.freeC,fun p hp=>(aN.mp hp).elim (fun z=>I.pin p (bj _ z)) (h p),I.hok,I.len⟩
theorem zff {N:List Str}(hN:N.Nodup){i j:Nat}{x:Str}(a:N[i]?=some x)(b:N[j]?=some x):i=j:=by obtain⟨h1,e1⟩:=af.mp a;obtain⟨h2,e2⟩:=af.mp b;exact (cq hN).mp (e1.trans e2.symm)
theorem zdH {M:Model}{A:Around}{E:Value->Shared->Prop}{i:Nat}{x:Str}{v:V}{u:Value}{Q:Unit->Shared->Prop}(I:Inv X pins σ H s)(hN:X.N.Nodup)(hi:X.N[i]?=some x)(hx:Loc X.env.scope x)(r:yo v u)
  (h:∀s',Inv X pins (σ.set i (some v)) H s'->(∃a,Heap.SameBut a s.heap s'.heap/\(a=X.env.locals\/X.env.cells.lookup x=some a))->Q () s') (hf:X.fn x=true\/X.env.scope.names.lookup x=some .local:=by first | exact .inl rfl | exact .inr rfl | assumption):wpAny M A (storeName X.env x u) Q E s:=by
 obtain⟨m,hn,hl⟩:=id I.loc;have hcls:(X.env.scope.kind==.class || (X.env.scope.kind==.module&&X.env.locals != X.env.globals))=false:=by rw[I.ok.kind];rfl
 have hiσ:i<σ.length:=by rw[I.len];exact (af.mp hi).1
 have cne:=I.cne
 have tracked:∀ {a:Addr} {h':Heap},(∃o,s.heap.get? a=some o/\H a=none)->Heap.SameBut a s.heap h'->HOk X.prog X.w H h':=fun {a h'} ha hs b ob e=>by
  obtain⟨_,_,hfree⟩:=ha;refine (I.hok b ob e).stay (fun c w' hc q=>(hs.2 c ?_).trans q) (fun _ q=>q) fun _ _ q=>q
  grind
 rcases hx with hk | hk
 ·refine wpAny_storeName_local hk hn (fun h' hn' hs=>?_) hcls;obtain⟨oL,_,_,hoL,_⟩:=id hn;refine h _ ⟨I.ok,I.os,I.bare,⟨fun b o e n hb hx=>?_,fun b o e n hb hx=>?_,I.base.free,fun b o e hx=>?_,I.base.tups,I.base.frzs,I.base.tbls⟩,⟨_,hn',fun j y v' e1 e2 e3=>?_⟩,fun y c e=>?_,I.free,I.freeC,fun p hp=>?_,tracked ⟨oL,hoL,I.free⟩ hs,by simpa using I.len⟩ ⟨_,hs,.inl rfl⟩
  ·exact (hs.2 b (aO (aF (au e) I.ok.above))).trans (I.base.keep b o e n hb hx)
  ·obtain⟨sl,e1⟩:=I.base.slot b o e n hb hx;exact⟨sl,(hs.2 b (aO (aF (au e) I.ok.above))).trans e1⟩
  ·obtain⟨o',e1⟩:=I.base.there b o e hx;exact⟨o',(hs.2 b (aO (aF (au e) I.ok.above))).trans e1⟩
  ·by_cases hj:j=i
   ·subst hj;rw[hi] at e1;cases e1;rw[aH hiσ] at e2;cases e2;exact⟨u,r,.inl ⟨hk,by simp⟩⟩
   ·rw[ar (Ne.symm hj)] at e2;obtain⟨u',r',q⟩:=hl j y v' e1 e2 e3;refine⟨u',r',?_⟩;rcases q with ⟨k,e⟩ | ⟨k,c,e,z⟩
    ·refine .inl ⟨k,?_⟩;have:y≠x:=fun e=>hj (zff hN e1 (e ▸ hi));simp[this,e]
    ·exact .inr ⟨k,c,e,z.sameBut hs (cne y c e)⟩
  ·obtain⟨w',z⟩:=I.cell y c e;exact⟨w',z.sameBut hs (cne y c e)⟩
  ·obtain⟨e,n,ne,nf,d⟩:=I.pin p hp;exact⟨(hs.2 p.1 ne).trans e,n,ne,nf,d⟩
 ·have hfn:X.fn x=true:=by
   grind
  obtain⟨c,hc⟩:=I.ok.has x (.inl hk);obtain⟨w',z⟩:=I.cell x c hc;refine wpAny_storeName_cell I.ok.kind hk hc z (fun h' hc' hs=>?_);obtain⟨oc,hoc,hocd⟩:=id z;refine h { s with heap:=h' } ⟨I.ok,I.os,I.bare,⟨fun b o e n hb hx=>?_,fun b o e n hb hx=>?_,I.base.free,fun b o e hx=>?_,I.base.tups,I.base.frzs,I.base.tbls⟩,⟨m,hn.sameBut hs (Ne.symm (cne x c hc)),fun j y v' e1 e2 e3=>?_⟩,fun y c' e=>?_,I.free,I.freeC,fun p hp=>?_,tracked ⟨oc,hoc,I.freeC x c hc⟩ hs,by simpa using I.len⟩ ⟨c,hs,.inr hc⟩
  ·exact (hs.2 b (aO (aF (au e) (I.ok.cab x c hfn hc)))).trans (I.base.keep b o e n hb hx)
  ·obtain⟨sl,e1⟩:=I.base.slot b o e n hb hx;exact⟨sl,(hs.2 b (aO (aF (au e) (I.ok.cab x c hfn hc)))).trans e1⟩
  ·obtain⟨o',e1⟩:=I.base.there b o e hx;exact⟨o',(hs.2 b (aO (aF (au e) (I.ok.cab x c hfn hc)))).trans e1⟩
  ·by_cases hj:j=i
   ·subst hj;rw[hi] at e1;cases e1;rw[aH hiσ] at e2;cases e2;exact⟨u,r,.inr ⟨.inl hk,c,hc,hc'⟩⟩
   ·rw[ar (Ne.symm hj)] at e2;obtain⟨u',r',q⟩:=hl j y v' e1 e2 e3;refine⟨u',r',?_⟩;rcases q with q | ⟨k,c',e,z'⟩
    ·exact .inl q
    ·refine .inr ⟨k,c',e,z'.sameBut hs ?_⟩;rintro rfl;exact hj (zff hN e1 (I.ok.inj _ _ _ e hc ▸ hi))
  ·by_cases hcc:c'=c
   ·subst hcc;exact⟨_,hc'⟩
   ·obtain⟨w2,z2⟩:=I.cell y c' e;exact⟨w2,z2.sameBut hs hcc⟩
  ·obtain⟨e,n,ne,nf,d⟩:=I.pin p hp;refine⟨(hs.2 p.1 ?_).trans e,n,ne,nf,d⟩;intro q
   simp_all
theorem zfv {M:Model}{A:Around}{E:Value->Shared->Prop}{i:Nat}{x:Str}{v:V}{u:Value}{Q:Unit->Shared->Prop}(I:Inv X pins σ H s)(hN:X.N.Nodup)(hi:X.N[i]?=some x)(hx:Loc X.env.scope x)(r:yo v u)
  (h:∀s',Inv X pins (σ.set i (some v)) H s'->Q () s') (hf:X.fn x=true\/X.env.scope.names.lookup x=some .local:=by first | exact .inl rfl | exact .inr rfl | assumption):wpAny M A (storeName X.env x u) Q E s:=
 zdH I hN hi hx r (fun s' I' _=>h s' I') hf
theorem Inv.call' {s':Shared}{ch:List Addr}(I:Inv X pins σ H s)(ho:s'.os=s.os)(u:Un (frs X.stack) ch H H' s.heap s'.heap)(hok:HOk X.prog X.w H' s'.heap)(hg:AllBare s'.gens)
  (hch:∀b∈ch,(b∈X.ex\/X.s₀.heap.objs.size<=b)/\b≠X.env.locals/\(∀x c,X.env.cells.lookup x=some c->c≠b)/\∀p∈X.pn++pins,p.1≠b):Inv X pins σ H' s':=by
 obtain⟨h',g',d',t',o'⟩:=s';have e:o'=s.os:=ho;subst e;exact I.call (g':=g') (t':=t') (d':=d') u hok hg hch
end
abbrev XK:=Value->Option Addr->Hp->Prop
abbrev St:=List (Option V)
abbrev VK:=V->Hp->Prop
abbrev TE:=St->Hp->VK->Prop
abbrev TT:=St->Hp->(Bool->Hp->Prop)->Prop
abbrev TA:=St->Hp->(List V->Hp->Prop)->Prop
structure Ends where
 nx:St->Hp->Prop
 rt:VK
 bk:St->Hp->Prop:=fun _ _=>False
 ct:St->Hp->Prop:=fun _ _=>False
abbrev TS:=Ends->St->Hp->Prop
def EP (X:Cx)(pins:List (Addr×Obj))(σ:St)(Q:VK)(u:Value)(s':Shared):Prop:=∃v H',Inv X pins σ H' s'/\yo v u/\Q v H'
def TP (X:Cx)(pins:List (Addr×Obj))(σ:St)(Q:Bool->Hp->Prop)(b:Bool)(s':Shared):Prop:=∃H',Inv X pins σ H' s'/\Q b H'
def AP (X:Cx)(pins:List (Addr×Obj))(σ:St)(Q:List V->Hp->Prop)(us:List Value)(s':Shared):Prop:=∃vs H',Inv X pins σ H' s'/\zU vs us/\Q vs H'
def SP (X:Cx)(pins:List (Addr×Obj))(D:Ends)(f:Flow)(s':Shared):Prop:=
 match f with
 | .next=>∃ σ' H',Inv X pins σ' H' s'/\D.nx σ' H'
 | .brk=>∃ σ' H',Inv X pins σ' H' s'/\D.bk σ' H'
 | .cont=>∃ σ' H',Inv X pins σ' H' s'/\D.ct σ' H'
 | .ret u=>∃v σ' H',Inv X pins σ' H' s'/\yo v u/\D.rt v H'
def PE (X:Cx)(e:Expr)(t:TE):Prop:=
 ∀ (pins:List (Addr×Obj)) (s:Shared) (σ:St) (H:Hp) (Q:VK),Inv X pins σ H s->t σ H Q->wpAny (model X.prog X.w) X.A (eval e X.env) (EP X pins σ Q) X.xe s
def PT (X:Cx)(e:Expr)(t:TT):Prop:=
 ∀ (pins:List (Addr×Obj)) (s:Shared) (σ:St) (H:Hp) (Q:Bool->Hp->Prop),Inv X pins σ H s->t σ H Q->wpAny (model X.prog X.w) X.A (isTrue e X.env (eval e X.env)) (TP X pins σ Q) X.xe s
def PW (X:Cx)(e:Expr)(t:TT):Prop:=
 ∀ (whole:Sem Value) (pins:List (Addr×Obj)) (s:Shared) (σ:St) (H:Hp) (Q:Bool->Hp->Prop),Inv X pins σ H s->t σ H Q->wpAny (model X.prog X.w) X.A (isTrue e X.env whole) (TP X pins σ Q) X.xe s
theorem PW.pt {X:Cx}{e:Expr}{t:TT}(h:PW X e t):PT X e t:=h _
def PA (X:Cx)(es:List Expr)(t:TA):Prop:=
 ∀ (pos:Pos) (pins:List (Addr×Obj)) (s:Shared) (σ:St) (H:Hp) (Q:List V->Hp->Prop),Inv X pins σ H s->t σ H Q->wpAny (model X.prog X.w) X.A (spliced (backTo pos (starEach es X.env))) (AP X pins σ Q) X.xe s
def PS (X:Cx)(st:Stmt)(t:TS):Prop:=
 ∀ (pins:List (Addr×Obj)) (s:Shared) (σ:St) (H:Hp) (D:Ends),Inv X pins σ H s->t D σ H->wpAny (model X.prog X.w) X.A (exec st X.env) (SP X pins D) X.xe s
def PSs (X:Cx)(st:List Stmt)(t:TS):Prop:=
 ∀ (pins:List (Addr×Obj)) (s:Shared) (σ:St) (H:Hp) (D:Ends),Inv X pins σ H s->t D σ H->wpAny (model X.prog X.w) X.A (execs st X.env) (SP X pins D) X.xe s
theorem thn {α:Type}{t:Sem α}{Q Q':α->Shared->Prop}{M:Model}{A:Around}{E:Value->Shared->Prop}{s:Shared}(h:wpAny M A t Q E s)(hQ:∀a s,Q a s->Q' a s):wpAny M A t Q' E s:=bn h hQ fun _ _ x=>x
section
variable {X:Cx}
def zkG (i:Nat):TE:=fun σ H Q=>∃v,σ[i]?=some (some v)/\Q v H
def tC (v:V):TE:=fun _ H Q=>Q v H
theorem zos {i:Nat}{x:Str}{pos:Pos}(hN:X.N[i]?=some x)(hv:Vis X.env.scope x)(hd:(x==("__debug__" : Str))=false:=by decide)(hcd:(x==("__classdict__" : Str))=false:=by decide):PE X (.Name x pos) (zkG i):=by
 intro pins s σ H Q I h;obtain⟨v,e,h⟩:=h;obtain⟨m,hn,hl⟩:=I.loc;obtain⟨u,r,l⟩:=hl i x v hN e hv;have fin:EP X pins σ Q u s:=⟨v,H,I,r,h⟩;rcases l with ⟨hk,hm⟩ | ⟨hk,c,hc,hcell⟩
 ·exact wpAny_Name (wpAny_loadName_local I.ok.kind hk hn hm fin) hd
 ·rcases hk with hk | hk
  ·exact wpAny_Name (wpAny_loadName_cell I.ok.kind hk hc hcell fin) hd
  ·exact wpAny_Name (wpAny_loadName_free I.ok.kind hk hc hcell fin hcd) hd
theorem zon {i j pos}:PE X (.Constant (.int i) j pos) (tC (.int i)):=fun _ _ _ H _ I h=>wpAny_Constant_int ⟨.int i,H,I.tok _,⟨_,rfl⟩,h⟩
theorem zrv {b j pos}:PE X (.Constant (.bool b) j pos) (tC (.bl b)):=fun _ _ _ H _ I h=>Constant_bool ⟨.bl b,H,I,rfl,h⟩
theorem zoo {j pos}:PE X (.Constant .none j pos) (tC .non):=fun _ _ _ H _ I h=>Constant_none ⟨.non,H,I,rfl,h⟩
theorem zor {x j pos}:PE X (.Constant (.str x) j pos) (tC (.str x)):=fun _ _ _ H _ I h=>Calls.Constant_str ⟨.str x,H,I.tok _,⟨_,rfl⟩,h⟩
def Gl (X:Cx)(x:Str):Prop:=X.env.kindOf x=some .globalImplicit
theorem zhe {E:Value->Shared->Prop}{pins:List (Addr×Obj)}{s:Shared}{σ:St}{H:Hp}{x:Str}{u:Value}{pos:Pos}{Q:Value->Shared->Prop}(I:Inv X pins σ H s)(hg:Gl X x)(hm:X.mg x=some u)(h:Q u s)
  (hd:(x==("__debug__" : Str))=false:=by decide):wpAny (model X.prog X.w) X.A (eval (.Name x pos) X.env) Q E s:=
 Calls.Name_function_global I.ok.kind hg (Calls.loadGlobal_global (by rw[I.ok.glob];exact I.mod.glob.keeps I.bk) hm h) hd
theorem zdh {E:Value->Shared->Prop}{pins:List (Addr×Obj)}{s:Shared}{σ:St}{H:Hp}{x:Str}{u:Value}{pos:Pos}{Q:Value->Shared->Prop}(I:Inv X pins σ H s)(hg:Gl X x)(hm:X.mg x=none)(hv:bootBuiltins x=some u)(h:Q u s)
  (hn:x ≠ "__name__" := by decide) (hd:(x==("__debug__" : Str))=false:=by decide):wpAny (model X.prog X.w) X.A (eval (.Name x pos) X.env) Q E s:=by
 obtain⟨mb,h1,h2⟩:=I.mod.blt;exact Calls.Name_function_global I.ok.kind hg (Calls.loadGlobal_builtin (by rw[I.ok.glob];exact I.mod.glob.keeps I.bk) hm (by rw[I.ok.blt];exact h1.keeps I.bk) ((h2 x hn).trans hv) h) hd
theorem zlY {x:Str}{v:V}{u:Value}{pos:Pos}(hg:Gl X x)(hm:X.mg x=some u)(r:yo v u)(hd:(x==("__debug__" : Str))=false:=by decide):PE X (.Name x pos) (tC v):=
 fun _ _ _ H _ I h=>zhe I hg hm ⟨v,H,I,r,h⟩ hd
theorem zlS {x:Str}{v:V}{u:Value}{pos:Pos}(hg:Gl X x)(hm:X.mg x=none)(hv:bootBuiltins x=some u)(r:yo v u)(hn:x ≠ "__name__" := by decide)(hd:(x==("__debug__" : Str))=false:=by decide):PE X (.Name x pos) (tC v):=
 fun _ _ _ H _ I h=>zdh I hg hm hv ⟨v,H,I,r,h⟩ hn hd
variable {a b:Expr}{ta tb:TE}{pos:Pos}
def tB (t:TE):TT:=fun σ H Q=>t σ H fun x H1=>∃c,x = .bl c/\Q c H1
theorem zoF {e:Expr}{t:TE}(h:PE X e t)(he:∀whole,isTrue e X.env whole=(do let v <- whole;standAt e.pos;holding [v] (truthy v)):=by intro _;rfl):PT X e (tB t):=by intro pins s σ H Q I hw;refine isTrue_plain (thn (h pins s σ H _ I hw) fun v s1 ⟨x,H1,I1,r1,q1⟩=>?_) (he _);obtain⟨d,rfl,q⟩:=q1;cases r1;exact bP ⟨H1,I1,q⟩
variable {tA tB':TT}{yn:List Expr}
def zrL (t u:TT):TT:=fun σ H Q=>t σ H fun c H1=>if c=true then u σ H1 Q else Q false H1
def tOr (t u:TT):TT:=fun σ H Q=>t σ H fun c H1=>if c=true then Q true H1 else u σ H1 Q
def tNot (t:TT):TT:=fun σ H Q=>t σ H fun c H1=>Q (!c) H1
theorem zmf (ha:PT X a tA):PW X (.BoolOp .And [a] pos) tA:=by
 intro wh pins s σ H Q I h;refine isTrue_and (thn (ha pins s σ H Q I h) fun c s1 e=>?_)
 cases c with
 | true=>exact isTrue_and_nil e
 | false=>exact e
theorem zoH (ha:PT X a tA):PW X (.BoolOp .Or [a] pos) tA:=by
 intro wh pins s σ H Q I h;refine isTrue_or (thn (ha pins s σ H Q I h) fun c s1 e=>?_)
 cases c with
 | false=>exact isTrue_or_nil e
 | true=>exact e
theorem zoG (ha:PT X a tA)(hb:PW X (.BoolOp .And (b::yn) pos) tB'):PW X (.BoolOp .And (a::b::yn) pos) (zrL tA tB'):=by
 intro wh pins s σ H Q I h;refine isTrue_and (thn (ha pins s σ H _ I h)  ?_);rintro c s1 ⟨H1,I1,q1⟩
 cases c with
 | true=>exact hb wh pins s1 σ H1 Q I1 q1
 | false=>exact⟨H1,I1,q1⟩
theorem zrC (ha:PT X a tA)(hb:PW X (.BoolOp .Or (b::yn) pos) tB'):PW X (.BoolOp .Or (a::b::yn) pos) (tOr tA tB'):=by
 intro wh pins s σ H Q I h;refine isTrue_or (thn (ha pins s σ H _ I h)  ?_);rintro c s1 ⟨H1,I1,q1⟩
 cases c with
 | true=>exact⟨H1,I1,q1⟩
 | false=>exact hb wh pins s1 σ H1 Q I1 q1
theorem zoE (ha:PT X a tA):PT X (.UnaryOp .Not a pos) (tNot tA):=by intro pins s σ H Q I h;exact isTrue_not (ha pins s σ H (fun c H1=>Q (!c) H1) I h)
def zpl (ta tb:TE):TE:=fun σ H Q=>ta σ H fun x H1=>∃c,x = .bl c/\if c=true then tb σ H1 Q else Q (.bl false) H1
def zpq (ta:TE):TE:=fun σ H Q=>ta σ H fun x H1=>∃c,x = .bl c/\Q (.bl (!c)) H1
theorem zoq {op}{t:TE}(h:PE X a t):PE X (.BoolOp op [a] pos) t:=fun pins s σ H Q I hw=>BoolOp_one (h pins s σ H Q I hw)
theorem zol (ha:PE X a ta)(hb:PE X (.BoolOp .And (b::yn) pos) tb):PE X (.BoolOp .And (a::b::yn) pos) (zpl ta tb):=by
 intro pins s σ H Q I h;refine BoolOp_and (thn (ha pins s σ H _ I h)  ?_);rintro v s1 ⟨x,H1,I1,r1,q1⟩;obtain⟨c,rfl,q1⟩:=q1;cases r1;refine bP ?_
 cases c with
 | true=>exact hb pins s1 σ H1 Q I1 q1
 | false=>exact⟨.bl false,H1,I1,rfl,q1⟩
theorem zop (ha:PE X a ta):PE X (.UnaryOp .Not a pos) (zpq ta):=by intro pins s σ H Q I h;refine UnaryOp_ (thn (ha pins s σ H _ I h)  ?_);rintro v s1 ⟨x,H1,I1,r1,q1⟩;obtain⟨c,rfl,q1⟩:=q1;cases r1;exact not_of (bP ⟨.bl (!c),H1,I1,rfl,q1⟩)
end
def SqL (K:PySem.W.Frag)(H:Hp)(a:Addr)(xs:List V):Prop:=
 Rd H a (.lst xs)\/
  ∃ (o:Obj) (its:Array Value) (n:Nat),K.lookup a=some o/\o.cls = .type "list" /\ o.dict=none/\o.data = .seq its n/\its.size<=sizeLine/\zU xs its.toList
def SqT (K:PySem.W.Frag)(H:Hp)(a:Addr)(xs:List V):Prop:=
 Rd H a (.tup xs)\/
  ∃ (o:Obj) (its:Array Value) (n:Nat),K.lookup a=some o/\o.cls = .type "tuple" /\ o.data = .seq its n/\its.size<=sizeLine/\zU xs its.toList
def absV:Value->Option V
 | .none=>some .non
 | .bool b=>some (.bl b)
 | .int i _=>some (.int i)
 | .str x _=>some (.str x)
 | .bytes b _=>some (.byt b)
 | .float b _=>some (.flt b)
 | .ref a=>some (.ref a)
 | .type n=>some (.ty n)
 | _=>none
theorem yo.abs {x:V}{u:Value}(r:yo x u):absV u=some x:=by
 cases x with
 | non=>cases r;rfl
 | bl _=>cases r;rfl
 | int _=>obtain⟨t,rfl⟩:=r;rfl
 | str _=>obtain⟨t,rfl⟩:=r;rfl
 | byt _=>obtain⟨t,rfl⟩:=r;rfl
 | flt _=>obtain⟨t,rfl⟩:=r;rfl
 | ref _=>cases r;rfl
 | ty _=>cases r;rfl
theorem yo.inj {x y:V}{u:Value}(r:yo x u)(q:yo y u):x=y:=bJ (r.abs.symm.trans q.abs)
theorem zU.inj:∀ {xs ys:List V} {us:List Value},zU xs us->zU ys us->xs=ys
 | _,_,_,.nil,.nil=>rfl
 | _,_,_,.cons r t,.cons r' t'=>by rw[r.inj r',zU.inj t t']
section
variable {X:Cx}{pins:List (Addr×Obj)}{σ:St}{H:Hp}{s:Shared}{a:Addr}{xs ys:List V}
theorem SqL.of {K:PySem.W.Frag}(h:H a=some (.lst xs)):SqL K H a xs:=.inl (.inl h)
theorem SqT.of {K:PySem.W.Frag}(h:H a=some (.tup xs)):SqT K H a xs:=.inl (.inl h)
theorem Inv.list (I:Inv X pins σ H s)(h:SqL X.K H a xs):∃its:List Value,zU xs its/\PlainL s.heap a its.toArray/\xs.length<=sizeLine:=by
 rcases h with h | ⟨o,its,n,hk,hc,hd,hs,hz,r⟩
 ·obtain⟨z,its,n,r,e⟩:=h.ok I.hok;exact⟨its,r,⟨_,n,e,rfl,rfl,rfl⟩,z⟩
 ·refine⟨its.toList,r,⟨o,n,I.kIn a o hk,hc,hd,by simpa using hs⟩,?_⟩;have e:=r.length
  grind
theorem Inv.tuple (I:Inv X pins σ H s)(h:SqT X.K H a xs):∃its:List Value,zU xs its/\IsTup s.heap a its.toArray/\xs.length<=sizeLine:=by
 rcases h with h | ⟨o,its,n,hk,hc,hs,hz,r⟩
 ·obtain⟨z,its,r,p⟩:=h.ok I.hok;exact⟨its,r,p.tup,z⟩
 ·refine⟨its.toList,r,⟨o,I.kIn a o hk,hc,n,by simpa using hs⟩,?_⟩;have e:=r.length
  grind
theorem Inv.list_inj (I:Inv X pins σ H s)(h:SqL X.K H a xs)(h':SqL X.K H a ys):xs=ys:=by
 obtain⟨its,r,⟨o,n,e,_,_,d⟩,_⟩:=I.list h;obtain⟨its',r',⟨o',n',e',_,_,d'⟩,_⟩:=I.list h';rw[e] at e';cases e';rw[d] at d';injection d' with d1 _;have:its=its':=by simpa using congrArg Array.toList d1
 subst this;exact r.inj r'
theorem Inv.tuple_inj (I:Inv X pins σ H s)(h:SqT X.K H a xs)(h':SqT X.K H a ys):xs=ys:=by
 obtain⟨its,r,⟨o,e,_,n,d⟩,_⟩:=I.tuple h;obtain⟨its',r',⟨o',e',_,n',d'⟩,_⟩:=I.tuple h';rw[e] at e';cases e';rw[d] at d';injection d' with d1 _;have:its=its':=by simpa using congrArg Array.toList d1
 subst this;exact r.inj r'
end
abbrev Cx.wish (X:Cx)(E:Value->Shared->Prop):Cx:={ X with xe:=E }
abbrev Cx.nox (X:Cx):Cx:=X.wish fun _ _=>False
theorem Cx.Ok.wish {X:Cx}(ok:X.Ok)(E:Value->Shared->Prop):(X.wish E).Ok:=
 ⟨ok.mod,ok.kind,ok.glob,ok.blt,ok.above,ok.inj,ok.has,ok.cab,ok.hd,ok.frames,ok.stk,ok.exf,ok.bs,ok.bsz,ok.noex,ok.exfs,ok.funs,ok.frf⟩
theorem Cx.Ok.unwish {X:Cx}{E:Value->Shared->Prop}(ok:(X.wish E).Ok):X.Ok:=
 ⟨ok.mod,ok.kind,ok.glob,ok.blt,ok.above,ok.inj,ok.has,ok.cab,ok.hd,ok.frames,ok.stk,ok.exf,ok.bs,ok.bsz,ok.noex,ok.exfs,ok.funs,ok.frf⟩
section
variable {X:Cx}{pins:List (Addr×Obj)}{σ:St}{H:Hp}{s:Shared}{E:Value->Shared->Prop}
theorem Inv.wish (I:Inv X pins σ H s)(E:Value->Shared->Prop):Inv (X.wish E) pins σ H s:=⟨I.ok.wish E,I.os,I.bare,I.base,I.loc,I.cell,I.free,I.freeC,I.pin,I.hok,I.len⟩
theorem Inv.unwish (I:Inv (X.wish E) pins σ H s):Inv X pins σ H s:=⟨I.ok.unwish,I.os,I.bare,I.base,I.loc,I.cell,I.free,I.freeC,I.pin,I.hok,I.len⟩
theorem SP.unwish {D:Ends}{f:Flow}{s':Shared}(h:SP (X.wish E) pins D f s'):SP X pins D f s':=by
 cases f with
 | next=>obtain⟨σ',H',I,q⟩:=h;exact⟨σ',H',I.unwish,q⟩
 | brk=>obtain⟨σ',H',I,q⟩:=h;exact⟨σ',H',I.unwish,q⟩
 | cont=>obtain⟨σ',H',I,q⟩:=h;exact⟨σ',H',I.unwish,q⟩
 | ret u=>obtain⟨v,σ',H',I,r,q⟩:=h;exact⟨v,σ',H',I.unwish,r,q⟩
theorem PSs.nox {st:List Stmt}{t:TS}(h:PSs X.nox st t):PSs X st t:=fun pins s σ H D I hw=>
 bn (h pins s σ H D (I.wish _) hw) (fun _ _ q=>q.unwish) fun _ _ z=>False.elim z
end
section
variable {X:Cx}{st:Stmt}{yn:List Stmt}{t u:TS}{e:Expr}{te:TE}{pos:Pos}
def zpp:TS:=fun D σ H=>D.nx σ H
def zrP (t u:TS):TS:=fun D σ H=>t { D with nx:=u D } σ H
theorem zma:PSs X [] zpp:=fun _ _ σ H _ I h=>wpAny_execs_nil ⟨σ,H,I,h⟩
theorem zjB (h1:PS X st t)(h2:PSs X yn u):PSs X (st::yn) (zrP t u):=by
 intro pins s σ H D I h;refine wpAny_execs_cons (thn (h1 pins s σ H { D with nx:=u D } I h) fun f s1 q=>?_)
 cases f with
 | next=>
  obtain⟨σ',H',I',q⟩:=q;exact h2 pins s1 σ' H' D I' q
 | ret v=>exact q
 | brk=>exact q
 | cont=>exact q
theorem zmb (h1:PS X st t):PSs X [st] t:=by
 intro pins s σ H D I h;refine wpAny_execs_cons (thn (h1 pins s σ H D I h) fun f s1 q=>?_)
 cases f with
 | next=>exact wpAny_execs_nil q
 | ret v=>exact q
 | brk=>exact q
 | cont=>exact q
theorem Inv.quiet {pins:List (Addr×Obj)}{σ:St}{H:Hp}{s:Shared}(I:Inv X pins σ H s):interactive X.env=false:=by simp[interactive,I.ok.kind]
def zmM (te:TE):TS:=fun D σ H=>te σ H fun _ H1=>D.nx σ H1
theorem zl9 (he:PE X e te)(hs:swapsWith e none pos.line X.env=pure false:=by rfl):PS X (.Expr e pos) (zmM te):=by intro pins s σ H D I h;exact wpAny_Expr_any (thn (he pins s σ H _ I h) <| by rintro v s1 ⟨x,H1,I1,r1,q1⟩;exact⟨σ,H1,I1,q1⟩) I.quiet hs
def zqb (te:TE):TS:=fun D σ H=>te σ H D.rt
theorem zoC (he:PE X e te):PS X (.Return (some e) pos) (zqb te):=by intro pins s σ H D I h;exact wpAny_Return_some (thn (he pins s σ H _ I h) <| by rintro v s1 ⟨x,H1,I1,r1,q1⟩;exact⟨x,σ,H1,I1,r1,q1⟩)
def tIfS (c:TT)(t u:TS):TS:=fun D σ H=>c σ H fun b H1=>if b=true then t D σ H1 else u D σ H1
theorem zrB {c:Expr}{a b:List Stmt}{tc:TT}(hc:PT X c tc)(ha:PSs X a t)(hb:PSs X b u):PS X (.If c a b pos) (tIfS tc t u):=by
 intro pins s σ H D I h;refine wpAny_If (thn (hc pins s σ H _ I h)  ?_);rintro d s1 ⟨H1,I1,q1⟩
 cases d with
 | true=>exact ha pins s1 σ H1 D I1 q1
 | false=>exact hb pins s1 σ H1 D I1 q1
end
abbrev TG:=V->St->Hp->(St->Hp->Prop)->Prop
abbrev TGs:=List V->St->Hp->(St->Hp->Prop)->Prop
def PG (X:Cx)(target:Expr)(t:TG):Prop:=
 ∀ (pins:List (Addr×Obj)) (s:Shared) (σ:St) (H:Hp) (v:V) (u:Value) (Q:St->Hp->Prop),Inv X pins σ H s->yo v u->t v σ H Q->
  wpAny (model X.prog X.w) X.A (assign target X.env u) (fun _ s'=>∃ σ' H',Inv X pins σ' H' s'/\Q σ' H') X.xe s
def PGs (X:Cx)(ts:List Expr)(t:TGs):Prop:=
 ∀ (pins:List (Addr×Obj)) (s:Shared) (σ:St) (H:Hp) (vs:List V) (us:List Value) (Q:St->Hp->Prop),Inv X pins σ H s->zU vs us->t vs σ H Q->
  wpAny (model X.prog X.w) X.A (assignInOrder ((assignEach ts X.env).map (·.2)) us) (fun _ s'=>∃ σ' H',Inv X pins σ' H' s'/\Q σ' H') X.xe s
section
variable {X:Cx}{pos:Pos}
def uW (i:Nat):TG:=fun v σ H Q=>Q (σ.set i (some v)) H
theorem zl2 {i:Nat}{x:Str}(hN:X.N.Nodup)(hi:X.N[i]?=some x)(hx:Loc X.env.scope x)(hf:X.fn x=true\/X.env.scope.names.lookup x=some .local:=by first | exact .inl rfl | exact .inr rfl | assumption):PG X (.Name x pos) (uW i):=by intro pins s σ H v u Q I r h;exact wpAny_assign_Name (zfv I hN hi hx r (fun s' I'=>⟨_,H,I',h⟩) hf)
def gNil:TGs:=fun vs σ H Q=>vs=[]/\Q σ H
def znz (t:TG)(u:TGs):TGs:=fun vs σ H Q=>∃v r,vs=v::r/\t v σ H fun σ' H'=>u r σ' H' Q
theorem zl3:PGs X [] gNil:=by intro pins s σ H vs us Q I r h;obtain⟨e,h⟩:=h;subst e;cases r;exact assignInOrder_nil ⟨σ,H,I,h⟩
theorem zjv {e:Expr}{es:List Expr}{t:TG}{u:TGs}(h1:PG X e t)(h2:PGs X es u)
  (hs:(assignEach (e::es) X.env).map (·.2)=assign e X.env::(assignEach es X.env).map (·.2):=by rfl):PGs X (e::es) (znz t u):=by
 intro pins s σ H vs us Q I r h;obtain⟨v,vr,e1,h⟩:=h;subst e1
 cases r with
 | cons r rr=>
  rw[hs];refine assignInOrder_cons (thn (h1 pins s σ H _ _ _ I r h)  ?_);rintro _ s1 ⟨σ1,H1,I1,q1⟩;exact h2 pins s1 σ1 H1 _ _ Q I1 rr q1
def zqR (K:PySem.W.Frag)(n:Nat)(t:TGs):TG:=fun v σ H Q=>∃a xs,v = .ref a/\SqT K H a xs/\xs.length=n/\t xs σ H Q
theorem zoy {es:List Expr}{k:Nat}{t:TGs}{n:Nat}(hc:X.calm=true)(h:PGs X es t)
  (hn:(assignEach es X.env).length=n:=by rfl) (hst:(assignEach es X.env).findIdx? (·.1)=none:=by rfl):PG X (.Tuple es k pos) (zqR X.K n t):=by
 intro pins s σ H v u Q I r hw;obtain⟨a,xs,e1,hq,hl,hw⟩:=hw;subst e1;cases r;obtain⟨its,rv,ht,hz⟩:=I.tuple hq;refine assign_Tuple_tuple (I.ok.hd hc) ht (by simp[hn,<- hl,rv.length]) hst fun h' hx=>?_;have I1:Inv X pins σ H { s with heap:=h' }:=I.kept (t':=s.toks) fun b o e=>hx b o (aO (au e)) e;exact h pins _ σ H xs _ Q I1 (by simpa using rv) hw
def zfw (te:TE)(g:TG):TS:=fun D σ H=>te σ H fun x H1=>g x σ H1 D.nx
theorem zoA {tg e:Expr}{te:TE}{g:TG}(he:PE X e te)(hg:PG X tg g)(hs:swapsWithSole [tg] e pos.line X.env=pure false:=by rfl)(hw:swappedStores [tg] e X.env=pure none:=by rfl)
  (h1:(assignEach [tg] X.env).map (·.2)=[assign tg X.env]:=by rfl):PS X (.Assign [tg] e pos) (zfw te g):=by
 intro pins s σ H D I h;refine wpAny_Assign_stores (thn (he pins s σ H _ I h) fun v s1 ⟨x,H1,I1,r1,q1⟩=>?_) hs hw;rw[h1];exact thn (hg pins s1 σ H1 x v _ I1 r1 q1) fun _ s2 q=>q
theorem zoD {i:Nat}{x:Str}{e:Expr}{te:TE}{pos':Pos}(hN:X.N.Nodup)(hi:X.N[i]?=some x)(hx:Loc X.env.scope x)(he:PE X e te)(hs:swapsWith e (some (.Name x pos')) pos.line X.env=pure false:=by rfl)(hf:X.fn x=true\/X.env.scope.names.lookup x=some .local:=by first | exact .inl rfl | exact .inr rfl | assumption) :
  PS X (.Assign [.Name x pos'] e pos) (zfw te (uW i)):=by
 intro pins s σ H D I h;refine wpAny_Assign_Name (thn (he pins s σ H _ I h) fun v s1 ⟨y,H1,I1,r1,q1⟩=>?_) hs;exact zfv I1 hN hi hx r1 (fun s2 I2=>⟨_,H1,I2,q1⟩) hf
end
section
variable {X:Cx}{pos:Pos}
end
structure It where
 go:Nat->Hp->Prop
 yld:Nat->Hp->V->Hp->Prop
 stop:Nat->Hp->Prop
def zcX (X:Cx)(pins:List (Addr×Obj))(H:Hp)(b:Addr):Prop:=
 H b=none/\b≠X.env.locals/\b∉X.fs/\(b∈X.ex\/X.s₀.heap.objs.size<=b)/\(∀x c,X.env.cells.lookup x=some c->c≠b)/\∀p∈X.pn++pins,p.1≠b
theorem Inv.fpOk {X:Cx}{pins:List (Addr×Obj)}{σ:St}{H H':Hp}{s:Shared}{b:Addr}(I:Inv X pins σ H s)(hb:s.heap.objs.size<=b)(hn:H' b=none):zcX X pins H' b:=by
 refine⟨hn,dU (aF I.lt hb),I.nofs hb,.inr (ao I.sz hb),fun x c e z=>?_,fun p hp z=>?_⟩
 ·obtain⟨v,q⟩:=I.cell x c e;exact absurd (aF q.lt (by rw[z];exact hb)) (bt _)
 ·exact absurd (aF (au (I.pin p hp).1) (by rw[z];exact hb)) (bt _)
structure Turn (P:Program)(w:World)(K:PySem.W.Frag)(tg:Expr)(J:It)(fp:List Addr)(it:Addr)(tn:Nat->Heap->Prop):Prop where
 mem:it∈fp
 obj:∀i h,tn i h->∀b∈fp,∃o,h.get? b=some o/\∀v,o.data≠.cell v
 keep:∀i h h',tn i h->(∀b∈fp,∀o,h.get? b=some o->h'.get? b=some o)->tn i h'
 item:∀ (X:Cx),X.prog=P->X.w=w->X.K=K->X.calm=true->∀ (i:Nat) (pins:List (Addr×Obj)) (s:Shared) (σ:St) (H:Hp) (E:Value->Shared->Prop),Inv X pins σ H s->(∀b∈fp,zcX X pins H b)->tn i s.heap->J.go i H->
  wpAny (model P w) X.A (pyNext (.ref it)) (fun r s1=>∃u,r=some u/\
   wpAny (model P w) X.A (letOwnedTupleGo tg (.ref it) u) (fun _ s2=>∃x H',Inv X pins σ H' s2/\yo x u/\J.yld i H x H'/\tn (i+1) s2.heap/\∀b∈fp,H' b=none) E s1) E s
 done:∀ (X:Cx),X.prog=P->X.w=w->X.K=K->X.calm=true->∀ (i:Nat) (pins:List (Addr×Obj)) (s:Shared) (σ:St) (H:Hp) (E:Value->Shared->Prop),Inv X pins σ H s->(∀b∈fp,zcX X pins H b)->tn i s.heap->J.stop i H->
  wpAny (model P w) X.A (pyNext (.ref it)) (fun r s1=>r=none/\Inv X pins σ H s1) E s
 self:∀ (A:Around) (i:Nat) (s:Shared) (Q:Value->Shared->Prop) (E:Value->Shared->Prop),tn i s.heap->Q (.ref it) s->wpAny (model P w) A (pyIter (.ref it)) Q E s
abbrev TI:=St->Hp->(It->Hp->Prop)->Prop
def PIE (X:Cx)(pins:List (Addr×Obj))(σ:St)(tg:Expr)(R:It->Hp->Prop)(itv:Value)(s2:Shared):Prop:=
 ∃ (it:Addr) (fp:List Addr) (tn:Nat->Heap->Prop) (J:It) (H':Hp),itv = .ref it/\Inv X pins σ H' s2/\Turn X.prog X.w X.K tg J fp it tn/\tn 0 s2.heap/\(∀b∈fp,zcX X pins H' b)/\R J H'
def PI (X:Cx)(tg iter:Expr)(wi:TI):Prop:=
 ∀ (pins:List (Addr×Obj)) (s:Shared) (σ:St) (H:Hp) (R:It->Hp->Prop),Inv X pins σ H s->wi σ H R->
  wpAny (model X.prog X.w) X.A (eval iter X.env) (fun v s1=>wpAny (model X.prog X.w) X.A (pyIter v) (PIE X pins σ tg R) X.xe s1) X.xe s
theorem zlh {M:Model}{A:Around}{E:Value->Shared->Prop}{s:Shared}{tg:Expr}{it:Addr}{u:Value}{o:Obj}{n:String}{vs:Array Value}{Q:Unit->Shared->Prop}(ho:s.heap.get? it=some o)(hc:o.cls = .type n)(hd:o.data = .fields vs)
  (hn:["enumerate","zip","dict_itemiterator","dict_reverseitemiterator","odict_iterator","itertools.zip_longest","itertools.pairwise"].contains n=false) (hQ:Q () s):wpAny M A (letOwnedTupleGo tg (.ref it) u) Q E s:=by
 unfold letOwnedTupleGo
 cases tg <;> first
  | exact ae hQ
  | (cases u <;> first
    | exact ae hQ
    | (refine aa (wpAny_load ho ?_)
       rw[hc,hd];show wpAny M A (if (["enumerate","zip","dict_itemiterator","dict_reverseitemiterator","odict_iterator","itertools.zip_longest","itertools.pairwise"].contains n&&vs[0]?==some (rawInt _))=true then _ else _) Q E s;rw[if_neg (by lia)];exact ae hQ))
def Itl (K:PySem.W.Frag)(a:Addr):It:=
 ⟨fun i H=>∃xs x,SqL K H a xs/\xs[i]?=some x,fun i H x H'=>H'=H/\∀xs,SqL K H a xs->xs[i]?=some x,fun i H=>∃xs,SqL K H a xs/\xs.length<=i⟩
def Itt (K:PySem.W.Frag)(a:Addr):It:=
 ⟨fun i H=>∃xs x,SqT K H a xs/\xs[i]?=some x,fun i H x H'=>H'=H/\∀xs,SqT K H a xs->xs[i]?=some x,fun i H=>∃xs,SqT K H a xs/\xs.length<=i⟩
def Itr (lo:Int)(n:Nat):It:=⟨fun i _=>i<n,fun i H x H'=>H'=H/\x = .int (lo+i),fun i _=>n<=i⟩
theorem ziu {P:Program}{w:World}{K:PySem.W.Frag}{tg:Expr}(a it:Addr):Turn P w K tg (Itl K a) [it] it (fun i h=>h.IsListIter it a i) where
 mem:=by simp
 obj:=fun i h st b hb=>by
  have e:b=it:=by simpa using hb
  subst e;obtain⟨o,e,c,d⟩:=st
  simp_all
 keep:=fun i h h' st k=>st.at fun o e=>k it (by simp) o e
 item:=by intro X hP hw hK hc i pins s σ H E I hf st hg;subst hP hw hK;obtain⟨xs,x,hq,hx⟩:=hg;obtain⟨its,rv,p,hz⟩:=I.list hq;obtain⟨u,hu,ru⟩:=rv.get hx;obtain⟨f0,f1,f2,f3,f4,f5⟩:=hf it (by simp);refine wpAny_pyNext_list_item st p.isList (x:=u) (by simpa using hu) fun h' st' sb=>?_;have I1:Inv X pins σ H { s with heap:=h' }:=I.turned (t':=s.toks) (fun b o hb e=>(sb.2 b hb).trans e) f0 f1 f3 f4 f5;obtain⟨o,e,c,d⟩:=id st';exact⟨u,rfl,zlh (s:={ s with heap:=h' }) e c d (by decide) ⟨x,H,I1,ru,⟨rfl,fun ys hy=>by rw[I.list_inj hy hq];exact hx⟩,st',fun b hb=>(hf b hb).1⟩⟩
 done:=by intro X hP hw hK hc i pins s σ H E I hf st hg;subst hP hw hK;obtain⟨xs,hq,hx⟩:=hg;obtain⟨its,rv,p,hz⟩:=I.list hq;obtain⟨f0,f1,f2,f3,f4,f5⟩:=hf it (by simp);have hl:=rv.length;exact wpAny_pyNext_list_end (I.ok.hd hc) st p.isList (by simp;lia) fun h' eb=>⟨rfl,I.turned (t':=s.toks) (fun b o hb e=>eb b o hb e) f0 f1 f3 f4 f5⟩
 self:=fun _ _ _ _ _ st h=>wpAny_pyIter_listiter st h
theorem zf4 {P:Program}{w:World}{K:PySem.W.Frag}{tg:Expr}(a it:Addr):Turn P w K tg (Itt K a) [it] it (fun i h=>h.IsTupleIter it a i) where
 mem:=by simp
 obj:=fun i h st b hb=>by
  have e:b=it:=by simpa using hb
  subst e;obtain⟨o,e,c,d⟩:=st
  simp_all
 keep:=fun i h h' st k=>st.at fun o e=>k it (by simp) o e
 item:=by intro X hP hw hK hc i pins s σ H E I hf st hg;subst hP hw hK;obtain⟨xs,x,hq,hx⟩:=hg;obtain⟨its,rv,p,hz⟩:=I.tuple hq;obtain⟨u,hu,ru⟩:=rv.get hx;obtain⟨f0,f1,f2,f3,f4,f5⟩:=hf it (by simp);refine wpAny_pyNext_tuple_item st (show s.heap.IsTuple a its.toArray from p) (x:=u) (by simpa using hu) fun h' st' sb=>?_;have I1:Inv X pins σ H { s with heap:=h' }:=I.turned (t':=s.toks) (fun b o hb e=>(sb.2 b hb).trans e) f0 f1 f3 f4 f5;obtain⟨o,e,c,d⟩:=id st';exact⟨u,rfl,zlh (s:={ s with heap:=h' }) e c d (by decide) ⟨x,H,I1,ru,⟨rfl,fun ys hy=>by rw[I.tuple_inj hy hq];exact hx⟩,st',fun b hb=>(hf b hb).1⟩⟩
 done:=by intro X hP hw hK hc i pins s σ H E I hf st hg;subst hP hw hK;obtain⟨xs,hq,hx⟩:=hg;obtain⟨its,rv,p,hz⟩:=I.tuple hq;obtain⟨f0,f1,f2,f3,f4,f5⟩:=hf it (by simp);have hl:=rv.length;exact wpAny_pyNext_tuple_end (I.ok.hd hc) st (show s.heap.IsTuple a its.toArray from p) (by simp;lia) fun h' eb=>⟨rfl,I.turned (t':=s.toks) (fun b o hb e=>eb b o hb e) f0 f1 f3 f4 f5⟩
 self:=fun _ _ _ _ _ st h=>wpAny_pyIter_tupleiter st h
theorem zf3 {P:Program}{w:World}{K:PySem.W.Frag}{tg:Expr}(it:Addr)(lo:Int)(n:Nat):Turn P w K tg (Itr lo n) [it] it (fun i h=>IsRangeIter h it (lo+(i:Nat) * 1) ((n:Int) - (i:Nat)) 1) where
 mem:=by simp
 obj:=fun i h st b hb=>by simp_all
 keep:=fun i h h' st k=>k it (by simp) _ st
 item:=by intro X hP hw hK hc i pins s σ H E I hf st hg;subst hP hw hK;obtain⟨f0,f1,f2,f3,f4,f5⟩:=hf it (by simp);have W:=Walks.range (prog:=X.prog) (w:=X.w) (I.ok.hd hc) it lo 1 n;refine W.item i s _ _ hg st fun v h' tk hv st' kk=>?_;obtain⟨t,rfl⟩:=hv;have I1:Inv X pins σ H { s with heap:=h',toks:=tk }:=I.turned (fun b o hb e=>kk b o (by simpa using hb) e) f0 f1 f3 f4 f5;refine⟨_,rfl,zlh (s:={ s with heap:=h',toks:=tk }) (n := "range_iterator") st' rfl rfl (by decide) ⟨.int (lo+i),H,I1,⟨t,?_⟩,⟨rfl,rfl⟩,st',fun b hb=>(hf b hb).1⟩⟩;rw[Int.mul_one]
 done:=by intro X hP hw hK hc i pins s σ H E I hf st hg;subst hP hw hK;obtain⟨f0,f1,f2,f3,f4,f5⟩:=hf it (by simp);exact wpAny_pyNext_range_end (I.ok.hd hc) st (by have:n<=i:=hg;lia) fun h' eb=>⟨rfl,I.turned (t':=s.toks) (fun b o hb e=>eb b o hb e) f0 f1 f3 f4 f5⟩
 self:=fun _ _ _ _ _ st h=>wpAny_pyIter_rangeiter st h
section
variable {X:Cx}{tg:Expr}
def zll (K:PySem.W.Frag)(tl:TE):TI:=fun σ H R=>tl σ H fun x H1=>∃a,x = .ref a/\(∃xs,SqL K H1 a xs)/\R (Itl K a) H1
def zqT (K:PySem.W.Frag)(tl:TE):TI:=fun σ H R=>tl σ H fun x H1=>∃a,x = .ref a/\(∃xs,SqT K H1 a xs)/\R (Itt K a) H1
theorem zl4 {l:Expr}{tl:TE}(hl:PE X l tl):PI X tg l (zll X.K tl):=by
 intro pins s σ H R I h;refine thn (hl pins s σ H _ I h)  ?_;rintro v s1 ⟨x,H1,I1,r1,q1⟩;obtain⟨a,e,⟨xs,hq⟩,q⟩:=q1;subst e;cases r1;obtain⟨its,rv,p,hz⟩:=I1.list hq;refine wpAny_pyIter_list p.isList ?_;refine⟨s1.heap.objs.size,[s1.heap.objs.size],_,_,H1,rfl,I1.kept (t':=s1.toks) fun b o e=>am _ e,ziu a _,⟨_,aB _ rfl,rfl,rfl⟩,fun b hb=>?_,q⟩;have e:b=s1.heap.objs.size:=by simpa using hb
 subst e;exact I1.fpOk (ai _) (I1.hok.fresh (ai _))
theorem zoz {l:Expr}{tl:TE}(hl:PE X l tl):PI X tg l (zqT X.K tl):=by
 intro pins s σ H R I h;refine thn (hl pins s σ H _ I h)  ?_;rintro v s1 ⟨x,H1,I1,r1,q1⟩;obtain⟨a,e,⟨xs,hq⟩,q⟩:=q1;subst e;cases r1;obtain⟨its,rv,p,hz⟩:=I1.tuple hq;refine wpAny_pyIter_tuple (show s1.heap.IsTuple a its.toArray from p) ?_;refine⟨s1.heap.objs.size,[s1.heap.objs.size],_,_,H1,rfl,I1.kept (t':=s1.toks) fun b o e=>am _ e,zf4 a _,⟨_,aB _ rfl,rfl,rfl⟩,fun b hb=>?_,q⟩;have e:b=s1.heap.objs.size:=by simpa using hb
 subst e;exact I1.fpOk (ai _) (I1.hok.fresh (ai _))
theorem zjM {pins:List (Addr×Obj)}{σ:St}{H:Hp}{s:Shared}{R:It->Hp->Prop}{E:Value->Shared->Prop}{lo hi:Int}{t u v:Tok}{tk:Nat}(I:Inv X pins σ H s)(h1:-(2 ^ 62)<=lo)(h2:lo<2 ^ 62)(h3:-(2 ^ 62)<=hi)(h4:hi<2 ^ 62)
  (q:R (Itr lo (hi - lo).toNat) H):wpAny (model X.prog X.w) X.A (pyIter (.ref s.heap.objs.size)) (PIE X pins σ tg R) E { s with heap:=s.heap.push { cls:=.type "range",data:=.fields #[.int lo t,.int hi u,.int 1 v] },toks:=tk }:=by
 refine wpAny_pyIter_range (IsRange.new ..) (small_one h1 h2 h3 h4) ?_;have I1:Inv X pins σ H { s with heap:=s.heap.push { cls:=.type "range",data:=.fields #[.int lo t,.int hi u,.int 1 v] },toks:=tk }:=I.kept fun b o e=>am _ e
 refine⟨(s.heap.push { cls:=.type "range",data:=.fields #[.int lo t,.int hi u,.int 1 v] }).objs.size,[(s.heap.push { cls:=.type "range",data:=.fields #[.int lo t,.int hi u,.int 1 v] }).objs.size],_,_,H,rfl,
  I1.kept (t':=tk) fun b o e=>am _ e,zf3 _ lo (hi - lo).toNat,?_,fun b hb=>?_,q⟩
 ·have e1:lo+((0:Nat):Int) * 1=lo:=by simp
  have e2:(((hi - lo).toNat:Nat):Int) - ((0:Nat):Int)=Builtin.Range.rangeSize lo hi 1:=by rw[rangeSize_one];split <;> lia
  show IsRangeIter _ _ (lo+((0:Nat):Int) * 1) ((((hi - lo).toNat:Nat):Int) - ((0:Nat):Int)) 1;rw[e1,e2];exact aB _ rfl
 ·have e:b=(s.heap.push { cls:=.type "range",data:=.fields #[.int lo t,.int hi u,.int 1 v] }).objs.size:=by simpa using hb
  subst e;exact I1.fpOk (ai _) (I1.hok.fresh (ai _))
def znA (ta:TA):TI:=fun σ H R=>ta σ H fun vs H1=>∃j:Int,vs=[.int j]/\-(2 ^ 62)<=j/\j<2 ^ 62/\R (Itr 0 j.toNat) H1
theorem zhO {a:Expr}{ta:TA}{p pos:Pos}(hg:Gl X "range")(hm:X.mg "range" = none)(ha:PA X [a] ta)(hs:starEach [a] X.env=[(false,eval a X.env)]:=by rfl):PI X tg (.Call (.Name "range" p) [a] [] pos) (znA ta):=by
 intro pins s σ H R I h;refine Call_ (zdh I hg hm boot_range (cC (thn (ha pos pins s σ H _ I h) fun us s1 ⟨vs,H1,I1,r1,q1⟩=>?_) hs rfl));obtain⟨j,e,q1,q2,q⟩:=q1;subst e
 cases r1 with
 | cons r rr=>
  cases rr;obtain⟨t,rfl⟩:=r;exact call_range_1 (zjM I1 (by lia) (by lia) q1 q2 (by simpa using q))
def zrN (wi:TI)(g:TG)(tb:TS):TS:=fun D σ H=>wi σ H fun J H1=>∃W:Nat->Nat->St->Hp->Prop,(∃m,W 0 m σ H1)/\∀i m σ H,W i m σ H->
 (J.stop i H/\D.nx σ H)\/(J.go i H/\∃N:St->Hp->Prop,(∀ σ' H',N σ' H'->∃m',m'<m/\W (i+1) m' σ' H')/\∀x H',J.yld i H x H'->g x σ H' fun σ2 H2=>tb { D with nx:=N,ct:=N,bk:=D.nx } σ2 H2)
def zdA (fp:List Addr)(h:Heap):List (Addr×Obj):=fp.filterMap fun b=>(h.get? b).map fun o=>(b,o)
theorem zao {fp:List Addr}{h:Heap}{b:Addr}{o:Obj}(hb:b∈fp)(e:h.get? b=some o):(b,o)∈zdA fp h:=cz.mpr ⟨b,hb,by rw[e];rfl⟩
theorem zhE {fp:List Addr}{h:Heap}{p:Addr×Obj}(hp:p∈zdA fp h):p.1∈fp/\h.get? p.1=some p.2:=by
 obtain⟨b,hb,e⟩:=cz.mp hp
 cases q:h.get? b with
 | none=>rw[q] at e;cases e
 | some o=>
  grind
theorem Inv.pinned {pins:List (Addr×Obj)}{σ:St}{H:Hp}{s:Shared}{fp:List Addr}(I:Inv X pins σ H s)(hf:∀b∈fp,zcX X pins H b)(ho:∀b∈fp,∃o,s.heap.get? b=some o/\∀v,o.data≠.cell v):Inv X (pins++zdA fp s.heap) σ H s:=
 I.pins_of fun p hp=>(aN.mp hp).elim (fun z=>I.pin p (aV _ z)) fun z=>by
  obtain⟨hb,e⟩:=zhE z;obtain⟨f0,f1,f2,_⟩:=hf p.1 hb;obtain⟨o,e',d⟩:=ho p.1 hb
  simp_all
theorem Inv.unpinned {pins pl:List (Addr×Obj)}{σ:St}{H:Hp}{s:Shared}(I:Inv X (pins++pl) σ H s):Inv X pins σ H s:=I.pins_of fun p hp=>I.pin p (aV _ (bj _ hp))
theorem zoB {iter:Expr}{body:List Stmt}{wi:TI}{g:TG}{tb:TS}{pos:Pos}(hp:PassesOwn (model X.prog X.w) X.A X.env X.xe)(hc:X.calm=true)(hi:PI X tg iter wi)(hg:PG X tg g)(hb:PSs X body tb)
  (hs:∀x,foldedSetIterable iter X.env x=pure x:=by intro _;rfl):PS X (.For tg iter body [] pos) (zrN wi g tb):=by
 intro pins s σ H D I h;refine wpAny_For (thn (hi pins s σ H _ I h) fun v s1 h1=>thn h1 fun itv s2 h2=>?_) hs;obtain⟨it,fp,tn,J,H2,e,I2,T,st2,f2,W,⟨m0,w0⟩,turn⟩:=h2;subst e;have stat:∀ {H':Hp},(∀b∈fp,H' b=none)->∀b∈fp,zcX X pins H' b:=fun hn b hb=>⟨hn b hb,(f2 b hb).2⟩;refine codeAny_forLoop_any (fun n s'=>∃i σ' H',Inv X pins σ' H' s'/\tn i s'.heap/\(∀b∈fp,H' b=none)/\W i n σ' H') ?_ m0 ⟨0,σ,H2,I2,st2,fun b hb=>(f2 b hb).1,w0⟩;rintro n s3 ⟨i,σ3,H3,I3,st3,fr3,w3⟩;rcases turn i n σ3 H3 w3 with ⟨stop,qn⟩ | ⟨go,N,hN,step⟩
 ·refine cY hp (thn (T.done X rfl rfl rfl hc i pins s3 σ3 H3 X.xe I3 (stat fr3) st3 stop)  ?_);rintro r s4 ⟨hr,I4⟩;subst hr;exact wpAny_execs_nil ⟨σ3,H3,I4,qn⟩
 ·refine cY hp (thn (T.item X rfl rfl rfl hc i pins s3 σ3 H3 X.xe I3 (stat fr3) st3 go)  ?_);rintro r s4 ⟨u,hr,h4⟩;subst hr;refine cY hp (thn h4  ?_);rintro _ s5 ⟨x,H5,I5,r5,y5,st5,fr5⟩;have I5':=I5.pinned (stat fr5) (T.obj _ _ st5);refine cY hp (thn (hg _ s5 σ3 H5 x u _ I5' r5 (step x H5 y5))  ?_);rintro _ s6 ⟨σ6,H6,I6,q6⟩;refine cY hp (thn (hb _ s6 σ6 H6 _ I6 q6) fun f s7 q7=>?_)
  have again:∀ {σ7:St} {H7:Hp},Inv X (pins++zdA fp s5.heap) σ7 H7 s7->N σ7 H7->∃m,m<n/\∃i σ' H',Inv X pins σ' H' s7/\tn i s7.heap/\(∀b∈fp,H' b=none)/\W i m σ' H':=fun {σ7 H7} I7 n7=>by obtain⟨m',hm,w7⟩:=hN σ7 H7 n7;refine⟨m',hm,i+1,σ7,H7,I7.unpinned,T.keep _ _ _ st5 fun b hb o e=>(I7.pin (b,o) (aV _ (aV _ (zao hb e)))).1,fun b hb=>?_,w7⟩;obtain⟨o,e,d⟩:=T.obj _ _ st5 b hb;exact (I7.pin (b,o) (aV _ (aV _ (zao hb e)))).2.1
  cases f with
  | next=>obtain⟨σ7,H7,I7,n7⟩:=q7;exact again I7 n7
  | cont=>obtain⟨σ7,H7,I7,n7⟩:=q7;exact again I7 n7
  | brk=>obtain⟨σ7,H7,I7,q7⟩:=q7;exact⟨σ7,H7,I7.unpinned,q7⟩
  | ret v=>obtain⟨x7,σ7,H7,I7,r7,q7⟩:=q7;exact⟨x7,σ7,H7,I7.unpinned,r7,q7⟩
end
abbrev R2:=V->V->Hp->VK->Prop
def OpR (X:Cx)(f:Value->Value->Sem Value)(r:R2):Prop:=
 ∀ (pins:List (Addr×Obj)) (s:Shared) (σ:St) (H:Hp) (x y:V) (v u:Value) (Q:VK),Inv X pins σ H s->yo x v->yo y u->r x y H Q->
  wpAny (model X.prog X.w) X.A (f v u) (EP X pins σ Q) X.xe s
def zbO (X:Cx)(f:Value)(r:List V->Hp->VK->Prop):Prop:=
 ∀ (pins:List (Addr×Obj)) (s:Shared) (σ:St) (H:Hp) (xs:List V) (us:List Value) (Q:VK),Inv X pins σ H s->zU xs us->r xs H Q->
  wpAny (model X.prog X.w) X.A (call f us) (EP X pins σ Q) X.xe s
def tOp (r:R2)(ta tb:TE):TE:=fun σ H Q=>ta σ H fun x H1=>tb σ H1 fun y H2=>r x y H2 Q
def rI (C:Int->Int->Prop)(g:Int->Int->V):R2:=fun x y H Q=>∃i j,x = .int i/\y = .int j/\C i j/\Q (g i j) H
def rI0 (g:Int->Int->V):R2:=fun x y H Q=>∃i j,x = .int i/\y = .int j/\Q (g i j) H
section
variable {X:Cx}{a b c:Expr}{ta tb tc:TE}{pos:Pos}
theorem zqm (ha:PE X a ta)(hb:PE X b tb){pins:List (Addr×Obj)}{s:Shared}{σ:St}{H:Hp}{R:V->V->Hp->Prop}(I:Inv X pins σ H s)
  (h:ta σ H fun x H1=>tb σ H1 fun y H2=>R x y H2) {Q:Value->Shared->Prop} {f:Value->Value->Sem Value}
  (hf:∀v u s2 x y H2,Inv X pins σ H2 s2->yo x v->yo y u->R x y H2->wpAny (model X.prog X.w) X.A (f v u) Q X.xe s2) :
  wpAny (model X.prog X.w) X.A (eval a X.env) (fun v s₁=>wpAny (model X.prog X.w) X.A (eval b X.env) (fun u s₂=>wpAny (model X.prog X.w) X.A (f v u) Q X.xe s₂) X.xe s₁) X.xe s:=by
 refine thn (ha pins s σ H _ I h)  ?_;rintro v s1 ⟨x,H1,I1,r1,q1⟩;refine thn (hb pins s1 σ H1 _ I1 q1)  ?_;rintro u s2 ⟨y,H2,I2,r2,q2⟩;exact hf v u s2 x y H2 I2 r1 r2 q2
theorem zry {op:Operator}{r:R2}(ho:OpR X (binaryOp op) r)(ha:PE X a ta)(hb:PE X b tb):PE X (.BinOp a op b pos) (tOp r ta tb):=by intro pins s σ H Q I h;exact wpAny_BinOp (zqm ha hb I h fun v u s2 x y H2 I2 rx ry q=>ho pins s2 σ H2 x y v u Q I2 rx ry q)
theorem opI {f:Value->Value->Sem Value}{C:Int->Int->Prop}{g:Int->Int->Int}
  (rule:∀ (i j:Int) (t u:Tok) (s:Shared) (Q:Value->Shared->Prop) (E:Value->Shared->Prop),C i j->Q (.int (g i j) s.toks) { s with toks:=s.toks+1 }->wpAny (model X.prog X.w) X.A (f (.int i t) (.int j u)) Q E s) :
  OpR X f (rI C fun i j=>.int (g i j)):=by
 intro pins s σ H x y v u Q I rx ry h;obtain⟨i,j,rfl,rfl,hc,q⟩:=h;obtain⟨t,rfl⟩:=rx;obtain⟨t',rfl⟩:=ry;exact rule i j t t' s _ _ hc ⟨.int (g i j),H,I.tok _,⟨_,rfl⟩,q⟩
theorem opI0 {f:Value->Value->Sem Value}{g:Int->Int->Int}
  (rule:∀ (i j:Int) (t u:Tok) (s:Shared) (Q:Value->Shared->Prop) (E:Value->Shared->Prop),Q (.int (g i j) s.toks) { s with toks:=s.toks+1 }->wpAny (model X.prog X.w) X.A (f (.int i t) (.int j u)) Q E s) :
  OpR X f (rI0 fun i j=>.int (g i j)):=by
 intro pins s σ H x y v u Q I rx ry h;obtain⟨i,j,rfl,rfl,q⟩:=h;obtain⟨t,rfl⟩:=rx;obtain⟨t',rfl⟩:=ry;exact rule i j t t' s _ _ ⟨.int (g i j),H,I.tok _,⟨_,rfl⟩,q⟩
theorem zp5 {f:Value->Value->Sem Value}{g:Int->Int->Bool}
  (rule:∀ (i j:Int) (t u:Tok) (s:Shared) (Q:Value->Shared->Prop) (E:Value->Shared->Prop),Q (.bool (g i j)) s->wpAny (model X.prog X.w) X.A (f (.int i t) (.int j u)) Q E s) :
  OpR X f (rI0 fun i j=>.bl (g i j)):=by
 intro pins s σ H x y v u Q I rx ry h;obtain⟨i,j,rfl,rfl,q⟩:=h;obtain⟨t,rfl⟩:=rx;obtain⟨t',rfl⟩:=ry;exact rule i j t t' s _ _ ⟨.bl (g i j),H,I,rfl,q⟩
def CDiv (i j:Int):Prop:=0<j/\j<1073741824
def zmX (i j:Int):Prop:=0<=j/\j<=1000000/\i.natAbs<2 ^ 64
def zj2 (i j:Int):Prop:=(-(2 ^ 64)<i/\i<2 ^ 64)\/(-(2 ^ 64)<j/\j<2 ^ 64)
theorem zj2.ok {i j:Int}(h:zj2 i j):IntMulOk i j:=by
 rcases h with ⟨h1,h2⟩ | ⟨h1,h2⟩
 ·exact .of_left (intBits_le_64 h1 h2)
 ·exact .of_right (intBits_le_64 h1 h2)
theorem zn6:OpR X (binaryOp .Add) (rI0 fun i j=>.int (i+j)):=opI0 fun _ _ _ _ _ _ _ q=>add_int q
theorem zod:OpR X (binaryOp .Sub) (rI0 fun i j=>.int (i - j)):=opI0 fun _ _ _ _ _ _ _ q=>sub_int q
theorem zoa:OpR X (binaryOp .Mult) (rI zj2 fun i j=>.int (i * j)):=opI fun _ _ _ _ _ _ _ hc q=>mul_int q hc.ok
theorem zlO:OpR X (binaryOp .FloorDiv) (rI CDiv fun i j=>.int (i / j)):=opI fun i j _ _ _ _ _ hc q=>by have h1:(0:Int)<j:=hc.1;have h2:j<1073741824:=hc.2;exact floordiv_int (by lia) (by rw[Int.fdiv_eq_ediv_of_nonneg i (by lia)];exact q) (.inl (PyProof.noPylong_small (by lia)))
theorem zn9:OpR X (binaryOp .Mod) (rI (fun _ j=>0<j) fun i j=>.int (i % j)):=opI fun i j _ _ _ _ _ hc q=>by have h1:(0:Int)<j:=hc;exact mod_int' (by lia) (by rw[Int.fmod_eq_emod_of_nonneg i (by lia)];exact q)
theorem zoc:OpR X (binaryOp .Pow) (rI zmX fun i j=>.int (i ^ j.toNat)):=opI fun _ _ _ _ _ _ _ hc q=>pow_int_small hc.1 hc.2.1 hc.2.2 q
end
def zrK:V->V->Bool
 | .non,.non=>true | .non,.int _=>true | .int _,.non=>true | .non,.bl _=>true | .bl _,.non=>true | .non,.str _=>true | .str _,.non=>true
 | .int _,.int _=>true | .bl _,.bl _=>true | .str _,.str _=>true | .byt _,.byt _=>true
 | .int _,.str _=>true | .str _,.int _=>true | .bl _,.str _=>true | .str _,.bl _=>true
 | _,_=>false
def rEq:R2:=fun x y H Q=>zrK x y=true/\Q (.bl (decide (x=y))) H
def rNe:R2:=fun x y H Q=>zrK x y=true/\Q (.bl (!decide (x=y))) H
theorem zgG {i j:Int}:decide (V.int i=V.int j)=(i==j):=by rw[bK];simp
theorem zkb {i j:Bool}:decide (V.bl i=V.bl j)=(i==j):=by rw[bK];simp
theorem zgH {i j:Str}:decide (V.str i=V.str j)=(i==j):=by rw[bK];simp
theorem zgF {i j:Array UInt8}:decide (V.byt i=V.byt j)=(i.toList==j.toList):=by
 rw[bK]
 simp_all
section
variable {X:Cx}{a b c:Expr}{ta tb tc:TE}{pos:Pos}
theorem zJ {pins:List (Addr×Obj)}{σ:St}{H:Hp}{s:Shared}{Q:VK}{k k':Bool}(I:Inv X pins σ H s)(q:Q (.bl k) H)(e:k=k'):EP X pins σ Q (.bool k') s:=by subst e;exact⟨.bl k,H,I,rfl,q⟩
theorem zrm:OpR X (compareOp .Eq) rEq:=by
 intro pins s σ H x y v u Q I rx ry h;obtain⟨hs,q⟩:=h
 cases x with
 | non=>
  cases rx
  cases y with
  | non=>cases ry;exact PySem.EqNone.eq_none_none (zJ I q (by simp))
  | bl j=>cases ry;exact PySem.EqNone.eq_none_bool (zJ I q (by simp))
  | int j=>obtain⟨t',rfl⟩:=ry;exact PySem.EqNone.eq_none_int (zJ I q (by simp))
  | str j=>obtain⟨t',rfl⟩:=ry;exact PySem.EqNone.eq_none_str (zJ I q (by simp))
  | _=>exact absurd (show false=true from hs) aG
 | bl i=>
  cases rx
  cases y with
  | non=>cases ry;exact PySem.EqNone.eq_bool_none (zJ I q (by simp))
  | bl j=>cases ry;exact eq_bool (zJ I q zkb)
  | str j=>obtain⟨t',rfl⟩:=ry;exact PySem.EqMixed.eq_bool_str (zJ I q (by simp))
  | _=>exact absurd (show false=true from hs) aG
 | int i=>
  obtain⟨t,rfl⟩:=rx
  cases y with
  | non=>cases ry;exact PySem.EqNone.eq_int_none (zJ I q (by simp))
  | int j=>obtain⟨t',rfl⟩:=ry;exact eq_int (zJ I q zgG)
  | str j=>obtain⟨t',rfl⟩:=ry;exact PySem.EqMixed.eq_int_str (zJ I q (by simp))
  | _=>exact absurd (show false=true from hs) aG
 | str i=>
  obtain⟨t,rfl⟩:=rx
  cases y with
  | non=>cases ry;exact PySem.EqNone.eq_str_none (zJ I q (by simp))
  | bl j=>cases ry;exact PySem.EqMixed.eq_str_bool (zJ I q (by simp))
  | int j=>obtain⟨t',rfl⟩:=ry;exact PySem.EqMixed.eq_str_int (zJ I q (by simp))
  | str j=>obtain⟨t',rfl⟩:=ry;exact eq_str (zJ I q zgH)
  | _=>exact absurd (show false=true from hs) aG
 | byt i=>
  obtain⟨t,rfl⟩:=rx
  cases y with
  | byt j=>obtain⟨t',rfl⟩:=ry;exact PySem.W.eq_bytes (zJ I q zgF)
  | _=>exact absurd (show false=true from hs) aG
 | _=>cases y <;> exact absurd (show false=true from hs) aG
theorem zrr:OpR X (compareOp .NotEq) rNe:=by
 intro pins s σ H x y v u Q I rx ry h;obtain⟨hs,q⟩:=h
 cases x with
 | non=>
  cases rx
  cases y with
  | non=>cases ry;exact PySem.EqNone.ne_none_none (zJ I q (by simp))
  | bl j=>cases ry;exact PySem.EqNone.ne_none_bool (zJ I q (by simp))
  | int j=>obtain⟨t',rfl⟩:=ry;exact PySem.EqNone.ne_none_int (zJ I q (by simp))
  | str j=>obtain⟨t',rfl⟩:=ry;exact PySem.EqNone.ne_none_str (zJ I q (by simp))
  | _=>exact absurd (show false=true from hs) aG
 | bl i=>
  cases rx
  cases y with
  | non=>cases ry;exact PySem.EqNone.ne_bool_none (zJ I q (by simp))
  | bl j=>cases ry;exact ne_bool (zJ I q (congrArg not zkb))
  | str j=>obtain⟨t',rfl⟩:=ry;exact PySem.EqMixed.ne_bool_str (zJ I q (by simp))
  | _=>exact absurd (show false=true from hs) aG
 | int i=>
  obtain⟨t,rfl⟩:=rx
  cases y with
  | non=>cases ry;exact PySem.EqNone.ne_int_none (zJ I q (by simp))
  | int j=>obtain⟨t',rfl⟩:=ry;exact ne_int (zJ I q (congrArg not zgG))
  | str j=>obtain⟨t',rfl⟩:=ry;exact PySem.EqMixed.ne_int_str (zJ I q (by simp))
  | _=>exact absurd (show false=true from hs) aG
 | str i=>
  obtain⟨t,rfl⟩:=rx
  cases y with
  | non=>cases ry;exact PySem.EqNone.ne_str_none (zJ I q (by simp))
  | bl j=>cases ry;exact PySem.EqMixed.ne_str_bool (zJ I q (by simp))
  | int j=>obtain⟨t',rfl⟩:=ry;exact PySem.EqMixed.ne_str_int (zJ I q (by simp))
  | str j=>obtain⟨t',rfl⟩:=ry;exact ne_str (zJ I q (congrArg not zgH))
  | _=>exact absurd (show false=true from hs) aG
 | byt i=>
  obtain⟨t,rfl⟩:=rx
  cases y with
  | byt j=>obtain⟨t',rfl⟩:=ry;exact PySem.W.ne_bytes (zJ I q (congrArg not zgF))
  | _=>exact absurd (show false=true from hs) aG
 | _=>cases y <;> exact absurd (show false=true from hs) aG
theorem zrq:OpR X (compareOp .Lt) (rI0 fun i j=>.bl (decide (i<j))):=zp5 fun _ _ _ _ _ _ _ q=>lt_int q
theorem zrp:OpR X (compareOp .LtE) (rI0 fun i j=>.bl (decide (i<=j))):=zp5 fun _ _ _ _ _ _ _ q=>le_int q
theorem zro:OpR X (compareOp .Gt) (rI0 fun i j=>.bl (decide (j<i))):=zp5 fun _ _ _ _ _ _ _ q=>gt_int q
theorem zrn:OpR X (compareOp .GtE) (rI0 fun i j=>.bl (decide (j<=i))):=zp5 fun _ _ _ _ _ _ _ q=>ge_int q
theorem yt (b:Expr){op:CmpOp}(h:op≠.In:=by decide)(h2:op≠.NotIn:=by decide):behindInMarks op b=false:=by
 have e1:(op==CmpOp.In)=false:=by cases op <;> first | rfl | exact absurd rfl h
 have e2:(op==CmpOp.NotIn)=false:=by cases op <;> first | rfl | exact absurd rfl h2
 cases b <;> simp[behindInMarks,e1,e2]
theorem zlU {op:CmpOp}{r:R2}(ho:OpR X (compareOp op) r)(ha:PE X a ta)(hb:PE X b tb)(hm:behindInMarks op b=false):PE X (.Compare a [op] [b] pos) (tOp r ta tb):=by intro pins s σ H Q I h;exact wpAny_Compare1 (zqm ha hb I h fun v u s2 x y H2 I2 rx ry q=>ho pins s2 σ H2 x y v u Q I2 rx ry q) hm
def zis (t:TE):TT:=fun σ H Q=>t σ H fun x H'=>∃k,x = .bl k/\Q k H'
theorem zmc {op:CmpOp}{r:R2}(ho:OpR X (compareOp op) r)(ha:PE X a ta)(hb:PE X b tb)(hm:behindInMarks op b=false):PT X (.Compare a [op] [b] pos) (zis (tOp r ta tb)):=by
 intro pins s σ H Q I h
 refine wpAny_isTrue_Compare1 (thn (ha pins s σ H _ I h) fun v s1 ⟨x,H1,I1,r1,q1⟩=>thn (hb pins s1 σ H1 _ I1 q1) fun u s2 ⟨y,H2,I2,r2,q2⟩=>
  thn (ho pins s2 σ H2 x y v u _ I2 r1 r2 q2) fun c s3 ⟨z,H3,I3,r3,k,e,q3⟩=>?_) hm
 subst e;cases r3;exact bP ⟨H3,I3,q3⟩
def zio (r r':R2)(ta tb tc:TE):TE:=fun σ H Q=>ta σ H fun x H1=>tb σ H1 fun y H2=>r x y H2 fun z H3=>∃k,z = .bl k/\
 (if k=true then tc σ H3 fun w' H4=>r' y w' H4 Q else Q (.bl false) H3)
theorem zjC {op op':CmpOp}{r r':R2}(ho:OpR X (compareOp op) r)(ho':OpR X (compareOp op') r')(ha:PE X a ta)(hb:PE X b tb)(hc:PE X c tc)
  (hm:lastMarks [op,op'] [b,c]=false:=by with_unfolding_all rfl):PT X (.Compare a [op,op'] [b,c] pos) (zis (zio r r' ta tb tc)):=by
 intro pins s σ H Q I h
 refine isTrue_chain (thn (ha pins s σ H _ I h) fun v s1 ⟨x,H1,I1,r1,q1⟩=>test_link (thn (hb pins s1 σ H1 _ I1 q1) fun u s2 ⟨y,H2,I2,r2,q2⟩=>
  thn (ho pins s2 σ H2 x y v u _ I2 r1 r2 q2) fun d s3 ⟨z,H3,I3,r3,k,e,q3⟩=>?_)) hm
 subst e;cases r3;refine bP ?_
 cases k with
 | false=>
  obtain⟨k',e',q'⟩:=q3;cases e';exact ite_ff ⟨H3,I3,q'⟩
 | true=>
  refine ite_tt (test_last (thn (hc pins s3 σ H3 _ I3 q3) fun w' s4 ⟨z',H4,I4,r4,q4⟩=>thn (ho' pins s4 σ H4 y z' u w' _ I4 r2 r4 q4)  ?_));rintro d' s5 ⟨z2,H5,I5,r5,k2,e2,q5⟩;subst e2;cases r5;exact bP ⟨H5,I5,q5⟩
theorem zhl:(sizeLine:Nat)<2 ^ 63:=by rw[bm];decide
theorem uq {x:V}{us:List Value}(r:zU [x] us):∃u,us=[u]/\yo x u:=by
 cases r with
 | cons r1 r2=>cases r2;exact⟨_,rfl,r1⟩
theorem zr7 {x y:V}{us:List Value}(r:zU [x,y] us):∃u w',us=[u,w']/\yo x u/\yo y w':=by
 cases r with
 | cons r1 r2=>
  cases r2 with
  | cons r3 r4=>cases r4;exact⟨_,_,rfl,r1,r3⟩
theorem ziD:zbO X (.builtin "abs") (fun xs H Q=>∃i,xs=[.int i]/\Q (.int (if i<0 then -i else i)) H):=by intro pins s σ H xs us Q I r h;obtain⟨i,rfl,q⟩:=h;obtain⟨u,rfl,t,rfl⟩:=uq r;exact call_abs_int fun u tk=>⟨.int (if i<0 then -i else i),H,I.tok _,⟨_,rfl⟩,q⟩
theorem zgl:zbO X (.type "int") (fun xs H Q=>(∃i,xs=[.int i]/\Q (.int i) H)\/∃k,xs=[.bl k]/\Q (.int (if k then 1 else 0)) H):=by
 intro pins s σ H xs us Q I r h;rcases h with ⟨i,rfl,q⟩ | ⟨k,rfl,q⟩
 ·obtain⟨u,rfl,t,rfl⟩:=uq r;exact call_int_int ⟨.int i,H,I,⟨_,rfl⟩,q⟩
 ·obtain⟨u,rfl,r1⟩:=uq r;cases r1;exact call_int_bool ⟨.int (if k then 1 else 0),H,I.tok _,⟨_,rfl⟩,q⟩
def zm7 (K:PySem.W.Frag)(x:V)(H:Hp)(n:Nat):Prop:=
 match x with
 | .str y=>y.length<=sizeLine/\n=y.length
 | .byt y=>y.size<=sizeLine/\n=y.size
 | .ref p=>(∃xs,SqL K H p xs/\n=xs.length)\/∃xs,SqT K H p xs/\n=xs.length
 | _=>False
theorem ziF:zbO X (.builtin "len") (fun xs H Q=>∃x n,xs=[x]/\zm7 X.K x H n/\Q (.int n) H):=by
 intro pins s σ H xs us Q I r h;obtain⟨x,n,rfl,e,q⟩:=h;obtain⟨u,rfl,rx⟩:=uq r;have hl:=zhl;have hs:sizeLine=16777216:=bm
 cases x with
 | str y=>
  obtain⟨t,rfl⟩:=rx;obtain⟨hy,e'⟩:y.length<=sizeLine/\n=y.length:=e;subst e';exact len_str (by lia) ⟨.int _,H,I.tok _,⟨_,rfl⟩,q⟩
 | byt y=>
  obtain⟨t,rfl⟩:=rx;obtain⟨hy,e'⟩:y.size<=sizeLine/\n=y.size:=e;subst e';exact PySem.W.len_bytes (by lia) ⟨.int _,H,I.tok _,⟨_,rfl⟩,q⟩
 | ref p=>
  cases rx;have e':(∃xs,SqL X.K H p xs/\n=xs.length)\/∃xs,SqT X.K H p xs/\n=xs.length:=e;rcases e' with ⟨xs,hx,e'⟩ | ⟨xs,hx,e'⟩
  ·subst e';obtain⟨its,r',pl,hz⟩:=I.list hx;have hlen:=r'.length;exact Calls.call_len_list pl.isList (by simp only[aW];lia) ⟨.int xs.length,H,I.tok _,⟨_,by simp only[aW];rw[hlen]⟩,q⟩
  ·subst e';obtain⟨its,r',pl,hz⟩:=I.tuple hx;have hlen:=r'.length;exact len_tuple pl (by simp only[aW];lia) ⟨.int xs.length,H,I.tok _,⟨_,by simp only[aW];rw[hlen]⟩,q⟩
 | _=>exact (show False from e).elim
end
structure ObjM (h:Heap)(x dx C:Addr)(mA:Str->Option Value):Prop where
 obj:h.get? x=some (PySem.W.instObj C dx)
 ns:h.Ns1 dx mA
 ne:dx≠x
theorem zho {h:Heap}{dx:Addr}{mA:Str->Option Value}(n:h.Ns1 dx mA):∃od,h.get? dx=some od/\∀name,PySem.W.lookIn name od=some (mA name):=by
 obtain⟨o,es,ep,ho,hd,hk,_,hm⟩:=n;refine⟨o,ho,fun name=>?_⟩;have e:=hm name;unfold nsFind findBy at e;rw[<- Array.find?_toList] at e;unfold PySem.W.lookIn;rw[hd];dsimp only;split
 ·simp_all
 ·rename_i q;rw[q] at e
  have a:es.toList.any (·.refKey)=false:=by rw[List.any_eq_false];intro y hy;obtain⟨z,t,hkey⟩:=hk y (dG.mp hy);simp[DictEntry.refKey,hkey]
  grind
theorem ObjM.look {h:Heap}{x dx C:Addr}{mA:Str->Option Value}(I:ObjM h x dx C mA):∃od,PySem.W.InstAt h x (PySem.W.instObj C dx) C (some od)/\∀name,PySem.W.lookIn name od=some (mA name):=
 let ⟨od,ho,hl⟩:=zho I.ns
 ⟨od,⟨I.obj,rfl,rfl,ho⟩,hl⟩
section
variable {prog:Program}{w:World}{A:Around}{E:Value->Shared->Prop}{s:Shared}{K:PySem.W.Frag}{x dx C f:Addr}{mA:Str->Option Value}{name:Str}{v:Value}
end
theorem zge.some_of {v:V}{o:Option Value}(r:zge (some v) o):∃u,o=some u/\yo v u:=by
 cases o with
 | none=>exact (show False from r).elim
 | some u=>exact⟨u,rfl,r⟩
section
variable {P:Program}{w:World}{H H':Hp}{h h':Heap}{a C dx:Addr}{fs fs':List (Str×V)}
theorem zln (hok:HOk P w H h)(e:H a=some (.ins C dx fs)):∃mA,ObjM h a dx C mA/\(∀f,zge (fs.lookup f) (mA f))/\PySem.Within mA (fs.map (·.1))/\fs.length<=1000/\H dx=some (.own a):=by obtain⟨d,z,ne,ob,mA,n,r,q⟩:=(show zW P w H h a (.ins C dx fs) from hok a _ e);exact⟨mA,⟨ob,n,ne⟩,r,q,z,d⟩
end
structure Cls (K:PySem.W.Frag)(C:Addr):Prop where
 pg:PySem.W.plainGet K C Str.empty=true
 hd:PySem.W.hasDictIn K C=true
 po:PySem.W.plainOver K C=true
 sa:PySem.W.findIn K (.ref C) "__setattr__" = some (some (.builtin "object.__setattr__"))
theorem Cls.get {K:PySem.W.Frag}{C:Addr}(c:Cls K C)(f:Str):PySem.W.plainGet K C f=true:=c.pg
section
variable {X:Cx}{pins:List (Addr×Obj)}{σ:St}{H:Hp}{s:Shared}{a C dx:Addr}{fs:List (Str×V)}{f:Str}{v:V}{A:Around}{E:Value->Shared->Prop}
end
section
variable {X:Cx}{o e value:Expr}{f:Str}{pos pos' tpos:Pos}{ta tv:TE}
end
section
variable {X:Cx}{pins:List (Addr×Obj)}{σ:St}{H:Hp}{s:Shared}{A:Around}{E:Value->Shared->Prop}{Q:Value->Shared->Prop}{c:Value}{b:Bool}
inductive TyOf (K:PySem.W.Frag) (H:Hp):V->Value->Prop where
 | non:TyOf K H .non (.type "NoneType")
 | bl (x:Bool):TyOf K H (.bl x) (.type "bool")
 | int (i:Int):TyOf K H (.int i) (.type "int")
 | str (x:Str):TyOf K H (.str x) (.type "str")
 | flt (x:UInt64):TyOf K H (.flt x) (.type "float")
 | lst {a:Addr} {xs:List V} (e:H a=some (.lst xs)):TyOf K H (.ref a) (.type "list")
 | frz {a:Addr} {o:Obj} {xs:List V} (e:H a=some (.frz o (.lst xs))):TyOf K H (.ref a) (.type "list")
 | tup {a:Addr} {xs:List V} (e:H a=some (.tup xs)):TyOf K H (.ref a) (.type "tuple")
 | dK {a:Addr} {kvs:List (Key×V)} (e:H a=some (.dK kvs)):TyOf K H (.ref a) (.type "dict")
 | dT {a:Addr} {kvs:List (List Key×V)} (e:H a=some (.dT kvs)):TyOf K H (.ref a) (.type "dict")
 | ins {a C dx:Addr} {fs:List (Str×V)} (e:H a=some (.ins C dx fs)) (cl:Cls K C) (ha:PySem.W.findIn K (.ref C) "__class__" = some (some (.builtin "object.__class__")))
   (hn:PySem.W.specialIn K (.builtin "object.__class__") "__get__" = some (some (.builtin "getset_descriptor.__get__"))) (htk:PySem.W.takesIn K (.builtin "object.__class__")=some true)
   (hm:PySem.W.mroIn K C (.type "object")=some true):TyOf K H (.ref a) (.ref C)
theorem zg3 {x:V}{u t:Value}(I:Inv X pins σ H s)(rx:yo x u)(ty:TyOf X.K H x t)(e:PySem.W.kitOne X.K t c=some b)(h:∀tk,Q (.bool b) { s with toks:=tk }) :
  wpAny (model X.prog X.w) A (call (.builtin "isinstance") [u,c]) Q E s:=by
 cases ty with
 | non=>cases (show u=Value.none from rx);exact bp PySem.W.kitx_none I.kIn True.intro e (fun z=>nomatch z) h
 | bl y=>cases (show u=Value.bool y from rx);exact bp PySem.W.kitx_bool I.kIn True.intro e (fun z=>nomatch z) h
 | int i=>obtain⟨t,q⟩:=(show ∃t,u=Value.int i t from rx);cases q;exact bp PySem.W.kitx_int I.kIn True.intro e (fun z=>nomatch z) h
 | str y=>obtain⟨t,q⟩:=(show ∃t,u=Value.str y t from rx);cases q;exact bp PySem.W.kitx_str I.kIn True.intro e (fun z=>nomatch z) h
 | flt y=>obtain⟨t,q⟩:=(show ∃t,u=Value.float y t from rx);cases q;exact bp PySem.W.kitx_float I.kIn True.intro e (fun z=>nomatch z) h
 | @lst a xs ea=>
  cases (show u=Value.ref a from rx);obtain⟨_,_,n,_,h1⟩:=(show zW X.prog X.w H s.heap a (.lst xs) from I.hok a _ ea);exact bp PySem.W.kitx_list I.kIn ⟨_,h1,rfl⟩ e (fun z=>nomatch z) h
 | @frz a ob xs ea=>
  cases (show u=Value.ref a from rx);obtain⟨_,_,_,n,_,h1⟩:=(show zW X.prog X.w H s.heap a (.frz ob (.lst xs)) from I.hok a _ ea);exact bp PySem.W.kitx_list I.kIn ⟨_,h1,rfl⟩ e (fun z=>nomatch z) h
 | @tup a xs ea=>
  cases (show u=Value.ref a from rx);obtain⟨_,_,_,p⟩:=(show zW X.prog X.w H s.heap a (.tup xs) from I.hok a _ ea);obtain⟨o,h1,h2,_⟩:=p;exact bp PySem.W.kitx_tuple I.kIn ⟨o,h1,h2⟩ e (fun z=>nomatch z) h
 | @dK a kvs ea=>
  cases (show u=Value.ref a from rx);obtain⟨_,_,vs,_,p⟩:=(show zW X.prog X.w H s.heap a (.dK kvs) from I.hok a _ ea);obtain⟨o,es,ep,h1,h2,_⟩:=p;exact bp PySem.W.kitx_dict I.kIn ⟨o,h1,h2.1⟩ e (fun z=>nomatch z) h
 | @dT a kvs ea=>
  cases (show u=Value.ref a from rx);obtain⟨_,_,xs,_,o,es,ep,h1,h2,_⟩:=(show zW X.prog X.w H s.heap a (.dT kvs) from I.hok a _ ea);exact bp PySem.W.kitx_dict I.kIn ⟨o,h1,h2.1⟩ e (fun z=>nomatch z) h
 | @ins a C dx fs ea cl ha hn htk hm=>
  cases (show u=Value.ref a from rx);obtain⟨mA,O,_⟩:=zln I.hok ea;obtain⟨od,J,_⟩:=O.look;exact bp (PySem.W.kitx_own (cl.get _) cl.hd ha hn htk hm) I.kIn J e (fun z=>nomatch z) h
end
structure Room (k:Nat)(A:Around):Prop where
 hd:A.handled=none
 dp:A.depth+3 * k+5<recursionLimit
 un:A.units+16 * k+200<cLine
 gd:A.guards=some []:=by rfl
theorem Room.mono {j k:Nat}{A:Around}(r:Room k A)(h:j<=k):Room j A:=⟨r.hd,by have:=r.dp;lia,by have:=r.un;lia,r.gd⟩
theorem Room.deeper {k:Nat}{A:Around}(r:Room (k+1) A)(env:Env):Room k (A.deeper env):=
 ⟨r.hd,by have:=r.dp;show A.depth+1+3 * k+5<_;lia,by have:=r.un;show A.units+3+16 * k+200<_;lia,r.gd⟩
theorem Room.depth {k:Nat}{A:Around}(r:Room k A):A.depth<recursionLimit:=by have:=r.dp;lia
theorem Room.units {k:Nat}{A:Around}(r:Room k A):A.units+64<cLine:=by have:=r.un;lia
def zkF:TA:=fun _ H Q=>Q [] H
def zcU (ta:TE)(tr:TA):TA:=fun σ H Q=>ta σ H fun x H1=>tr σ H1 fun xs H2=>Q (x::xs) H2
section
variable {X:Cx}{e:Expr}{es:List Expr}{te:TE}{t:TA}{pos:Pos}
theorem zoj:PA X [] zkF:=fun _ _ _ _ H Q I h=>Calls.spliced_nil ⟨[],H,I,.nil,h⟩
theorem zlR (ha:PE X e te)(hr:PA X es t)(hs:starEach (e::es) X.env=(false,eval e X.env)::starEach es X.env:=by rfl):PA X (e::es) (zcU te t):=by intro pos pins s σ H Q I h;rw[hs];show wpAny _ _ (spliced ((false,eval e X.env)::backTo pos (starEach es X.env))) _ _ s;refine Calls.spliced_cons (thn (ha pins s σ H _ I h)  ?_);rintro u s1 ⟨x,H1,I1,r1,q1⟩;exact thn (hr pos pins s1 σ H1 _ I1 q1) <| by rintro us s2 ⟨xs,H2,I2,r2,q2⟩;exact⟨x::xs,H2,I2,.cons r1 r2,q2⟩
end
abbrev Sp:=List V->Hp->VK->XK->Prop
abbrev CXT:=List Env->Hp->Shared->XK->Value->Shared->Prop
structure Env0 (P:Program)(w:World)(K:PySem.W.Frag)(mg:Str->Option Value)(base:Heap)(A:Around)(outer:List Env)(s:Shared)(H:Hp):Prop where
 frames:A.frames=some outer
 mod:Mod K mg base
 bs:∀b o,base.get? b=some o->s.heap.get? b=some o/\H b=none
 bsz:base.objs.size<=s.heap.objs.size
 funs:s.heap.FunFrames base outer
 frf:∀b∈frs outer,H b=none
 hok:HOk P w H s.heap
 bare:AllBare s.gens
def CE (outer:List Env)(P:Program)(w:World)(H:Hp)(s:Shared)(Q:VK)(u:Value)(s':Shared):Prop:=
 ∃v H',s'.os=s.os/\AllBare s'.gens/\Un (frs outer) [] H H' s.heap s'.heap/\HOk P w H' s'.heap/\yo v u/\Q v H'
def CR (CX:CXT)(outer:List Env)(P:Program)(w:World)(H:Hp)(s:Shared)(Q:VK)(E:XK)(r:Result)(s':Shared):Prop:=
 match r with
 | .ok (.ret u)=>CE outer P w H s Q u s'
 | .ok _=>False
 | .error e=>CX outer H s E e s'
structure FnOk (P:Program)(w:World)(K:PySem.W.Frag)(mg:Str->Option Value)(base:Heap)(CX:CXT)(k:Nat)(f:Addr)(fd:FuncData)(ps:List Str)(sp:Sp):Prop where
 len:∀vs H Q E,sp vs H Q E->vs.length=ps.length
 run:∀ (A:Around) (outer:List Env) (s:Shared) (H:Hp) (args:Args) (us:List Value) (vs:List V) (Q:VK) (E:XK),Room k A->Env0 P w K mg base A outer s H->BindsTo s fd args (ps.zip us)->zU vs us->sp vs H Q E->
  codeAny (model P w) A (.call (.ref f) args) (CR CX outer P w H s Q E) s
theorem FnOk.mono {P:Program}{w:World}{K:PySem.W.Frag}{mg:Str->Option Value}{base:Heap}{CX:CXT}{j k:Nat}{f:Addr}{fd:FuncData}{ps:List Str}{sp:Sp}(F:FnOk P w K mg base CX j f fd ps sp)(h:j<=k) :
  FnOk P w K mg base CX k f fd ps sp:=⟨F.len,fun A outer s H args us vs Q E hr=>F.run A outer s H args us vs Q E (hr.mono h)⟩
theorem FnOk.imp {P:Program}{w:World}{K:PySem.W.Frag}{mg:Str->Option Value}{base:Heap}{CX:CXT}{k:Nat}{f:Addr}{fd:FuncData}{ps:List Str}{sp sp':Sp}(F:FnOk P w K mg base CX k f fd ps sp)
  (h:∀vs H Q E,sp' vs H Q E->sp vs H Q E):FnOk P w K mg base CX k f fd ps sp':=
 ⟨fun vs H Q E q=>F.len vs H Q E (h _ _ _ _ q),fun A outer s H args us vs Q E hr he hb hv hs=>F.run A outer s H args us vs Q E hr he hb hv (h _ _ _ _ hs)⟩
section
variable {X:Cx}{pins:List (Addr×Obj)}{σ:St}{H:Hp}{s s':Shared}
theorem Inv.env0 (I:Inv X pins σ H s):Env0 X.prog X.w X.K X.mg X.base X.A X.stack s H:=
 ⟨I.ok.frames,I.ok.mod,I.bs,ao I.ok.bsz I.sz,I.stack,I.stkFree,I.hok,I.bare⟩
theorem Inv.after {Q:VK}{u:Value}(I:Inv X pins σ H s)(h:CE X.stack X.prog X.w H s Q u s'):EP X pins σ Q u s':=by obtain⟨v,H',os,bare,un,hok,r,q⟩:=h;obtain⟨hh,g,d,t,os'⟩:=s';obtain rfl:os'=s.os:=os;exact⟨v,H',I.call (h':=hh) (g':=g) (d':=d) (t':=t) (ch:=[]) un hok bare (fun b z=>absurd z (by simp)),r,q⟩
end
def zeH (sp:Sp)(dvs:List V)(E:XK)(t:TA):TE:=fun σ H Q=>t σ H fun vs H1=>sp (vs++dvs) H1 Q E
def zfA (K:PySem.W.Frag)(fd:FuncData)(ps:List Str)(ds:List Value):Prop:=
 ∀ (s:Shared) (us:List Value),K.In s.heap->(us++ds).length=ps.length->BindsTo s fd ⟨us,[]⟩ (ps.zip (us++ds))
theorem zfA.all {K:PySem.W.Frag}{fd:FuncData}{ps:List Str}(h:∀us:List Value,us.length=ps.length->bindArgs fd ⟨us,[]⟩=pure (ps.zip us)):zfA K fd ps []:=fun s us _ hl=>by rw[dM] at hl ⊢;exact .of_eq (h us hl)
def zgd (CX:CXT)(X:Cx)(E:XK):Prop:=∀ (pins:List (Addr×Obj)) (σ:St) (H:Hp) (s:Shared) (e:Value) (s':Shared),Inv X pins σ H s->CX X.stack H s E e s'->X.xe e s'
section
variable {X:Cx}{CX:CXT}{k:Nat}{f C:Addr}{fd:FuncData}{ps:List Str}{sp:Sp}{dvs:List V}{ds:List Value}{E:XK}{x m:Str}{p pos apos:Pos}{e o:Expr}{es:List Expr}{ta:TE}{t:TA}
theorem zpe {pins:List (Addr×Obj)}{σ:St}{H:Hp}{s:Shared}{Q:VK}{us:List Value}{vs:List V}(F:FnOk X.prog X.w X.K X.mg X.base CX k f fd ps sp)(hr:Room k X.A)(hb:zfA X.K fd ps ds)(hd:zU dvs ds)(hx:zgd CX X E)
  (I:Inv X pins σ H s) (r:zU vs us) (h:sp (vs++dvs) H Q E):wpAny (model X.prog X.w) X.A (call (.ref f) us) (EP X pins σ Q) X.xe s:=by
 have r2:zU (vs++dvs) (us++ds):=r.append hd;have hl:(us++ds).length=ps.length:=by rw[<- r2.length];exact F.len _ _ _ _ h
 refine wpAny_call (eI (F.run X.A X.stack s H ⟨us,[]⟩ (us++ds) (vs++dvs) Q E hr I.env0 (hb s us I.kIn hl) r2 h) fun r s' hq=>?_)
 cases r with
 | error e=>exact hx pins σ H s e s' I hq
 | ok fl=>
  cases fl with
  | ret u=>exact I.after hq
  | next=>exact False.elim hq
  | brk=>exact False.elim hq
  | cont=>exact False.elim hq
theorem zlT (F:FnOk X.prog X.w X.K X.mg X.base CX k f fd ps sp)(hr:Room k X.A)(hg:Gl X x)(hm:X.mg x=some (.ref f))(hk:PySem.W.keepIn X.K (.ref f)=true)(hb:zfA X.K fd ps ds)(hd:zU dvs ds)(hx:zgd CX X E)
  (ha:PA X (e::es) t) (hdb:(x==("__debug__" : Str))=false:=by decide) (he:starEach (e::es) X.env=(false,eval e X.env)::starEach es X.env:=by rfl) (hpl:(backTo pos (starEach es X.env)).any (·.1)=false:=by rfl) :
  PE X (.Call (.Name x p) (e::es) [] pos) (zeH sp dvs E t):=by
 intro pins s σ H Q I h;refine dW (zhe I hg hm ?_ hdb);refine PySem.W.callWith_K (h₀:=X.base) I.ok.mod.kin hk (thn (ha pos pins s σ H _ I h) fun us s1 ⟨vs,H1,I1,r,q⟩=>⟨I1.kIn,?_⟩) he hpl;exact zpe F hr hb hd hx I1 r q
end
section
variable {X:Cx}{CX:CXT}{k:Nat}{f C:Addr}{fd:FuncData}{ps ks:List Str}{sp:Sp}{E:XK}{x m:Str}{p pos apos kpos:Pos}{e o:Expr}{es:List Expr}{kws:List Keyword}{te ta:TE}{t tk:TA}{nm:Option Str}
variable {g:List Value->List Value->List Value}{gV:List V->List V->List V}
end
structure FnScope (N P:List Str)(sc:Scope):Prop where
 kind:sc.kind = .function
 co:sc.isCoroutine=false
 gen:sc.isGenerator=false
 nd:N.Nodup
 pre:N.take P.length=P
 par:∀x∈P,sc.names.lookup x=some .local\/sc.names.lookup x=some .cell
 nofree:∀y∈sc.names,y.2≠.free
theorem zc3 {kindOf:Str->Option NameKind}{x:Str}:∀ {binds:List (Str×Value)} {m:Str->Option Value},(∀v,(x,v)∉binds)->bindL kindOf binds m x=m x
 | [],_,_=>rfl
 | (n,v)::r,m,h=>by
  unfold bindL;rw[zc3 fun w hw=>h w (ak _ hw)];split
  all_goals grind
theorem zc1 {kindOf:Str->Option NameKind}{x:Str}:∀ {binds:List (Str×Value)} {m:Str->Option Value},(∀v,(x,v)∉binds)->bindC kindOf binds m x=m x
 | [],_,_=>rfl
 | (n,v)::r,m,h=>by
  unfold bindC;rw[zc1 fun w hw=>h w (ak _ hw)];split
  all_goals grind
theorem zc2 {kindOf:Str->Option NameKind}{x:Str}{v:Value}:∀ {P:List Str} {vs:List Value} {i:Nat} {m:Str->Option Value},P.Nodup->P[i]?=some x->vs[i]?=some v->kindOf x=some .local->
  bindL kindOf (P.zip vs) m x=some v
 | [],_,_,_,_,h,_,_=>by simp at h
 | _::_,[],_,_,_,_,h,_=>by simp at h
 | p::P,w::vs,0,m,nd,h1,h2,hk=>by simp at h1 h2;subst h1;subst h2;show bindL kindOf ((p,w)::P.zip vs) m p=_;unfold bindL;rw[zc3 fun v hv=>(bT.mp nd).1 (List.of_mem_zip hv).1,if_pos hk];simp
 | p::P,w::vs,i+1,m,nd,h1,h2,hk=>by show bindL kindOf ((p,w)::P.zip vs) m x=_;unfold bindL;exact zc2 (i:=i) (bT.mp nd).2 (by simpa using h1) (by simpa using h2) hk
theorem zc0 {kindOf:Str->Option NameKind}{x:Str}{v:Value}:∀ {P:List Str} {vs:List Value} {i:Nat} {m:Str->Option Value},P.Nodup->P[i]?=some x->vs[i]?=some v->kindOf x≠some .local->
  bindC kindOf (P.zip vs) m x=some v
 | [],_,_,_,_,h,_,_=>by simp at h
 | _::_,[],_,_,_,_,h,_=>by simp at h
 | p::P,w::vs,0,m,nd,h1,h2,hk=>by simp at h1 h2;subst h1;subst h2;show bindC kindOf ((p,w)::P.zip vs) m p=_;unfold bindC;rw[zc1 fun v hv=>(bT.mp nd).1 (List.of_mem_zip hv).1,if_neg hk];simp
 | p::P,w::vs,i+1,m,nd,h1,h2,hk=>by show bindC kindOf ((p,w)::P.zip vs) m x=_;unfold bindC;exact zc0 (i:=i) (bT.mp nd).2 (by simpa using h1) (by simpa using h2) hk
def xF (N:List Str)(vs:List V):St:=vs.map some++List.replicate (N.length - vs.length) none
def zdO (CX:CXT)(P:Program)(w:World)(K:PySem.W.Frag)(mg:Str->Option Value)(base:Heap)(N:List Str)(qual:Str)(scope:Scope)(f:Addr)(cd:Value)(A:Around)(outer:List Env)(s:Shared)(H:Hp)(E:XK):Cx where
 prog:=P
 w:=w
 K:=K
 mg:=mg
 base:=base
 A:=A.deeper (envOfC qual scope s.heap.objs.size f cd)
 N:=N
 s₀:=s
 H₀:=H
 env:=envOfC qual scope s.heap.objs.size f cd
 outer:=outer
 stack:=envOfC qual scope s.heap.objs.size f cd::outer
 ex:=[]
 calm:=true
 fn:=fun _=>true
 pn:=[]
 xe:=fun e s'=>wpAny (model P w) (A.deeper (envOfC qual scope s.heap.objs.size f cd)) (leaving (envOfC qual scope s.heap.objs.size f cd) e) (fun _ s''=>CX outer H s E e s'') (fun e' s''=>CX outer H s E e' s'') s'
theorem zeT {sc:Scope}{n:Nat}{x:Str}(h:sc.names.lookup x=some .cell):∃c,(cellsFrom n sc.names []).lookup x=some c:=by have q:=PySem.W.cellsFrom_some sc.names n [] (.inl h);exact Option.isSome_iff_exists.mp q
theorem zgY {CX:CXT}{P:Program}{w:World}{K:PySem.W.Frag}{mg:Str->Option Value}{base:Heap}{N ps:List Str}{qual:Str}{scope:Scope}{f:Addr}{cd:Value}{A:Around}{outer:List Env}{s s1:Shared}{H:Hp}{E:XK}{us:List Value}{vs:List V}
  (S:FnScope N ps scope) (hd:A.handled=none) (e0:Env0 P w K mg base A outer s H) (hl:vs.length=ps.length) (r:zU vs us)
  (x:InCallC s s.heap.objs.size (bindL (envOfC qual scope s.heap.objs.size f cd).kindOf (ps.zip us) fun _=>none) (cellsFrom (s.heap.objs.size+1) scope.names []) (bindC (envOfC qual scope s.heap.objs.size f cd).kindOf (ps.zip us) fun _=>none) s1) :
  Inv (zdO CX P w K mg base N qual scope f cd A outer s H E) [] (xF N vs) H s1:=by
 have hpl:ps.length<=N.length:=by have:=congrArg List.length S.pre;rw[aQ] at this;lia
 obtain⟨h1,tk,rfl,hk⟩:=x.done;have noA:∀b:Addr,b∉(zdO CX P w K mg base N qual scope f cd A outer s H E).ex:=fun b z=>absurd (show b∈([]:List Addr) from z) (by simp)
 refine⟨⟨e0.mod,S.kind,rfl,rfl,ai _,fun y z c h1 h2=>?_,fun y hy=>?_,fun y c _ h=>?_,fun _=>hd,Around.frames_deeper e0.frames,.inr ⟨rfl,rfl⟩,fun b z=>absurd z (noA b),e0.bs,e0.bsz,fun b _ _=>noA b,fun b z=>absurd z (noA b),e0.funs,e0.frf⟩,
  rfl,e0.bare,Un.kept hk,⟨_,x.toInCall.ns,fun i y v h1 h2 h3=>?_⟩,fun y c h=>⟨_,x.cell y c h⟩,e0.hok.fresh (ai _),fun y c h=>?_,fun p hp=>absurd (show p∈([]:List (Addr×Obj)) from hp) (by simp),e0.hok.kept hk,?_⟩
 ·exact name_of_addr x.apart (ci h1) (ci h2)
 ·have hy:scope.names.lookup y=some .cell\/scope.names.lookup y=some .free:=hy;rcases hy with hy | hy
  ·exact zeT hy
  ·exact absurd rfl (S.nofree _ (ci hy))
 ·exact cS (x.above y c (ci h))
 ·have hi:i<vs.length:=by
   unfold xF at h2;by_cases hi:i<vs.length
   ·exact hi
   ·rw[bg (by simpa using hi)] at h2;rw[List.getElem?_replicate] at h2
    simp_all
  have ha:vs[i]?=some v:=by
   unfold xF at h2;rw[bq (by simpa using hi),aA] at h2
   simp_all
  obtain⟨u,hu,rv⟩:=r.get ha
  have hp:ps[i]?=some y:=by rw[<- S.pre,cT (by lia)];exact h1
  have ndP:ps.Nodup:=by rw[<- S.pre];exact S.nd.sublist (cG _ _)
  refine⟨u,rv,?_⟩;rcases S.par y (aw hp) with k | k
  ·exact .inl ⟨k,zc2 ndP hp hu k⟩
  ·obtain⟨c,e⟩:=zeT (n:=s.heap.objs.size+1) k;refine .inr ⟨.inl k,c,e,?_⟩;have q:=x.cell y c e;rw[zc0 ndP hp hu (by show scope.names.lookup y≠_;rw[k];decide)] at q;exact q
 ·exact e0.hok.fresh (cS (x.above y c (ci h)))
 ·unfold xF;show _=N.length
  grind
theorem zqQ {CX:CXT}{P:Program}{w:World}{K:PySem.W.Frag}{mg:Str->Option Value}{base:Heap}{k:Nat}{f:Addr}{name qual:Str}{params:Arguments}{body:List Stmt}{scope:Scope}{dV kV doc pm cdv ct oc:Value}{an od:Option Addr}
  {osl:Array (Option Value)} {N ps:List Str} {sp:Sp} (lk:K.lookup f=some ⟨oc,od,.func (PySem.W.fnOf name qual params body scope dV kV doc pm an cdv ct),osl⟩) (hcd:PySem.W.codeIn K cdv qual=true) (S:FnScope N ps scope)
  (len:∀vs H Q E,sp vs H Q E->vs.length=ps.length)
  (hbody:∀ (A:Around) (outer:List Env) (s:Shared) (H:Hp) (vs:List V) (Q:VK) (E:XK),Room k (A.deeper (envOfC qual scope s.heap.objs.size f cdv))->sp vs H Q E->
   ∃t,PSs (zdO CX P w K mg base N qual scope f cdv A outer s H E) body t/\t { nx:=fun _ H'=>Q .non H',rt:=Q } (xF N vs) H) :
  FnOk P w K mg base CX (k+1) f (PySem.W.fnOf name qual params body scope dV kV doc pm an cdv ct) ps sp:=by
 refine⟨len,fun A outer s H args us vs Q E hr e0 hb r hsp=>?_⟩;have hl:=len _ _ _ _ hsp;have KX:K.In s.heap:=e0.mod.kin.keeps fun b o e=>(e0.bs b o e).1;have lim:s.heap.NoLimit:=e0.mod.nolimit.keeps fun b o e=>(e0.bs b o e).1
 have hkind:∀y∈ps.zip us,scope.names.lookup y.1=some .local\/(scope.names.lookup y.1=some .cell/\((cellsFrom (s.heap.objs.size+1) scope.names []).lookup y.1).isSome=true):=by
  rintro⟨n,v⟩ hy;rcases S.par n (List.of_mem_zip hy).1 with q | q
  ·exact .inl q
  ·exact .inr ⟨q,PySem.W.cellsFrom_some _ _ _ (.inl q)⟩
 refine codeAny_call_function hr.depth (KX _ _ lk) rfl S.co S.gen rfl (PySem.W.codeRec_of KX hcd) (hb _ _ _ _ ?_);refine wpAny_newFunctionEnv_cells S.kind hkind fun env he s1 x=>?_;subst he;refine⟨lim.keeps x.toInCall.keep,codeAny_func ?_⟩;obtain⟨t,ht,hq⟩:=hbody A outer s H vs Q E (hr.deeper _) hsp;have I:Inv (zdO CX P w K mg base N qual scope f cdv A outer s H E) [] (xF N vs) H s1:=zgY S hr.hd e0 hl r x;refine bn (ht [] s1 (xF N vs) H _ I hq) (fun fl s' hs=>?_) fun e s' hs=>hs
 have fin:∀ {σ':St} {H':Hp} {v:V} {u:Value},Inv (zdO CX P w K mg base N qual scope f cdv A outer s H E) [] σ' H' s'->yo v u->Q v H'->CE outer P w H s Q u s':=
  fun {σ' H' v u} J rv q=>⟨v,H',J.os,J.bare,J.base,J.hok,rv,q⟩
 cases fl with
 | ret u=>
  obtain⟨v,σ',H',J,rv,q⟩:=hs;exact fin J rv q
 | next=>
  obtain⟨σ',H',J,q⟩:=hs;exact fin (v:=V.non) (u:=Value.none) J rfl q
 | brk=>
  obtain⟨_,_,_,q⟩:=hs;exact False.elim q
 | cont=>
  obtain⟨_,_,_,q⟩:=hs;exact False.elim q
section
variable {X:Cx}{x:Str}{p pos:Pos}{e:Expr}{es:List Expr}{t:TA}{id T:String}{r:List V->Hp->VK->Prop}
def tCB (r:List V->Hp->VK->Prop)(t:TA):TE:=fun σ H Q=>t σ H fun vs H1=>r vs H1 Q
theorem zjs (hc:zbO X (.builtin id) r)(hg:Gl X x)(hm:X.mg x=none)(hv:bootBuiltins x=some (.builtin id))(ha:PA X (e::es) t)(hn:x ≠ "__name__" := by decide)(hdb:(x==("__debug__" : Str))=false:=by decide)
  (he:starEach (e::es) X.env=(false,eval e X.env)::starEach es X.env:=by rfl) (hpl:(backTo pos (starEach es X.env)).any (·.1)=false:=by rfl):PE X (.Call (.Name x p) (e::es) [] pos) (tCB r t):=by
 intro pins s σ H Q I h;refine dW (zdh I hg hm hv ?_ hn hdb);exact PyProof.Rows.callWith_builtin1 (thn (ha pos pins s σ H _ I h) <| by rintro us s1 ⟨vs,H1,I1,r1,q1⟩;exact hc pins s1 σ H1 vs us Q I1 r1 q1) he hpl
theorem zhM (hc:zbO X (.type T) r)(hg:Gl X x)(hm:X.mg x=none)(hv:bootBuiltins x=some (.type T))(ha:PA X (e::es) t)(hn:x ≠ "__name__" := by decide)(hdb:(x==("__debug__" : Str))=false:=by decide)
  (he:starEach (e::es) X.env=(false,eval e X.env)::starEach es X.env:=by rfl) (hpl:(backTo pos (starEach es X.env)).any (·.1)=false:=by rfl):PE X (.Call (.Name x p) (e::es) [] pos) (tCB r t):=by
 intro pins s σ H Q I h;refine dW (zdh I hg hm hv ?_ hn hdb);exact cC (thn (ha pos pins s σ H _ I h) <| by rintro us s1 ⟨vs,H1,I1,r1,q1⟩;exact hc pins s1 σ H1 vs us Q I1 r1 q1) he hpl
end
section
variable {κ:Type}[DecidableEq κ]
def uI (kvs:List (κ×V))(k:κ):Option V:=(kvs.find? fun kv=>decide (kv.1=k)).map (·.2)
def zaL (kvs:List (κ×V))(k:κ)(v:V):List (κ×V):=
 if (kvs.any fun kv=>decide (kv.1=k))=true then kvs.map (fun kv=>if kv.1=k then (kv.1,v) else kv) else kvs++[(k,v)]
theorem yc {p:κ×V}{r:List (κ×V)}{k:κ}(e:p.1=k):uI (p::r) k=some p.2:=by simp[uI,cD,e]
theorem yb {p:κ×V}{r:List (κ×V)}{k:κ}(e:¬ p.1=k):uI (p::r) k=uI r k:=by simp[uI,cD,e]
theorem zaZ (k:κ):∀kvs:List (κ×V),(kvs.any fun kv=>decide (kv.1=k))=(uI kvs k).isSome
 | []=>rfl
 | p::r=>by
  rw[cj];by_cases e:p.1=k
  ·simp only[yc e,aK e,Bool.true_or,Option.isSome_some]
  ·rw[yb e,aS e,Bool.false_or];exact zaZ k r
theorem zfz (k j:κ)(y:V):∀kvs:List (κ×V),uI (kvs.map fun kv=>if kv.1=k then (kv.1,y) else kv) j=(uI kvs j).map fun x=>if j=k then y else x
 | []=>rfl
 | p::r=>by
  have ih:=zfz k j y r;rw[av];by_cases h:p.1=k
  ·rw[if_pos h];by_cases e:p.1=j
   ·rw[yc (p:=(p.1,y)) e,yc e,Option.map_some,if_pos (e.symm.trans h)]
   ·rw[yb (p:=(p.1,y)) e,yb e,ih]
  ·rw[if_neg h];by_cases e:p.1=j
   ·rw[yc (p:=p) e,yc e,Option.map_some,if_neg (fun z=>h (e.trans z))]
   ·rw[yb (p:=p) e,yb e,ih]
theorem zdJ (k j:κ)(y:V):∀kvs:List (κ×V),uI kvs k=none->uI (kvs++[(k,y)]) j=if j=k then some y else uI kvs j
 | [],_=>by
  by_cases e:k=j
  ·rw[if_pos e.symm];exact yc (p:=(k,y)) e
  ·rw[if_neg (fun z=>e z.symm)];exact yb (p:=(k,y)) e
 | p::r,hn=>by
  rw[List.cons_append];have hk:¬ p.1=k:=fun z=>by rw[yc z] at hn;cases hn
  rw[yb hk] at hn;have ih:=zdJ k j y r hn;by_cases e:p.1=j
  ·rw[yc e,yc e,if_neg (fun z=>hk (e.trans z))]
  ·rw[yb e,yb e,ih]
theorem zjZ (kvs:List (κ×V))(k j:κ)(y:V):uI (zaL kvs k y) j=if j=k then some y else uI kvs j:=by
 unfold zaL;by_cases a:(kvs.any fun kv=>decide (kv.1=k))=true
 ·rw[if_pos a,zfz];rw[zaZ] at a;by_cases e:j=k
  ·obtain⟨x,hx⟩:=Option.isSome_iff_exists.mp a
   grind
  ·simp_all
 ·rw[if_neg a];refine zdJ k j y kvs ?_;rw[zaZ] at a
  simp_all
theorem uG (kvs:List (κ×V))(k:κ)(v:V):(zaL kvs k v).length<=kvs.length+1:=by
 unfold zaL;split
 all_goals simp_all
theorem zge.isSome_eq {o:Option V}{u:Option Value}(r:zge o u):o.isSome=u.isSome:=by
 cases o with
 | none=>cases u with
  | none=>rfl
  | some _=>exact (show False from r).elim
 | some _=>cases u with
  | none=>exact (show False from r).elim
  | some _=>rfl
theorem KV.val {kvs:List (κ×V)}{vs:List (κ×Value)}(r:KV kvs vs)(k:κ):zge (uI kvs k) (valueAt vs k):=by
 unfold KV at r
 induction r with
 | nil=>exact True.intro
 | @cons p q ps qs h t ih=>
  obtain⟨h1,h2⟩:=h;by_cases e:p.1=k
  ·have e':q.1=k:=h1.symm.trans e;have b:valueAt (q::qs) k=some q.2:=by simp[valueAt,cD,e']
   rw[yc e,b];exact h2
  ·have e':¬ q.1=k:=fun z=>e (h1.trans z);have b:valueAt (q::qs) k=valueAt qs k:=by simp[valueAt,cD,e']
   rw[yb e,b];exact ih
theorem KV.any {kvs:List (κ×V)}{vs:List (κ×Value)}(r:KV kvs vs)(k:κ):(kvs.any fun kv=>decide (kv.1=k))=vs.any fun kv=>decide (kv.1=k):=by
 unfold KV at r
 induction r with
 | nil=>rfl
 | cons h t ih=>rw[cj,cj,ih,h.1]
theorem KV.repl {kvs:List (κ×V)}{vs:List (κ×Value)}(r:KV kvs vs)(k:κ){y:V}{u:Value}(ry:yo y u) :
  KV (kvs.map fun kv=>if kv.1=k then (kv.1,y) else kv) (vs.map fun kv=>if kv.1=k then (kv.1,u) else kv):=by
 unfold KV at r ⊢
 induction r with
 | nil=>exact .nil
 | @cons p q ps qs h t ih=>
  rw[av,av];refine .cons ?_ ih
  grind
theorem KV.put {kvs:List (κ×V)}{vs:List (κ×Value)}(r:KV kvs vs)(k:κ){y:V}{u:Value}(ry:yo y u):KV (zaL kvs k y) (stored vs k u):=by
 unfold zaL stored;rw[r.any k];by_cases e:(vs.any fun kv=>decide (kv.1=k))=true
 ·rw[if_pos e,if_pos e];exact r.repl k ry
 ·rw[if_neg e,if_neg e];exact Paired.snoc r ⟨rfl,ry⟩
theorem KV.length {kvs:List (κ×V)}{vs:List (κ×Value)}(r:KV kvs vs):kvs.length=vs.length:=Paired.length r
end
theorem zjc {P:Program}{w:World}{k:Key}{u:Value}(r:yo (kV k) u):(zr P w).is k u=true:=by
 cases k with
 | inl i=>obtain⟨t,e⟩:=(show ∃t,u=Value.int i t from r);subst e;exact zei P w i t
 | inr x=>obtain⟨t,e⟩:=(show ∃t,u=Value.str x t from r);subst e;exact zej P w x t
theorem zda {P:Program}{w:World}:∀ {ks:List Key} {us:List Value},zU (ks.map kV) us->ItemsAre (zr P w) ks us
 | [],_,r=>by rw[eJ] at r;cases r;exact .nil
 | k::ks,_,r=>by
  rw[av] at r
  cases r with
  | cons h t=>exact .cons (zjc h) (zda t)
abbrev KT (H:Hp):List (List Key×V)->List (List Key×Addr×Value)->Prop:=Paired fun p q=>p.1=q.1/\H q.2.1=some (.tup (p.1.map kV))/\yo p.2 q.2.2
theorem KT.val {H:Hp}{kvs:List (List Key×V)}{xs:List (List Key×Addr×Value)}(r:KT H kvs xs)(k:List Key):zge (uI kvs k) ((atKey xs k).map (·.2)):=by
 induction r with
 | nil=>exact True.intro
 | @cons p q ps qs h t ih=>
  obtain⟨h1,_,h2⟩:=h;by_cases e:p.1=k
  ·have e':q.1=k:=h1.symm.trans e;have b:atKey (q::qs) k=some q.2:=by simp[atKey,cD,e']
   rw[yc e,b];exact h2
  ·have e':¬ q.1=k:=fun z=>e (h1.trans z);have b:atKey (q::qs) k=atKey qs k:=by simp[atKey,cD,e']
   rw[yb e,b];exact ih
theorem KT.repl {H:Hp}{kvs:List (List Key×V)}{xs:List (List Key×Addr×Value)}(r:KT H kvs xs)(k:List Key){y:V}{u:Value}(ry:yo y u) :
  KT H (kvs.map fun kv=>if kv.1=k then (kv.1,y) else kv) (xs.map (putAt k u)):=by
 induction r with
 | nil=>exact .nil
 | @cons p q ps qs h t ih=>
  rw[av,av];refine .cons ?_ ih;obtain⟨h1,h2,h3⟩:=h;unfold putAt;by_cases e:p.1=k
  all_goals simp_all
theorem KT.put {H:Hp}{kvs:List (List Key×V)}{xs:List (List Key×Addr×Value)}(r:KT H kvs xs)(k:List Key){b:Addr}{y:V}{u:Value}(hb:H b=some (.tup (k.map kV)))(ry:yo y u) :
  KT H (zaL kvs k y) (storedH xs k b u):=by
 have e:(kvs.any fun kv=>decide (kv.1=k))=(atKey xs k).isSome:=by rw[zaZ,(r.val k).isSome_eq,Option.isSome_map]
 unfold zaL storedH;rw[e];by_cases q:(atKey xs k).isSome=true
 ·rw[if_pos q,if_pos q];exact r.repl k ry
 ·rw[if_neg q,if_neg q];exact Paired.snoc r ⟨rfl,hb,ry⟩
theorem KT.keeps {H H':Hp}{kvs:List (List Key×V)}{xs:List (List Key×Addr×Value)}(r:KT H kvs xs)(ht:∀b ys,H b=some (.tup ys)->H' b=some (.tup ys)):KT H' kvs xs:=
 Paired.mapP r fun _ _ z=>⟨z.1,ht _ _ z.2.1,z.2.2⟩
section
variable {P:Program}{w:World}{H:Hp}{h:Heap}{a:Addr}
theorem zmx {u:HO}(ok:HOk P w H h)(e:Rd H a u):zW P w H h a u:=e.ok ok
theorem ziO {kvs:List (Key×V)}(ok:HOk P w H h)(e:Rd H a (.dK kvs)):kvs.length<=sizeLine/\(a==sysModules)=false/\∃vs,KV kvs vs/\h.DictOf (zr P w) a vs:=
 show zW P w H h a (.dK kvs) from zmx ok e
theorem znt {kvs:List (Key×V)}(ok:HOk P w H h)(e:H a=some (.dK kvs)):kvs.length<=sizeLine/\(a==sysModules)=false/\∃vs,KV kvs vs/\h.DictOf (zr P w) a vs:=ziO ok (.inl e)
theorem zhc {ks:List Key}(ok:HOk P w H h)(e:H a=some (.tup (ks.map kV))):(tupleKind (zr P w)).is h ks a:=by obtain⟨_,its,r,o,h1,h2,⟨n,h3⟩,_⟩:=(show zW P w H h a (.tup (ks.map kV)) from ok a _ e);exact⟨o,its.toArray,n,h1,h2,h3,by simpa using zda r⟩
theorem zk2 {kvs:List (List Key×V)}(ok:HOk P w H h)(e:Rd H a (.dT kvs)):kvs.length<=sizeLine/\(a==sysModules)=false/\
  ∃xs,KT H kvs xs/\h.DictOfH (tupleKind (zr P w)) a xs:=by
 obtain⟨z,y,xs,r,o,es,ep,h1,h2,h3,h4,h5⟩:=(show zW P w H h a (.dT kvs) from zmx ok e);refine⟨z,y,xs,r,o,es,ep,h1,h2,h3,h4,fun x hx=>?_,h5⟩
 have all:∀ {l:List (List Key×V)} {m:List (List Key×Addr×Value)},KT H l m->∀x∈m,(tupleKind (zr P w)).is h x.1 x.2.1:=by
  intro l m q
  induction q with
  | nil=>intro x hx;exact nomatch hx
  | @cons p q ps qs hq t ih=>
   intro x hx;rcases aI.mp hx with e | hx
   ·subst e;exact zhc ok (by simp_all)
   ·exact ih x hx
 exact all r x hx
theorem zqG {kvs:List (List Key×V)}(ok:HOk P w H h)(e:H a=some (.dT kvs)):kvs.length<=sizeLine/\(a==sysModules)=false/\
  ∃xs,KT H kvs xs/\h.DictOfH (tupleKind (zr P w)) a xs:=zk2 ok (.inl e)
end
def zf8 (H:Hp)(a:Addr)(y:V)(r:Option V):Prop:=
 (∃kvs k,Rd H a (.dK kvs)/\y=kV k/\r=uI kvs k)\/∃kvs k b,Rd H a (.dT kvs)/\y = .ref b/\H b=some (.tup (k.map kV))/\r=uI kvs k
def ziA (H:Hp)(a:Addr)(y v:V)(H':Hp):Prop:=
 (∃kvs k,H a=some (.dK kvs)/\y=kV k/\kvs.length<sizeLine/\H'=upd H a (.dK (zaL kvs k v)))\/
 ∃kvs k b,H a=some (.dT kvs)/\y = .ref b/\H b=some (.tup (k.map kV))/\kvs.length<sizeLine/\H'=upd H a (.dT (zaL kvs k v))
theorem zf8.k {H:Hp}{a:Addr}{kvs:List (Key×V)}{k:Key}(e:H a=some (.dK kvs)):zf8 H a (kV k) (uI kvs k):=.inl ⟨kvs,k,.inl e,rfl,rfl⟩
theorem ziA.k {H:Hp}{a:Addr}{kvs:List (Key×V)}{k:Key}{v:V}(e:H a=some (.dK kvs))(hl:kvs.length<sizeLine):ziA H a (kV k) v (upd H a (.dK (zaL kvs k v))):=.inl ⟨kvs,k,e,rfl,hl,rfl⟩
section
variable {X:Cx}{pins:List (Addr×Obj)}{σ:St}{H:Hp}{s:Shared}{a:Addr}{y v:V}{u r:Value}{o:Option V}{A:Around}{E:Value->Shared->Prop}
theorem Inv.big (I:Inv X pins σ H s):sysModules<s.heap.objs.size:=by have h:mainGlobals<s.heap.objs.size:=(I.mod.glob.keeps I.bk).lt;exact eK (by decide) h
theorem zgD {Q:Value->Shared->Prop}(hu:A.units+1<cLine)(I:Inv X pins σ H s)(g:zf8 H a y (some v))(ry:yo y u)(h:∀w' s',Inv X pins σ H s'->yo v w'->Q w' s') :
  wpAny (model X.prog X.w) A (getItem (.ref a) u) Q E s:=by
 rcases g with ⟨kvs,k,e,ey,l⟩ | ⟨kvs,k,b,e,ey,eb,l⟩
 ·subst ey;obtain⟨z,hd,vs,rel,dd⟩:=ziO I.hok e;obtain⟨w',hw,rw'⟩:=zge.some_of (v:=v) (o:=valueAt vs k) (by rw[l];exact rel.val k);exact wpAny_getItem_of (zjc ry) dd.mapOf hw (h w' _ (I.tok _) rw')
 ·subst ey;cases (show u=Value.ref b from ry);obtain⟨z,hd,xs,rel,dd⟩:=zk2 I.hok e;obtain⟨w',hw,rw'⟩:=zge.some_of (v:=v) (o:=(atKey xs k).map (·.2)) (by rw[l];exact rel.val k);obtain⟨p,hp,hp2⟩:=ax.mp hw;refine wpAny_getItem_heap (tupleKind_room_in1 hu) (zhc I.hok eb) dd hp ?_;rw[hp2];exact h w' _ (I.tok _) rw'
theorem zd1 {h':Heap}{t':Nat}{ob:HO}(I:Inv X pins σ H s)(mu:Mut (H a))(hs:Heap.SameBut a s.heap h')(he:∃q,h'.get? a=some q)(new:zW X.prog X.w (upd H a ob) h' a ob) :
  Inv X pins σ (upd H a ob) { s with heap:=h',toks:=t' }:=
 I.write (x:=a) (e:=a) mu (.inl rfl) (fun b q hb z=>(hs.2 b hb).trans z) he new
theorem zkc {P:Program}{w:World}{H':Hp}{h':Heap}{kvs:List (Key×V)}{vs:List (Key×Value)}(z:kvs.length<=sizeLine)(hd:(a==sysModules)=false)(rel:KV kvs vs)(dd:h'.DictOf (zr P w) a vs) :
  zW P w H' h' a (.dK kvs):=⟨z,hd,vs,rel,dd⟩
theorem zgE {H':Hp}{Q:Unit->Shared->Prop}(hu:A.units+1<cLine)(I:Inv X pins σ H s)(g:ziA H a y v H')(ry:yo y u)(rv:yo v r)(h:∀s',Inv X pins σ H' s'->Q () s') :
  wpAny (model X.prog X.w) A (setItem (.ref a) u r) Q E s:=by
 rcases g with ⟨kvs,k,e,ey,l,eH⟩ | ⟨kvs,k,b,e,ey,eb,l,eH⟩
 ·subst ey eH;obtain⟨z,hd,vs,rel,dd⟩:=znt I.hok e;have hz:vs.length<=sizeLine:=by rw[<- rel.length];exact z
  have hl:(zaL kvs k v).length<=sizeLine:=by have:=uG kvs k v;lia
  refine wpAny_setItem_pairs (hsz:=hz) (zjc ry) dd fun h' dd' hs=>h _ ?_;have he:∃q,h'.get? a=some q:=let ⟨q,_,_,hq,_⟩:=dd';⟨q,hq⟩;exact zd1 I (by rw[e];exact True.intro) hs he (zkc hl hd (rel.put k rv) dd')
 ·subst ey eH;cases (show u=Value.ref b from ry);obtain⟨z,hd,xs,rel,dd⟩:=zqG I.hok e;have hz:xs.length<=sizeLine:=by rw[<- Paired.length rel];exact z
  have hl:(zaL kvs k v).length<=sizeLine:=by have:=uG kvs k v;lia
  refine wpAny_setItem_heap (hsz:=hz) (tupleKind_room_in1 hu) (zhc I.hok eb) dd fun h' dd' hs=>h _ ?_;obtain⟨q,es,ep,hq,h2,h3,h4,_,h5⟩:=dd';refine zd1 I (by rw[e];exact True.intro) hs ⟨q,hq⟩ ⟨hl,hd,_,(rel.put k eb rv).keeps fun c ys ec=>?_,q,es,ep,hq,h2,h3,h4,h5⟩;rw[zc (by grind)];exact ec
end
section
variable {X:Cx}{pins:List (Addr×Obj)}{σ:St}{H:Hp}{s:Shared}{a:Addr}{kvs:List (Key×V)}{k:Key}{u:Value}{A:Around}{E:Value->Shared->Prop}
end
def zqf (i:Expr):Prop:=∀ov iv,subscripted i false ov iv=operate [ov,iv] (getItem ov iv)
theorem zmL {prog:Program}{w:World}{A:Around}{E:Value->Shared->Prop}{s:Shared}{env:Env}{value slice:Expr}{pos:Pos}{T id:String}{Q:Value->Shared->Prop}
  (hl:typeLookup (.type T) "__getitem__" = pure (some (.builtin id))) (hs:zqf slice)
  (h:wpAny (model prog w) A (eval value env) (fun o s₁=>wpAny (model prog w) A (eval slice env) (fun i s₂=>s₂.TypeIs o T/\wpAny (model prog w) A (getItem o i) Q E s₂) E s₁) E s) :
  wpAny (model prog w) A (eval (.Subscript value slice pos) env) Q E s:=by
 refine Subscript_ (bn h (fun o s₁ h₁=>bn h₁ (fun i s₂ h₂=>?_) fun _ _ x=>x) fun _ _ x=>x);obtain⟨hT,h₂⟩:=h₂;unfold subscriptTail;refine aa ?_;rw[getitemInPython_of_ne hT.not_modules];refine aa (wpAny_specialOf hT hl ?_)
 have fin:wpAny (model prog w) A (subscripted slice false o i) (fun r s₃=>wpAny (model prog w) A (letTemporaryGo value o r >>= fun _=>pure r) Q E s₃) E s₂:=by rw[hs o i];exact wpAny_operating (bn h₂ (fun r s₃ h₃=>aa (wpAny_letTemporaryGo (ae h₃))) fun _ _ x=>x)
 first
  | exact ae (aa fin)
  | exact aa (by grind)
  | exact aa fin
theorem zd2 {X:Cx}{pins:List (Addr×Obj)}{σ:St}{H:Hp}{s:Shared}{a:Addr}{y:V}{o:Option V}(I:Inv X pins σ H s)(g:zf8 H a y o):s.TypeIs (.ref a) "dict" := by
 rcases g with ⟨kvs,k,e,_,_⟩ | ⟨kvs,k,b,e,_,_,_⟩
 ·obtain⟨_,_,vs,_,dd⟩:=ziO I.hok e;exact dd.typeIs
 ·obtain⟨_,_,xs,_,dd⟩:=zk2 I.hok e;exact dd.typeIs
def zpm (td ty:TE):TE:=fun σ H Q=>td σ H fun x H1=>ty σ H1 fun y H2=>∃a v,x = .ref a/\zf8 H2 a y (some v)/\Q v H2
def zpf (td ty tv:TE):TS:=fun D σ H=>tv σ H fun v H1=>td σ H1 fun x H2=>ty σ H2 fun y H3=>∃a H4,x = .ref a/\ziA H3 a y v H4/\D.nx σ H4
section
variable {X:Cx}{o i e value:Expr}{pos pos' tpos:Pos}{td ty tv:TE}
theorem zlV (hu:X.A.units+1<cLine)(ho:PE X o td)(hi:PE X i ty)(hs:zqf i):PE X (.Subscript o i pos) (zpm td ty):=by intro pins s σ H Q I h;refine zmL PySem.F.slot_dict_getitem.lookup hs (thn (ho pins s σ H _ I h) fun u s1 ⟨x,H1,I1,rx,q1⟩=>thn (hi pins s1 σ H1 _ I1 q1)  ?_);rintro iv s2 ⟨y,H2,I2,ry,a,v,ex,g,q2⟩;subst ex;obtain rfl:u=Value.ref a:=rx;exact⟨zd2 I2 g,zgD hu I2 g ry fun w' s3 I3 rw'=>⟨v,H2,I3,rw',q2⟩⟩
theorem zl8 (hu:X.A.units+1<cLine)(ho:PE X o td)(hi:PE X i ty)(hv:PE X value tv)(hs:swapsWith value (some (.Subscript o i pos')) pos.line X.env=pure false) :
  PS X (.Assign [.Subscript o i pos'] value pos) (zpf td ty tv):=by
 intro pins s σ H D I h;refine wpAny_Assign_Subscript (thn (hv pins s σ H _ I h) fun r s1 ⟨v,H1,I1,rv,q1⟩=>thn (ho pins s1 σ H1 _ I1 q1) fun u s2 ⟨x,H2,I2,rx,q2⟩=>thn (hi pins s2 σ H2 _ I2 q2) fun iv s3 ⟨y,H3,I3,ry,a,H4,ex,g,q3⟩=>?_) hs;subst ex;obtain rfl:u=Value.ref a:=rx;exact zgE hu I3 g ry rv fun s4 I4=>⟨σ,H4,I4,q3⟩
end
theorem ze0 {P:Program}{w:World}{H:Hp}(h:Heap)(hb:sysModules<h.objs.size):zW P w H (h.push { cls:=.type "dict",data:=.dict #[] }) h.objs.size (.dK []):=
 ⟨aL _,beq_eq_false_iff_ne.mpr (Ne.symm (aO hb)),[],.nil,Heap.DictOf.new h⟩
def zkE:TE:=fun _ H Q=>∀p,H p=none->Q (.ref p) (upd H p (.dK []))
section
variable {X:Cx}{pos:Pos}
theorem zfj:PE X (.Dict [] [] pos) zkE:=fun pins s σ H Q I h=>
 wpAny_Dict_empty ⟨.ref s.heap.objs.size,_,I.laid (a:=s.heap.objs.size) (o:=.dK []) (t':=s.toks) (fun _ _ q=>am _ q) (ai _) (ze0 s.heap I.big),rfl,h _ (I.hok.fresh (ai _))⟩
end
def zir:List (TE×TE)->St->Hp->(List (V×V)->Hp->Prop)->Prop
 | [],_,H,Q=>Q [] H
 | (tk,tv)::r,σ,H,Q=>tk σ H fun x H1=>tv σ H1 fun y H2=>zir r σ H2 fun ps H3=>Q ((x,y)::ps) H3
abbrev VV:List (V×V)->List (Value×Value)->Prop:=Paired fun p q=>yo p.1 q.1/\yo p.2 q.2
def PPs (X:Cx)(pos:Pos)(keys:List (Option Expr))(values:List Expr)(trs:List (TE×TE)):Prop:=
 ∀ (pins:List (Addr×Obj)) (s:Shared) (σ:St) (H:Hp) (Q:List (V×V)->Hp->Prop),Inv X pins σ H s->zir trs σ H Q->
  wpAny (model X.prog X.w) X.A (evalPairs (pairTrees keys values X.env pos)) (fun vs s'=>∃ps H',Inv X pins σ H' s'/\VV ps vs/\Q ps H') X.xe s
theorem zl7 {X:Cx}{pos:Pos}:PPs X pos [] [] []:=fun pins s σ H Q I h=>pairTrees_nil_walk ⟨[],H,I,.nil,h⟩
theorem zjy {X:Cx}{pos:Pos}{k v:Expr}{ks:List (Option Expr)}{vs:List Expr}{tk tv:TE}{trs:List (TE×TE)}(hk:PE X k tk)(hv:PE X v tv)(hr:PPs X pos ks vs trs) :
  PPs X pos (some k::ks) (v::vs) ((tk,tv)::trs):=fun pins s σ H Q I h=>
 pairTrees_cons_walk (thn (hk pins s σ H _ I h) fun u s1 ⟨x,H1,I1,rx,q1⟩=>thn (hv pins s1 σ H1 _ I1 q1) fun w2 s2 ⟨y,H2,I2,ry,q2⟩=>
  thn (hr pins s2 σ H2 _ I2 q2) <| by rintro ws s3 ⟨ps,H3,I3,rel,q3⟩;exact⟨(x,y)::ps,H3,I3,.cons ⟨rx,ry⟩ rel,q3⟩)
def zbq (kvs more:List (Key×V)):List (Key×V):=more.foldl (fun acc kv=>zaL acc kv.1 kv.2) kvs
theorem KV.merge:∀ {more:List (Key×V)} {rs:List (Key×Value)} {kvs:List (Key×V)} {vs:List (Key×Value)},KV more rs->KV kvs vs->KV (zbq kvs more) (merged vs rs):=by
 intro more rs kvs vs r;unfold KV at r
 induction r generalizing kvs vs with
 | nil=>intro q;exact q
 | @cons p q ps qs h t ih=>
  intro r0
  have e:KV (zaL kvs p.1 p.2) (stored vs q.1 q.2):=by
   have:=r0.put p.1 h.2
   simp_all
  exact ih e
theorem uZ:∀ (more kvs:List (Key×V)),(zbq kvs more).length<=kvs.length+more.length
 | [],kvs=>by show kvs.length<=kvs.length+0;lia
 | p::r,kvs=>by
  have h1:=uZ r (zaL kvs p.1 p.2);have h2:=uG kvs p.1 p.2;show (zbq (zaL kvs p.1 p.2) r).length<=_
  grind
theorem zbZ {P:Program}{w:World}:∀ {kvs:List (Key×V)} {ws:List (Value×Value)},VV (kvs.map fun kv=>(kV kv.1,kv.2)) ws->∃rs,Carries (zr P w) ws rs/\KV kvs rs
 | [],_,r=>by rw[eJ] at r;cases r;exact⟨[],True.intro,.nil⟩
 | p::kvs,_,r=>by
  rw[av] at r
  cases r with
  | @cons a b as bs h t=>
   obtain⟨rs,c,q⟩:=zbZ (P:=P) (w:=w) t;obtain⟨b1,b2⟩:=b;exact⟨(p.1,b2)::rs,⟨zjc h.1,rfl,c⟩,.cons ⟨rfl,h.2⟩ q⟩
def zpn (trs:List (TE×TE)):TE:=fun σ H Q=>∀p,H p=none->zir trs σ (upd H p (.dK [])) fun ps H2=>H2 p=some (.dK [])/\∃kvs:List (Key×V),ps=kvs.map (fun kv=>(kV kv.1,kv.2))/\kvs.length<=15/\Q (.ref p) (upd H2 p (.dK (zbq [] kvs)))
theorem zlW {X:Cx}{pos:Pos}{keys:List (Option Expr)}{values:List Expr}{trs:List (TE×TE)}(h:PPs X pos keys values trs)(hall:keys.all (·.isSome)=true)(hl:keys.length=values.length)(h0:keys≠[])
  (h15:keys.length<=15):PE X (.Dict keys values pos) (zpn trs):=by
 intro pins s σ H Q I q;have hn:=I.hok.fresh (ai s.heap.objs.size);have I1:=I.laid (a:=s.heap.objs.size) (o:=.dK []) (h':=s.heap.push { cls:=.type "dict",data:=.dict #[] }) (t':=s.toks) (fun _ _ q=>am _ q) (ai _) (ze0 s.heap I.big);refine wpAny_Dict_walk (knd:=zr X.prog X.w) hall hl h0 h15 (thn (h pins _ σ _ _ I1 (q _ hn))  ?_);rintro ws s2 ⟨ps,H2,I2,rel,e,kvs,ep,lk,q2⟩;subst ep;obtain⟨rs,c,rk⟩:=zbZ (P:=X.prog) (w:=X.w) rel;obtain⟨z,hd,vs0,r0,dd⟩:=znt I2.hok e;cases r0;refine⟨rs,c,dd,fun h' dd' hs=>⟨.ref s.heap.objs.size,_,?_,rfl,q2⟩⟩
 have hz:(zbq [] kvs).length<=sizeLine:=by have h1:=uZ kvs [];rw[List.length_nil] at h1;rw[bm];lia
 have he:∃q,h'.get? s.heap.objs.size=some q:=let ⟨q,_,_,hq,_⟩:=dd';⟨q,hq⟩;exact zd1 I2 (by rw[e];exact True.intro) hs he (zkc hz hd (rk.merge .nil) dd')
section
variable {X:Cx}{pins:List (Addr×Obj)}{σ:St}{H:Hp}{s:Shared}{a:Addr}{y d:V}{u r:Value}{o:Option V}{A:Around}{E:Value->Shared->Prop}
end
section
variable {X:Cx}{o e f:Expr}{apos cpos:Pos}{td ty tx:TE}
end
section
variable {X:Cx}{pins:List (Addr×Obj)}{σ:St}{H:Hp}{s:Shared}{a:Addr}{kvs:List (Key×V)}{A:Around}{E:Value->Shared->Prop}
end
section
variable {X:Cx}{pins:List (Addr×Obj)}{σ:St}{H:Hp}{s:Shared}{a:Addr}{y:V}{u:Value}{A:Around}{E:Value->Shared->Prop}
end
end L2
namespace HT
open PySem PyProof.Rows
def lexLt:List Int->List Int->Bool
 | [],[]=>false
 | [],_::_=>true
 | _::_,[]=>false
 | x::xs,y::ys=>if x=y then lexLt xs ys else decide (x<y)
theorem lexLt_cons (x y:Int)(xs ys:List Int):lexLt (x::xs) (y::ys)=if x=y then lexLt xs ys else decide (x<y):=rfl
theorem lexLt_nil_nil:lexLt [] []=false:=rfl
section
open PySem.SeqAt
open PySem.AutoSeq1 (wpAny_loadPart')
open PySem.MeetsSeq PySem.MeetsSeq2 PySem.MeetsSeq3
end
section
variable {prog:Program}{w:World}{A:Around}{E:Value->Shared->Prop}{s:Shared}
theorem cat_tup {t b:Addr}{vs ws:List Value}{Q:Value->Shared->Prop}(ht:IsTup s.heap t vs.toArray)(hb:IsTup s.heap b ws.toArray)(hv:vs≠[])
  (h1:ws=[]->Q (.ref t) s) (h2:ws≠[]->Q (.ref s.heap.objs.size) { s with heap:=s.heap.push { cls:=.type "tuple",data:=.seq (vs++ws).toArray } })
  (hsz:vs.length+ws.length<=sizeLine):wpAny (model prog w) A (binaryOp .Add (.ref t) (.ref b)) Q E s:=by
 obtain⟨⟨cls,dd,data,sl⟩,ho,hc,n,hd⟩:=id ht;obtain⟨⟨cls2,dd2,data2,sl2⟩,ho2,hc2,n2,hd2⟩:=id hb;simp only at hc hd hc2 hd2;subst hc hd hc2 hd2;have e:vs.toArray++ws.toArray=(vs++ws).toArray:=by simp
 by_cases hw:ws=[]
 ·exact concat_meets ⟨_,ho,rfl⟩ ⟨_,ho2,rfl⟩ noFill_tuple_add seq_tuple_add PySem.F.slot_tuple_add PySem.F.entry_tuple_add (PySem.F.args_tuple_add_2 _ _)
   (tuple_addW1 t b vs.toArray ws.toArray n n2 dd dd2 sl sl2 (by simpa using hv) (by simp[hw])) ⟨ho,ho2,h1 hw⟩
 ·refine concat_meets ⟨_,ho,rfl⟩ ⟨_,ho2,rfl⟩ noFill_tuple_add seq_tuple_add PySem.F.slot_tuple_add PySem.F.entry_tuple_add (PySem.F.args_tuple_add_2 _ _)
   (tuple_addW2 t b vs.toArray ws.toArray n n2 dd dd2 sl sl2 (by simpa using hv) (by simpa using hw) (by simp_all)) ⟨ho,ho2,?_⟩
  rw[e];exact h2 hw
def sIx (n d:Nat):Option Int->Nat
 | none=>d
 | some v=>if v<0 then (v+(n:Int)).toNat else min v.toNat n
theorem sIx_none (n d:Nat):sIx n d none=d:=rfl
theorem sIx_nat (n d k:Nat):sIx n d (some (k:Int))=min k n:=by show (if (k:Int)<0 then ((k:Int)+(n:Int)).toNat else min (k:Int).toNat n)=min k n;rw[if_neg (by lia),Int.toNat_natCast]
theorem zpg (n d:Nat)(hd:d<=n)(o:Option Int):sIx n d o<=n:=by
 cases o with
 | none=>exact hd
 | some v=>
  show (if v<0 then (v+(n:Int)).toNat else min v.toNat n)<=n;by_cases hv:v<0
  ·rw[if_pos hv];lia
  ·rw[if_neg hv];exact Nat.min_le_right _ _
theorem zgp (v:Int)(n d:Nat):(if v<0 then max (v+(n:Int)) 0 else min v (n:Int))=((sIx n d (some v):Nat):Int):=by
 show (if v<0 then max (v+(n:Int)) 0 else min v (n:Int))=(((if v<0 then (v+(n:Int)).toNat else min v.toNat n):Nat):Int)
 grind
theorem zfB (lo hi:Option Int)(n:Nat):Builtin.Slice.sliceAdjust lo hi 1 (n:Int)=(((sIx n 0 lo:Nat):Int),((sIx n n hi:Nat):Int)):=by
 have h1:¬ ((1:Int)<0):=by lia
 unfold Builtin.Slice.sliceAdjust;simp only[h1,if_false];refine Prod.ext ?_ ?_
 ·cases lo with
  | none=>rfl
  | some v=>exact zgp v n 0
 ·cases hi with
  | none=>rfl
  | some v=>exact zgp v n n
theorem zfQ (i j:Nat):Builtin.Slice.slicePlaces (i:Int) (j:Int) 1=j - i:=by
 unfold Builtin.Slice.slicePlaces;have h1:(1:Int) > 0:=by lia
 simp only[h1,if_true,Int.ediv_one];split <;> lia
theorem zcg {v:Value}{o:Option Int}{Q:Option Int->Shared->Prop}(p:IsPart v o)(h:Q o s):wpAny (model prog w) A (Builtin.Slice.slicePartIndex v) Q E s:=by
 cases p with
 | none=>exact slicePart_none h
 | int i t=>exact slicePart_int h
theorem xL {sl:Addr}{vl vu:Value}{lo hi:Option Int}{n:Nat}{Q:Int×Int×Nat->Shared->Prop}(hs:s.heap.IsSliceOf sl vl vu .none)(pl:IsPart vl lo)(pu:IsPart vu hi)
  (h:Q (((sIx n 0 lo:Nat):Int),1,sIx n n hi - sIx n 0 lo) s):wpAny (model prog w) A (Builtin.Slice.sliceApplied (.ref sl) (pure (n:Int))) Q E s:=by
 obtain⟨os,hos,hcs,hds⟩:=id hs;unfold Builtin.Slice.sliceApplied Builtin.Slice.sliceFields;refine wpAny_bind (wpAny_bind (wpAny_field hos hds (x:=vl) rfl (wpAny_bind (wpAny_field hos hds (x:=vu) rfl (wpAny_bind (wpAny_field hos hds (x:=.none) rfl (wpAny_pure ?_)))))));refine wpAny_bind (slicePart_none ?_);show wpAny _ _ (if ((1:Int)==0)=true then _ else _) _ _ s;rw[if_neg (by decide)];refine wpAny_bind (zcg pl (wpAny_bind (zcg pu (wpAny_bind (wpAny_pure ?_)))));show wpAny _ _ (match Builtin.Slice.sliceAdjust lo hi 1 (n:Int) with | (lo,hi)=>pure (lo,(1:Int),Builtin.Slice.slicePlaces lo hi 1)) _ _ s;rw[zfB lo hi n];show wpAny _ _ (pure (((sIx n 0 lo:Nat):Int),(1:Int),Builtin.Slice.slicePlaces ((sIx n 0 lo:Nat):Int) ((sIx n n hi:Nat):Int) 1)) _ _ s;rw[zfQ];exact wpAny_pure h
theorem zjx (xs:Array Value)(i k:Nat):((List.range k).filterMap fun (m:Nat)=>xs[((i:Int)+(m:Int) * 1).toNat]?).toArray=((xs.toList.drop i).take k).toArray:=by
 have e:(fun (m:Nat)=>xs[((i:Int)+(m:Int) * 1).toNat]?)=fun m=>xs[i+m]?:=by
  funext m;have:((i:Int)+(m:Int) * 1).toNat=i+m:=by lia
  rw[this]
 rw[e];have:=pick_run xs i k;rw[List.filterMap_map] at this;have e2:((fun x=>xs[x]?) ∘ fun x=>i+x)=fun m=>xs[i+m]?:=rfl
 simp_all
theorem getItem_tuple_cut {t sl:Addr}{items:Array Value}{vl vu:Value}{lo hi:Option Int}{Q:Value->Shared->Prop}(ht:IsTup s.heap t items)(hs:s.heap.IsSliceOf sl vl vu .none)(pl:IsPart vl lo)(pu:IsPart vu hi)
  (hw:¬ (sIx items.size 0 lo=0/\sIx items.size items.size hi=items.size))
  (h:Q (.ref s.heap.objs.size) { s with heap:=s.heap.push { cls:=.type "tuple",data:=.seq ((items.toList.drop (sIx items.size 0 lo)).take (sIx items.size items.size hi - sIx items.size 0 lo)).toArray } })
  (hsz:items.size<=sizeLine):wpAny (model prog w) A (getItem (.ref t) (.ref sl)) Q E s:=by
 have htake:sizeOk (.seq ((items.toList.drop (sIx items.size 0 lo)).take (sIx items.size items.size hi - sIx items.size 0 lo)).toArray):=by show ((items.toList.drop (sIx items.size 0 lo)).take (sIx items.size items.size hi - sIx items.size 0 lo)).toArray.size<=sizeLine;rw[List.size_toArray,List.length_take,List.length_drop,Array.length_toList];lia
 have hj:sIx items.size items.size hi<=items.size:=zpg _ _ (Nat.le_refl _) hi;obtain⟨os,hos,hcs,hds⟩:=id hs;have hTs:s.TypeIs (.ref sl) "slice" := ⟨os,hos,hcs⟩;unfold getItem;try with_reducible refine wpAny_holding ?_
 first | refine wpAny_bind (wpAny_pure ?_) | skip
 refine wpAny_bind (wpAny_sequenceKey ht.typeIs (by decide) ?_)
 refine wpAny_bind (wpAny_callSpecial?_slot (name:=Str.ofString "__getitem__") ht.typeIs PyProof.Rows.slot_tuple_getitem
  (wpAny_call_entry PyProof.Rows.slot_tuple_getitem ht.typeIs entry_tuple_getitem ?_ (args_tuple_getitem _ _)))
 show wpAny _ _ (Builtin.Tuple.tupleItemsOf (.ref t) >>= _) _ _ s;refine wpAny_bind (tupleItemsOf_ ht ?_);refine wpAny_bind (wpAny_typeOf hTs ?_);rw[if_pos (by decide)];refine wpAny_bind (xL hs pl pu ?_)
 have hno:¬ ((((sIx items.size 0 lo:Nat):Int)==0&&(1:Int)==1&&(sIx items.size items.size hi - sIx items.size 0 lo)==items.size)=true):=by grind
 show wpAny _ _ (if (((sIx items.size 0 lo:Nat):Int)==0&&(1:Int)==1&&(sIx items.size items.size hi - sIx items.size 0 lo)==items.size)=true then _ else _) _ _ s;rw[if_neg hno,zjx]
 first
  | exact wpAny_bind (m:=Builtin.Tuple.tupleExact _) (wpAny_newObj_type (wpAny_pure ⟨_,rfl,wpAny_pure h⟩) htake)
  | exact wpAny_bind (by grind) (by grind)
  | exact wpAny_bind (by grind)
  | exact wpAny_bind (by grind)
end
end HT
namespace L2
open PySem PySem.Spec PyProof.Rows
abbrev TO:=St->Hp->(Option Int->Hp->Prop)->Prop
def PO (X:Cx)(e:Option Expr)(t:TO):Prop:=
 ∀ (pins:List (Addr×Obj)) (s:Shared) (σ:St) (H:Hp) (Q:Option Int->Hp->Prop),Inv X pins σ H s->t σ H Q->
  wpAny (model X.prog X.w) X.A (evalPart e X.env) (fun u s'=>∃o H',Inv X pins σ H' s'/\IsPart u o/\Q o H') X.xe s
def ziq:TO:=fun _ H Q=>Q none H
def zpr (t:TE):TO:=fun σ H Q=>t σ H fun x H1=>∃i,x = .int i/\Q (some i) H1
section
variable {X:Cx}{e:Expr}{te:TE}{lo hi:Option Expr}{tl th:TO}{pos p2:Pos}
theorem zl5:PO X none ziq:=by intro pins s σ H Q I h;rw[evalPart_none];exact ae ⟨none,H,I,.none,h⟩
theorem zl6 (h:PE X e te):PO X (some e) (zpr te):=by intro pins s σ H Q I hw;rw[evalPart_some];refine thn (h pins s σ H _ I hw)  ?_;rintro u s1 ⟨x,H1,I1,r1,q1⟩;obtain⟨i,rfl,q⟩:=q1;obtain⟨t,rfl⟩:=r1;exact⟨some i,H1,I1,.int i t,q⟩
def SlR (X:Cx)(r:V->Option Int->Option Int->Hp->VK->Prop):Prop:=
 ∀ (pins:List (Addr×Obj)) (s:Shared) (σ:St) (H:Hp) (x:V) (v vl vu:Value) (lo hi:Option Int) (sl:Addr) (Q:VK),Inv X pins σ H s->yo x v->s.heap.IsSliceOf sl vl vu .none->IsPart vl lo->IsPart vu hi->r x lo hi H Q->
  ∃T id,typeLookup (.type T) "__getitem__" = pure (some (.builtin id))/\s.TypeIs v T/\wpAny (model X.prog X.w) X.A (getItem v (.ref sl)) (EP X pins σ Q) X.xe s
def tSl (r:V->Option Int->Option Int->Hp->VK->Prop)(te:TE)(tl th:TO):TE:=fun σ H Q=>te σ H fun x H1=>tl σ H1 fun l H2=>th σ H2 fun u H3=>r x l u H3 Q
theorem zjt {r:V->Option Int->Option Int->Hp->VK->Prop}(hr:SlR X r)(he:PE X e te)(hl:PO X lo tl)(hu:PO X hi th):PE X (.Subscript e (.Slice lo hi none p2) pos) (tSl r te tl th):=by intro pins s σ H Q I h;refine Subscript_ (thn (he pins s σ H _ I h)  ?_);rintro v s1 ⟨x,H1,I1,r1,q1⟩;refine wpAny_Slice (thn (hl pins s1 σ H1 _ I1 q1) fun vl s2 ⟨l,H2,I2,pl,q2⟩=>thn (hu pins s2 σ H2 _ I2 q2)  ?_);rintro vu s3 ⟨u,H3,I3,pu,q3⟩;rw[evalPart_none];refine ae ?_;have I4:Inv X pins σ H3 { s3 with heap:=s3.heap.push { cls:=.type "slice",data:=.fields #[vl,vu,.none] } }:=I3.kept (t':=s3.toks) fun b ob q=>am _ q;obtain⟨T,id,hT,ht,hg⟩:=hr pins { s3 with heap:=s3.heap.push { cls:=.type "slice",data:=.fields #[vl,vu,.none] } } σ H3 x v vl vu l u s3.heap.objs.size Q I4 r1 (Heap.IsSliceOf.new ..) pl pu q3;show wpAny (model X.prog X.w) X.A (subscriptTail e (.Slice lo hi none p2) v (.ref s3.heap.objs.size)) (EP X pins σ Q) X.xe { s3 with heap:=s3.heap.push { cls:=.type "slice",data:=.fields #[vl,vu,.none] } };exact tail_any (ops:=[.ref s3.heap.objs.size,v]) ht hT hg (by with_unfolding_all rfl)
def zbR (xs:List V)(lo hi:Option Int):List V:=(xs.drop (HT.sIx xs.length 0 lo)).take (HT.sIx xs.length xs.length hi - HT.sIx xs.length 0 lo)
theorem za9 (xs:List V)(lo hi:Option Int):(zbR xs lo hi).length<=xs.length:=by unfold zbR;rw[aQ,eD];lia
def rSlT (K:PySem.W.Frag):V->Option Int->Option Int->Hp->VK->Prop:=fun x lo hi H Q=>∃a xs,x = .ref a/\SqT K H a xs/\
 ¬ (HT.sIx xs.length 0 lo=0/\HT.sIx xs.length xs.length hi=xs.length)/\∀p,H p=none->Q (.ref p) (upd H p (.tup (zbR xs lo hi)))
theorem zpj:SlR X (rSlT X.K):=by
 intro pins s σ H x v vl vu lo hi sl Q I rx hs pl pu h;obtain⟨a,xs,rfl,hx,hw,q⟩:=h;cases rx;obtain⟨its,r,ht,hz⟩:=I.tuple hx;have hlen:its.toArray.size=xs.length:=by rw[aW];exact r.length.symm
 refine⟨"tuple",_,PyProof.Rows.slot_tuple_getitem.lookup,ht.typeIs,?_⟩;refine HT.getItem_tuple_cut ht hs pl pu (by rw[hlen];exact hw) ?_ (by rw[hlen];exact hz);rw[hlen];refine⟨.ref s.heap.objs.size,_,I.laid (t':=s.toks) (o:=.tup (zbR xs lo hi)) (fun b ob q=>am _ q) (ai _) ?_,rfl,q _ (I.hok.fresh (ai _))⟩;exact⟨ao (za9 xs lo hi) hz,_,(r.drop (HT.sIx xs.length 0 lo)).take (HT.sIx xs.length xs.length hi - HT.sIx xs.length 0 lo),xP.new _ _⟩
def zrF (K:PySem.W.Frag):R2:=fun x y H Q=>∃a b xs ys,x = .ref a/\y = .ref b/\SqT K H a xs/\SqT K H b ys/\xs≠[]/\xs.length+ys.length<=sizeLine/\
 (ys=[]->Q (.ref a) H)/\(ys≠[]->∀p,H p=none->Q (.ref p) (upd H p (.tup (xs++ys))))
theorem zU.nil_iff {xs:List V}{us:List Value}(r:zU xs us):us=[]↔xs=[]:=by
 cases r with
 | nil=>simp
 | cons _ _=>simp
theorem zlN:OpR X (binaryOp .Add) (zrF X.K):=by intro pins s σ H x y v u Q I rx ry h;obtain⟨a,b,xs,ys,rfl,rfl,ha,hb,hx,hz,q1,q2⟩:=h;cases rx;cases ry;obtain⟨its,r1,p1,_⟩:=I.tuple ha;obtain⟨its2,r2,p2,_⟩:=I.tuple hb;refine HT.cat_tup p1 p2 (fun z=>hx (r1.nil_iff.mp z)) (fun z=>⟨.ref a,H,I,rfl,q1 (r2.nil_iff.mp z)⟩) (fun z=>?_) (by rw[<- r1.length,<- r2.length];exact hz);refine⟨.ref s.heap.objs.size,_,I.laid (t':=s.toks) (o:=.tup (xs++ys)) (fun b ob q=>am _ q) (ai _) ?_,rfl,q2 (fun w=>z (r2.nil_iff.mpr w)) _ (I.hok.fresh (ai _))⟩;exact⟨by simp_all,_,r1.append r2,xP.new _ _⟩
end
def ixN (n:Nat)(i:Int):Option Nat:=if 0<=i then (if i<n then some i.toNat else none) else if -(n:Int)<=i then some (i+n).toNat else none
def atI {α:Type}(xs:List α)(i:Int):Option α:=(ixN xs.length i).bind fun j=>xs[j]?
theorem zg7 {n:Nat}{i:Int}{j:Nat}(h:ixN n i=some j):seqIndex? i n=some j/\j<n/\-(n:Int)<=i/\i<n:=by
 unfold ixN at h;by_cases h0:0<=i
 ·rw[if_pos h0] at h;by_cases h1:i<n
  ·rw[if_pos h1] at h;have e:i.toNat=j:=bJ h;exact⟨by rw[seqIndex_of h0 h1,e],by lia,by lia,h1⟩
  ·simp_all
 ·rw[if_neg h0] at h;by_cases h1:-(n:Int)<=i
  ·rw[if_pos h1] at h;have e:(i+n).toNat=j:=bJ h;exact⟨by rw[seqIndex_neg (by lia) h1,e],by lia,h1,by lia⟩
  ·simp_all
theorem zgi {α:Type}{xs:List α}{i:Int}{v:α}(h:atI xs i=some v):∃j,seqIndex? i xs.length=some j/\xs[j]?=some v/\j<xs.length/\-(xs.length:Int)<=i/\i<xs.length:=by
 unfold atI at h
 cases e:ixN xs.length i with
 | none=>rw[e] at h;cases h
 | some j=>
  rw[e] at h;obtain⟨h1,h2,h3,h4⟩:=zg7 e;exact⟨j,h1,h,h2,h3,h4⟩
theorem zkL {α:Type}{xs:List α}{j:Nat}{v:α}(h:xs[j]?=some v):atI xs (j:Int)=some v:=by
 have hj:j<xs.length:=(af.mp h).1
 have e:ixN xs.length (j:Int)=some j:=by
  unfold ixN
  simp_all
 unfold atI;rw[e];exact h
def zdQ (b:Expr):Prop:=∀o i,subscripted b false o i=operate [o,i] (getItem o i)
def IxR (X:Cx)(r:R2):Prop:=
 ∀ (value slice:Expr) (pins:List (Addr×Obj)) (s:Shared) (σ:St) (H:Hp) (x y:V) (v u:Value) (Q:VK),Inv X pins σ H s->yo x v->yo y u->r x y H Q->
  subscripted slice false v u=operate [v,u] (getItem v u)->wpAny (model X.prog X.w) X.A (subscriptTail value slice v u) (EP X pins σ Q) X.xe s
def MtR (X:Cx)(id:String)(r:V->List V->Hp->VK->Prop):Prop:=
 ∀ (pins:List (Addr×Obj)) (s:Shared) (σ:St) (H:Hp) (x:V) (xs:List V) (v:Value) (us:List Value) (Q:VK),Inv X pins σ H s->yo x v->zU xs us->r x xs H Q->
  wpAny (model X.prog X.w) X.A (call (.builtin id) (v::us)) (EP X pins σ Q) X.xe s
section
variable {X:Cx}{a b:Expr}{ta tb:TE}{pos:Pos}
theorem zrx {r:R2}(hr:IxR X r)(ha:PE X a ta)(hb:PE X b tb)(hs:zdQ b):PE X (.Subscript a b pos) (tOp r ta tb):=by intro pins s σ H Q I h;exact Subscript_ (zqm ha hb I h fun v u s2 x y H2 I2 rx ry q=>hr a b pins s2 σ H2 x y v u Q I2 rx ry q (hs _ _))
def zp8 (K:PySem.W.Frag):R2:=fun x y H Q=>∃p xs i v,x = .ref p/\y = .int i/\SqL K H p xs/\atI xs i=some v/\Q v H
def zp9 (K:PySem.W.Frag):R2:=fun x y H Q=>∃p xs i v,x = .ref p/\y = .int i/\SqT K H p xs/\atI xs i=some v/\Q v H
theorem zlr:IxR X (zp8 X.K):=by
 intro value slice pins s σ H x y v u Q I rx ry h hs;obtain⟨p,xs,i,z,rfl,rfl,hq,he,q⟩:=h;cases rx;obtain⟨t,rfl⟩:=ry;obtain⟨its,r,pl,hz⟩:=I.list hq;obtain⟨j,h1,h2,h3,h4,h5⟩:=zgi he;obtain⟨w,ew,rw'⟩:=r.get h2;have hl:=r.length;have hn:=zhl;have fin:EP X pins σ Q w s:=⟨z,H,I,rw',q⟩;by_cases h0:0<=i
 ·have hj:i.toNat=j:=by
   rw[seqIndex_of h0 h5] at h1
   simp_all
  exact item_listR pl.isList h0 (by lia) (by rw[hj];simpa using ew) fin hs
 ·have hj:(i+(its.toArray.size:Int)).toNat=j:=by
   rw[seqIndex_neg (by lia) h4] at h1
   simp_all
  exact subscriptTail_builtinR (x:=w) pl.isList.typeIs slot_list_getitem.lookup
   (wpAny_getItem_list_neg (Q:=fun r s'=>r=w/\EP X pins σ Q r s') pl.isList (by lia) (by simp_all) (by lia) (by rw[hj];simpa using ew) ⟨rfl,fin⟩) hs
theorem znC:IxR X (zp9 X.K):=by
 intro value slice pins s σ H x y v u Q I rx ry h hs;obtain⟨p,xs,i,z,rfl,rfl,hq,he,q⟩:=h;cases rx;obtain⟨t,rfl⟩:=ry;obtain⟨its,r,pl,hz⟩:=I.tuple hq;obtain⟨j,h1,h2,h3,h4,h5⟩:=zgi he;obtain⟨w,ew,rw'⟩:=r.get h2;have hl:=r.length;have hn:=zhl;have fin:EP X pins σ Q w s:=⟨z,H,I,rw',q⟩
 exact subscriptTail_builtinR (x:=w) pl.typeIs slot_tuple_getitem.lookup
  (getItem_tuple (j:=j) (Q:=fun r s'=>r=w/\EP X pins σ Q r s') pl (by lia) (by lia) (by simp_all) (by simpa using ew) ⟨rfl,fin⟩) hs
theorem zdF (lo hi:Option Int)(n:Nat):(sliceBounds lo hi none n).1=((HT.sIx n 0 lo:Nat):Int)/\(sliceBounds lo hi none n).2.1=((HT.sIx n n hi:Nat):Int)/\(sliceBounds lo hi none n).2.2=1:=by
 refine⟨?_,?_,rfl⟩
 ·cases lo with
  | none=>simp[sliceBounds,HT.sIx]
  | some i=>
   simp only[sliceBounds,HT.sIx,Option.getD_none,show (1:Int) > 0 by decide,if_true];by_cases h:i<0
   ·simp only[h,if_true] <;> lia
   ·simp only[h,if_false] <;> lia
 ·cases hi with
  | none=>simp[sliceBounds,HT.sIx]
  | some i=>
   simp only[sliceBounds,HT.sIx,Option.getD_none,show (1:Int) > 0 by decide,if_true];by_cases h:i<0
   ·simp only[h,if_true] <;> lia
   ·simp only[h,if_false] <;> lia
theorem zcP (its:List Value)(lo hi:Option Int):slicePick its.toArray lo hi none=((its.drop (HT.sIx its.length 0 lo)).take (HT.sIx its.length its.length hi - HT.sIx its.length 0 lo)).toArray:=by obtain⟨h1,h2,h3⟩:=zdF lo hi its.toArray.size;unfold slicePick;rw[h1,h2,h3];simp only[sliceRange_one,pick_run,aW] <;> rfl
def rSlL (K:PySem.W.Frag):V->Option Int->Option Int->Hp->VK->Prop:=fun x lo hi H Q=>∃a xs,x = .ref a/\SqL K H a xs/\∀p,H p=none->Q (.ref p) (upd H p (.lst (zbR xs lo hi)))
theorem zmG:SlR X (rSlL X.K):=by intro pins s σ H x v vl vu lo hi sl Q I rx hs pl pu h;obtain⟨a,xs,rfl,hx,q⟩:=h;cases rx;obtain⟨its,r,ht,hz⟩:=I.list hx;have hlen:=r.length;refine⟨"list",_,slot_list_getitem.lookup,ht.isList.typeIs,?_⟩;refine wpAny_getItem_list_slice ht.isList hs pl pu .none (by simp) ?_ (by grind);rw[zcP,<- hlen];refine⟨.ref s.heap.objs.size,_,I.laid (t':=s.toks) (o:=.lst (zbR xs lo hi)) (fun b ob q=>am _ q) (ai _) ?_,rfl,q _ (I.hok.fresh (ai _))⟩;exact⟨ao (za9 xs lo hi) hz,_,0,(r.drop (HT.sIx xs.length 0 lo)).take (HT.sIx xs.length xs.length hi - HT.sIx xs.length 0 lo),aB _ rfl⟩
def zco:V->Bool
 | .non=>true
 | .bl _=>true
 | .int _=>true
 | .str _=>true
 | _=>false
def eqV:V->V->Bool
 | .non,.non=>true
 | .bl a,.bl b=>a==b
 | .bl a,.int b=>(if a then 1 else 0)==b
 | .int a,.bl b=>a==(if b then 1 else 0)
 | .int a,.int b=>a==b
 | .str a,.str b=>a==b
 | _,_=>false
theorem znv {A:Around}{s:Shared}{y x:V}{u v:Value}(ry:yo y u)(rx:yo x v)(fy:zco y=true)(fx:zco x=true):SeqAt.EqAt A s u v (eqV y x):=by
 cases y with
 | non=>
  cases ry
  cases x with
  | non=>cases rx;exact SeqAt.EqAt.same _
  | bl b=>cases rx;exact SeqAt.EqAt.none_bool b
  | int b=>obtain⟨t,rfl⟩:=rx;exact SeqAt.EqAt.none_int b t
  | str b=>obtain⟨t,rfl⟩:=rx;exact SeqAt.EqAt.none_str b t
  | _=>exact absurd (show false=true from fx) aG
 | bl a=>
  cases ry
  cases x with
  | non=>cases rx;exact SeqAt.EqAt.bool_none a
  | bl b=>cases rx;exact SeqAt.EqAt.bool_bool a b
  | int b=>obtain⟨t,rfl⟩:=rx;exact SeqAt.EqAt.bool_int a b t
  | str b=>obtain⟨t,rfl⟩:=rx;exact SeqAt.EqAt.bool_str a b t
  | _=>exact absurd (show false=true from fx) aG
 | int a=>
  obtain⟨t',rfl⟩:=ry
  cases x with
  | non=>cases rx;exact SeqAt.EqAt.int_none a t'
  | bl b=>cases rx;exact SeqAt.EqAt.int_bool a t' b
  | int b=>obtain⟨t,rfl⟩:=rx;exact SeqAt.EqAt.int_int a t' b t
  | str b=>obtain⟨t,rfl⟩:=rx;exact SeqAt.EqAt.int_str a t' b t
  | _=>exact absurd (show false=true from fx) aG
 | str a=>
  obtain⟨t',rfl⟩:=ry
  cases x with
  | non=>cases rx;exact SeqAt.EqAt.str_none a t'
  | bl b=>cases rx;exact SeqAt.EqAt.str_bool a t' b
  | int b=>obtain⟨t,rfl⟩:=rx;exact SeqAt.EqAt.str_int a t' b t
  | str b=>obtain⟨t,rfl⟩:=rx;exact SeqAt.EqAt.str_str a t' b t
  | _=>exact absurd (show false=true from fx) aG
 | _=>exact absurd (show false=true from fy) aG
def eqU (x:V)(u:Value):Bool:=match u with
 | .none=>eqV .non x
 | .bool b=>eqV (.bl b) x
 | .int i _=>eqV (.int i) x
 | .str z _=>eqV (.str z) x
 | _=>false
theorem zkd {x y:V}{u:Value}(r:yo y u)(f:zco y=true):eqU x u=eqV y x:=by
 cases y with
 | non=>cases r;rfl
 | bl b=>cases r;rfl
 | int i=>obtain⟨t,rfl⟩:=r;rfl
 | str z=>obtain⟨t,rfl⟩:=r;rfl
 | _=>exact absurd (show false=true from f) aG
theorem zdR {x:V}:∀ {xs:List V} {us:List Value},zU xs us->xs.all zco=true->us.any (eqU x)=xs.any fun y=>eqV y x
 | _,_,.nil,_=>rfl
 | y::xs,u::us,.cons r t,f=>by rw[bY,aR] at f;rw[cj,cj,zkd r f.1,zdR t f.2]
theorem zcA {A:Around}{s:Shared}{x:V}{v:Value}(rx:yo x v)(fx:zco x=true):∀ {xs:List V} {us:List Value},zU xs us->xs.all zco=true->∀u∈us,SeqAt.EqAt A s u v (eqU x u)
 | _,_,.nil,_=>by grind
 | y::xs,u::us,.cons r t,f=>fun u' hu=>by
  rw[bY,aR] at f;rcases aI.mp hu with rfl | hu
  ·rw[zkd r f.1];exact znv r rx f.1 fx
  ·exact zcA rx fx t f.2 u' hu
def inV (x:V)(xs:List V):Bool:=xs.any fun y=>eqV y x
def rIn (K:PySem.W.Frag)(neg:Bool):R2:=fun x y H Q=>∃p xs,y = .ref p/\(SqL K H p xs\/SqT K H p xs)/\zco x=true/\xs.all zco=true/\Q (.bl (if neg then !inV x xs else inV x xs)) H
theorem zhG:OpR X (compareOp .In) (rIn X.K false):=by
 intro pins s σ H x y v u Q I rx ry h;obtain⟨p,xs,rfl,hq,fx,fs,q⟩:=h;cases ry;rcases hq with hq | hq
 ·obtain⟨its,r,pl,hz⟩:=I.list hq;refine SeqAt.in_listAt (eqU x) pl.isList (fun w hw=>zcA rx fx r fs w (by simpa using hw)) ⟨.bl _,H,I,rfl,?_⟩;rw[show its.toArray.any (eqU x)=its.any (eqU x) by simp,zdR r fs];exact q
 ·obtain⟨its,r,pl,hz⟩:=I.tuple hq;refine SeqAt.in_tupleAt (eqU x) pl (fun w hw=>zcA rx fx r fs w (by simpa using hw)) ⟨.bl _,H,I,rfl,?_⟩;rw[show its.toArray.any (eqU x)=its.any (eqU x) by simp,zdR r fs];exact q
theorem zc4:zbO X (.type "list") (fun xs H Q=>∃p ys,xs=[.ref p]/\(SqL X.K H p ys\/SqT X.K H p ys)/\∀l,H l=none->Q (.ref l) (upd H l (.lst ys))):=by
 intro pins s σ H xs us Q I r h;obtain⟨p,ys,rfl,hq,q⟩:=h;obtain⟨u,rfl,rx⟩:=uq r;cases rx
 have fin:∀ (its:List Value),zU ys its->ys.length<=sizeLine->∀ (h':Heap) (c':Nat),(∀b o',s.heap.get? b=some o'->h'.get? b=some o')->
   h'.get? s.heap.objs.size=some { cls:=.type "list",dict:=none,data:=.seq its.toArray c',slots:=#[] }->EP X pins σ Q (.ref s.heap.objs.size) { s with heap:=h' }:=fun its r' hz h' c' kp e=>
  ⟨.ref s.heap.objs.size,_,I.laid (t':=s.toks) kp (ai _) (show zW X.prog X.w _ h' _ (.lst ys) from ⟨hz,its,c',r',e⟩),rfl,q _ (I.hok.fresh (ai _))⟩
 rcases hq with hq | hq
 ·obtain⟨its,r',pl,hz⟩:=I.list hq;have hlen:=r'.length;obtain⟨o,ho,hc,n,hd⟩:=pl.isList;exact call_list_seq p (.inl rfl) ho hc hd (fun h' c' kp e=>fin its r' hz h' c' kp e) (by grind)
 ·obtain⟨its,r',pl,hz⟩:=I.tuple hq;have hlen:=r'.length;obtain⟨o,ho,hc,n,hd⟩:=pl;exact call_list_seq p (.inr rfl) ho hc hd (fun h' c' kp e=>fin its r' hz h' c' kp e) (by grind)
theorem zcl:zbO X (.type "tuple") (fun xs H Q=>∃p ys,xs=[.ref p]/\((SqL X.K H p ys/\∀l,H l=none->Q (.ref l) (upd H l (.tup ys)))\/(SqT X.K H p ys/\Q (.ref p) H))):=by
 intro pins s σ H xs us Q I r h;obtain⟨p,ys,rfl,h⟩:=h;obtain⟨u,rfl,rx⟩:=uq r;cases rx;rcases h with ⟨hq,q⟩ | ⟨hq,q⟩
 ·obtain⟨its,r',pl,hz⟩:=I.list hq;have hlen:=r'.length;refine call_tuple_list pl.isList (fun h' kp=>?_) (by grind);have I1:Inv X pins σ H { s with heap:=h' }:=I.kept (t':=s.toks) kp
  have I2:Inv X pins σ (upd H h'.objs.size (.tup ys)) { s with heap:=h'.push { cls:=.type "tuple",data:=.seq its.toArray } }:=
   I1.laid (t':=s.toks) (fun b o e=>am _ e) (ai _) (show zW X.prog X.w _ _ _ (.tup ys) from ⟨hz,its,r',xP.new _ _⟩)
  exact⟨.ref h'.objs.size,_,I2,rfl,q _ (I1.hok.fresh (ai _))⟩
 ·obtain⟨its,r',pl,hz⟩:=I.tuple hq;exact call_tuple_same pl ⟨.ref p,H,I,rfl,q⟩
def tyV (K:PySem.W.Frag)(T:String)(x:V)(H:Hp):Prop:=match x with
 | .str _=>T = "str"
 | .int _=>T = "int"
 | .ref p=>(T = "list" /\ ∃xs,SqL K H p xs)\/(T = "tuple" /\ ∃o,K.lookup p=some o/\o.cls = .type "tuple" /\ o.dict=none)\/
   (T = "dict" /\ ((∃kvs,H p=some (.dK kvs))\/∃kvs,H p=some (.dT kvs)))\/(T = "set" /\ ∃S n,H p=some (.set S n))
 | _=>False
theorem zpu {pins:List (Addr×Obj)}{σ:St}{H:Hp}{s:Shared}{T:String}{x:V}{v:Value}(I:Inv X pins σ H s)(r:yo x v)(ty:tyV X.K T x H) :
  s.TypeIs v T/\∀a,v = .ref a->∃ob,s.heap.get? a=some ob/\ob.dict=none:=by
 cases x with
 | str z=>
  obtain⟨t,rfl⟩:=r;cases (show T = "str" from ty);exact⟨typeIs_str s z t,fun _ e=>nomatch e⟩
 | int i=>
  obtain⟨t,rfl⟩:=r;cases (show T = "int" from ty);exact⟨cy s i t,fun _ e=>nomatch e⟩
 | ref p=>
  cases r;rcases ty with ⟨rfl,xs,hq⟩ | ⟨rfl,o,hk,hc,hd⟩ | ⟨rfl,hk⟩ | ⟨rfl,S,n,hk⟩
  ·obtain⟨its,_,pl,_⟩:=I.list hq;refine⟨pl.isList.typeIs,fun a e=>?_⟩;cases e;obtain⟨o,n,e,c,hd,_⟩:=pl;exact⟨o,e,hd⟩
  ·refine⟨⟨o,I.kIn p o hk,hc⟩,fun a e=>?_⟩;cases e;exact⟨o,I.kIn _ o hk,hd⟩
  ·have z:∃o,s.heap.get? p=some o/\o.ExactDict:=by
    rcases hk with ⟨kvs,hk⟩ | ⟨kvs,hk⟩
    ·obtain⟨_,_,_,_,o,_,_,e,ex,_⟩:=I.hok p _ hk;exact⟨o,e,ex⟩
    ·obtain⟨_,_,_,_,o,_,_,e,ex,_⟩:=I.hok p _ hk;exact⟨o,e,ex⟩
   obtain⟨o,e,ex⟩:=z;refine⟨⟨o,e,ex.1⟩,fun a e2=>?_⟩;cases e2;exact⟨o,e,ex.2.1⟩
  ·obtain⟨o,_,_,_,e,ex,_⟩:=I.hok p _ hk;refine⟨⟨o,e,ex.1⟩,fun a e2=>?_⟩;cases e2;exact⟨o,e,ex.2.1⟩
 | _=>exact False.elim ty
def tBM (K:PySem.W.Frag)(T:String)(r:V->List V->Hp->VK->Prop)(to:TE)(t:TA):TE:=fun σ H Q=>to σ H fun x H1=>tyV K T x H1/\t σ H1 fun xs H2=>r x xs H2 Q
variable {o e:Expr}{es:List Expr}{to:TE}{t:TA}{name:Str}{apos cpos:Pos}{T id:String}{r:V->List V->Hp->VK->Prop}
theorem zom (pa:PlainAttrs T)(slot:Slot T name id)(hty:typeOf (.builtin id)=pure (.type "method_descriptor"))(hm:MtR X id r)(ho:PE X o to)(ha:PA X (e::es) t)
  (hbase:attributeBase o name X.env (eval o X.env)=eval o X.env:=by rfl)
  (hfew:((backTo cpos (starEach (e::es) X.env)).all (fun x=>!x.1)&&(backToKw cpos (keywordEach [] X.env)).all (fun x=>x.1.isSome)
   && decide ((e::es).length+([]:List Keyword).length+(if ([]:List Keyword).isEmpty then 0 else 1)<30))=true:=by rfl)
  (hline:(apos.endLine==cpos.line)=true:=by rfl) (hs:starEach (e::es) X.env=(false,eval e X.env)::starEach es X.env:=by rfl) (hplain:(backTo cpos (starEach es X.env)).any (·.1)=false:=by rfl) :
  PE X (.Call (.Attribute o name apos) (e::es) [] cpos) (tBM X.K T r to t):=by
 intro pins s σ H Q I h;refine wpAny_Call_method_late hbase hfew hline rfl (thn (ho pins s σ H _ I h)  ?_);rintro v s1 ⟨x,H1,I1,r1,ty,q1⟩;obtain⟨h1,h2⟩:=zpu I1 r1 ty;refine⟨T,id,pa,slot,hty,h1,h2,?_⟩;have hA:=ha cpos pins s1 σ H1 _ I1 q1;rw[hs] at hA ⊢;refine Calls.callWith_builtin (by show (false || (backTo cpos (starEach es X.env)).any (·.1))=false;rw[hplain] <;> rfl) (Calls.evalArgs_plain ?_);exact thn hA <| by rintro us s2 ⟨vs,H2,I2,r2,q2⟩;exact hm pins s2 σ H2 x vs v us Q I2 r1 r2 q2
end
def MtM (X:Cx)(id:String)(r:V->List V->Hp->VK->Prop):Prop:=
 ∀ (pins:List (Addr×Obj)) (s:Shared) (σ:St) (H:Hp) (x:V) (xs:List V) (v:Value) (us:List Value) (Q:VK),Inv X pins σ H s->yo x v->zU xs us->r x xs H Q->
  wpAny (model X.prog X.w) X.A (call (.builtin id) (v::us)) (EP X pins σ Q) X.xe s
theorem zU.one:∀ {x:V} {us:List Value},zU [x] us->∃u,us=[u]/\yo x u
 | _,_,.cons r .nil=>⟨_,rfl,r⟩
theorem zU.eraseIdx:∀ {xs:List V} {us:List Value} (i:Nat),zU xs us->zU (xs.eraseIdx i) (us.eraseIdx i)
 | _,_,_,.nil=>.nil
 | _,_,0,.cons _ t=>t
 | _,_,i+1,.cons r t=>.cons r (zU.eraseIdx i t)
theorem zU.rep {xs:List V}{us:List Value}(h:zU xs us):∀k:Nat,zU (List.replicate k xs).flatten (List.replicate k us).flatten
 | 0=>.nil
 | k+1=>by rw[ck,ck,dj,dj];exact zU.append h (zU.rep h k)
theorem zdi {α:Type}:∀ (l:List α) (i:Nat),(l.eraseIdx i).length<=l.length
 | [],_=>ai _
 | _::_,0=>cQ _
 | _::r,i+1=>Nat.succ_le_succ (zdi r i)
theorem zbc (its:List Value):∀ (k:Nat) (acc:List Value),
  List.foldl (fun x1 x2=>x1++x2) acc.toArray (List.replicate k its.toArray)=(acc++(List.replicate k its).flatten).toArray
 | 0,acc=>by simp
 | k+1,acc=>by
  have e:acc.toArray++its.toArray=(acc++its).toArray:=by simp
  have e2:(acc++its)++(List.replicate k its).flatten=acc++(List.replicate (k+1) its).flatten:=by grind
  rw[<- e2,<- zbc its k (acc++its),<- e,ck,List.foldl_cons]
section
variable {X:Cx}{pins:List (Addr×Obj)}{σ:St}{H:Hp}{s:Shared}{l b:Addr}{xs ys zs:List V}
theorem Inv.lset {its its':List Value}{n:Nat}{f:Array Value->Array Value}{t':Nat}(I:Inv X pins σ H s)(hH:H l=some (.lst xs))
  (e:s.heap.get? l=some { cls:=.type "list",data:=.seq its.toArray n }) (hf:f its.toArray=its'.toArray) (hv:zU ys its') (hz:ys.length<=sizeLine) :
  Inv X pins σ (upd H l (.lst ys)) { s with heap:=s.heap.update l (Obj.mapSeq f),toks:=t' }:=by
 have q:=PySem.IsL.update e f;rw[hf] at q;refine I.write (x:=l) (e:=l) (by rw[hH];exact trivial) (.inl rfl) (fun b' u hb hu=>(Heap.get?_update_other s.heap (Obj.mapSeq f) (Ne.symm hb)).trans hu) ⟨_,q⟩ ?_;exact⟨hz,its',_,hv,q⟩
theorem Inv.lnew {its:List Value}{t':Nat}(I:Inv X pins σ H s)(hv:zU ys its)(hz:ys.length<=sizeLine) :
  Inv X pins σ (upd H s.heap.objs.size (.lst ys)) { s with heap:=s.heap.push { cls:=.type "list",data:=.seq its.toArray },toks:=t' }:=
 I.laid (fun _ _ q=>am _ q) (ai _) ⟨hz,its,0,hv,aB _ rfl⟩
theorem Inv.fresh (I:Inv X pins σ H s):H s.heap.objs.size=none:=I.hok.fresh (ai _)
theorem Inv.lstM (I:Inv X pins σ H s)(hH:Rd H l (.lst xs)):xs.length<=sizeLine/\∃ (its:List Value) (n:Nat),zU xs its/\xs.length=its.length/\s.heap.get? l=some { cls:=.type "list",data:=.seq its.toArray n }:=by obtain⟨z,its,n,r,e⟩:=(show zW X.prog X.w H s.heap l (.lst xs) from hH.ok I.hok);exact⟨z,its,n,r,r.length,e⟩
theorem zjn {n:Nat}(h:n<=sizeLine):Builtin.List.listTooLong n=false:=by
 unfold Builtin.List.listTooLong
 simp_all
end
section
variable {X:Cx}
def zev:V->List V->Hp->VK->Prop:=fun x vs H Q=>∃l xs y,x = .ref l/\vs=[y]/\H l=some (.lst xs)/\xs.length<sizeLine/\Q .non (upd H l (.lst (xs++[y])))
theorem zdm:MtM X "list.append" zev:=by intro pins s σ H x vs v us Q I rx rv h;obtain⟨l,xs,y,rfl,rfl,hH,hz,q⟩:=h;cases rx;obtain⟨u,rfl,ru⟩:=rv.one;obtain⟨z,its,n,r,hl,e⟩:=I.lstM (.inl hH);refine cb F.slot_list_append ⟨_,e,rfl⟩ F.entry_list_append (F.args_list_append_2 _ _) (PySem.list_append l its.toArray n u (by grind)) ⟨e,?_⟩;refine⟨.non,_,I.lset (its':=its++[u]) hH e (by simp) (r.append (.cons ru .nil)) ?_,rfl,q⟩;rw[aD,cE];lia
def zmu:V->List V->Hp->VK->Prop:=fun x vs H Q=>∃l b xs zs,x = .ref l/\vs=[.ref b]/\H l=some (.lst xs)/\Rd H b (.lst zs)/\xs.length+zs.length<=sizeLine/\Q .non (upd H l (.lst (xs++zs)))
theorem zhz:MtM X "list.extend" zmu:=by
 intro pins s σ H x vs v us Q I rx rv h;obtain⟨l,b,xs,zs,rfl,rfl,hH,hB,hz,q⟩:=h;cases rx;obtain⟨u,rfl,ru⟩:=rv.one;cases ru;obtain⟨z,its,n,r,hl,e⟩:=I.lstM (.inl hH);obtain⟨z2,its2,n2,r2,hl2,e2⟩:=I.lstM hB;have hsz:its.toArray.size+its2.toArray.size<=sizeLine:=by rw[aW,aW];lia
 have hlong:¬ (!its.toArray.isEmpty&&Builtin.List.listTooLong (its.toArray.size+its2.toArray.size))=true:=by
  rw[zjn hsz,cJ]
  grind
 refine cb F.slot_list_extend ⟨_,e,rfl⟩ F.entry_list_extend (F.args_list_extend_2 _ _)
  (AutoSeq1.list_extend_list_list_0 l its.toArray n b its2.toArray n2 hlong (by lia) (by lia)) ⟨e,e2,?_⟩
 refine⟨.non,_,I.lset (its':=its++its2) hH e (by simp) (r.append r2) ?_,rfl,q⟩
 simp_all
def zkx:V->List V->Hp->VK->Prop:=fun x vs H Q=>∃l xs i k y,x = .ref l/\vs=[.int i]/\H l=some (.lst xs)/\-(2 ^ 63)<=i/\i<2 ^ 63/\seqIndex? i xs.length=some k/\xs[k]?=some y/\Q y (upd H l (.lst (xs.eraseIdx k)))
theorem zjk:MtM X "list.pop" zkx:=by
 intro pins s σ H x vs v us Q I rx rv h;obtain⟨l,xs,i,k,y,rfl,rfl,hH,h1,h2,hk,hy,q⟩:=h;cases rx;obtain⟨u,rfl,ru⟩:=rv.one;obtain⟨t,rfl⟩:=ru;obtain⟨z,its,n,r,hl,e⟩:=I.lstM (.inl hH);obtain⟨w,hw,rw'⟩:=r.get hy
 refine cb F.slot_list_pop ⟨_,e,rfl⟩ F.entry_list_pop (F.args_list_pop_2 _ _)
  (MeetsSeq.list_pop_at l its.toArray n i t k w (fitsIndex_both h1 h2) (by simp_all) (by simp_all) (by simp_all)) ⟨e,?_⟩
 refine⟨y,_,I.lset (its':=its.eraseIdx k) hH e ?_ (r.eraseIdx k) ?_,rw',q⟩
 ·simp_all
 ·have:=zdi xs k;lia
def rCat:R2:=fun x y H Q=>∃l b xs zs,x = .ref l/\y = .ref b/\Rd H l (.lst xs)/\Rd H b (.lst zs)/\xs.length+zs.length<=sizeLine/\∀p,H p=none->Q (.ref p) (upd H p (.lst (xs++zs)))
theorem zn7:OpR X (binaryOp .Add) rCat:=by
 intro pins s σ H x y v u Q I rx ry h;obtain⟨l,b,xs,zs,rfl,rfl,hH,hB,hz,q⟩:=h;cases rx;cases ry;obtain⟨z,its,n,r,hl,e⟩:=I.lstM hH;obtain⟨z2,its2,n2,r2,hl2,e2⟩:=I.lstM hB;refine PySem.P.add_list e e2 ?_ (by simp_all);have ea:its.toArray++its2.toArray=(its++its2).toArray:=by simp
 rw[ea];exact⟨.ref _,_,I.lnew (t':=s.toks) (r.append r2) (by simp_all),rfl,q _ I.fresh⟩
theorem zhh {α:Type}(xs:List α)(k:Nat):(List.replicate k xs).flatten.length=k * xs.length:=by simp_all
end
section
variable {prog:Program}{w:World}{A:Around}{E:Value->Shared->Prop}{s:Shared}
end
section
variable {X:Cx}
end
end L2
namespace Att
open PySem PySem.W PySem.Calls PyProof.Rows
theorem zbf {P:Params}{h:Heap}:∀ (ns:List Int) (vs:List Value),WellAll P h vs (ns.map WData.int)->IntsAre vs ns:=by
 intro ns
 induction ns with
 | nil=>
  intro vs w;rw[List.map_nil] at w;cases w;exact .nil
 | cons n ns ih=>
  intro vs w;rw[List.map_cons] at w
  cases w with
  | cons a b=>
   cases a;exact .cons _ _ (ih _ b)
theorem zic {l:OpenLaw}{n:Nat}(hn:l.most=some n){P:Params}{h:Heap}{args:List WData}{vals:List Value}
  (hpre:l.row.toRowW.claim.pre args=true) (hwl:WellAll P h vals args) :
  ∃a vs ns,vals=[Value.ref a]/\args=[WData.list (ns.map WData.int)]/\h.get? a=some { cls:=.type "list",data:=.seq vs.toArray }/\IntsAre vs ns/\ns.length<=n:=by
 have hsh:WShape.hasAll [] args [.list .int]=true:=(pre_splitW hpre).1;have hc:l.pre.holds [] { args:=args }=true:=(pre_splitW hpre).2;obtain⟨d,r,rfl,h1,h2⟩:=hasAllW_cons hsh;obtain rfl:=hasAllW_nil h2;obtain⟨xs,rfl,h3⟩:=hasW_list h1;obtain⟨ns,rfl⟩:=items_int h3
 have hlen:ns.length<=n:=by
  unfold OpenLaw.pre at hc
  have h4:(WTm.not (.lt (.lit (.int (n:Int))) (.len (.arg 0)))).holds [] { args:=[.list (ns.map .int)] }=true:=by
   have h4:=(holds_andW hc).1
   simp_all
  have h5:=condW_of h4 (w_not (w_lt w_lit (w_len_list (w_arg rfl))))
  grind
 cases hwl with
 | cons w1 w2=>
  cases w2
  cases w1 with
  | list ho hall=>exact⟨_,_,ns,rfl,rfl,ho,zbf ns _ hall,hlen⟩
theorem zhP (l:OpenLaw)(args:List WData):l.row.toRowW.claim.post args (.bool true) args=true:=
 postW_of (r:=l.row.toRowW) (X:=(true==true))
  (show WShape.has [] (.bool true) .bool=true by first | rfl | decide | simp[WShape.has,WShape.arms,WShape.armsAll])
  (show (WTm.eq .res (.lit (.bool true))).value [] { args:=args,res:=some (.bool true),after:=args }=some (.bool (true==true)) from w_eq_bool (w_res rfl) w_lit) rfl
theorem attach_call {l:OpenLaw}{n:Nat}{q:Program}{loose:List Str}{XP:(Str->Option Value)->Heap->Prop}{YP:World->Heap->Prop}{d:DefRec}
  (hn:l.most=some n) (hdf:d.params.defaults=[])
  (call:∀ (w:World) (s₀ s₁:Shared) (mg mb:Str->Option Value) (fa:Addr) (o:Obj) (pm cd doc:Value) (a:Addr) (vs:List Value) (ns:List Int),
   Ground q loose [] XP w s₀ mg mb s₁.heap->YP w s₁.heap->
   s₁.heap.get? fa=some o->o.data = .func (docDef d.name d.params d.body d.scope pm cd doc)->s₁.heap.CodeRec cd d.name->mg d.name=some (.ref fa)->
   s₁.heap.get? a=some { cls:=.type "list",data:=.seq vs.toArray }->IntsAre vs ns->ns.length<=n->s₁.gens = #[]->
   codeAny (model l.prog w) callerA (.call (.ref fa) ⟨[.ref a],[]⟩) (fun r s'=>r = .ok (.ret (.bool true))/\OldK s₁.heap s'.heap/\s'.os=s₁.os/\AllBare s'.gens) s₁) :
  WalkO q loose XP YP l.row.toRowW d [] (fun f vs=>PySem.call f vs):=by
 intro w s₀ s₁ mg mb G Y fa o pm cd doc dV kV ho hd hcd hD hmg hg args vals as hpre hlay hrd hwl hlo;obtain rfl:dV = .none:=Dflts.none hD hdf;obtain rfl:kV = .none:=Dflts.noKw hD;obtain⟨a,vs,ns,rfl,rfl,hobj,hints,hlen⟩:=zic hn hpre hwl;refine enter_call (codeAny_mono (call w s₀ s₁ mg mb fa o pm cd doc a vs ns G Y ho (fd_plain hd) hcd hmg hobj hints hlen hg) fun r s' hq=>?_);obtain⟨rfl,h2,h3,h4⟩:=hq;exact⟨.inl ⟨.bool true,.bool true,[],rfl,fun _=>rfl,.bool true,zhP l _,fun _=>⟨List.Pairwise.nil,fun _ hm=>(nomatch hm)⟩⟩,h2,h3,h4⟩
section
variable {prog:Program}{w:World}{A:Around}{E:Value->Shared->Prop}{s:Shared}{K:Frag}
def ledger (h:Heap)(L d:Addr):List (Addr×Obj):=(List.range h.objs.size).filterMap fun a=>if a=L\/a=d then none else (h.get? a).map fun o=>(a,o)
end
end Att
namespace L2
open PySem PySem.Spec PyProof.Rows
theorem zdK:∀ {vs:List Value} {ns:List Int},IntsAre vs ns->zU (ns.map V.int) vs
 | _,_,.nil=>.nil
 | _,_,.cons n t h=>.cons ⟨t,rfl⟩ (zdK h)
def zqg (H:Hp):Prop:=∀b,H b=none\/∃o xs,H b=some (.frz o (.lst xs))
theorem zjf {P:Program}{w:World}{K:PySem.W.Frag}{mg mb:Str->Option Value}{CX:CXT}{k:Nat}{fa a:Addr}{fd:FuncData}{x:Str}{sp:Sp}{s₁:Shared}{vs:List Value}{ns:List Int}
  (KX:K.In s₁.heap) (hns:s₁.heap.Ns mainGlobals mg) (hb:s₁.heap.Ns builtinsNs mb) (hbb:∀x:Str,x ≠ "__name__" -> mb x=bootBuiltins x) (hlim:s₁.heap.NoLimit) (hg:s₁.gens = #[])
  (ha:s₁.heap.get? a=some { cls:=.type "list",data:=.seq vs.toArray }) (hi:IntsAre vs ns) (hl:ns.length<=sizeLine) (hr:Room k callerA)
  (F:∀base:Heap,K.In base->base.Ns mainGlobals mg->FnOk P w K mg base CX k fa fd [x] sp) (hbind:∀ (s:Shared) (u:Value),BindsTo s fd ⟨[u],[]⟩ [(x,u)])
  (hsp:∀H:Hp,zqg H->SqL K H a (ns.map V.int)->sp [.ref a] H (fun v _=>v = .bl true) fun _ _ _=>False)
  (hCX:∀H e s',CX [] H s₁ (fun _ _ _=>False) e s'->False) :
  codeAny (model P w) callerA (.call (.ref fa) ⟨[.ref a],[]⟩) (fun r s'=>r = .ok (.ret (.bool true))/\OldK s₁.heap s'.heap/\s'.os=s₁.os/\AllBare s'.gens) s₁:=by
 have rv:=zdK hi;have lenV:=hi.length
 have core:∀H:Hp,zqg H->SqL K H a (ns.map V.int)->HOk P w H s₁.heap->(∀b,H b≠none->b=a)->(H a≠none->K.lookup a=none)->
   codeAny (model P w) callerA (.call (.ref fa) ⟨[.ref a],[]⟩) (fun r s'=>r = .ok (.ret (.bool true))/\OldK s₁.heap s'.heap/\s'.os=s₁.os/\AllBare s'.gens) s₁:=by
  intro H hO hS hok hA hK;have base_of:∀ {b:Addr} {o:Obj},s₁.heap.get? b=some o->H b=none->(ziZ s₁.heap H).get? b=some o:=fun e n=>zi0 e n
  have noA:∀ {b:Addr} {o:Obj} {es:Array DictEntry} {ep:Nat},s₁.heap.get? b=some o->o.data = .dict es ep->H b=none:=fun {b o es ep} e d=>by grind
  have nsK:∀ {b:Addr} {m:Str->Option Value},s₁.heap.Ns b m->(ziZ s₁.heap H).Ns b m:=fun {b m} ⟨o,es,ep,e,d,r⟩=>⟨o,es,ep,base_of e (noA e d),d,r⟩;have hKb:K.In (ziZ s₁.heap H):=fun b o e=>base_of (KX b o e) (by grind);have hM:Mod K mg (ziZ s₁.heap H):=⟨hKb,nsK hns,⟨mb,nsK hb,hbb⟩,let ⟨mc,h1,h2⟩:=hlim;⟨mc,nsK h1,h2⟩⟩;have e0:Env0 P w K mg (ziZ s₁.heap H) callerA [] s₁ H:=⟨rfl,hM,fun b o e=>zlJ e,Nat.le_of_eq (zgS _ _),trivial,fun b hb=>absurd (show b∈([]:List Addr) from hb) (by simp),hok,.of_eq hg⟩;refine eI ((F _ hKb (nsK hns)).run callerA [] s₁ H ⟨[.ref a],[]⟩ [.ref a] [.ref a] _ _ hr e0 (hbind s₁ (.ref a)) (.cons rfl .nil) (hsp H hO hS)) fun r s' h=>?_
  cases r with
  | error e=>exact (hCX H e s' h).elim
  | ok fl=>
   cases fl with
   | next=>exact False.elim h
   | brk=>exact False.elim h
   | cont=>exact False.elim h
   | ret u=>
    obtain⟨v,H',os,bare,un,hok',r',q⟩:=h;have q':v = .bl true:=q;subst q';obtain rfl:u=Value.bool true:=r';refine⟨rfl,OldK.of_keep fun b o e=>?_,os,bare⟩
    cases q:H b with
    | none=>exact un.keep b o e q (by intro z;exact absurd (show b∈([]:List Addr) from z) (by simp)) (by simp)
    | some u=>
     rcases hO b with z | ⟨ob,xs,z⟩
     ·grind
     ·have z2:=un.frzs b ob _ z;obtain⟨e1,_⟩:=hok b _ z;obtain⟨e2,_⟩:=hok' b _ z2
      grind
 cases hk:K.lookup a with
 | some o=>
  have e:=KX a o hk;rw[ha] at e;cases e;refine core (fun _=>none) (fun _=>.inl rfl) (.inr ⟨_,vs.toArray,_,hk,rfl,rfl,rfl,by simp_all,by simpa using rv⟩) (fun b u z=>by lia) (by grind) fun z=>absurd rfl z
 | none=>
  refine core (fun b=>if b=a then some (.frz { cls:=.type "list",data:=.seq vs.toArray } (.lst (ns.map V.int))) else none) (fun b=>?_) (.inl (.inr ⟨{ cls:=.type "list",data:=.seq vs.toArray },if_pos rfl⟩)) (fun b u z=>?_) (fun b z=>?_) fun _=>hk
  ·by_cases hb:b=a
   ·exact .inr ⟨_,_,if_pos hb⟩
   ·exact .inl (if_neg hb)
  ·by_cases hb:b=a
   ·have z':=(if_pos hb).symm.trans z;cases z';subst hb;exact⟨ha,by simp_all,vs,_,rv,ha⟩
   ·simp_all
  ·grind
theorem zmV {l:PySem.W.OpenLaw}{n k:Nat}{q:Program}{loose:List Str}{XP:(Str->Option Value)->Heap->Prop}{YP:World->Heap->Prop}{d:DefRec}{K:Params->PySem.W.Frag}{CX:World->CXT}{sp:World->Sp}{x:Str}
  (hn:l.most=some n) (hn2:n<=sizeLine) (hdf:d.params.defaults=[]) (hr:Room k callerA)
  (hY:∀ (w:World) (h:Heap),YP w h->(K w.params).In h)
  (F:∀ (w:World) (mg:Str->Option Value) (fa:Addr) (h:Heap),(K w.params).In h->h.Ns mainGlobals mg->mg d.name=some (.ref fa)->
   ∃fd:FuncData,(∀ (s:Shared) (u:Value),BindsTo s fd ⟨[u],[]⟩ [(x,u)])/\
    ∀base:Heap,(K w.params).In base->base.Ns mainGlobals mg->FnOk l.prog w (K w.params) mg base (CX w) k fa fd [x] (sp w))
  (hsp:∀ (w:World) (H:Hp) (a:Addr) (ns:List Int),ns.length<=n->zqg H->SqL (K w.params) H a (ns.map V.int)->sp w [.ref a] H (fun v _=>v = .bl true) fun _ _ _=>False)
  (hCX:∀ (w:World) (H:Hp) (s:Shared) (e:Value) (s':Shared),CX w [] H s (fun _ _ _=>False) e s'->False) :
  PySem.W.WalkO q loose XP YP l.row.toRowW d [] (fun f vs=>PySem.call f vs):=by
 refine Att.attach_call hn hdf fun w s₀ s₁ mg mb fa o pm cd doc a vs ns G Y ho hd hcd hmg hobj hints hlen hg=>?_;have KX:=hY w _ Y;obtain⟨fd,hb,hF⟩:=F w mg fa _ KX G.T.g hmg;exact zjf KX G.T.g G.T.b G.T.builtins G.T.nolimit hg hobj hints (ao hlen hn2) hr hF hb (fun H hO hS=>hsp w H a ns hlen hO hS) fun H e s'=>hCX w H s₁ e s'
def uA (s:Stmt):Arguments:=match s with
 | .FunctionDef _ a _ _ _ _ _ _ _ _=>a
 | _=>{ posonlyargs:=[],args:=[],vararg:=none,kwonlyargs:=[],kw_defaults:=[],kwarg:=none,defaults:=[] }
def ym (s:Stmt):List Stmt:=match s with
 | .FunctionDef _ _ b _ _ _ _ _ _ _=>b
 | _=>[]
def zd (s:Stmt):Scope:=match s with
 | .FunctionDef _ _ _ _ _ _ sc _ _ _=>sc
 | _=>{ kind:=.function,names:=[],isGenerator:=false,isCoroutine:=false }
abbrev CX0:CXT:=fun _ _ _ _ _ _=>False
abbrev E0:XK:=fun _ _ _=>False
theorem zru {X:Cx}:zgd CX0 X E0:=fun _ _ _ _ _ _ _ h=>h.elim
structure Fun (K:PySem.W.Frag)(x qual:Str)(st:Stmt)(f:Addr)(fd:FuncData):Prop where
 ex:∃ (oc:Value) (od:Option Addr) (kV doc pm:Value) (an:Option Addr) (cdv ct:Value) (osl:Array (Option Value)),
  fd=PySem.W.fnOf x qual (uA st) (ym st) (zd st) .none kV doc pm an cdv ct/\K.lookup f=some ⟨oc,od,.func fd,osl⟩/\PySem.W.codeIn K cdv qual=true
 kp:PySem.W.keepIn K (.ref f)=true
section
variable {P:Program}{w:World}{K:PySem.W.Frag}{mg:Str->Option Value}{base:Heap}
theorem Fun.ok {x qual:Str}{st:Stmt}{f:Addr}{fd:FuncData}{N ps:List Str}{k:Nat}{sp:Sp}(F:Fun K x qual st f fd)(S:FnScope N ps (zd st))(len:∀vs H Q E,sp vs H Q E->vs.length=ps.length)
  (hbody:∀ (cdv:Value) (A:Around) (outer:List Env) (s:Shared) (H:Hp) (vs:List V) (Q:VK) (E:XK),Room k (A.deeper (envOfC qual (zd st) s.heap.objs.size f cdv))->sp vs H Q E->
   ∃t,PSs (zdO CX0 P w K mg base N qual (zd st) f cdv A outer s H E).nox (ym st) t/\t { nx:=fun _ H'=>Q .non H',rt:=Q } (xF N vs) H):FnOk P w K mg base CX0 (k+1) f fd ps sp:=by
 obtain⟨oc,od,kV,doc,pm,an,cdv,ct,osl,rfl,lk,hcd⟩:=F.ex;refine zqQ lk hcd S len fun A outer s H vs Q E hr hsp=>?_;obtain⟨t,h,q⟩:=hbody cdv A outer s H vs Q E hr hsp;exact⟨t,h.nox,q⟩
theorem Fun.binds {x qual:Str}{st:Stmt}{f:Addr}{fd:FuncData}{ps:List Str}(F:Fun K x qual st f fd)
  (h:∀ (kV doc pm:Value) (an:Option Addr) (cdv ct:Value) (us:List Value),us.length=ps.length->bindArgs (PySem.W.fnOf x qual (uA st) (ym st) (zd st) .none kV doc pm an cdv ct) ⟨us,[]⟩=pure (ps.zip us)):zfA K fd ps []:=by
 obtain⟨oc,od,kV,doc,pm,an,cdv,ct,osl,rfl,lk,hcd⟩:=F.ex;exact .all (h kV doc pm an cdv ct)
theorem zkf {x qual:Str}{st:Stmt}{f:Addr}{oc:Value}{od an:Option Addr}{osl:Array (Option Value)}{kV doc pm cdv ct:Value}(l:K.lookup f=some ⟨oc,od,.func (PySem.W.fnOf x qual (uA st) (ym st) (zd st) .none kV doc pm an cdv ct),osl⟩)
  (c:PySem.W.codeIn K cdv qual=true) (k:PySem.W.keepIn K (.ref f)=true):Fun K x qual st f (PySem.W.fnOf x qual (uA st) (ym st) (zd st) .none kV doc pm an cdv ct):=⟨⟨oc,od,kV,doc,pm,an,cdv,ct,osl,rfl,l,c⟩,k⟩
end
theorem zlk {A:Around}{k:Nat}(hr:Room k A):A.units+1<cLine:=aU (Nat.add_le_add_left (by decide:1<=64) _) hr.units
theorem zdG {n:Nat}(h:n<=1000):n<sizeLine:=aU h (by decide)
section
variable {X:Cx}
end
theorem iteF {A B:Prop}(h:B):if false=true then A else B:=by grind
theorem iteT {A B:Prop}(h:A):if true=true then A else B:=by grind
theorem zpX {c A B:Prop}[Decidable c](h1:c->A)(h2:¬ c->B):if c then A else B:=by grind
def yW (H H':Hp):Prop:=∀b o,H b=some o->H' b=some o
theorem yW.trans {H H1 H2:Hp}(a:yW H H1)(b:yW H1 H2):yW H H2:=fun c o h=>b c o (a c o h)
theorem yW.free {H H':Hp}(e:yW H H'){l:Addr}(h:H' l=Option.none):H l=Option.none:=by
 cases q:H l with
 | none=>rfl
 | some o=>
  rw[e l o q] at h;cases h
theorem yW.seq {K:PySem.W.Frag}{H H':Hp}{a:Addr}{xs:List V}(e:yW H H')(h:SqL K H a xs):SqL K H' a xs:=by
 rcases h with (h | ⟨o,h⟩) | h
 ·exact .inl (.inl (e _ _ h))
 ·exact .inl (.inr ⟨o,e _ _ h⟩)
 ·exact .inr h
section
variable {κ:Type}[DecidableEq κ]
end
section
variable {X:Cx}
theorem zdU:zbO X (.builtin "isinstance") (fun xs H Q=>∃x T t b,xs=[x,.ty T]/\TyOf X.K H x t/\PySem.W.kitOne X.K t (.type T)=some b/\Q (.bl b) H):=by intro pins s σ H xs us Q I r h;obtain⟨x,T,t,b,rfl,ty,e,q⟩:=h;obtain⟨u,c,rfl,ru,rc⟩:=zr7 r;cases rc;exact zg3 I ru ty e fun tk=>⟨.bl b,H,I.tok tk,rfl,q⟩
theorem zeo:OpR X (compareOp .IsNot) (fun x y H Q=>∃a b,x = .bl a/\y = .bl b/\Q (.bl (a != b)) H):=by intro pins s σ H x y v u Q I rx ry h;obtain⟨a,b,rfl,rfl,q⟩:=h;cases rx;cases ry;exact isnot_bool ⟨.bl _,H,I,rfl,q⟩
def zjL (K:PySem.W.Frag):R2:=fun x y H Q=>∃a b xs ys,x = .ref a/\y = .ref b/\H a=some (.tup xs)/\H b=some (.tup ys)/\xs.length+ys.length<=sizeLine/\
 ∀p H',H' p=some (.tup (xs++ys))->yW H H'->Q (.ref p) H'
theorem zlM:OpR X (binaryOp .Add) (zjL X.K):=by
 intro pins s σ H x y v u Q I rx ry h;obtain⟨a,b,xs,ys,rfl,rfl,ha,hb,hz,q⟩:=h;by_cases hx:xs=[]
 ·subst hx;cases rx;cases ry;obtain⟨its,r1,p1,_⟩:=I.tuple (.of ha);obtain⟨its2,r2,p2,_⟩:=I.tuple (.of hb);obtain⟨⟨cls,dd,data,sl⟩,ho,hc,n,hd⟩:=id p1;obtain⟨⟨cls2,dd2,data2,sl2⟩,ho2,hc2,n2,hd2⟩:=id p2;simp only at hc hd hc2 hd2;subst hc hd hc2 hd2;have hi:its=[]:=r1.nil_iff.mpr rfl
  exact concat_meets ⟨_,ho,rfl⟩ ⟨_,ho2,rfl⟩ eC seq_tuple_add di cZ (cU _ _)
   (tuple_addW0 a b its.toArray its2.toArray n n2 dd dd2 sl sl2 (by simp[hi])) ⟨ho,ho2,⟨.ref b,H,I,rfl,q b H hb fun _ _ e=>e⟩⟩
 ·refine zlN pins s σ H _ _ v u Q I rx ry ⟨a,b,xs,ys,rfl,rfl,.of ha,.of hb,hx,hz,fun e=>?_,fun e p hp=>?_⟩
  ·subst e;exact q a H (by simp_all) fun _ _ e=>e
  ·exact q p _ zg fun c o e=>by rw[zc (zb e hp)];exact e
end
theorem zeK (l:Addr)(items:Array Value)(n:Nat)(dd:Option Addr)(sl:Array (Option Value))(u:Tok) :
  Meets (Builtin.«tuple.__mul__» ⟨[.ref l,.int 1 u],[]⟩) (fun _ R s=>s.heap.get? l=some { cls:=.type "tuple",dict:=dd,data:=.seq items n,slots:=sl }/\R (.ok (.ret (Value.ref l))) s):=
 .of_wp fun prog w A R s h=>by
  obtain⟨hp,g,d,tk,os⟩:=s;obtain⟨hl,h⟩:=h;have f1:=cN
  wp_walk using AutoSeq1.wpAny_loadPart' hl
  exact⟨_,rfl,h⟩
theorem zf0 (l:Addr)(items:Array Value)(n:Nat)(dd:Option Addr)(sl:Array (Option Value))(x:Int)(u:Tok)(hx:2<=x)(hc0:x<2 ^ 63)(hc1:¬ items.isEmpty=true)(hsz:items.size * x.toNat<=sizeLine) :
  Meets (Builtin.«tuple.__mul__» ⟨[.ref l,.int x u],[]⟩) (fun _ R s=>s.heap.get? l=some { cls:=.type "tuple",dict:=dd,data:=.seq items n,slots:=sl }/\R (.ok (.ret (Value.ref s.heap.objs.size))) { s with heap:=s.heap.push { cls:=Value.type "tuple",data:=Data.seq (List.foldl (fun x1 x2=>x1++x2) #[] (List.replicate x.toNat items)) },toks:=s.toks }):=
 .of_wp fun prog w A R s h=>by
  obtain⟨hp,g,d,tk,os⟩:=s;obtain⟨hl,h⟩:=h;have f1:=cN
  wp_walk
  have e1:¬ ((decide (x < -2 ^ 63) || decide (x ≥ 2 ^ 63))=true):=by simp;lia
  have e2:¬ ((items.isEmpty || x==1)=true):=by grind
  have e3:¬ ((decide (x<=0) || items.isEmpty)=true):=by grind
  have xe:x=(x.toNat:Int):=by lia
  have pe:(items.size:Int) * x=((items.size * x.toNat:Nat):Int):=by rw[Int.natCast_mul,<- xe]
  have lz:(sizeLine:Nat)<=(2 ^ 63 - 1) / 8:=by decide
  have e4:¬ ((items.size:Int) * x > (2 ^ 63 - 1) / 8):=by rw[pe];lia
  have e5:¬ (Builtin.Tuple.tupleTooMany ((items.size:Int) * x)=true):=by
   rw[pe];unfold Builtin.Tuple.tupleTooMany
   grind
  have e6:sizeOk (.seq (List.foldl (fun x1 x2=>x1++x2) #[] (List.replicate x.toNat items))):=by
   have:=zbc items.toList x.toNat [];show (List.foldl (fun x1 x2=>x1++x2) #[] (List.replicate x.toNat items)).size<=sizeLine;have h2:List.foldl (fun x1 x2=>x1++x2) #[] (List.replicate x.toNat items)=(List.replicate x.toNat items.toList).flatten.toArray:=by simpa using this
   rw[h2,aW,zhh,aP,Nat.mul_comm];exact hsz
  generalize hB:((2:Int) ^ 63 - 1) / 8=B at e4;rw[if_neg e1];refine aa (eu ⟨_,hl,rfl,n,rfl⟩ ?_);rw[if_neg e2];show wpAny _ _ (if (decide (x<=0) || items.isEmpty)=true then _ else _) _ _ _;rw[if_neg e3];show wpAny _ _ (if (items.size:Int) * x > B then _ else _) _ _ _;rw[if_neg e4];show wpAny _ _ (if Builtin.Tuple.tupleTooMany ((items.size:Int) * x)=true then _ else _) _ _ _;rw[if_neg e5];show wpAny _ _ (Builtin.Tuple.tupleExact _ >>= _) _ _ _;refine aa (m:=Builtin.Tuple.tupleExact _) (bc ?_ e6);exact ae ⟨_,rfl,h⟩
def zrG:R2:=fun x y H Q=>∃l k xs,x = .ref l/\y = .int k/\H l=some (.tup xs)/\1<=k/\k<2 ^ 63/\xs≠[]/\xs.length * k.toNat<=sizeLine/\
 ∀p H',H' p=some (.tup (List.replicate k.toNat xs).flatten)->yW H H'->Q (.ref p) H'
theorem yv:fillsNumberSlot (.type "tuple") "mul" = pure false:=rfl
theorem xf:seqRepeat? (.type "tuple")=pure (some (.builtin "tuple.__mul__")):=by unfold seqRepeat?;rw[PySem.seqSlot_of (T := "tuple") (name := "__mul__") (id := "tuple.__mul__") F.slot_tuple_mul.lookup (by decide +kernel),PySem.seqSlot_of (T := "tuple") (name := "__rmul__") (id := "tuple.__rmul__") F.slot_tuple_rmul.lookup (by decide +kernel)];rfl
theorem yN (a:Int)(t:Tok)(l:Addr)(items:Array Value)(n:Nat)(dd:Option Addr)(sl:Array (Option Value)) :
  Meets (Builtin.«int.__rmul__» ⟨[.int a t,.ref l],[]⟩) (fun _ R s=>s.heap.get? l=some { cls:=.type "tuple",dict:=dd,data:=.seq items n,slots:=sl }/\R (.ok (.ret Value.notImplemented)) s):=
 .of_wp fun prog w A R s h=>by obtain⟨hp,g,d,tk,os⟩:=s;obtain⟨hl,h⟩:=h;wp_walk;exact⟨_,rfl,h⟩
section
variable {X:Cx}
theorem zlP:OpR X (binaryOp .Mult) zrG:=by
 intro pins s σ H x y v u Q I rx ry h;obtain⟨l,k,xs,rfl,rfl,hH,h1,h2,hx,hz,q⟩:=h;cases rx;obtain⟨t,rfl⟩:=ry;obtain⟨its,r,pt,zz⟩:=I.tuple (.of hH);have hlen:=r.length;obtain⟨⟨cls,dd,data,sl⟩,e,hc,n,hd⟩:=id pt;simp only at hc hd;subst hc hd
 refine b6 (T := "tuple") (U := "int") (by decide) ⟨_,e,rfl⟩ (fun s'=>cy s' k t) yv dN bU xf F.slot_int_index.lookup
  (cb bU (cy s k t) dB (dq _ _) (yN k t l its.toArray n dd sl) ⟨e,rfl,⟨_,e,rfl⟩,?_⟩)
 by_cases hk:k=1
 ·subst hk;exact cb cO ⟨_,e,rfl⟩ cH (cA _ _) (zeK l its.toArray n dd sl t) ⟨e,⟨.ref l,H,I,rfl,q l H (by simpa using hH) fun _ _ e=>e⟩⟩
 ·have hfold:List.foldl (fun x1 x2=>x1++x2) #[] (List.replicate k.toNat its.toArray)=(List.replicate k.toNat its).flatten.toArray:=by
   have:=zbc its k.toNat [];simpa using this
  refine cb cO ⟨_,e,rfl⟩ cH (cA _ _) (zf0 l its.toArray n dd sl k t (by lia) h2 (fun z=>hx (r.nil_iff.mp (by simpa using z))) (by simp_all)) ⟨e,?_⟩;rw[hfold];refine⟨.ref s.heap.objs.size,_,I.laid (t':=s.toks) (o:=.tup (List.replicate k.toNat xs).flatten) (fun b ob q=>am _ q) (ai _) ?_,rfl,q _ _ zg fun c o e=>by rw[zc (zb e (I.hok.fresh (ai _)))];exact e⟩;exact⟨by rw[zhh,Nat.mul_comm];exact hz,_,r.rep k.toNat,xP.new _ _⟩
end
end L2
namespace HT
open PySem PySem.Spec PyProof.Rows
section
variable {prog:Program}{w:World}{A:Around}{E:Value->Shared->Prop}{s:Shared}
theorem getItem_tuple_whole {t sl:Addr}{items:Array Value}{vl vu:Value}{lo hi:Option Int}{Q:Value->Shared->Prop}(ht:IsTup s.heap t items)(hs:s.heap.IsSliceOf sl vl vu .none)(pl:IsPart vl lo)(pu:IsPart vu hi)
  (hw:sIx items.size 0 lo=0/\sIx items.size items.size hi=items.size) (h:Q (.ref t) s) (hsz:items.size<=sizeLine):wpAny (model prog w) A (getItem (.ref t) (.ref sl)) Q E s:=by
 obtain⟨os,hos,hcs,hds⟩:=id hs;have hTs:s.TypeIs (.ref sl) "slice" := ⟨os,hos,hcs⟩;unfold getItem;try with_reducible refine wpAny_holding ?_
 first | refine wpAny_bind (wpAny_pure ?_) | skip
 refine wpAny_bind (wpAny_sequenceKey ht.typeIs (by decide) ?_)
 refine wpAny_bind (wpAny_callSpecial?_slot (name:=Str.ofString "__getitem__") ht.typeIs PyProof.Rows.slot_tuple_getitem
  (wpAny_call_entry PyProof.Rows.slot_tuple_getitem ht.typeIs entry_tuple_getitem ?_ (args_tuple_getitem _ _)))
 show wpAny _ _ (Builtin.Tuple.tupleItemsOf (.ref t) >>= _) _ _ s;refine wpAny_bind (tupleItemsOf_ ht ?_);refine wpAny_bind (wpAny_typeOf hTs ?_);rw[if_pos (by decide)];refine wpAny_bind (xL hs pl pu ?_)
 have hyes:(((sIx items.size 0 lo:Nat):Int)==0&&(1:Int)==1&&(sIx items.size items.size hi - sIx items.size 0 lo)==items.size)=true:=by simp_all
 show wpAny _ _ (if (((sIx items.size 0 lo:Nat):Int)==0&&(1:Int)==1&&(sIx items.size items.size hi - sIx items.size 0 lo)==items.size)=true then _ else _) _ _ s;rw[if_pos hyes];unfold Builtin.Tuple.tupleIsExact;refine wpAny_bind (wpAny_bind (wpAny_typeOf ht.typeIs ?_));refine wpAny_pure ?_;rw[if_pos (by decide)];refine wpAny_bind (wpAny_rule ?_);exact wpAny_pure ⟨_,rfl,wpAny_pure h⟩
end
end HT
namespace L2
open PySem PySem.Spec PyProof.Rows
section
variable {X:Cx}
def rSlA:V->Option Int->Option Int->Hp->VK->Prop:=fun x lo hi H Q=>∃a xs,x = .ref a/\H a=some (.tup xs)/\∀p H',H' p=some (.tup (zbR xs lo hi))->yW H H'->Q (.ref p) H'
theorem zmH:SlR X rSlA:=by
 intro pins s σ H x v vl vu lo hi sl Q I rx hs pl pu h;obtain⟨a,xs,rfl,ha,q⟩:=h;by_cases hw:HT.sIx xs.length 0 lo=0/\HT.sIx xs.length xs.length hi=xs.length
 ·cases rx;obtain⟨its,r,ht,hz⟩:=I.tuple (.of ha);have hlen:its.toArray.size=xs.length:=by rw[aW];exact r.length.symm
  refine⟨"tuple",_,PyProof.Rows.slot_tuple_getitem.lookup,ht.typeIs,?_⟩;refine HT.getItem_tuple_whole ht hs pl pu (by rw[hlen];exact hw) ⟨.ref a,H,I,rfl,q a H ?_ fun _ _ e=>e⟩ (by rw[hlen];exact hz);unfold zbR
  grind
 ·exact zpj pins s σ H _ v vl vu lo hi sl Q I rx hs pl pu ⟨a,xs,rfl,.of ha,hw,fun p hp=>q p _ zg fun c o e=>by rw[zc (zb e hp)];exact e⟩
inductive Dt where
 | non | bl (b:Bool) | int (i:Int) | str (x:Str) | tup (l:List Dt) | lst (l:List Dt) | dct
mutual
def Is (H:Hp):Dt->V->Prop
 | .non,v=>v = .non
 | .bl b,v=>v = .bl b
 | .int i,v=>v = .int i
 | .str x,v=>v = .str x
 | .tup l,v=>∃a xs,v = .ref a/\H a=some (.tup xs)/\IsL H l xs
 | .lst l,v=>∃a xs,v = .ref a/\Rd H a (.lst xs)/\IsL H l xs
 | .dct,v=>∃a kvs,v = .ref a/\H a=some (.dK kvs)/\kvs=[]
def IsL (H:Hp):List Dt->List V->Prop
 | [],xs=>xs=[]
 | d::ds,xs=>∃x r,xs=x::r/\Is H d x/\IsL H ds r
end
def kO (d:Addr)(ob:Obj):HO:=.ext fun h=>h.get? d=some ob
open Classical in
@[reducible] noncomputable def pnK:HO->Option (List (Key×V))
 | .dK kvs=>some kvs
 | .ext φ=>if (∃d ob,(∃h:Heap,h.get? d=some ob)/\φ=fun h=>h.get? d=some ob) then some [(Sum.inr "at",.non)] else none
 | _=>none
def zm (H H':Hp):Prop:=∀b o,H b=some o->(∀kvs,pnK o=some kvs->uI kvs (Sum.inr "at" : Key)=none)->H' b=some o
theorem zm.refl (H:Hp):zm H H:=fun _ _ e _=>e
theorem zm.trans {H H1 H2:Hp}(a:zm H H1)(b:zm H1 H2):zm H H2:=fun c o e n=>b c o (a c o e n) n
theorem zm.same {H H1:Hp}(a:yW H H1):zm H H1:=fun c o e _=>a c o e
theorem zm.upd {H:Hp}{p:Addr}{o:HO}(h:H p=none):zm H (upd H p o):=fun c u e _=>by rw[zc (zb e h)];exact e
theorem yW.upd {H:Hp}{p:Addr}{o:HO}(h:H p=none):yW H (upd H p o):=fun c u e=>by rw[zc (zb e h)];exact e
theorem zm.tup {H H1:Hp}(a:zm H H1){p:Addr}{xs:List V}(h:H p=some (.tup xs)):H1 p=some (.tup xs):=a _ _ h fun _ e=>by cases e
theorem zm.rdl {H H1:Hp}(a:zm H H1){p:Addr}{xs:List V}(h:Rd H p (.lst xs)):Rd H1 p (.lst xs):=h.imp (fun h=>a _ _ h fun _ e=>by cases e) fun⟨o,h⟩=>⟨o,a _ _ h fun _ e=>by cases e⟩
theorem Rd.same {H H1:Hp}{u:HO}{p:Addr}(h:Rd H p u)(a:yW H H1):Rd H1 p u:=h.imp (a _ _) fun⟨o,h⟩=>⟨o,a _ _ h⟩
theorem zm.lst {H H1:Hp}(a:zm H H1){p:Addr}{xs:List V}(h:H p=some (.lst xs)):H1 p=some (.lst xs):=a _ _ h fun _ e=>by cases e
mutual
theorem Is.stay {H H1:Hp}(a:zm H H1):∀ {d:Dt} {v:V},Is H d v->Is H1 d v
 | .non,_,h=>h
 | .bl _,_,h=>h
 | .int _,_,h=>h
 | .str _,_,h=>h
 | .tup l,v,h=>by obtain⟨p,xs,e,hp,hl⟩:=h;exact⟨p,xs,e,a.tup hp,IsL.stay a hl⟩
 | .lst l,v,h=>by obtain⟨p,xs,e,hp,hl⟩:=h;exact⟨p,xs,e,a.rdl hp,IsL.stay a hl⟩
 | .dct,v,h=>by obtain⟨p,kvs,e,hp,hl⟩:=h;exact⟨p,kvs,e,a _ _ hp fun kvs' e=>by cases e;subst hl;rfl,hl⟩
theorem IsL.stay {H H1:Hp}(a:zm H H1):∀ {ds:List Dt} {xs:List V},IsL H ds xs->IsL H1 ds xs
 | [],_,h=>h
 | d::ds,xs,h=>by obtain⟨x,r,e,h1,h2⟩:=h;exact⟨x,r,e,Is.stay a h1,IsL.stay a h2⟩
end
theorem IsL.length {H:Hp}:∀ {ds:List Dt} {xs:List V},IsL H ds xs->xs.length=ds.length
 | [],_,h=>by cases h;rfl
 | d::ds,xs,h=>by obtain⟨x,r,rfl,_,h2⟩:=h;rw[a8,a8,IsL.length h2]
theorem IsL.getD {H:Hp}:∀ {ds:List Dt} {xs:List V} {i:Nat} {d:Dt},IsL H ds xs->ds[i]?=some d->∃x,xs[i]?=some x/\Is H d x
 | [],_,_,_,_,e=>by simp at e
 | d::ds,xs,i,x,h,e=>by
  obtain⟨y,r,rfl,h1,h2⟩:=h
  cases i with
  | zero=>simp at e;subst e;exact⟨y,rfl,h1⟩
  | succ i=>
   obtain⟨d',q1,q2⟩:=IsL.getD (i:=i) (d:=x) h2 (by simpa using e)
   simp_all
theorem IsL.append {H:Hp}:∀ {ds es:List Dt} {xs ys:List V},IsL H ds xs->IsL H es ys->IsL H (ds++es) (xs++ys)
 | [],_,_,_,h,k=>by cases h;exact k
 | d::ds,es,xs,ys,h,k=>by obtain⟨y,r,rfl,h1,h2⟩:=h;exact⟨y,r++ys,rfl,h1,IsL.append h2 k⟩
theorem IsL.take {H:Hp}:∀ {ds:List Dt} {xs:List V} (n:Nat),IsL H ds xs->IsL H (ds.take n) (xs.take n)
 | _,_,0,_=>by simp[IsL]
 | [],_,n+1,h=>by cases h;simp[IsL]
 | d::ds,xs,n+1,h=>by obtain⟨y,r,rfl,h1,h2⟩:=h;exact⟨y,r.take n,rfl,h1,IsL.take n h2⟩
theorem IsL.drop {H:Hp}:∀ {ds:List Dt} {xs:List V} (n:Nat),IsL H ds xs->IsL H (ds.drop n) (xs.drop n)
 | _,_,0,h=>h
 | [],_,n+1,h=>by cases h;simp[IsL]
 | d::ds,xs,n+1,h=>by obtain⟨y,r,rfl,h1,h2⟩:=h;exact IsL.drop n h2
theorem IsL.one {H:Hp}{d:Dt}{x:V}(h:Is H d x):IsL H [d] [x]:=⟨x,[],rfl,h,rfl⟩
theorem IsL.ints {H:Hp}:∀ {ns:List Int},IsL H (ns.map .int) (ns.map .int)
 | []=>rfl
 | n::ns=>⟨_,_,rfl,rfl,IsL.ints⟩
theorem IsL.of_ints {H:Hp}:∀ {ns:List Int} {xs:List V},IsL H (ns.map .int) xs->xs=ns.map .int
 | [],_,h=>h
 | n::ns,xs,h=>by obtain⟨y,r,rfl,h1,h2⟩:=h;cases h1;rw[IsL.of_ints h2];rfl
def Dt.ty:Dt->String
 | .non => "NoneType" | .bl _ => "bool" | .int _ => "int" | .str _ => "str" | .tup _ => "tuple" | .lst _ => "list" | .dct => "dict"
theorem Is.ty {K:PySem.W.Frag}{H:Hp}:∀ {d:Dt} {v:V},Is H d v->TyOf K H v (.type d.ty)
 | .non,_,h=>by cases h;exact .non
 | .bl _,_,h=>by cases h;exact .bl _
 | .int _,_,h=>by cases h;exact .int _
 | .str _,_,h=>by cases h;exact .str _
 | .tup l,v,h=>by obtain⟨p,xs,rfl,hp,hl⟩:=h;exact .tup hp
 | .lst l,v,h=>by obtain⟨p,xs,rfl,hp,hl⟩:=h;exact hp.elim .lst fun⟨_,hp⟩=>.frz hp
 | .dct,v,h=>by obtain⟨p,xs,rfl,hp,hl⟩:=h;exact .dK hp
@[reducible] def Dt.isTup:Dt->Bool
 | .tup _=>true | _=>false
@[reducible] def Dt.isLst:Dt->Bool
 | .lst _=>true | _=>false
@[reducible] def Dt.isInt:Dt->Bool
 | .int _=>true | .bl _=>true | _=>false
@[reducible] def Dt.isBl:Dt->Bool
 | .bl _=>true | _=>false
def Dt.isWhole:Dt->Bool
 | .int _=>true | _=>false
theorem zlz (K:PySem.W.Frag)(d:Dt):PySem.W.kitOne K (.type d.ty) (.type "tuple")=some d.isTup:=by cases d <;> rfl
theorem zly (K:PySem.W.Frag)(d:Dt):PySem.W.kitOne K (.type d.ty) (.type "list")=some d.isLst:=by cases d <;> rfl
theorem zlx (K:PySem.W.Frag)(d:Dt):PySem.W.kitOne K (.type d.ty) (.type "int")=some d.isInt:=by cases d <;> rfl
theorem zkm (K:PySem.W.Frag)(d:Dt):PySem.W.kitOne K (.type d.ty) (.type "bool")=some d.isBl:=by cases d <;> rfl
end
open PySem PySem.Spec PyProof.Rows
def zbQ (env:Env):List (Str×NameKind)->List (Str×Addr)->List (Str×Addr)
 | [],cs=>cs
 | x::r,cs=>zbQ env r (if (x.2==NameKind.free)=true then (x.1,(env.cells.lookup x.1).getD 0)::cs else cs)
theorem zfC {env:Env}{scope:Scope}(h:∀x∈scope.names,x.2 = .free->∃c,env.cells.lookup x.1=some c):closureFor scope env=pure (zbQ env scope.names []):=by
 have gen:∀ (names:List (Str×NameKind)) (cs:List (Str×Addr)),(∀x∈names,x.2 = .free->∃c,env.cells.lookup x.1=some c)->
   (forIn names cs (fun x r=>match x with
    | (name,kind)=>if (kind==NameKind.free)=true then do let a <- cellOf env name;pure (ForInStep.yield ((name,a)::r)) else pure (ForInStep.yield r)):Sem (List (Str×Addr)))=pure (zbQ env names cs):=by
  intro names
  induction names with
  | nil=>intro cs _;rfl
  | cons x r ih=>
   intro cs hh;obtain⟨n,k⟩:=x;rw[List.forIn_cons];by_cases hk:(k==NameKind.free)=true
   ·obtain⟨c,hc⟩:=hh (n,k) aj (dO hk);have hc':env.cells.lookup n=some c:=hc;have e:cellOf env n=pure c:=by unfold cellOf;rw[hc']
    simp only[hk,if_true,e,pure_bind];rw[ih _ fun y hy=>hh y (ak _ hy)];show pure _=pure (zbQ env r (if (k==NameKind.free)=true then (n,(env.cells.lookup n).getD 0)::cs else cs))
    simp_all
   ·simp only[hk,pure_bind]
    have e2:zbQ env ((n,k)::r) cs=zbQ env r cs:=by show zbQ env r (if (k==NameKind.free)=true then _ else cs)=_;rw[if_neg hk]
    simp_all
 unfold closureFor;have:=gen scope.names [] h;simpa using this
theorem xS {env:Env}:∀ {names:List (Str×NameKind)} {cs:List (Str×Addr)} {x:Str} {c:Addr},(∀y∈names,y.2 = .free->∃c,env.cells.lookup y.1=some c)->(zbQ env names cs).lookup x=some c->env.cells.lookup x=some c\/cs.lookup x=some c
 | [],_,_,_,_,h=>.inr h
 | (n,k)::r,cs,x,c,hh,h=>by
  have ih:=xS (names:=r) (x:=x) (c:=c) (fun y hy=>hh y (ak _ hy)) h;rcases ih with ih | ih
  ·exact .inl ih
  ·by_cases hk:(k==NameKind.free)=true
   ·obtain⟨c',hc⟩:=hh (n,k) aj (dO hk)
    grind
   ·simp_all
theorem zbY {env:Env}:∀ {names:List (Str×NameKind)} {cs:List (Str×Addr)} {x:Str},(∃c,cs.lookup x=some c)->∃c,(zbQ env names cs).lookup x=some c
 | [],_,_,h=>h
 | (n,k)::r,cs,x,h=>by
  refine zbY (names:=r) ?_
  grind
theorem uh {env:Env}:∀ {names:List (Str×NameKind)} {cs:List (Str×Addr)} {x:Str},names.lookup x=some .free->∃c,(zbQ env names cs).lookup x=some c
 | [],_,_,h=>by simp at h
 | (n,k)::r,cs,x,h=>by
  rw[cr] at h
  cases e:x==n with
  | true=>
   rw[e] at h;have h':some k=some NameKind.free:=h;cases h';refine zbY (names:=r) ?_
   simp_all
  | false=>
   rw[e] at h;exact uh (names:=r) h
theorem yy {env:Env}:∀ {names:List (Str×NameKind)} {x:Str} {k:NameKind},(∀y∈names,y.2≠.cell)->
  (names.map fun (n,k)=>if (k==NameKind.free&&env.scope.kind==.function&&env.kindOf n==some .cell) then (n,NameKind.cell) else (n,k)).lookup x=some k->(k = .cell\/k = .free)->names.lookup x=some .free
 | [],_,_,_,h,_=>by simp at h
 | (n,k)::r,x,k',hc,h,hk=>by
  have ih:=@yy env r x k' (fun y hy=>hc y (ak _ hy))
  grind
theorem yz {env:Env}:∀ {names:List (Str×NameKind)} {x:Str},names.lookup x=some .free->
  (names.map fun (n,k)=>if (k==NameKind.free&&env.scope.kind==.function&&env.kindOf n==some .cell) then (n,NameKind.cell) else (n,k)).lookup x=some .cell\/
  (names.map fun (n,k)=>if (k==NameKind.free&&env.scope.kind==.function&&env.kindOf n==some .cell) then (n,NameKind.cell) else (n,k)).lookup x=some .free
 | [],_,h=>by simp at h
 | (n,k)::r,x,h=>by
  have ih:=@yz env r x
  grind
def zl (X:Cx)(scope:Scope)(N:List Str)(C:Addr)(s:Shared)(H:Hp)(ex:List Addr):Cx where
 prog:=X.prog
 w:=X.w
 K:=X.K
 mg:=X.mg
 base:=X.base
 A:=X.A
 N:=N
 s₀:=s
 H₀:=H
 env:=compEnvC scope (zbQ X.env scope.names []) C X.env
 outer:=X.stack
 stack:=X.stack
 ex:=ex
 fn:=fun _=>false
 calm:=X.calm
 pn:=[]
 xe:=fun _ _=>False
def caps (XN:List Str)(Xnames names:List (Str×NameKind))(N:List Str)(cix:List (Option Nat)):Bool:=
 N.length==cix.length&&(names.all fun y=>y.2 != .cell)&&((N.zip cix).all fun p=>match p.2 with
  | none=>true
  | some i=>XN[i]?==some p.1&&names.lookup p.1==some .free&&(Xnames.lookup p.1==some .cell || Xnames.lookup p.1==some .free)) &&
 (names.all fun y=>y.2 != .free || (Xnames.lookup y.1==some .cell || Xnames.lookup y.1==some .free))
def xy (σ:St)(cix:List (Option Nat)):St:=cix.map fun o=>match o with
 | none=>none
 | some i=>(σ[i]?).join
structure CompOk (X:Cx)(scope:Scope)(N:List Str)(cix:List (Option Nat)):Prop where
 kind:scope.kind = .function
 names:∀x∈scope.names,x.2 = .local->scope.names.lookup x.1=some .local
 caps:caps X.N X.env.scope.names scope.names N cix=true
section
variable {X:Cx}{pins:List (Addr×Obj)}{σ:St}{H:Hp}{s:Shared}{scope:Scope}{N:List Str}{cix:List (Option Nat)}
theorem CompOk.cell (c:CompOk X scope N cix):∀y∈scope.names,y.2≠.cell:=fun y hy e=>by
 have h:=c.caps;unfold L2.caps at h;rw[aR,aR,aR] at h;have:=ba.mp h.1.1.2 y hy
 simp_all
theorem CompOk.len (c:CompOk X scope N cix):N.length=cix.length:=by
 have h:=c.caps;unfold L2.caps at h
 simp_all
theorem CompOk.cells (c:CompOk X scope N cix)(ok:X.Ok):∀x∈scope.names,x.2 = .free->∃a,X.env.cells.lookup x.1=some a:=fun x hx e=>by
 have h:=c.caps;unfold L2.caps at h;rw[aR] at h;have q:=ba.mp h.2 x hx;rw[e] at q;have q':(X.env.scope.names.lookup x.1==some NameKind.cell || X.env.scope.names.lookup x.1==some NameKind.free)=true:=by simpa using q
 rcases Bool.or_eq_true_iff.mp q' with q | q
 ·exact ok.has _ (.inl (dO q))
 ·exact ok.has _ (.inr (dO q))
theorem CompOk.cap (c:CompOk X scope N cix){j i:Nat}{x:Str}(h1:N[j]?=some x)(h2:cix[j]?=some (some i)):X.N[i]?=some x/\scope.names.lookup x=some .free/\(X.env.scope.names.lookup x=some .cell\/X.env.scope.names.lookup x=some .free):=by
 have h:=c.caps;unfold L2.caps at h;rw[aR,aR] at h
 have hm:(x,some i)∈N.zip cix:=by refine aw (i:=j) ?_;rw[List.getElem?_zip_eq_some];exact⟨h1,h2⟩
 have q:=ba.mp h.1.2 _ hm
 grind
theorem zi2 {fp:List Addr}{h':Heap}{tk:Nat}{m:Str->Option Value}(I:Inv X pins σ H s)(c:CompOk X scope N cix)(hf:∀b∈fp,zcX X pins H b)(hfo:∀b∈fp,b<s.heap.objs.size)
  (hn:h'.Ns s.heap.objs.size m) (hk:∀b o,s.heap.get? b=some o->h'.get? b=some o) :
  Inv (zl X scope N s.heap.objs.size s H fp) [] (xy σ cix) H { s with heap:=h',toks:=tk }:=by
 have hcl:=c.cells I.ok
 have back:∀x a,(zbQ X.env scope.names []).lookup x=some a->X.env.cells.lookup x=some a:=fun x a e=>by
  rcases xS hcl e with z | z
  ·exact z
  ·simp at z
 refine⟨⟨I.mod,c.kind,I.ok.glob,I.ok.blt,ai _,fun x y a e1 e2=>I.ok.inj x y a (back x a e1) (back y a e2),fun x hx=>?_,fun x a z _=>absurd (show (false:Bool)=true from z) (by decide),I.ok.hd,I.ok.frames,.inl rfl,
  fun b hb=>⟨aO (hfo b hb),fun x a e=>(hf b hb).2.2.2.2.1 x a (back x a e)⟩,I.bs,ao I.ok.bsz I.sz,fun b o e hb=>?_,fun b hb z=>?_,I.stack,I.stkFree⟩,
  I.os ▸ rfl,I.bare,Un.kept hk,⟨m,hn,fun j x v h1 h2 h3=>?_⟩,fun x a e=>?_,I.hok.fresh (ai _),fun x a e=>I.freeC x a (back x a e),fun p hp=>absurd (show p∈([]:List (Addr×Obj)) from hp) (by simp),I.hok.kept hk,?_⟩
 ·have hx':((relabel scope X.env).names.lookup x=some .cell\/(relabel scope X.env).names.lookup x=some .free):=hx;rcases hx' with z | z
  ·exact uh (yy c.cell z (.inl rfl))
  ·exact uh (yy c.cell z (.inr rfl))
 ·rcases (hf b hb).2.2.2.1 with z | z
  ·exact I.ok.noex b o e z
  ·exact absurd (aF (au e) (ao I.ok.bsz z)) (bt _)
 ·rcases aI.mp (I.stkSub b z) with e | e
  ·exact (hf b hb).2.1 e
  ·exact (hf b hb).2.2.1 e
 ·have h1':N[j]?=some x:=h1;unfold xy at h2;rw[aA] at h2
  cases e:cix[j]? with
  | none=>rw[e] at h2;cases h2
  | some o=>
   rw[e] at h2
   cases o with
   | none=>cases h2
   | some i=>
    have h2':(σ[i]?).join=some v:=bJ h2
    have h2'':σ[i]?=some (some v):=by
     cases q:σ[i]? with
     | none=>rw[q] at h2';cases h2'
     | some z=>rw[q] at h2';have:z=some v:=h2';rw[this]
    obtain⟨q1,q2,q3⟩:=c.cap h1' e;obtain⟨m0,hn0,hl0⟩:=I.loc;obtain⟨u,ru,hu⟩:=hl0 i x v q1 h2'' (q3.elim (fun z=>.inr (.inl z)) fun z=>.inr (.inr z));refine⟨u,ru,.inr ⟨yz q2,?_⟩⟩;rcases hu with ⟨z,_⟩ | ⟨_,a,ha,hcell⟩
    ·have z':X.env.scope.names.lookup x=some .local:=z
     simp_all
    ·obtain⟨a',ha'⟩:=uh (env:=X.env) (cs:=[]) q2;have:a'=a:=by have:=(back x a' ha').symm.trans ha;exact bJ this
     subst this;obtain⟨oc,hoc,hd⟩:=hcell;exact⟨a',ha',oc,hk _ _ hoc,hd⟩
 ·obtain⟨v,oc,hoc,hd⟩:=I.cell x a (back x a e);exact⟨v,oc,hk _ _ hoc,hd⟩
 ·show (xy σ cix).length=N.length;unfold xy;rw[ab,c.len]
theorem zbe {P:Program}{w:World}{H:Hp}{h h':Heap}{a:Addr}(x:HOk P w H h)(hn:H a=none)(hs:Heap.SameBut a h h'):HOk P w H h':=fun b o e=>by
 refine (x b o e).stay (fun c u hc q=>(hs.2 c ?_).trans q) (fun _ q=>q) fun _ _ q=>q
 grind
theorem zfI {fp:List Addr}{σ':St}{H':Hp}{s':Shared}{h'':Heap}(I:Inv X pins σ H s)(hf:∀b∈fp,zcX X pins H b)(I':Inv (zl X scope N s.heap.objs.size s H fp) [] σ' H' s')(hs:Heap.SameBut s.heap.objs.size s'.heap h'') :
  Inv X pins σ H' { s' with heap:=h'' }:=by
 have ne:∀b o,s.heap.get? b=some o->b≠s.heap.objs.size:=fun b o e=>aO (au e);have u:=I'.base;refine Inv.call' (ch:=fp) I I'.os ⟨fun b o e n hb hx=>?_,fun b o e n hb hx=>?_,u.free,fun b o e hx=>?_,u.tups,u.frzs,u.tbls⟩ (zbe I'.hok I'.free hs) I'.bare fun b hb=>⟨(hf b hb).2.2.2.1,(hf b hb).2.1,(hf b hb).2.2.2.2.1,(hf b hb).2.2.2.2.2⟩
 ·exact (hs.2 b (ne b o e)).trans (u.keep b o e n hb hx)
 ·obtain⟨sl,q⟩:=u.slot b o e n hb hx;exact⟨sl,(hs.2 b (ne b o e)).trans q⟩
 ·obtain⟨o',q⟩:=u.there b o e hx;exact⟨o',(hs.2 b (ne b o e)).trans q⟩
end
def PTs (X:Cx)(ifs:List Expr)(t:TT):Prop:=
 ∀ (pins:List (Addr×Obj)) (s:Shared) (σ:St) (H:Hp) (Q:Bool->Hp->Prop),Inv X pins σ H s->t σ H Q->
  wpAny (model X.prog X.w) X.A (forIn ifs true fun c r=>if r=true then do let ok <- isTrue c X.env (eval c X.env);pure (ForInStep.yield ok) else pure (ForInStep.yield r)) (TP X pins σ Q) X.xe s
def zbK:TT:=fun _ H Q=>Q true H
theorem zmd {X:Cx}:PTs X [] zbK:=fun pins s σ H Q I h=>wpAny_tests_nil ⟨H,I,h⟩
theorem zme {X:Cx}{c:Expr}{t:TT}(h:PT X c t):PTs X [c] t:=fun pins s σ H Q I q=>wpAny_tests_one (h pins s σ H Q I q)
def zrM (wi:TI)(g:TG)(ti:TT)(te:TE)(cix:List (Option Nat)):TE:=fun σ H Q=>wi σ H fun J H1=>∀acc,H1 acc=none->∃W:Nat->Nat->St->Hp->Prop,(∃m,W 0 m (xy σ cix) (upd H1 acc (.lst [])))/\
 ∀i m σ' H',W i m σ' H'->(J.stop i H'/\Q (.ref acc) H')\/(J.go i H'/\∃N:St->Hp->Prop,(∀ σ2 H2,N σ2 H2->∃m',m'<m/\W (i+1) m' σ2 H2)/\
  ∀x H2,J.yld i H' x H2->g x σ' H2 fun σ3 H3=>ti σ3 H3 fun ok H4=>if ok=true then te σ3 H4 fun v H5=>∃xs,H5 acc=some (.lst xs)/\xs.length<sizeLine/\N σ3 (upd H5 acc (.lst (xs++[v]))) else N σ3 H4)
def ziH (g:TG)(ti:TT)(te:TE)(acc:Addr)(N:St->Hp->Prop)(x:V)(σ:St)(H:Hp):Prop:=
 g x σ H fun σ3 H3=>ti σ3 H3 fun ok H4=>if ok=true then te σ3 H4 fun v H5=>∃xs,H5 acc=some (.lst xs)/\xs.length<sizeLine/\N σ3 (upd H5 acc (.lst (xs++[v]))) else N σ3 H4
def zgc (M:Model)(A:Around)(e:Expr)(k:Nat)(tg:Expr)(ifs:List Expr)(it acc:Value)(env:Env)(B:(Shared->Prop)->Shared->Prop):Prop:=
 ∀ (R:Result->Shared->Prop) (s:Shared) (I:Nat->Shared->Prop),(∀n s,I n s->wpAny M A (pyNext it) (fun r s₁=>match r with
   | none=>R (.ok .next) s₁
   | some v=>wpAny M A (letOwnedTupleGo tg it v) (fun _ s₂=>wpAny M A (assign tg env v) (fun _ s₃=>
     wpAny M A (forIn ifs true fun c r=>if r=true then do let ok <- isTrue c env (eval c env);pure (ForInStep.yield ok) else pure (ForInStep.yield r)) (fun ok s₄=>
      if ok=true then B (fun s'=>∃m,m<n/\I m s') s₄ else ∃m,m<n/\I m s₄) (fun _ _=>False) s₃) (fun _ _=>False) s₂) (fun _ _=>False) s₁) (fun _ _=>False) s)->
  ∀n,I n s->codeAny M A (.compLoop e k it acc env) R s
structure PlainC (e:Expr):Prop where
 uL:∀ (A:Around) k it acc env,A.under (.compLoop e k it acc env)=A
 dL:∀prog w k it acc env,(model prog w).den (.compLoop e k it acc env)=(compTurn e k it acc env).onRaise fun x=>do noteFrame x env;theTreesLotGoes x
 uS:∀ (A:Around) k it acc env,A.under (.compStart e k it acc env)=A
 dS:∀prog w k it acc env,(model prog w).den (.compStart e k it acc env)=(compStart e k it acc env).onRaise fun x=>do noteFrame x env;standAt theWindowsPlace
theorem xt {elt gens scope pos}:PlainC (.ListComp elt gens scope pos):=⟨fun _ _ _ _ _=>rfl,fun _ _ _ _ _ _=>rfl,fun _ _ _ _ _=>rfl,fun _ _ _ _ _ _=>rfl⟩
theorem x9 {elt gens scope pos}:PlainC (.SetComp elt gens scope pos):=⟨fun _ _ _ _ _=>rfl,fun _ _ _ _ _ _=>rfl,fun _ _ _ _ _=>rfl,fun _ _ _ _ _ _=>rfl⟩
def zmP (e:Expr)(k:Nat)(tg iter:Expr)(ifs:List Expr)(nx:Sem Fin->Sem Fin)(it acc:Value)(env:Env):Sem Fin:=do
 standAt iter.pos
 match <- pyNext it with
 | none=>pure (.done .next)
 | some v=>
  letOwnedTupleGo tg it v
  assign tg env v
  let mut ok:=true
  for c in ifs do
   if ok then ok <- isTrue c env (eval c env)
  if ok then nx (again (.compLoop e k it acc env)) else again (.compLoop e k it acc env)
def BdOf (M:Model)(A:Around)(nx:Sem Fin->Sem Fin)(P:Shared->Prop)(s:Shared):Prop:=∀ (k:Sem Fin) (Q:Fin->Shared->Prop) (E:Value->Shared->Prop),(∀s',P s'->wpAny M A k Q E s')->wpAny M A (nx k) Q E s
theorem zcw {prog:Program}{w:World}{A:Around}{e tg iter:Expr}{k:Nat}{ifs:List Expr}{it acc:Value}{env:Env}{nx:Sem Fin->Sem Fin}(hp:PlainC e)(hT:compTurn e k it acc env=zmP e k tg iter ifs nx it acc env):zgc (model prog w) A e k tg ifs it acc env (BdOf (model prog w) A nx):=fun R s I turn n h=>by
 refine codeAny_loop rfl I (fun n s hI=>?_) n h;rw[hp.uL,hp.dL];refine wpAny_noted ?_;rw[hT];refine aa (c7 (aa (bn (turn n s hI) (fun r s₁ h₁=>?_) fun _ _ h'=>h'.elim)))
 cases r with
 | none=>exact ae h₁
 | some v=>
  refine aa (bn h₁ (fun _ s₂ h₂=>?_) fun _ _ h'=>h'.elim);refine aa (bn h₂ (fun _ s₃ h₃=>aa (bn h₃ (fun ok s₄ h₄=>?_) fun _ _ h'=>h'.elim)) fun _ _ h'=>h'.elim)
  cases ok with
  | false=>exact ae ⟨rfl,h₄⟩
  | true=>exact h₄ _ _ _ fun s' h'=>ae ⟨rfl,h'⟩
theorem zft {prog:Program}{w:World}{A:Around}{R:Result->Shared->Prop}{s:Shared}{e tg iter:Expr}{k:Nat}{ifs:List Expr}{it acc:Value}{env:Env}(hp:PlainC e)(hg:(clausesOf e)[k]?=some ⟨tg,iter,ifs,0⟩)
  (h1:codeAny (model prog w) A (.compLoop e k it acc env) R s) (h2:wpAny (model prog w) A (pyIter it) (fun it' s'=>codeAny (model prog w) A (.compLoop e k it' acc env) R s') (notedBy (model prog w) A env fun x s'=>R (.error x) s') s):codeAny (model prog w) A (.compStart e k it acc env) R s:=by
 refine codeAny_of_tree ?_;rw[hp.uS,hp.dS];refine wpAny_notedAt ?_;unfold compStart;rw[hg,if_neg (by show ¬ ((0 != 0)=true);decide)];refine aa (bu ?_);split
 ·exact ae ⟨rfl,h1⟩
 ·refine aa (wpAny_rule (aa (c7 (aa (bn h2 (fun it' s' h'=>ae ⟨rfl,h'⟩) fun _ _ x=>x)))))
theorem zdk {X:Cx}{e tg:Expr}{k:Nat}{ifs:List Expr}{it acc:Addr}{fp:List Addr}{tn:Nat->Heap->Prop}{J:It}{g:TG}{ti:TT}{tb:(St->Hp->Prop)->St->Hp->Prop}{B:(Shared->Prop)->Shared->Prop}{pl:List (Addr×Obj)}{Fin:St->Hp->Prop}{R:Result->Shared->Prop}{W:Nat->Nat->St->Hp->Prop}{m0:Nat}{σ0:St}{H0:Hp}{s0:Shared}
  (L:zgc (model X.prog X.w) X.A e k tg ifs (.ref it) (.ref acc) X.env B) (hc:X.calm=true) (xX:X.xe=fun _ _=>False) (T:Turn X.prog X.w X.K tg J fp it tn) (f4:∀ {H':Hp},(∀b∈fp,H' b=none)->∀b∈fp,zcX X pl H' b) (hg:PG X tg g) (ht:PTs X ifs ti)
  (hb:∀pl' s σ H (Nx:St->Hp->Prop) (P:Shared->Prop),Inv X (pl++pl') σ H s->tb Nx σ H->(∀ σ' H' s',Inv X (pl++pl') σ' H' s'->Nx σ' H'->P s')->B P s)
  (turn:∀i n σ H,W i n σ H->(J.stop i H/\Fin σ H)\/(J.go i H/\∃Nx:St->Hp->Prop,(∀ σ' H',Nx σ' H'->∃m,m<n/\W (i+1) m σ' H')/\∀x H',J.yld i H x H'->g x σ H' fun σ2 H2=>ti σ2 H2 fun b H3=>if b=true then tb Nx σ2 H3 else Nx σ2 H3))
  (fin:∀ σ H s,Inv X pl σ H s->Fin σ H->R (.ok .next) s) (I0:Inv X pl σ0 H0 s0) (st0:tn 0 s0.heap) (fr0:∀b∈fp,H0 b=none) (w0:W 0 m0 σ0 H0) :
  codeAny (model X.prog X.w) X.A (.compLoop e k (.ref it) (.ref acc) X.env) R s0:=by
 refine L R s0 (fun n s'=>∃i σ' H',Inv X pl σ' H' s'/\tn i s'.heap/\(∀b∈fp,H' b=none)/\W i n σ' H') ?_ m0 ⟨0,σ0,H0,I0,st0,fr0,w0⟩;rintro n s5 ⟨i,σ5,H5,I5,st5,fr5,w5⟩;rcases turn i n σ5 H5 w5 with ⟨stop,qn⟩ | ⟨go,Nx,hN,step⟩
 ·refine thn (T.done X rfl rfl rfl hc i pl s5 σ5 H5 (fun _ _=>False) I5 (f4 fr5) st5 stop) ?_;rintro r s6 ⟨hr,I6⟩;subst hr;exact fin σ5 H5 s6 I6 qn
 ·refine thn (T.item X rfl rfl rfl hc i pl s5 σ5 H5 (fun _ _=>False) I5 (f4 fr5) st5 go) ?_;rintro r s6 ⟨u,hr,h6⟩;subst hr;refine thn h6 ?_;rintro _ s7 ⟨x,H7,I7,r7,y7,st7,fr7⟩;have I7':=I7.pinned (f4 fr7) (T.obj _ _ st7);have a7:=hg _ s7 σ5 H7 x u _ I7' r7 (step x H7 y7);rw[xX] at a7;refine thn a7 ?_;rintro _ s8 ⟨σ8,H8,I8,q8⟩;have t8:=ht _ s8 σ8 H8 _ I8 q8;rw[xX] at t8;refine thn t8 ?_;rintro ok s9 ⟨H9,I9,q9⟩
  have ag:∀ σ' H' s',Inv X (pl++zdA fp s7.heap) σ' H' s'->Nx σ' H'->∃m,m<n/\∃i σ' H',Inv X pl σ' H' s'/\tn i s'.heap/\(∀b∈fp,H' b=none)/\W i m σ' H':=fun σ' H' s' J' n'=>by
   obtain⟨m',hm,w'⟩:=hN σ' H' n'
   have pn:∀b∈fp,∀o,s7.heap.get? b=some o->s'.heap.get? b=some o/\H' b=none:=fun b hb o e=>by
    have:=J'.pin (b,o) (aV _ (aV _ (zao hb e)))
    simp_all
   refine⟨m',hm,i+1,σ',H',J'.unpinned,T.keep _ _ _ st7 fun b hb o e=>(pn b hb o e).1,fun b hb=>?_,w'⟩;obtain⟨o,e,_⟩:=T.obj _ _ st7 b hb
   simp_all
  cases ok with
  | false=>exact ag _ _ _ I9 q9
  | true=>exact hb _ s9 σ8 H9 _ _ I9 q9 ag
structure Inn (X X':Cx)(pins:List (Addr×Obj))(σ:St)(fp:List Addr)(C:Addr):Prop where
 pX:X'.prog=X.prog
 wX:X'.w=X.w
 KX:X'.K=X.K
 AX:X'.A=X.A
 cX:X'.calm=X.calm
 xX:X'.xe=fun _ _=>False
 lX:X'.env.locals=C
 f4:∀ {H':Hp},(∀b∈fp,H' b=none)->∀b∈fp,zcX X' [] H' b
 back:∀ {σ':St} {H':Hp} {s':Shared} {h'':Heap},Inv X' [] σ' H' s'->Heap.SameBut C s'.heap h''->Inv X pins σ H' { s' with heap:=h'' }
structure Opn (X:Cx)(scope:Scope)(cix:List (Option Nat))(Fam:Cx->Prop):Prop where
 kind:scope.kind = .function
 names:∀x∈scope.names,x.2 = .local->scope.names.lookup x.1=some .local
 cells:X.Ok->∀x∈scope.names,x.2 = .free->∃a,X.env.cells.lookup x.1=some a
 run:∀ (pins:List (Addr×Obj)) (σ:St) (H3:Hp) (s3:Shared) (fp:List Addr) (Q:Env->Shared->Prop),Inv X pins σ H3 s3->(∀b∈fp,zcX X pins H3 b)->(∀b∈fp,b<s3.heap.objs.size)->
  (∀X' cenv s4,Fam X'->Inn X X' pins σ fp s3.heap.objs.size->cenv.locals=s3.heap.objs.size->X'.env={ cenv with scope:=relabel scope X.env }->Inv X' [] (xy σ cix) H3 s4->(∀b o,s3.heap.get? b=some o->s4.heap.get? b=some o)->Q cenv s4)->
  wpAny (model X.prog X.w) X.A (newFunctionEnv scope X.env.globals (zbQ X.env scope.names []) [] X.env.qual none .none (some X.env)) Q X.xe s3
def inG (J:It)(g:TG)(ti:TT)(tb:(St->Hp->Prop)->St->Hp->Prop)(N:St->Hp->Prop)(σ:St)(H:Hp):Prop:=∃W:Nat->Nat->St->Hp->Prop,(∃m,W 0 m σ H)/\
 ∀i m σ' H',W i m σ' H'->(J.stop i H'/\N σ' H')\/(J.go i H'/\∃N2:St->Hp->Prop,(∀ σ2 H2,N2 σ2 H2->∃m',m'<m/\W (i+1) m' σ2 H2)/\∀x H2,J.yld i H' x H2->g x σ' H2 fun σ3 H3=>ti σ3 H3 fun ok H4=>if ok=true then tb N2 σ3 H4 else N2 σ3 H4)
def ClB (X:Cx)(e:Expr)(k:Nat)(tg:Expr)(ifs:List Expr)(acc:Addr)(tb:(St->Hp->Prop)->St->Hp->Prop):Prop:=
 ∃B:(Shared->Prop)->Shared->Prop,(∀it,zgc (model X.prog X.w) X.A e k tg ifs it (.ref acc) X.env B)/\∀pl s σ H (Nx:St->Hp->Prop) (P:Shared->Prop),Inv X pl σ H s->tb Nx σ H->(∀ σ' H' s',Inv X pl σ' H' s'->Nx σ' H'->P s')->B P s
theorem zj7 {X:Cx}{e tg iter tg2 iter2:Expr}{k:Nat}{ifs ifs2:List Expr}{acc:Addr}{wi:TI}{g:TG}{ti:TT}{tb:(St->Hp->Prop)->St->Hp->Prop}(hp:PlainC e)
  (hT:∀it,compTurn e k it (.ref acc) X.env=zmP e k tg iter ifs (fun c=>do let x <- eval iter2 X.env;standAt iter2.pos;let x <- foldedSetIterable iter2 X.env x;let _ <- runOwn (.compStart e (k+1) (<- holding [x] (pyIter x)) (.ref acc) X.env) X.env;c) it (.ref acc) X.env)
  (hg1:(clausesOf e)[k+1]?=some ⟨tg2,iter2,ifs2,0⟩) (hs:∀x,foldedSetIterable iter2 X.env x=pure x) (hc:X.calm=true) (xX:X.xe=fun _ _=>False) (hi:PI X tg2 iter2 wi) (hg:PG X tg2 g) (ht:PTs X ifs2 ti) (hb:ClB X e (k+1) tg2 ifs2 acc tb) :
  ClB X e k tg ifs acc fun Nx σ H=>wi σ H fun J H2=>inG J g ti tb Nx σ H2:=by
 obtain⟨B,hL,hB⟩:=hb;refine⟨_,fun it=>zcw hp (hT it),fun pl s σ H Nx P I q kk c Q E hk=>?_⟩;have e9:=hi pl s σ H _ I q;rw[xX] at e9;refine aa (bn e9 (fun x s1 h1=>?_) fun _ _ h'=>h'.elim);refine aa (c7 ?_);show wpAny _ _ (foldedSetIterable iter2 X.env x >>= _) _ _ _;rw[hs];refine aa (ae (aa (bI (bn h1 (fun itv s2 h2=>?_) fun _ _ h'=>h'.elim))));refine aa (wpAny_runOwn (h:=none) ?_);obtain⟨it,fp,tn,J,H2,e0,I2,T,st2,f2,W,⟨m0,w0⟩,turn⟩:=h2;subst e0;have loop:=zdk (X:=X) (pl:=pl) (R:=fun r s7=>match r with | .ok _=>P s7 | .error _=>False) (hL _) hc xX T (fun hn b hb=>⟨hn b hb,(f2 b hb).2⟩) hg ht (fun pl'=>hB (pl++pl')) turn (fun σ' H' s' I' q'=>kk σ' H' s' I' q') I2 st2 (fun b hb=>(f2 b hb).1) w0;refine eI (zft (A:=X.A) hp hg1 loop (T.self X.A 0 _ _ _ st2 loop)) fun r s₇ h₇=>?_
 cases r with
 | ok f=>exact hk _ h₇
 | error e=>exact h₇.elim
theorem uP {X:Cx}{Fam:Cx->Prop}{scope:Scope}{cix:List (Option Nat)}{use:Option (Value->Sem Unit)}{Qp:Value->Shared->Prop}{e tg iter:Expr}{ifs:List Expr}{gs:List Comprehension}{pos:Pos}{newAcc:Sem Value}{ob:Obj}{o0:Addr->HO}{tb:Addr->(St->Hp->Prop)->St->Hp->Prop}{Fin:Addr->Hp->Prop}{wi:TI}{g:TG}{ti:TT}{Kk:It->Hp->Prop}{pins:List (Addr×Obj)}{σ:St}{H:Hp}{s:Shared}
  (O:Opn X scope cix Fam) (hp:PlainC e) (hc:X.calm=true) (hcl:clausesOf e=⟨tg,iter,ifs,0⟩::gs) (hs:∀x,foldedSetIterable iter X.env x=pure x)
  (hacc:∀ (s:Shared) (Q:Value->Shared->Prop),Q (.ref s.heap.objs.size) { s with heap:=s.heap.push ob }->wpAny (model X.prog X.w) X.A newAcc Q X.xe s)
  (hob:∀ {pins σ H s},Inv X pins σ H s->∀H',zW X.prog X.w H' (s.heap.push ob) s.heap.objs.size (o0 s.heap.objs.size))
  (hi:PI X tg iter wi) (hg:∀X',Fam X'->PG X' tg g) (ht:∀X',Fam X'->PTs X' ifs ti)
  (hb:∀X',Fam X'->X'.prog=X.prog->X'.w=X.w->X'.A=X.A->X'.calm=true->X'.xe=(fun _ _=>False)->∀acc,ClB X' e 0 tg ifs acc (tb acc))
  (I:Inv X pins σ H s) (h:wi σ H Kk)
  (hK:∀J H1 acc,Kk J H1->H1 acc=none->inG J g ti (tb acc) (fun _ H=>Fin acc H) (xy σ cix) (upd H1 acc (o0 acc)))
  (hfin:∀acc C H5 s6,zcX X pins H5 C->(∃m,s6.heap.Ns C m)->(∀h'',Heap.SameBut C s6.heap h''->Inv X pins σ H5 { s6 with heap:=h'' })->Fin acc H5->compPost (model X.prog X.w) X.A X.xe use Qp (.ref acc) C (.ok .next) s6) :
  wpAny (model X.prog X.w) X.A (comprehension e scope X.env pos newAcc false (eval iter X.env) use) Qp X.xe s:=by
 refine wpAny_comprehension_free (use:=use) hcl hs (zfC (O.cells I.ok)) O.kind O.names (thn (hi pins s σ H _ I h) fun xv s1 h1=>thn h1 fun itv s2 h2=>?_);obtain⟨it,fp,tn,J,H2,e,I2,T,st2,f2,q2⟩:=h2;subst e;refine hacc s2 _ ?_;have hnone:=I2.hok.fresh (ai s2.heap.objs.size);obtain⟨W,⟨m0,w0⟩,turn⟩:=hK J H2 s2.heap.objs.size q2 hnone;have kp2:∀b o,s2.heap.get? b=some o->(s2.heap.push ob).get? b=some o:=fun b u e=>am _ e;have I3:Inv X pins σ (upd H2 s2.heap.objs.size (o0 s2.heap.objs.size)) { s2 with heap:=s2.heap.push ob,toks:=s2.toks }:=I2.laid (t':=s2.toks) kp2 (ai _) (hob I2 _)
 have ltF:∀b∈fp,b<s2.heap.objs.size:=fun b hb=>by obtain⟨o,ho,_⟩:=T.obj _ _ st2 b hb;exact au ho
 have fn:∀b∈fp,upd H2 s2.heap.objs.size (o0 s2.heap.objs.size) b=none:=fun b hb=>by rw[zc (aO (ltF b hb))];exact (f2 b hb).1
 refine O.run pins σ _ _ fp _ I3 (fun b hb=>⟨fn b hb,(f2 b hb).2⟩) (fun b hb=>eK (ltF b hb) (by simp)) fun X' cenv s4 hF N hl hE I4 kp=>?_;rw[<- hE,hl];have st4:tn 0 s4.heap:=T.keep _ _ _ st2 fun b hb o e=>kp b o (kp2 b o e);have cX:=N.cX.trans hc;obtain⟨B,hL,hB⟩:=hb X' hF N.pX N.wX N.AX cX N.xX s2.heap.objs.size;have loop:=zdk (X:=X') (R:=compPost (model X.prog X.w) X.A X.xe use Qp (.ref s2.heap.objs.size) (s2.heap.push ob).objs.size) (Fin:=fun _ H=>Fin s2.heap.objs.size H) (pl:=[]) (hL (.ref it)) cX N.xX (by rw[N.pX,N.wX,N.KX];exact T) N.f4 (hg X' hF) (ht X' hF) (fun pl'=>hB ([]++pl')) turn (fun σ5 H5 s6 I6 q=>?_) I4 st4 fn w0
 ·rw[N.pX,N.wX,N.AX] at loop;exact zft hp (show (clausesOf e)[0]?=some ⟨tg,iter,ifs,0⟩ by rw[hcl];rfl) loop (T.self X.A 0 _ _ _ st4 loop)
 ·have hfr:H5 (s2.heap.push ob).objs.size=none:=by have:=I6.free;rwa[N.lX] at this
  obtain⟨m6,hn6,_⟩:=I6.loc;rw[N.lX] at hn6;exact hfin _ _ H5 s6 (I3.fpOk (ai _) hfr) ⟨m6,hn6⟩ (fun h'' hs=>N.back I6 hs) q
section
variable {X:Cx}{scope:Scope}{N:List Str}{cix:List (Option Nat)}{z:Str}
theorem x8 (c:CompOk X scope N cix):Opn X scope cix (fun X'=>∃C s H ex,X'=zl X scope N C s H ex) where
 kind:=c.kind
 names:=c.names
 cells:=c.cells
 run:=fun pins σ H3 s3 fp Q I3 f3 ltF k=>by
  refine wpAny_newFunctionEnv c.cell (by simp) (fun h4 hns4 hsb4=>?_) c.kind;have kp:∀b o,s3.heap.get? b=some o->h4.get? b=some o:=fun b o e=>hsb4.extBut b o (aO (au e)) (am _ e);refine k (zl X scope N s3.heap.objs.size s3 H3 fp) _ _ ⟨_,_,_,_,rfl⟩ ⟨rfl,rfl,rfl,rfl,rfl,rfl,rfl,fun {H'} hn b hb=>⟨hn b hb,aO (ltF b hb),fun y=>?_,.inl hb,fun x a e=>?_,fun p hp=>?_⟩,fun I' hs=>zfI I3 f3 I' hs⟩ rfl rfl (zi2 I3 c f3 ltF hns4 kp) kp
  ·rcases aI.mp (I3.stkSub b y) with e | e
   ·exact (f3 b hb).2.1 e
   ·exact (f3 b hb).2.2.1 e
  ·rcases xS (c.cells I3.ok) e with y | y
   ·exact (f3 b hb).2.2.2.2.1 x a y
   ·simp at y
  ·exact absurd (show p∈([]:List (Addr×Obj))++[] from hp) (by simp)
theorem zaS {pins:List (Addr×Obj)}{σ:St}{Q:VK}{acc C:Addr}{H5:Hp}{s6:Shared}(hm:∃m,s6.heap.Ns C m)(hb:∀h'',Heap.SameBut C s6.heap h''->Inv X pins σ H5 { s6 with heap:=h'' })(q:Q (.ref acc) H5):compPost (model X.prog X.w) X.A X.xe none (EP X pins σ Q) (.ref acc) C (.ok .next) s6:=
 let ⟨m,hn⟩:=hm;⟨m,hn,fun h7 hs7=>⟨.ref acc,H5,hb h7 hs7,rfl,q⟩⟩
theorem zeQ {e:Expr}{pos spos px:Pos}{ix:Nat}{nx:Str}{newAcc first:Sem Value}{D:Ends}{pins:List (Addr×Obj)}{σ:St}{s:Shared}(hNd:X.N.Nodup)(hix:X.N[ix]?=some nx)(hlx:X.env.scope.names.lookup nx=some .local)
  (hsw:swapsWithSole [.Name nx px] e spos.line X.env=pure true) (h1a:(assignEach [.Name nx px] X.env).map (·.2)=[assign (.Name nx px) X.env]) (heU:∀U,evalThenUse e X.env U=comprehension e scope X.env pos newAcc false first (some U) >>= fun _=>pure ())
  (h:∀ (U:Value->Sem Unit) (Qp:Value->Shared->Prop),(∀acc C H5 s6,zcX X pins H5 C->(∃m,s6.heap.Ns C m)->(∀h'',Heap.SameBut C s6.heap h''->Inv X pins σ H5 { s6 with heap:=h'' })->D.nx (σ.set ix (some (.ref acc))) H5->compPost (model X.prog X.w) X.A X.xe (some U) Qp (.ref acc) C (.ok .next) s6)->wpAny (model X.prog X.w) X.A (comprehension e scope X.env pos newAcc false first (some U)) Qp X.xe s) :
  wpAny (model X.prog X.w) X.A (exec (.Assign [.Name nx px] e spos) X.env) (SP X pins D) X.xe s:=by
 rw[exec_Assign_arm];refine aa (c7 ?_);rw[hsw];refine aa (ae ?_);rw[if_pos rfl];refine aa ?_;rw[heU];refine aa ?_;refine h _ _ fun acc C H5 s6 fC hm hbk q=>?_;have IX:=hbk _ ⟨rfl,fun _ _=>rfl⟩;show wpAny _ _ (assignAll _ ((assignEach [.Name nx px] X.env).map (·.2))) _ _ s6;rw[h1a];refine wpAny_assign_Name (x:=nx) (pos:=px) ?_;refine zdH IX hNd hix (Or.inl hlx) (v:=.ref acc) rfl (fun s7 I7 ⟨a7,hs7,ha7⟩=>?_) (.inr hlx)
 have hCa:C≠a7:=by
  intro z;rcases ha7 with e | e
  ·exact fC.2.1 (z.trans e)
  ·exact fC.2.2.2.2.1 nx a7 e z.symm
 obtain⟨m6,oC,esC,epC,hoC,rC⟩:=hm;refine⟨m6,⟨oC,esC,epC,(hs7.2 _ hCa).trans hoC,rC⟩,fun h8 hs8=>ae (ae ?_)⟩;exact⟨_,H5,I7.turned (t':=s7.toks) (fun b o hb e=>(hs8.2 b hb).trans e) fC.1 fC.2.1 fC.2.2.2.1 fC.2.2.2.2.1 fC.2.2.2.2.2,q⟩
end
section
variable {X:Cx}{Fam:Cx->Prop}{scope:Scope}{N:List Str}{cix:List (Option Nat)}{z:Str}{use:Option (Value->Sem Unit)}{Qp:Value->Shared->Prop}{elt tg iter:Expr}{ifs:List Expr}{pos ipos spos px:Pos}{wi:TI}{g:TG}{ti:TT}{te:TE}{pins:List (Addr×Obj)}{σ:St}{H:Hp}{s:Shared}{Fin:Addr->Hp->Prop}
theorem ziB {P:Shared->Prop}{acc:Addr}{Nx:St->Hp->Prop}(he:PE X elt te)(xX:X.xe=fun _ _=>False)(I:Inv X pins σ H s)(q:te σ H fun v H'=>∃xs,H' acc=some (.lst xs)/\xs.length<sizeLine/\Nx σ (upd H' acc (.lst (xs++[v]))))(k:∀ σ' H' s',Inv X pins σ' H' s'->Nx σ' H'->P s') :
  wpAny (model X.prog X.w) X.A (eval elt X.env) (fun x s5=>wpAny (model X.prog X.w) X.A (call (.builtin "list.append") [.ref acc,x]) (fun _ s6=>P s6) (fun _ _=>False) s5) (fun _ _=>False) s:=by
 have e9:=he pins s σ H _ I q;rw[xX] at e9;refine thn e9 ?_;rintro u2 s10 ⟨v,H10,I10,r10,xs,hxs,hlt,nx⟩;have m10:=zdm (X:=X) _ s10 σ H10 (.ref acc) [v] (.ref acc) [u2] (fun _ H'=>Nx σ H') I10 rfl (.cons r10 .nil) ⟨_,xs,v,rfl,rfl,hxs,hlt,nx⟩;rw[xX] at m10;refine thn m10 (by rintro _ s11 ⟨_,H11,I11,_,n11⟩;exact k _ _ _ I11 n11)
abbrev zm9 (te:TE)(acc:Addr):(St->Hp->Prop)->St->Hp->Prop:=fun Nx σ H=>te σ H fun v H'=>∃xs,H' acc=some (.lst xs)/\xs.length<sizeLine/\Nx σ (upd H' acc (.lst (xs++[v])))
theorem zgo {e:Expr}{k:Nat}{acc:Addr}(hp:PlainC e)(he:PE X elt te)(xX:X.xe=fun _ _=>False)(hT:∀it,compTurn e k it (.ref acc) X.env=zmP e k tg iter ifs (fun c=>(do let _ <- call (.builtin "list.append") [.ref acc,<- eval elt X.env]) >>= fun _=>c) it (.ref acc) X.env):ClB X e k tg ifs acc (zm9 te acc):=
 ⟨_,fun it=>zcw hp (hT it),fun pl s σ H Nx P I q kk _ _ _ hk=>aa (aa (bn (ziB he xX I q kk) (fun _ _ h5=>aa (bn h5 (fun _ _ h6=>ae (hk _ h6)) fun _ _ h'=>h'.elim)) fun _ _ h'=>h'.elim))⟩
theorem zbm (O:Opn X scope cix Fam)(hc:X.calm=true)(hi:PI X tg iter wi)(hg:∀X',Fam X'->PG X' tg g)(ht:∀X',Fam X'->PTs X' ifs ti)(he:∀X',Fam X'->PE X' elt te)(hs:∀x,foldedSetIterable iter X.env x=pure x)(I:Inv X pins σ H s)
  (h:wi σ H fun J H1=>∀acc,H1 acc=none->∃W:Nat->Nat->St->Hp->Prop,(∃m,W 0 m (xy σ cix) (upd H1 acc (.lst [])))/\∀i n σ H,W i n σ H->(J.stop i H/\Fin acc H)\/(J.go i H/\∃Nx:St->Hp->Prop,(∀ σ' H',Nx σ' H'->∃m,m<n/\W (i+1) m σ' H')/\∀x H',J.yld i H x H'->ziH g ti te acc Nx x σ H'))
  (hfin:∀acc C H5 s6,zcX X pins H5 C->(∃m,s6.heap.Ns C m)->(∀h'',Heap.SameBut C s6.heap h''->Inv X pins σ H5 { s6 with heap:=h'' })->Fin acc H5->compPost (model X.prog X.w) X.A X.xe use Qp (.ref acc) C (.ok .next) s6) :
  wpAny (model X.prog X.w) X.A (comprehension (.ListComp elt [⟨tg,iter,ifs,0⟩] scope pos) scope X.env ipos (newList []) false (eval iter X.env) use) Qp X.xe s:=
 uP (ob:={ cls:=.type "list",dict:=none,data:=.seq ([]:List Value).toArray }) (o0:=fun _=>.lst []) (tb:=fun acc=>zm9 te acc) O xt hc rfl hs (fun s Q h=>bc h) (fun _ _=>⟨aL _,[],0,.nil,aB _ rfl⟩) hi hg ht (fun X' hF _ _ _ _ xX _=>zgo xt (he X' hF) xX fun _=>rfl) I h (fun J H1 acc q hn=>q acc hn) hfin
end
section
variable {X:Cx}{scope:Scope}{N:List Str}{z:Str}
theorem zbb {P:Cx->Prop}(h:∀C s H ex,P (zl X scope N C s H ex)):∀X',(∃C s H ex,X'=zl X scope N C s H ex)->P X':=by simp_all
abbrev zqc (X:Cx)(pins:List (Addr×Obj))(σ:St)(use:Option (Value->Sem Unit))(Qp:Value->Shared->Prop)(Q:VK):Prop:=∀acc C H5 s6,zcX X pins H5 C->(∃m,s6.heap.Ns C m)->(∀h'',Heap.SameBut C s6.heap h''->Inv X pins σ H5 { s6 with heap:=h'' })->Q (.ref acc) H5->compPost (model X.prog X.w) X.A X.xe use Qp (.ref acc) C (.ok .next) s6
end
structure Dfn (K:PySem.W.Frag)(mg:Str->Option Value)(x:Str)(st:Stmt)(ps:List Str)(f:Addr)(fd:FuncData):Prop where
 F:Fun K x x st f fd
 b:zfA K fd ps []
 m:mg x=some (.ref f)
section
variable {X:Cx}
theorem zrw {x:Str}{st:Stmt}{ps:List Str}{f:Addr}{fd:FuncData}{sp:Sp}{j k:Nat}{e:Expr}{es:List Expr}{t:TA}{p pos:Pos}(D:Dfn X.K X.mg x st ps f fd)(G:FnOk X.prog X.w X.K X.mg X.base CX0 j f fd ps sp)(hr:Room k X.A)
  (ha:PA X (e::es) t) (hjk:j<=k:=by decide) (hg:Gl X x:=by rfl) (hdb:(x==("__debug__" : Str))=false:=by decide) (he:starEach (e::es) X.env=(false,eval e X.env)::starEach es X.env:=by rfl) (hpl:(backTo pos (starEach es X.env)).any (·.1)=false:=by rfl) :
  PE X (.Call (.Name x p) (e::es) [] pos) (zeH sp [] E0 t):=
 zlT G (hr.mono hjk) hg D.m D.F.kp D.b .nil zru ha hdb he hpl
theorem zh5 {bs:List Bool}:((List.range bs.length).all fun i=>bs.getD i true)=bs.all id:=by
 rw[bK,ba,ba];constructor
 ·intro h b hb;obtain⟨i,hi,e⟩:=bO.mp hb
  simp_all
 ·intro h i hi;have hi':=bf.mp hi;have:=h bs[i] (cw hi')
  simp_all
theorem ziE (hc:X.calm=true):zbO X (.builtin "all") (fun xs H Q=>∃ (p:Addr) (bs:List Bool),xs=[.ref p]/\Rd H p (.lst (bs.map V.bl))/\Q (.bl (bs.all id)) H):=by
 intro pins s σ H xs us Q I r h;obtain⟨p,bs,rfl,hp,q⟩:=h;obtain⟨u,rfl,ru⟩:=uq r;cases ru;obtain⟨its,rv,pl,hz⟩:=I.list (.inl hp);have hlen:=rv.length;rw[ab] at hlen
 have W:Walks X.prog X.w X.A.in1 s.heap.objs.size [s.heap.objs.size,p] [s.heap.objs.size] its.toArray.size (fun i v=>its.toArray[i]?=some v) (fun i h=>h.IsListIter s.heap.objs.size p i/\h.IsList p its.toArray):=by refine Walks.list (A:=X.A.in1) (I.ok.hd hc) s.heap.objs.size p ?_ its.toArray;obtain⟨o,_,ho,_⟩:=pl;exact aO (au ho)
 refine call_all_walk (wpAny_pyIter_list pl.isList ⟨s.heap.objs.size,_,_,_,_,_,fun i=>bs.getD i true,rfl,W,⟨?_,?_⟩,?_,?_⟩)
 ·exact⟨_,aB _ rfl,rfl,rfl⟩
 ·exact pl.isList.at fun o e=>am _ e
 ·intro i v s' Q' E' hP hQ;have hP':its[i]?=some v:=by simpa using hP
  have hi:i<bs.length:=by grind
  have hb:(bs.map V.bl)[i]?=some (V.bl bs[i]):=by simp[hi]
  obtain⟨u',hu',rb⟩:=rv.get hb;rw[hP'] at hu';cases hu';cases rb;have:bs.getD i true=bs[i]:=by simp[hi]
  dsimp only at hQ;rw[this] at hQ;exact bP hQ
 ·intro h' tk hk
  have e:(List.range its.toArray.size).all (fun i=>bs.getD i true)=bs.all id:=by rw[aW,<- hlen];exact zh5
  rw[e];exact⟨.bl _,H,I.kept (t':=tk) fun b o eb=>hk b o (by simp;exact aO (au eb)) (am _ eb),rfl,q⟩
end
structure QE (X:Cx)(e:Expr)(t:TE):Prop where
 run:PE X e t
structure QT (X:Cx)(e:Expr)(t:TT):Prop where
 run:PT X e t
structure QW (X:Cx)(e:Expr)(t:TT):Prop where
 run:PW X e t
structure QA (X:Cx)(es:List Expr)(t:TA):Prop where
 run:PA X es t
structure QS (X:Cx)(s:Stmt)(t:TS):Prop where
 run:PS X s t
structure QSs (X:Cx)(s:List Stmt)(t:TS):Prop where
 run:PSs X s t
structure QG (X:Cx)(e:Expr)(t:TG):Prop where
 run:PG X e t
structure QGs (X:Cx)(es:List Expr)(t:TGs):Prop where
 run:PGs X es t
structure QI (X:Cx)(tg e:Expr)(t:TI):Prop where
 run:PI X tg e t
structure QO (X:Cx)(e:Option Expr)(t:TO):Prop where
 run:PO X e t
structure QP (X:Cx)(pos:Pos)(ks:List (Option Expr))(vs:List Expr)(t:List (TE×TE)):Prop where
 run:PPs X pos ks vs t
structure QTs (X:Cx)(es:List Expr)(t:TT):Prop where
 run:PTs X es t
structure OpQ (X:Cx)(f:Value->Value->Sem Value)(r:R2):Prop where
 run:OpR X f r
structure CallQ (X:Cx)(f:Value)(r:List V->Hp->VK->Prop):Prop where
 run:zbO X f r
structure IxQ (X:Cx)(r:R2):Prop where
 run:IxR X r
structure SlQ (X:Cx)(r:V->Option Int->Option Int->Hp->VK->Prop):Prop where
 run:SlR X r
section
variable {X:Cx}{e a b c:Expr}{es:List Expr}{te ta tb tc:TE}{t u:TT}{pos p:Pos}
theorem qv (i:Nat){x:Str}{pos:Pos}(hN:X.N[i]?=some x:=by rfl)(hv:Vis X.env.scope x:=by first | exact Or.inl rfl | exact Or.inr (Or.inl rfl) | exact Or.inr (Or.inr rfl))(hd:(x==("__debug__" : Str))=false:=by decide)
  (hcd:(x==("__classdict__" : Str))=false:=by decide):QE X (.Name x pos) (zkG i):=⟨zos hN hv hd hcd⟩
theorem ya {i:Int}{j:Nat}:QE X (.Constant (.int i) j pos) (tC (.int i)):=⟨zon⟩
theorem zrD {k:Bool}{j:Nat}:QE X (.Constant (.bool k) j pos) (tC (.bl k)):=⟨zrv⟩
theorem zoL {j:Nat}:QE X (.Constant .none j pos) (tC .non):=⟨zoo⟩
theorem y6 {x:Str}{j:Nat}:QE X (.Constant (.str x) j pos) (tC (.str x)):=⟨zor⟩
theorem zjF {x:Str}{v:V}(hg:Gl X x)(h:∃w,yo v w/\X.mg x=some w)(hd:(x==("__debug__" : Str))=false:=by decide):QE X (.Name x pos) (tC v):=by obtain⟨w,r,hm⟩:=h;exact⟨zlY hg hm r hd⟩
theorem zeu {x:Str}{v:V}{w:Value}(hg:Gl X x)(hm:X.mg x=none)(hv:bootBuiltins x=some w)(r:yo v w)(hn:x ≠ "__name__" := by decide)(hd:(x==("__debug__" : Str))=false:=by decide):QE X (.Name x pos) (tC v):=⟨zlS hg hm hv r hn hd⟩
theorem yk:OpQ X (binaryOp .Add) (rI0 fun i j=>.int (i+j)):=⟨zn6⟩
theorem zks:OpQ X (binaryOp .Sub) (rI0 fun i j=>.int (i - j)):=⟨zod⟩
theorem u8:OpQ X (binaryOp .Mult) (rI zj2 fun i j=>.int (i * j)):=⟨zoa⟩
theorem zep:OpQ X (binaryOp .FloorDiv) (rI CDiv fun i j=>.int (i / j)):=⟨zlO⟩
theorem zaB:OpQ X (binaryOp .Mod) (rI (fun _ j=>0<j) fun i j=>.int (i % j)):=⟨zn9⟩
theorem zfh:OpQ X (binaryOp .Pow) (rI zmX fun i j=>.int (i ^ j.toNat)):=⟨zoc⟩
theorem zY:OpQ X (binaryOp .Add) (zjL X.K):=⟨zlM⟩
theorem zoe:OpQ X (binaryOp .Add) rCat:=⟨zn7⟩
theorem zoi:OpQ X (compareOp .Lt) (rI0 fun i j=>.bl (decide (i<j))):=⟨zrq⟩
theorem zfP:OpQ X (compareOp .LtE) (rI0 fun i j=>.bl (decide (i<=j))):=⟨zrp⟩
theorem zog:OpQ X (compareOp .Gt) (rI0 fun i j=>.bl (decide (j<i))):=⟨zro⟩
theorem zrs:OpQ X (compareOp .GtE) (rI0 fun i j=>.bl (decide (j<=i))):=⟨zrn⟩
theorem zdy:OpQ X (compareOp .Eq) rEq:=⟨zrm⟩
theorem zrt:OpQ X (compareOp .NotEq) rNe:=⟨zrr⟩
theorem zeq:OpQ X (compareOp .IsNot) (fun x y H Q=>∃a b,x = .bl a/\y = .bl b/\Q (.bl (a != b)) H):=⟨zeo⟩
theorem zhI:OpQ X (compareOp .In) (rIn X.K false):=⟨zhG⟩
theorem yE {op:Operator}{r:R2}(ho:OpQ X (binaryOp op) r)(ha:QE X a ta)(hb:QE X b tb):QE X (.BinOp a op b pos) (tOp r ta tb):=⟨zry ho.run ha.run hb.run⟩
theorem zmg {op:CmpOp}{r:R2}(ho:OpQ X (compareOp op) r)(ha:QE X a ta)(hb:QE X b tb)(hm:behindInMarks op b=false):QE X (.Compare a [op] [b] pos) (tOp r ta tb):=⟨zlU ho.run ha.run hb.run hm⟩
theorem zbA {op:CmpOp}{r:R2}(ho:OpQ X (compareOp op) r)(ha:QE X a ta)(hb:QE X b tb)(hm:behindInMarks op b=false):QT X (.Compare a [op] [b] pos) (zis (tOp r ta tb)):=⟨zmc ho.run ha.run hb.run hm⟩
theorem zjK {op op':CmpOp}{r r':R2}(ho:OpQ X (compareOp op) r)(ho':OpQ X (compareOp op') r')(ha:QE X a ta)(hb:QE X b tb)(hc:QE X c tc)(hm:lastMarks [op,op'] [b,c]=false:=by with_unfolding_all rfl) :
  QT X (.Compare a [op,op'] [b,c] pos) (zis (zio r r' ta tb tc)):=⟨zjC ho.run ho'.run ha.run hb.run hc.run hm⟩
theorem zoT (h:QE X e te)(he:∀whole,isTrue e X.env whole=(do let v <- whole;standAt e.pos;holding [v] (truthy v)):=by intro _;rfl):QT X e (tB te):=⟨zoF h.run he⟩
theorem zoS (h:QT X a t):QT X (.UnaryOp .Not a pos) (tNot t):=⟨zoE h.run⟩
theorem zh1 (h:QT X a t):QW X (.BoolOp .And [a] pos) t:=⟨zmf h.run⟩
theorem zoU (h:QT X a t):QW X (.BoolOp .Or [a] pos) t:=⟨zoH h.run⟩
theorem zkv {yn:List Expr}(h:QT X a t)(h':QW X (.BoolOp .And (b::yn) pos) u):QW X (.BoolOp .And (a::b::yn) pos) (zrL t u):=⟨zoG h.run h'.run⟩
theorem zrE {yn:List Expr}(h:QT X a t)(h':QW X (.BoolOp .Or (b::yn) pos) u):QW X (.BoolOp .Or (a::b::yn) pos) (tOr t u):=⟨zrC h.run h'.run⟩
theorem QW.pt (h:QW X e t):QT X e t:=⟨h.run.pt⟩
theorem zoN {op:BoolOp}(h:QE X a ta):QE X (.BoolOp op [a] pos) ta:=⟨zoq h.run⟩
theorem zoI {yn:List Expr}(ha:QE X a ta)(hb:QE X (.BoolOp .And (b::yn) pos) tb):QE X (.BoolOp .And (a::b::yn) pos) (zpl ta tb):=⟨zol ha.run hb.run⟩
theorem zoM (ha:QE X a ta):QE X (.UnaryOp .Not a pos) (zpq ta):=⟨zop ha.run⟩
theorem yA:QA X [] zkF:=⟨zoj⟩
theorem zE {ts:TA}(ha:QE X e te)(hr:QA X es ts)(hs:starEach (e::es) X.env=(false,eval e X.env)::starEach es X.env:=by rfl):QA X (e::es) (zcU te ts):=⟨zlR ha.run hr.run hs⟩
theorem zjD:QE X (.Dict [] [] pos) zkE:=⟨zfj⟩
theorem zmq:QP X pos [] [] []:=⟨zl7⟩
theorem zcK {k v:Expr}{ks:List (Option Expr)}{vs:List Expr}{tk tv:TE}{trs:List (TE×TE)}(hk:QE X k tk)(hv:QE X v tv)(hr:QP X pos ks vs trs):QP X pos (some k::ks) (v::vs) ((tk,tv)::trs):=⟨zjy hk.run hv.run hr.run⟩
theorem zmi {keys:List (Option Expr)}{values:List Expr}{trs:List (TE×TE)}(h:QP X pos keys values trs)(hall:keys.all (·.isSome)=true)(hl:keys.length=values.length)(h0:keys≠[])(h15:keys.length<=15):QE X (.Dict keys values pos) (zpn trs):=⟨zlW h.run hall hl h0 h15⟩
theorem zhX:QO X none ziq:=⟨zl5⟩
theorem zhY (h:QE X e te):QO X (some e) (zpr te):=⟨zl6 h.run⟩
theorem zmK:SlQ X rSlA:=⟨zmH⟩
theorem zin:SlQ X (rSlL X.K):=⟨zmG⟩
theorem zcJ {r:V->Option Int->Option Int->Hp->VK->Prop}{lo hi:Option Expr}{tl th:TO}{p2:Pos}(hr:SlQ X r)(he:QE X e te)(hl:QO X lo tl)(hu:QO X hi th):QE X (.Subscript e (.Slice lo hi none p2) pos) (tSl r te tl th):=⟨zjt hr.run he.run hl.run hu.run⟩
theorem zbN:IxQ X (zp8 X.K):=⟨zlr⟩
theorem xM:IxQ X (zp9 X.K):=⟨znC⟩
theorem zoK {r:R2}(hr:IxQ X r)(ha:QE X a ta)(hb:QE X b tb)(hs:zdQ b):QE X (.Subscript a b pos) (tOp r ta tb):=⟨zrx hr.run ha.run hb.run hs⟩
theorem ua (hu:X.A.units+1<cLine)(ha:QE X a ta)(hb:QE X b tb)(hs:zqf b):QE X (.Subscript a b pos) (zpm ta tb):=⟨zlV hu ha.run hb.run hs⟩
theorem y9:CallQ X (.builtin "len") (fun xs H Q=>∃x n,xs=[x]/\zm7 X.K x H n/\Q (.int n) H):=⟨ziF⟩
theorem zgu:CallQ X (.builtin "abs") (fun xs H Q=>∃i,xs=[.int i]/\Q (.int (if i<0 then -i else i)) H):=⟨ziD⟩
theorem za6:CallQ X (.builtin "isinstance") (fun xs H Q=>∃x T t b,xs=[x,.ty T]/\TyOf X.K H x t/\PySem.W.kitOne X.K t (.type T)=some b/\Q (.bl b) H):=⟨zdU⟩
theorem zj8 (hc:X.calm=true):CallQ X (.builtin "all") (fun xs H Q=>∃ (p:Addr) (bs:List Bool),xs=[.ref p]/\Rd H p (.lst (bs.map V.bl))/\Q (.bl (bs.all id)) H):=⟨ziE hc⟩
theorem zfE:CallQ X (.type "list") (fun xs H Q=>∃p ys,xs=[.ref p]/\(SqL X.K H p ys\/SqT X.K H p ys)/\∀l,H l=none->Q (.ref l) (upd H l (.lst ys))):=⟨zc4⟩
theorem zdY:CallQ X (.type "tuple") (fun xs H Q=>∃p ys,xs=[.ref p]/\((SqL X.K H p ys/\∀l,H l=none->Q (.ref l) (upd H l (.tup ys)))\/(SqT X.K H p ys/\Q (.ref p) H))):=⟨zcl⟩
theorem zkT:CallQ X (.type "int") (fun xs H Q=>(∃i,xs=[.int i]/\Q (.int i) H)\/∃k,xs=[.bl k]/\Q (.int (if k then 1 else 0)) H):=⟨zgl⟩
theorem yg {id:String}{r:List V->Hp->VK->Prop}{x:Str}{ts:TA}(hc:CallQ X (.builtin id) r)(hg:Gl X x)(hm:X.mg x=none)(hv:bootBuiltins x=some (.builtin id))(ha:QA X (e::es) ts)(hn:x ≠ "__name__" := by decide)(hdb:(x==("__debug__" : Str))=false:=by decide)
  (he:starEach (e::es) X.env=(false,eval e X.env)::starEach es X.env:=by rfl) (hpl:(backTo pos (starEach es X.env)).any (·.1)=false:=by rfl):QE X (.Call (.Name x p) (e::es) [] pos) (tCB r ts):=⟨zjs hc.run hg hm hv ha.run hn hdb he hpl⟩
theorem zab {T:String}{r:List V->Hp->VK->Prop}{x:Str}{ts:TA}(hc:CallQ X (.type T) r)(hg:Gl X x)(hm:X.mg x=none)(hv:bootBuiltins x=some (.type T))(ha:QA X (e::es) ts)(hn:x ≠ "__name__" := by decide)(hdb:(x==("__debug__" : Str))=false:=by decide)
  (he:starEach (e::es) X.env=(false,eval e X.env)::starEach es X.env:=by rfl) (hpl:(backTo pos (starEach es X.env)).any (·.1)=false:=by rfl):QE X (.Call (.Name x p) (e::es) [] pos) (tCB r ts):=⟨zhM hc.run hg hm hv ha.run hn hdb he hpl⟩
theorem zjE {x:Str}{st:Stmt}{ps:List Str}{f:Addr}{fd:FuncData}{sp:Sp}{j k:Nat}{ts:TA}(D:Dfn X.K X.mg x st ps f fd)(G:FnOk X.prog X.w X.K X.mg X.base CX0 j f fd ps sp)(hr:Room k X.A)
  (ha:QA X (e::es) ts) (hjk:j<=k:=by decide) (hg:Gl X x:=by rfl) (hdb:(x==("__debug__" : Str))=false:=by decide) (he:starEach (e::es) X.env=(false,eval e X.env)::starEach es X.env:=by rfl) (hpl:(backTo pos (starEach es X.env)).any (·.1)=false:=by rfl) :
  QE X (.Call (.Name x p) (e::es) [] pos) (zeH sp [] E0 ts):=⟨zrw D G hr ha.run hjk hg hdb he hpl⟩
theorem zhU {i:Nat}{x:Str}(hN:X.N.Nodup)(hi:X.N[i]?=some x)(hx:Loc X.env.scope x)(hf:X.fn x=true\/X.env.scope.names.lookup x=some .local:=by first | exact .inl rfl | exact .inr rfl | assumption):QG X (.Name x pos) (uW i):=⟨zl2 hN hi hx hf⟩
theorem zmo:QGs X [] gNil:=⟨zl3⟩
theorem zjG {g:TG}{gs:TGs}(h1:QG X e g)(h2:QGs X es gs)(hs:(assignEach (e::es) X.env).map (·.2)=assign e X.env::(assignEach es X.env).map (·.2):=by rfl):QGs X (e::es) (znz g gs):=⟨zjv h1.run h2.run hs⟩
theorem zoO {k:Nat}{gs:TGs}{n:Nat}(hc:X.calm=true)(h:QGs X es gs)(hn:(assignEach es X.env).length=n:=by rfl)(hst:(assignEach es X.env).findIdx? (·.1)=none:=by rfl):QG X (.Tuple es k pos) (zqR X.K n gs):=⟨zoy hc h.run hn hst⟩
theorem zhV {tg:Expr}(hl:QE X e te):QI X tg e (zll X.K te):=⟨zl4 hl.run⟩
theorem zoP {tg:Expr}(hl:QE X e te):QI X tg e (zqT X.K te):=⟨zoz hl.run⟩
theorem zhW {tg:Expr}{ts:TA}(hg:Gl X "range")(hm:X.mg "range" = none)(ha:QA X [a] ts)(hs:starEach [a] X.env=[(false,eval a X.env)]:=by rfl):QI X tg (.Call (.Name "range" p) [a] [] pos) (znA ts):=⟨zhO hg hm ha.run hs⟩
theorem zh0:QTs X [] zbK:=⟨zmd⟩
theorem zms (h:QT X c t):QTs X [c] t:=⟨zme h.run⟩
theorem zmh {elt tg iter:Expr}{ifs:List Expr}{scope:Scope}{wi:TI}{g:TG}{ti:TT}{N:List Str}{cix:List (Option Nat)}(hc:X.calm=true)(c:CompOk X scope N cix)
  (hi:QI X tg iter wi) (hg:∀C s H ex,QG (zl X scope N C s H ex) tg g) (ht:∀C s H ex,QTs (zl X scope N C s H ex) ifs ti) (he:∀C s H ex,QE (zl X scope N C s H ex) elt te)
  (hs:∀x,foldedSetIterable iter X.env x=pure x:=by intro _;rfl):QE X (.ListComp elt [⟨tg,iter,ifs,0⟩] scope pos) (zrM wi g ti te cix):=⟨fun pins s σ H Q I h=>by
 rw[eval_ListComp];exact zbm (Fin:=fun acc H=>Q (.ref acc) H) (x8 c) hc hi.run (zbb fun C s H ex=>(hg C s H ex).run) (zbb fun C s H ex=>(ht C s H ex).run) (zbb fun C s H ex=>(he C s H ex).run) hs I h fun _ _ _ _ _ hm hb q=>zaS hm hb q⟩
end
section
variable {X:Cx}{st:Stmt}{sts body a b:List Stmt}{t u:TS}{e o i:Expr}{te td ty tv:TE}{pos:Pos}
theorem zcM:QSs X [] zpp:=⟨zma⟩
theorem zR (h1:QS X st t)(h2:QSs X sts u):QSs X (st::sts) (zrP t u):=⟨zjB h1.run h2.run⟩
theorem xC (h1:QS X st t):QSs X [st] t:=⟨zmb h1.run⟩
theorem zhZ (he:QE X e te)(hs:swapsWith e none pos.line X.env=pure false:=by rfl):QS X (.Expr e pos) (zmM te):=⟨zl9 he.run hs⟩
theorem zaD (he:QE X e te):QS X (.Return (some e) pos) (zqb te):=⟨zoC he.run⟩
theorem zjI {c:Expr}{tc:TT}(hc:QT X c tc)(ha:QSs X a t)(hb:QSs X b u):QS X (.If c a b pos) (tIfS tc t u):=⟨zrB hc.run ha.run hb.run⟩
theorem xI {i:Nat}{x:Str}{pos':Pos}(hN:X.N.Nodup)(hi:X.N[i]?=some x)(hx:Loc X.env.scope x)(he:QE X e te)(hs:swapsWith e (some (.Name x pos')) pos.line X.env=pure false:=by rfl)(hf:X.fn x=true\/X.env.scope.names.lookup x=some .local:=by first | exact .inl rfl | exact .inr rfl | assumption) :
  QS X (.Assign [.Name x pos'] e pos) (zfw te (uW i)):=⟨zoD hN hi hx he.run hs hf⟩
theorem zoQ {tg:Expr}{g:TG}(he:QE X e te)(hg:QG X tg g)(hs:swapsWithSole [tg] e pos.line X.env=pure false:=by rfl)(hw:swappedStores [tg] e X.env=pure none:=by rfl)
  (h1:(assignEach [tg] X.env).map (·.2)=[assign tg X.env]:=by rfl):QS X (.Assign [tg] e pos) (zfw te g):=⟨zoA he.run hg.run hs hw h1⟩
theorem zcL {pos':Pos}(hu:X.A.units+1<cLine)(ho:QE X o td)(hi:QE X i ty)(hv:QE X e tv)(hs:swapsWith e (some (.Subscript o i pos')) pos.line X.env=pure false):QS X (.Assign [.Subscript o i pos'] e pos) (zpf td ty tv):=⟨zl8 hu ho.run hi.run hv.run hs⟩
theorem zoR {tg iter:Expr}{wi:TI}{g:TG}(hp:PassesOwn (model X.prog X.w) X.A X.env X.xe)(hc:X.calm=true)(hi:QI X tg iter wi)(hg:QG X tg g)(hb:QSs X body t)(hs:∀x,foldedSetIterable iter X.env x=pure x:=by intro _;rfl):QS X (.For tg iter body [] pos) (zrN wi g t):=⟨zoB hp hc hi.run hg.run hb.run hs⟩
end
theorem Fun.okQ {P:Program}{w:World}{K:PySem.W.Frag}{mg:Str->Option Value}{base:Heap}{x qual:Str}{st:Stmt}{f:Addr}{fd:FuncData}{N ps:List Str}{k:Nat}{sp:Sp}(F:Fun K x qual st f fd)(S:FnScope N ps (zd st))(len:∀vs H Q E,sp vs H Q E->vs.length=ps.length)
  (hbody:∀ (cdv:Value) (A:Around) (outer:List Env) (s:Shared) (H:Hp) (vs:List V) (Q:VK) (E:XK),Room k (A.deeper (envOfC qual (zd st) s.heap.objs.size f cdv))->sp vs H Q E->
   ∃t,QSs (zdO CX0 P w K mg base N qual (zd st) f cdv A outer s H E).nox (ym st) t/\t { nx:=fun _ H'=>Q .non H',rt:=Q } (xF N vs) H):FnOk P w K mg base CX0 (k+1) f fd ps sp:=
 F.ok S len fun cdv A outer s H vs Q E hr h=>by obtain⟨t,h1,h2⟩:=hbody cdv A outer s H vs Q E hr h;exact⟨t,h1.run,h2⟩
theorem s_ca:¬ (("cells" : Str) = "at"):=by decide +kernel
theorem s_cl:¬ (("cells" : Str) = "left"):=by decide +kernel
theorem s_al:¬ (("at" : Str) = "left"):=by decide +kernel
theorem zqX:¬ (Sum.inr "cells" : Key)=(Sum.inr "at" : Key):=fun z=>s_ca (Sum.inr.inj z)
theorem zqY:¬ (Sum.inr "cells" : Key)=(Sum.inr "left" : Key):=fun z=>s_cl (Sum.inr.inj z)
theorem zpY:¬ (Sum.inr "at" : Key)=(Sum.inr "left" : Key):=fun z=>s_al (Sum.inr.inj z)
def u9 (c:Addr)(a l:Int):List (Key×V):=[(Sum.inr "cells",.ref c),(Sum.inr "at",.int a),(Sum.inr "left",.int l)]
theorem zrz (c:Addr)(a l:Int):uI (u9 c a l) (Sum.inr "cells" : Key)=some (.ref c):=yc rfl
theorem zl1 (c:Addr)(a l:Int):uI (u9 c a l) (Sum.inr "at" : Key)=some (.int a):=by unfold u9;rw[yb zqX,yc rfl]
theorem zrA (c:Addr)(a l:Int):uI (u9 c a l) (Sum.inr "left" : Key)=some (.int l):=by unfold u9;rw[yb zqY,yb zpY,yc rfl]
theorem zov (c:Addr)(a l b:Int):zaL (u9 c a l) (Sum.inr "at" : Key) (.int b)=u9 c b l:=by unfold zaL u9;have e1:=zqX;have e2:¬ (Sum.inr "left" : Key)=(Sum.inr "at" : Key):=fun z=>zpY z.symm;simp[e1,e2]
theorem zow (c:Addr)(a l b:Int):zaL (u9 c a l) (Sum.inr "left" : Key) (.int b)=u9 c a b:=by unfold zaL u9;have e1:=zqY;have e2:=zpY;simp[e1,e2]
theorem zou (c:Addr)(a l:Int):zbq [] (u9 c a l)=u9 c a l:=by unfold zbq u9;have e1:=zqX;have e2:=zqY;have e3:=zpY;simp[zaL,e1,e2,e3]
structure Pen (H:Hp)(p c:Addr)(ns:List Int)(n:Nat):Prop where
 ob:∃a l:Int,H p=some (.dK (u9 c a l))/\0<=a/\a<=n/\0<=l
 ls:∃ob,H c=some (.frz ob (.lst (ns.map V.int)))
 len:ns.length<=63
theorem Pen.same {H H':Hp}{p c:Addr}{ns:List Int}{n:Nat}(P:Pen H p c ns n)(h:yW H H'):Pen H' p c ns n:=by obtain⟨⟨a,l,h1,h2,h3,h4⟩,h5,h6⟩:=P;exact⟨⟨a,l,h _ _ h1,h2,h3,h4⟩,let ⟨ob,e⟩:=h5;⟨ob,h _ _ e⟩,h6⟩
theorem zcS {H:Hp}{p c:Addr}{a l:Int}{o:HO}(h:H p=some (.dK (u9 c a l))):zm H (upd H p o):=fun b u e n=>by
 by_cases hb:b=p
 ·subst hb;rw[h] at e;cases e;have:=n _ rfl;rw[zl1] at this;cases this
 ·rw[zc hb];exact e
section
variable {H:Hp}{p c:Addr}{a l:Int}
theorem zfk (h:H p=some (.dK (u9 c a l))):zf8 H p (.str "cells") (some (.ref c)):=by have:=zf8.k (k:=(Sum.inr "cells" : Key)) h;rw[zrz] at this;exact this
theorem zot (h:H p=some (.dK (u9 c a l))):zf8 H p (.str "at") (some (.int a)):=by have:=zf8.k (k:=(Sum.inr "at" : Key)) h;rw[zl1] at this;exact this
theorem zhN (h:H p=some (.dK (u9 c a l))):zf8 H p (.str "left") (some (.int l)):=by have:=zf8.k (k:=(Sum.inr "left" : Key)) h;rw[zrA] at this;exact this
theorem zox (h:H p=some (.dK (u9 c a l)))(b:Int):ziA H p (.str "at") (.int b) (upd H p (.dK (u9 c b l))):=by have:=ziA.k (k:=(Sum.inr "at" : Key)) (v:=.int b) h (by show 3<sizeLine;decide);rw[zov] at this;exact this
theorem zkt (h:H p=some (.dK (u9 c a l)))(b:Int):ziA H p (.str "left") (.int b) (upd H p (.dK (u9 c a b))):=by have:=ziA.k (k:=(Sum.inr "left" : Key)) (v:=.int b) h (by show 3<sizeLine;decide);rw[zow] at this;exact this
end
theorem znc (ns:List Int)(a:Int)(h:0<((ns.map V.int).length:Int)):∃z,atI (ns.map V.int) (a % ((ns.map V.int).length:Int))=some (.int z):=by
 have h0:=ce a (show ((ns.map V.int).length:Int)≠0 by lia);have h1:=bL a h;generalize hm:a % ((ns.map V.int).length:Int)=m at h0 h1;obtain⟨j,rfl⟩:∃j:Nat,m=j:=⟨m.toNat,by lia⟩;have hj:j<ns.length:=by rw[ab] at h1;lia
 exact⟨ns[j],zkL (by simp[hj])⟩
theorem zjW {a:Int}{n:Nat}(h0:0<=a)(h1:a<=n)(h2:n<=1000000):0<=60013 * a * a/\60013 * a * a<=60013000000000000:=by have e:60013 * a * a=60013 * (a * a):=Int.mul_assoc _ _ _;have m0:0<=a * a:=Int.mul_nonneg h0 h0;have m1:a * a<=1000000 * 1000000:=Int.mul_le_mul (by lia) (by lia) h0 (by lia);rw[e];lia
theorem meet {α:Type}{G:Prop}(P:α->Prop)(h:(∀a,P a)->G)(r:∀a,P a):G:=h r
theorem zre {G:Prop}(P:Prop)(h:P->G)(r:P):G:=h r
def zik:Sp:=fun vs H Q _=>∃ (p c:Addr) (ns:List Int) (n:Nat) (zC:Int),vs=[.ref p,.int zC]/\Pen H p c ns n/\n<=1000000/\1<=zC/\zC<1073741824/\
 ∀ (r:Int) (H':Hp),0<=r->r<zC->Pen H' p c ns (n+1)->zm H H'->Q (.int r) H'
def zjV (K:PySem.W.Frag):Sp:=fun vs H Q _=>∃ (a:Addr) (ns:List Int),vs=[.ref a]/\SqL K H a (ns.map V.int)/\ns.length<=63/\∀ (p c:Addr) (H':Hp),Pen H' p c ns 0->yW H H'->Q (.ref p) H'
def zjz (ns:List Int):Int:=ns.foldl (· * ·) 1
theorem zn {α:Type}{l:List α}{i:Nat}{x:α}(h:l[i]?=some x):l.take (i+1)=l.take i++[x]:=by rw[List.take_succ,h];rfl
def zim:Sp:=fun vs H Q _=>∃ (v:V) (d:Dt),vs=[v]/\Is H d v/\Q (.bl d.isWhole) H
def Dt.inBox:Dt->Bool
 | .int i=>decide (2<=i)&&decide (i<=4)
 | _=>false
def Dt.val:Dt->Int
 | .int i=>i
 | _=>0
def roomB:Dt->Bool
 | .tup l=>decide (1<=l.length)&&decide (l.length<=8)&&l.all Dt.inBox&&decide (zjz (l.map Dt.val)<=256)
 | _=>false
def za3 (most:Int):Dt->Bool
 | .tup l=>decide (1<=l.length)&&decide ((l.length:Int)<=most)&&l.all Dt.inBox
 | _=>false
theorem zaj (most:Int)(l:List Dt):za3 most (.tup l)=(decide (1<=l.length)&&decide ((l.length:Int)<=most)&&l.all Dt.inBox):=rfl
def zil (K:PySem.W.Frag):Sp:=fun vs H Q _=>∃ (a:Addr) (ns:List Int),vs=[.ref a]/\SqL K H a (ns.map V.int)/\ns.length<=63/\∀H',Q (.bl true) H'
theorem znY {g:TG}{x:V}{σ:St}{H:Hp}{A B:St->Hp->Prop}(h:g x σ H A):g x σ H fun σ3 H3=>zbK σ3 H3 fun ok H4=>if ok=true then A σ3 H4 else B σ3 H4:=by
 have e:(fun σ3 H3=>zbK σ3 H3 fun ok H4=>if ok=true then A σ3 H4 else B σ3 H4)=A:=by funext σ3 H3;show (if true=true then A σ3 H3 else B σ3 H3)=A σ3 H3;rw[if_pos rfl]
 rw[e];exact h
section
variable {prog:Program}{w:World}{A:Around}{E:Value->Shared->Prop}{s:Shared}
end
mutual
def Dt.toW:Dt->PySem.W.Dat
 | .non=>.none
 | .bl b=>.bool b
 | .int i=>.int i
 | .str x=>.str x
 | .tup l=>.tuple (Dt.toWs l)
 | .lst l=>.list (Dt.toWs l)
 | .dct=>.bytes #[]
def Dt.toWs:List Dt->List PySem.W.Dat
 | []=>[]
 | d::ds=>d.toW::Dt.toWs ds
end
mutual
theorem zeI:∀ {d e:Dt},d.toW=e.toW->d=e
 | .non,e,h=>by cases e <;> simp[Dt.toW] at h ⊢
 | .bl b,e,h=>by cases e <;> simp[Dt.toW] at h ⊢;exact h
 | .int b,e,h=>by cases e <;> simp[Dt.toW] at h ⊢;exact h
 | .str b,e,h=>by cases e <;> simp[Dt.toW] at h ⊢;exact h
 | .tup l,e,h=>by
  cases e with
  | tup m=>simp only[Dt.toW,PySem.W.Dat.tuple.injEq] at h;rw[zcV h]
  | _=>simp[Dt.toW] at h
 | .lst l,e,h=>by
  cases e with
  | lst m=>simp only[Dt.toW,PySem.W.Dat.list.injEq] at h;rw[zcV h]
  | _=>simp[Dt.toW] at h
 | .dct,e,h=>by cases e <;> simp[Dt.toW] at h ⊢
theorem zcV:∀ {l m:List Dt},Dt.toWs l=Dt.toWs m->l=m
 | [],m,h=>by cases m <;> simp[Dt.toWs] at h ⊢
 | d::l,m,h=>by
  cases m with
  | nil=>simp[Dt.toWs] at h
  | cons e m=>
   simp only[Dt.toWs,List.cons.injEq] at h;rw[zeI h.1,zcV h.2]
end
def Dt.eqOk (d:Dt):Prop:=PySem.W.kqdOk 8 d.toW=true
section
variable {P:Program}{w:World}{H:Hp}{h:Heap}
mutual
theorem yC (ok:HOk P w H h):∀ (n:Nat) {d:Dt} {v:V} {u:Value},Is H d v->yo v u->PySem.W.kqdOk n d.toW=true->∃as,Reads h u (PySem.W.kqdP d.toW) as
 | _,.non,_,_,h1,r,_=>by cases h1;cases r;exact⟨_,Reads.none⟩
 | n,.bl b,_,_,_,_,k=>by cases n <;> simp[Dt.toW,PySem.W.kqdOk] at k
 | _,.int i,_,_,h1,r,_=>by cases h1;obtain⟨t,rfl⟩:=r;exact⟨_,Reads.int i t⟩
 | _,.str x,_,_,h1,r,_=>by cases h1;obtain⟨t,rfl⟩:=r;exact⟨_,Reads.str x t⟩
 | 0,.tup l,_,_,_,_,k=>by simp[Dt.toW,PySem.W.kqdOk] at k
 | n+1,.tup l,_,_,h1,r,k=>by obtain⟨a,xs,rfl,ha,hl⟩:=h1;cases r;obtain⟨_,its,rv,o,ho,hc,⟨m,hd⟩,_⟩:=ok a _ ha;obtain⟨as,q⟩:=uE ok n hl rv (by simpa [Dt.toW,PySem.W.kqdOk] using k);exact⟨as,reads_tuple_at ho hc hd (by simpa using q)⟩
 | 0,.lst l,_,_,_,_,k=>by simp[Dt.toW,PySem.W.kqdOk] at k
 | n+1,.lst l,_,_,h1,r,k=>by obtain⟨a,xs,rfl,ha,hl⟩:=h1;cases r;obtain⟨_,its,m,rv,e⟩:=(show zW P w H h a (.lst xs) from zmx ok ha);obtain⟨as,q⟩:=uE ok n hl rv (by simpa [Dt.toW,PySem.W.kqdOk] using k);exact⟨_,reads_list_at e rfl rfl (by simpa using q)⟩
 | n,.dct,_,_,_,_,k=>by cases n <;> simp[Dt.toW,PySem.W.kqdOk] at k
theorem uE (ok:HOk P w H h):∀ (n:Nat) {ds:List Dt} {xs:List V} {us:List Value},IsL H ds xs->zU xs us->(∀d∈Dt.toWs ds,PySem.W.kqdOk n d=true)->∃as,ReadsAll h us (PySem.W.kqdPs (Dt.toWs ds)) as
 | _,[],_,_,h1,r,_=>by cases h1;cases r;exact⟨_,ReadsAll.nil⟩
 | n,d::ds,_,_,h1,r,k=>by
  obtain⟨x,xr,rfl,hd,hr⟩:=h1
  cases r with
  | cons rx rr=>
   obtain⟨as,q⟩:=yC ok n hd rx (k _ (by simp[Dt.toWs]));obtain⟨bs,q2⟩:=uE ok n hr rr fun e he=>k e (by simp[Dt.toWs,he]);exact⟨_,ReadsAll.cons q q2⟩
end
end
theorem xz {d:Dt}(h:d.eqOk):SeqAt.shaped (PySem.W.kqdP d.toW)=true:=by
 have l:=PySem.W.kqd_lay 8 _ h;unfold SeqAt.shaped
 grind
def zp6:R2:=fun x y H Q=>∃d e,Is H d x/\Is H e y/\d.eqOk/\e.eqOk/\∀b:Bool,(b=true↔d=e)->Q (.bl b) H
def zqa:R2:=fun x y H Q=>∃d e,Is H d x/\Is H e y/\d.eqOk/\e.eqOk/\∀b:Bool,(b=true↔d=e)->Q (.bl (!b)) H
section
variable {X:Cx}
theorem zgL {d e:Dt}(h1:d.eqOk)(h2:e.eqOk):PyData.eqv (PySem.W.kqdP d.toW) (PySem.W.kqdP e.toW)=true↔d=e:=
 (PySem.W.kqd_eqv 8 d.toW e.toW 8 h1 h2).trans ⟨zeI,fun z=>by rw[z]⟩
theorem zn8 (hu:X.A.units+64<cLine):OpR X (compareOp .Eq) zp6:=by intro pins s σ H x y v u Q I rx ry h;obtain⟨d,e,hd,he,kd,ke,q⟩:=h;obtain⟨as,ra⟩:=yC I.hok 8 hd rx kd;obtain⟨bs,rb⟩:=yC I.hok 8 he ry ke;exact eq_dataH ra rb (xz kd) (xz ke) hu ⟨.bl _,H,I,rfl,q _ (zgL kd ke)⟩
theorem zob (hu:X.A.units+64<cLine):OpR X (compareOp .NotEq) zqa:=by intro pins s σ H x y v u Q I rx ry h;obtain⟨d,e,hd,he,kd,ke,q⟩:=h;obtain⟨as,ra⟩:=yC I.hok 8 hd rx kd;obtain⟨bs,rb⟩:=yC I.hok 8 he ry ke;exact ne_dataH ra rb (xz kd) (xz ke) hu ⟨.bl _,H,I,rfl,q _ (zgL kd ke)⟩
theorem zof (hu:X.A.units+64<cLine):OpQ X (compareOp .Eq) zp6:=⟨zn8 hu⟩
theorem zhJ (hu:X.A.units+64<cLine):OpQ X (compareOp .NotEq) zqa:=⟨zob hu⟩
theorem zoJ {o e:Expr}{to:TE}{t:TA}{apos cpos:Pos}(ho:QE X o to)(ha:QA X [e] t)(hbase:attributeBase o "append" X.env (eval o X.env)=eval o X.env:=by rfl)
  (hfew:((backTo cpos (starEach [e] X.env)).all (fun x=>!x.1)&&(backToKw cpos (keywordEach [] X.env)).all (fun x=>x.1.isSome)&&decide (([e]:List Expr).length+([]:List Keyword).length+(if ([]:List Keyword).isEmpty then 0 else 1)<30))=true:=by rfl)
  (hline:(apos.endLine==cpos.line)=true:=by rfl) (hs:starEach [e] X.env=(false,eval e X.env)::starEach [] X.env:=by rfl) (hplain:(backTo cpos (starEach [] X.env)).any (·.1)=false:=by rfl) :
  QE X (.Call (.Attribute o "append" apos) [e] [] cpos) (tBM X.K "list" zev to t):=⟨zom c8 PySem.F.slot_list_append PySem.F.type_list_append zdm ho.run ha.run hbase hfew hline hs hplain⟩
end
theorem zba {ns:List Int}:(Dt.tup (ns.map .int)).eqOk:=by
 have e:∀ns:List Int,(Dt.toWs (ns.map .int)).all (PySem.W.kqdOk 7)=true:=by
  intro ns
  induction ns with
  | nil=>rfl
  | cons n ns ih=>simp only[av,Dt.toWs,bY,ih,cm];rfl
 exact e ns
def zC (rm:List Int)(i:Int):Int:=rm.getD i.toNat 0
@[reducible] def yD (q:Int×Int):Dt:=.tup [.int q.1,.int q.2]
structure Giv (rm:List Int)(g:List (Int×Int)):Prop where
 ok:∀q∈g,0<=q.1/\q.1<rm.length/\0<=q.2/\q.2<zC rm q.1
 up:g.Pairwise fun a b=>a.1<b.1
def zgf (H H':Hp):Prop:=∀b xs,H b=some (.tup xs)->H' b=some (.tup xs)
mutual
def Dt.noL:Dt->Bool
 | .tup l=>Dt.noLs l
 | .lst _=>false
 | .dct=>false
 | _=>true
def Dt.noLs:List Dt->Bool
 | []=>true
 | d::ds=>d.noL&&Dt.noLs ds
end
mutual
theorem Is.stayT {H H1:Hp}(a:zgf H H1):∀ {d:Dt} {v:V},d.noL=true->Is H d v->Is H1 d v
 | .non,_,_,h=>h
 | .bl _,_,_,h=>h
 | .int _,_,_,h=>h
 | .str _,_,_,h=>h
 | .tup l,_,n,h=>by obtain⟨p,xs,e,hp,hl⟩:=h;exact⟨p,xs,e,a _ _ hp,IsL.stayT a (by simpa [Dt.noL] using n) hl⟩
 | .lst l,_,n,_=>by simp[Dt.noL] at n
 | .dct,_,n,_=>by simp[Dt.noL] at n
theorem IsL.stayT {H H1:Hp}(a:zgf H H1):∀ {ds:List Dt} {xs:List V},Dt.noLs ds=true->IsL H ds xs->IsL H1 ds xs
 | [],_,_,h=>h
 | d::ds,_,n,h=>by
  obtain⟨x,r,e,hd,hr⟩:=h;have n':d.noL=true/\Dt.noLs ds=true:=by simpa [Dt.noLs] using n
  exact⟨x,r,e,Is.stayT a n'.1 hd,IsL.stayT a n'.2 hr⟩
end
theorem zdo:∀g:List (Int×Int),Dt.noLs (g.map yD)=true
 | []=>rfl
 | q::g=>by show (Dt.noL (yD q)&&Dt.noLs (g.map yD))=true;rw[zdo g];rfl
theorem Giv.snoc {rm:List Int}{g:List (Int×Int)}{i w:Int}(h:Giv rm g)(hl:∀q∈g,q.1<i)(h0:0<=i)(h1:i<rm.length)(h2:0<=w)(h3:w<zC rm i):Giv rm (g++[(i,w)]):=by
 refine⟨fun q hq=>?_,List.pairwise_append.mpr ⟨h.up,c9 _ _,fun a ha b hb=>?_⟩⟩
 ·rcases aN.mp hq with z | z
  ·exact h.ok q z
  ·simp_all
 ·rw[aC.mp hb];exact hl a ha
theorem Pen.app {H:Hp}{p c fa:Addr}{ns:List Int}{n:Nat}{xs ys:List V}(P:Pen H p c ns n)(hf:H fa=some (.lst xs))(hc:c≠fa):Pen (upd H fa (.lst ys)) p c ns n:=by
 obtain⟨⟨a,l,h1,h2,h3,h4⟩,h5,h6⟩:=P;have hp:p≠fa:=fun e=>by subst e;rw[hf] at h1;cases h1
 exact⟨⟨a,l,by rw[zc hp];exact h1,h2,h3,h4⟩,let ⟨ob,e⟩:=h5;⟨ob,by rw[zc hc];exact e⟩,h6⟩
def New (H:Hp)(o:HO)(R:V->Hp->Prop):Prop:=∀ (p:Addr) (H':Hp),H p=none->H' p=some o->yW H H'->R (.ref p) H'
theorem New.at {H:Hp}{o:HO}{R:V->Hp->Prop}(h:New H o R){p:Addr}(hp:H p=none):R (.ref p) (upd H p o):=h p _ hp zg (yW.upd hp)
def zpt (t:TA):TE:=fun σ H Q=>t σ H fun xs H1=>xs.length<=sizeLine/\New H1 (.tup xs) Q
def zpo (t:TA):TE:=fun σ H Q=>t σ H fun xs H1=>xs.length<=sizeLine/\New H1 (.lst xs) Q
section
variable {X:Cx}{es:List Expr}{t:TA}{pos:Pos}
theorem zl0 {x1}(h:PA X es t):PE X (.Tuple es x1 pos) (zpt t):=by intro pins s σ H Q I hq;refine wpAny_Tuple_spliced (thn (h pos pins s σ H _ I hq) fun us s1 ⟨xs,H1,I1,r,z,q⟩=>⟨by rw[<- r.length];exact z,?_⟩);have hf:H1 s1.heap.objs.size=none:=I1.hok.fresh (ai _);refine⟨.ref s1.heap.objs.size,upd H1 s1.heap.objs.size (.tup xs),I1.laid (t':=s1.toks) (fun b u e=>am _ e) (ai _) ?_,rfl,q.at hf⟩;exact⟨z,us,r,⟨_,aB _ rfl,rfl,⟨_,rfl⟩,rfl⟩⟩
theorem zlZ (h:PA X es t):PE X (.List es pos) (zpo t):=by intro pins s σ H Q I hq;refine wpAny_List_spliced (thn (h pos pins s σ H _ I hq) fun us s1 ⟨xs,H1,I1,r,z,q⟩=>⟨by rw[<- r.length];exact z,?_⟩);have hf:H1 s1.heap.objs.size=none:=I1.hok.fresh (ai _);refine⟨.ref s1.heap.objs.size,upd H1 s1.heap.objs.size (.lst xs),I1.laid (t':=s1.toks) (fun b u e=>am _ e) (ai _) ?_,rfl,q.at hf⟩;exact⟨z,us,0,r,aB _ rfl⟩
theorem zmm {x1}(h:QA X es t):QE X (.Tuple es x1 pos) (zpt t):=⟨zl0 h.run⟩
theorem zmj (h:QA X es t):QE X (.List es pos) (zpo t):=⟨zlZ h.run⟩
theorem CallQ.weak {f:Value}{r r':List V->Hp->VK->Prop}(h:CallQ X f r)(k:∀xs H Q,r' xs H Q->r xs H Q):CallQ X f r':=⟨fun pins s σ H xs us Q I rr z=>h.run pins s σ H xs us Q I rr (k _ _ _ z)⟩
theorem OpQ.weak {f:Value->Value->Sem Value}{r r':R2}(h:OpQ X f r)(k:∀x y H Q,r' x y H Q->r x y H Q):OpQ X f r':=⟨fun pins s σ H x y v u Q I rx ry z=>h.run pins s σ H x y v u Q I rx ry (k _ _ _ _ z)⟩
def zh2 (K:PySem.W.Frag):List V->Hp->VK->Prop:=fun xs H Q=>∃p ys,xs=[.ref p]/\(SqL K H p ys\/SqT K H p ys)/\New H (.lst ys) Q
def zew (K:PySem.W.Frag):List V->Hp->VK->Prop:=fun xs H Q=>∃p ys,xs=[.ref p]/\((SqL K H p ys/\New H (.tup ys) Q)\/(SqT K H p ys/\Q (.ref p) H))
theorem za7:CallQ X (.type "list") (zh2 X.K):=zfE.weak <| by rintro xs H Q ⟨p,ys,e,h,n⟩;exact⟨p,ys,e,h,fun l hl=>n.at hl⟩
theorem yO:CallQ X (.type "tuple") (zew X.K):=zdY.weak <| by rintro xs H Q ⟨p,ys,e,h⟩;exact⟨p,ys,e,h.elim (by rintro⟨a,n⟩;exact .inl ⟨a,fun l hl=>n.at hl⟩) .inr⟩
def zmt:R2:=fun x y H Q=>∃l b xs zs,x = .ref l/\y = .ref b/\Rd H l (.lst xs)/\Rd H b (.lst zs)/\xs.length+zs.length<=sizeLine/\New H (.lst (xs++zs)) Q
theorem zhH:OpQ X (binaryOp .Add) zmt:=zoe.weak <| by rintro x y H Q ⟨l,b,xs,zs,e1,e2,h1,h2,z,n⟩;exact⟨l,b,xs,zs,e1,e2,h1,h2,z,fun p hp=>n.at hp⟩
end
def znh (J:It)(g:TG)(ti:TT)(te:TE)(acc:Addr)(Q:VK)(σ:St)(H:Hp):Prop:=∃W:Nat->Nat->St->Hp->Prop,(∃m,W 0 m σ H)/\
 ∀i m σ' H',W i m σ' H'->(J.stop i H'/\Q (.ref acc) H')\/(J.go i H'/\∃N:St->Hp->Prop,(∀ σ2 H2,N σ2 H2->∃m',m'<m/\W (i+1) m' σ2 H2)/\∀x H2,J.yld i H' x H2->ziH g ti te acc N x σ' H2)
def zfx (wi:TI)(g:TG)(ti:TT)(te:TE)(cix:List (Option Nat)):TE:=fun σ H Q=>wi σ H fun J H1=>∀acc,H1 acc=none->znh J g ti te acc Q (xy σ cix) (upd H1 acc (.lst []))
theorem zfm {X:Cx}{pos:Pos}{te:TE}{elt tg iter:Expr}{ifs:List Expr}{scope:Scope}{wi:TI}{g:TG}{ti:TT}{N:List Str}{cix:List (Option Nat)}(hc:X.calm=true)(c:CompOk X scope N cix)
  (hi:QI X tg iter wi) (hg:∀C s H ex,QG (zl X scope N C s H ex) tg g) (ht:∀C s H ex,QTs (zl X scope N C s H ex) ifs ti) (he:∀C s H ex,QE (zl X scope N C s H ex) elt te)
  (hs:∀x,foldedSetIterable iter X.env x=pure x:=by intro _;rfl):QE X (.ListComp elt [⟨tg,iter,ifs,0⟩] scope pos) (zfx wi g ti te cix):=zmh hc c hi hg ht he hs
section
variable {K:PySem.W.Frag}{a acc:Addr}{xs:List V}{g:TG}{ti:TT}{te:TE}{σ:St}{H:Hp}{Q:VK}
theorem zgr (hacc:H acc=none)(Pv:Nat->St->Hp->Prop)(h0:∀H',H' acc=some (.lst [])->yW H H'->Pv 0 σ H')(hl:∀i σ H,i<=xs.length->Pv i σ H->SqL K H a xs)
  (hs:∀i x σ H,xs[i]?=some x->Pv i σ H->ziH g ti te acc (Pv (i+1)) x σ H) (hd:∀ σ H,Pv xs.length σ H->Q (.ref acc) H):znh (Itl K a) g ti te acc Q σ (upd H acc (.lst [])):=by
 refine⟨fun i m σ H=>m=xs.length - i/\i<=xs.length/\Pv i σ H,⟨xs.length,by simp,aL _,h0 _ zg (yW.upd hacc)⟩,?_⟩;rintro i m σ H ⟨rfl,hi,p⟩;have q:=hl i σ H hi p;by_cases hlt:i<xs.length
 ·refine .inr ⟨⟨xs,xs[i],q,by simp[hlt]⟩,Pv (i+1),fun σ' H' p'=>⟨xs.length - (i+1),by lia,rfl,hlt,p'⟩,fun x H' y=>?_⟩;obtain⟨e,y⟩:=y;subst e;exact hs i x σ _ (y xs q) p
 ·have e:i=xs.length:=by lia
  subst e;exact .inl ⟨⟨xs,q,ai _⟩,hd σ H p⟩
end
theorem zni {g:TG}{te:TE}{acc:Addr}{N:St->Hp->Prop}{x:V}{σ:St}{H:Hp}(h:g x σ H fun σ3 H3=>te σ3 H3 fun v H5=>∃xs,H5 acc=some (.lst xs)/\xs.length<sizeLine/\N σ3 (upd H5 acc (.lst (xs++[v])))):ziH g zbK te acc N x σ H:=znY h
theorem zfu {H H1:Hp}{acc:Addr}{o:HO}(h:H acc=none)(s:zm H H1):zm H (upd H1 acc o):=fun b u e nn=>by rw[zc (zb e h)];exact s b u e nn
section
variable {X:Cx}(K:PySem.W.Frag)(h:X.K=K)
include h
theorem zkU:CallQ X (.builtin "len") (fun xs H Q=>∃x n,xs=[x]/\zm7 K x H n/\Q (.int n) H):=h ▸ y9
end
theorem zmn {X:Cx}(K:PySem.W.Frag)(hK:X.K=K){es:List Expr}{pos:Pos}{k:Nat}{gs:TGs}{n:Nat}(hc:X.calm=true)(h:QGs X es gs)(hn:(assignEach es X.env).length=n:=by rfl)(hst:(assignEach es X.env).findIdx? (·.1)=none:=by rfl):QG X (.Tuple es k pos) (zqR K n gs):=hK ▸ zoO hc h hn hst
theorem zmp {X:Cx}(K:PySem.W.Frag)(hK:X.K=K){e tg:Expr}{te:TE}(hl:QE X e te):QI X tg e (zqT K te):=hK ▸ zoP hl
theorem zfn {X:Cx}(K:PySem.W.Frag)(hK:X.K=K){e tg:Expr}{te:TE}(hl:QE X e te):QI X tg e (zll K te):=hK ▸ zhV hl
structure Wi where
 g:List (Int×Int)
 b:Int
 r:Int
 w:Int
@[reducible] def uJ (x:Wi):Dt:=.tup [.tup (x.g.map yD),.int x.b,.int x.r,.int x.w]
structure WishOk (rm:List Int)(x:Wi):Prop where
 giv:Giv rm x.g
 b0:0<=x.b
 b1:x.b<rm.length
 apart:∀q∈x.g,q.1≠x.b
 r0:0<=x.r
 r1:x.r<zC rm x.b
 w0:0<=x.w
 w1:x.w<zC rm x.b
 ne:x.r≠x.w
section
variable {H H':Hp}{R:Dt->Prop}{xs ys:List V}
end
theorem zd7 {m:Int}:∀ {g:List (Int×Int)} {lo:Int},(∀q∈g,lo<=q.1/\q.1<m)->(g.Pairwise fun a b=>a.1<b.1)->lo<=m->(g.length:Int)<=m - lo
 | [],lo,_,_,h=>by simp;lia
 | q::g,lo,h,hp,hm=>by
  have h1:=h q aj;have hp':=bB.mp hp;have ih:=zd7 (g:=g) (lo:=q.1+1) (fun x hx=>⟨by have:=hp'.1 x hx;lia,(h x (ak _ hx)).2⟩) hp'.2 (by lia)
  grind
theorem zgz (xs:List V)(k:Nat):zbR xs none (some (k:Int))=xs.take k:=by
 have e:HT.sIx xs.length xs.length (some (k:Int))=min k xs.length:=by simp[HT.sIx];try lia
 unfold zbR;rw[e,show HT.sIx xs.length 0 none=0 from rfl,dZ,eL]
 grind
theorem zgy (xs:List V)(k:Nat):zbR xs (some (k:Int)) none=xs.drop k:=by
 have e:HT.sIx xs.length 0 (some (k:Int))=min k xs.length:=by simp[HT.sIx];try lia
 unfold zbR;rw[e,show HT.sIx xs.length xs.length none=xs.length from rfl];by_cases h:k<=xs.length
 ·rw[Nat.min_eq_left h,List.take_of_length_le (by simp)]
 ·rw[Nat.min_eq_right (by lia),List.drop_eq_nil_of_le (as:=xs) (i:=xs.length) (by lia),List.drop_eq_nil_of_le (as:=xs) (i:=k) (by lia),List.take_nil]
section
variable {rm:List Int}{g b r w:Dt}
end
end L2
namespace HT
open PySem PySem.Spec PyProof.Rows
section
variable {prog:Program}{w:World}{A:Around}{E:Value->Shared->Prop}{s:Shared}
end
end HT
namespace L2
open PySem PySem.Spec PyProof.Rows
section
variable {X:Cx}{e:Expr}{te:TE}{pos p2 p3 p4:Pos}{j:Nat}
end
theorem zeJ (l:Addr)(items:Array Value)(n:Nat)(dd:Option Addr)(sl:Array (Option Value))(x:Int)(u:Tok)(hx:1<=x)(hc0:x<2 ^ 63)(hc1:items.isEmpty=true) :
  Meets (Builtin.«tuple.__mul__» ⟨[.ref l,.int x u],[]⟩) (fun _ R s=>s.heap.get? l=some { cls:=.type "tuple",dict:=dd,data:=.seq items n,slots:=sl }/\R (.ok (.ret (Value.ref l))) s):=
 .of_wp fun prog w A R s h=>by
  obtain⟨hp,g,d,tk,os⟩:=s;obtain⟨hl,h⟩:=h;have f1:=cN
  wp_walk
  have e1:¬ ((decide (x < -2 ^ 63) || decide (x ≥ 2 ^ 63))=true):=by simp;lia
  have e2:(items.isEmpty || x==1)=true:=by rw[hc1];rfl
  rw[if_neg e1];refine aa (eu ⟨_,hl,rfl,n,rfl⟩ ?_);rw[if_pos e2]
  wp_walk using AutoSeq1.wpAny_loadPart' hl
  exact⟨_,rfl,h⟩
section
variable {X:Cx}
def zmv:R2:=fun x y H Q=>∃l k xs,x = .ref l/\y = .int k/\H l=some (.tup xs)/\1<=k/\k<2 ^ 63/\xs.length * k.toNat<=sizeLine/\
 ∀p H',H' p=some (.tup (List.replicate k.toNat xs).flatten)->yW H H'->Q (.ref p) H'
theorem zbw:OpQ X (binaryOp .Mult) zmv:=⟨by
 intro pins s σ H x y v u Q I rx ry h;obtain⟨l,k,xs,rfl,rfl,hH,h1,h2,hz,q⟩:=h;by_cases hx:xs=[]
 ·subst hx;cases rx;obtain⟨t,rfl⟩:=ry;obtain⟨its,r,pt,zz⟩:=I.tuple (.of hH);obtain⟨⟨cls,dd,data,sl⟩,e,hc,n,hd⟩:=id pt;simp only at hc hd;subst hc hd;have hi:its=[]:=r.nil_iff.mpr rfl
  refine b6 (T := "tuple") (U := "int") (by decide) ⟨_,e,rfl⟩ (fun s'=>cy s' k t) yv dN bU xf F.slot_int_index.lookup
   (cb bU (cy s k t) dB (dq _ _) (yN k t l its.toArray n dd sl) ⟨e,rfl,⟨_,e,rfl⟩,?_⟩)
  exact cb cO ⟨_,e,rfl⟩ cH (cA _ _) (zeJ l its.toArray n dd sl k t h1 h2 (by simp[hi])) ⟨e,⟨.ref l,H,I,rfl,q l H (by simp_all) fun _ _ e=>e⟩⟩
 ·exact zlP pins s σ H _ _ v u Q I rx ry ⟨l,k,xs,rfl,rfl,hH,h1,h2,hx,hz,q⟩⟩
end
def chg (st:List Int)(b w:Int):List Int:=st.take b.toNat++[w]++st.drop (b.toNat+1)
theorem zkQ (st:List Int){b w:Int}(h0:0<=b):zbR (st.map V.int) none (some b)++[.int w]++zbR (st.map V.int) (some (b+1)) none=(chg st b w).map V.int:=by
 obtain⟨j,rfl⟩:∃j:Nat,b=j:=⟨b.toNat,by lia⟩;rw[zgz,show ((j:Int)+1)=((j+1:Nat):Int) by lia,zgy];unfold chg
 simp_all
theorem zkR {st:List Int}{b w:Int}(h0:0<=b)(h1:b<st.length):(chg st b w).length=st.length:=by
 unfold chg
 grind
theorem zal {st:List Int}{b w c:Int}(h0:0<=b)(h1:b<st.length)(c0:0<=c):zC (chg st b w) c=if c=b then w else zC st c:=by
 obtain⟨j,rfl⟩:∃j:Nat,b=j:=⟨b.toNat,by lia⟩;obtain⟨k,rfl⟩:∃k:Nat,c=k:=⟨c.toNat,by lia⟩;have hj:j<st.length:=by lia
 unfold zC chg;simp only[bv,aZ];have hl:(st.take j).length=j:=by rw[aQ];lia
 rcases bQ k j with h | h | h
 ·rw[if_neg (by lia),bR,bq (by rw[hl];exact h),cT h]
 ·simp_all
 ·rw[if_neg (by lia),bR,bg (by rw[hl];lia),hl];obtain⟨m,rfl⟩:∃m,k=j+1+m:=⟨k - (j+1),by lia⟩;rw[show j+1+m - j=m+1 by lia]
  simp_all
def y0 (st:List Int)(g:List (Int×Int)):Bool:=g.all fun q=>decide (zC st q.1=q.2)
def zbT (st:List Int)(x:Wi):Bool:=decide (zC st x.b=x.w)&&y0 st x.g
theorem uj (st:List Int)(j:Nat):zC st (j:Int)=st.getD j 0:=by unfold zC;simp
theorem zeh {st:List Int}{i:Nat}{m:Int}(h:st[i]?=some m):zC st (i:Int)=m:=by rw[uj,aZ,h];rfl
theorem z5 {rm:List Int}(hb:∀r∈rm,2<=r/\r<=4){b:Int}(h0:0<=b)(h1:b<rm.length):2<=zC rm b/\zC rm b<=4:=by
 obtain⟨j,rfl⟩:∃j:Nat,b=j:=⟨b.toNat,by lia⟩;have hj:j<rm.length:=by lia
 rw[zeh (aq hj)]
 simp_all
theorem zdp:∀st:List Int,Dt.noLs (st.map .int)=true
 | []=>rfl
 | _::st=>by show (true&&Dt.noLs (st.map .int))=true;rw[zdp st];rfl
theorem zaT (st:List Int):PySem.W.kqdOk 7 (Dt.tup (st.map .int)).toW=true:=by
 have e:∀ns:List Int,(Dt.toWs (ns.map .int)).all (PySem.W.kqdOk 6)=true:=by
  intro ns
  induction ns with
  | nil=>rfl
  | cons n ns ih=>simp only[av,Dt.toWs,bY,ih,cm];rfl
 exact e st
theorem zmr {X:Cx}{elt tg iter:Expr}{ifs:List Expr}{scope:Scope}{pos spos:Pos}{wi:TI}{g:TG}{ti:TT}{te:TE}{N:List Str}{cix:List (Option Nat)}{ix:Nat}{nx:Str}{px:Pos}(hNd:X.N.Nodup)(hix:X.N[ix]?=some nx)(hlx:X.env.scope.names.lookup nx=some .local)(hc:X.calm=true)(c:CompOk X scope N cix)
  (hi:QI X tg iter wi) (hg:∀C s H ex,QG (zl X scope N C s H ex) tg g) (ht:∀C s H ex,QTs (zl X scope N C s H ex) ifs ti) (he:∀C s H ex,QE (zl X scope N C s H ex) elt te)
  (hsw:swapsWithSole [.Name nx px] (.ListComp elt [⟨tg,iter,ifs,0⟩] scope pos) spos.line X.env=pure true:=by rfl)
  (hs:∀x,foldedSetIterable iter X.env x=pure x:=by intro _;rfl)
  (h1a:(assignEach [.Name nx px] X.env).map (·.2)=[assign (.Name nx px) X.env]:=by rfl):QS X (.Assign [.Name nx px] (.ListComp elt [⟨tg,iter,ifs,0⟩] scope pos) spos) (zfw (zfx wi g ti te cix) (uW ix)):=⟨fun pins s σ H D I h=>zeQ hNd hix hlx hsw h1a (fun _=>rfl) fun U Qp hf=>zbm (Fin:=fun acc H=>D.nx (σ.set ix (some (.ref acc))) H) (x8 c) hc hi.run (zbb fun C s H ex=>(hg C s H ex).run) (zbb fun C s H ex=>(ht C s H ex).run) (zbb fun C s H ex=>(he C s H ex).run) hs I h hf⟩
section
variable {prog:Program}{w:World}{A:Around}{E:Value->Shared->Prop}{s:Shared}
end
section
variable {X:Cx}
end
def znf (J:It)(g:TG)(ti:TT)(wi2:TI)(g2:TG)(ti2:TT)(te:TE)(acc:Addr)(Q:VK)(σ:St)(H:Hp):Prop:=inG J g ti (fun N σ H=>wi2 σ H fun J2 H2=>inG J2 g2 ti2 (zm9 te acc) N σ H2) (fun _ H=>Q (.ref acc) H) σ H
def zkD (wi:TI)(g:TG)(ti:TT)(wi2:TI)(g2:TG)(ti2:TT)(te:TE)(cix:List (Option Nat)):TE:=fun σ H Q=>wi σ H fun J H1=>∀acc,H1 acc=none->znf J g ti wi2 g2 ti2 te acc Q (xy σ cix) (upd H1 acc (.lst []))
section
variable {X:Cx}{Fam:Cx->Prop}{scope:Scope}{N:List Str}{cix:List (Option Nat)}{z:Str}{use:Option (Value->Sem Unit)}{Qp:Value->Shared->Prop}{elt ke ve tg iter tg2 iter2:Expr}{ifs ifs2:List Expr}{pos ipos spos px:Pos}{wi wi2:TI}{g g2:TG}{ti ti2:TT}{te tk tv:TE}{pins:List (Addr×Obj)}{σ:St}{H:Hp}{s:Shared}{Q:VK}{o0:HO}
theorem zfD (O:Opn X scope cix Fam)(hc:X.calm=true)(hi:PI X tg iter wi)(hg:∀X',Fam X'->PG X' tg g)(ht:∀X',Fam X'->PTs X' ifs ti)(hi2:∀X',Fam X'->PI X' tg2 iter2 wi2)(hg2:∀X',Fam X'->PG X' tg2 g2)(ht2:∀X',Fam X'->PTs X' ifs2 ti2)(he:∀X',Fam X'->PE X' elt te)
  (hs:∀x,foldedSetIterable iter X.env x=pure x) (hs2:∀X',Fam X'->∀x,foldedSetIterable iter2 X'.env x=pure x) (I:Inv X pins σ H s) (h:zkD wi g ti wi2 g2 ti2 te cix σ H Q) (hfin:zqc X pins σ use Qp Q) :
  wpAny (model X.prog X.w) X.A (comprehension (.ListComp elt [⟨tg,iter,ifs,0⟩,⟨tg2,iter2,ifs2,0⟩] scope pos) scope X.env ipos (newList []) false (eval iter X.env) use) Qp X.xe s:=
 uP (ob:={ cls:=.type "list",dict:=none,data:=.seq ([]:List Value).toArray }) (o0:=fun _=>.lst []) (Fin:=fun acc H=>Q (.ref acc) H) (tb:=fun acc Nx σ H=>wi2 σ H fun J2 H2=>inG J2 g2 ti2 (zm9 te acc) Nx σ H2)
  O xt hc rfl hs (fun s Q h=>bc h) (fun _ _=>⟨aL _,[],0,.nil,aB _ rfl⟩) hi hg ht (fun X' hF _ _ _ cX xX _=>zj7 (iter:=iter) xt (fun _=>rfl) rfl (hs2 X' hF) cX xX (hi2 X' hF) (hg2 X' hF) (ht2 X' hF) (zgo (iter:=iter2) xt (he X' hF) xX fun _=>rfl)) I h (fun J H1 acc q hn=>q acc hn) hfin
end
theorem zjJ {X:Cx}{elt tg iter tg2 iter2:Expr}{ifs ifs2:List Expr}{scope:Scope}{pos spos:Pos}{wi wi2:TI}{g g2:TG}{ti ti2:TT}{te:TE}{N:List Str}{cix:List (Option Nat)}{ix:Nat}{nx:Str}{px:Pos}(hNd:X.N.Nodup)(hix:X.N[ix]?=some nx)(hlx:X.env.scope.names.lookup nx=some .local)(hc:X.calm=true)(c:CompOk X scope N cix)
  (hi:QI X tg iter wi) (hg:∀C s H ex,QG (zl X scope N C s H ex) tg g) (ht:∀C s H ex,QTs (zl X scope N C s H ex) ifs ti)
  (hi2:∀C s H ex,QI (zl X scope N C s H ex) tg2 iter2 wi2) (hg2:∀C s H ex,QG (zl X scope N C s H ex) tg2 g2) (ht2:∀C s H ex,QTs (zl X scope N C s H ex) ifs2 ti2) (he:∀C s H ex,QE (zl X scope N C s H ex) elt te)
  (hsw:swapsWithSole [.Name nx px] (.ListComp elt [⟨tg,iter,ifs,0⟩,⟨tg2,iter2,ifs2,0⟩] scope pos) spos.line X.env=pure true:=by rfl)
  (hs:∀x,foldedSetIterable iter X.env x=pure x:=by intro _;rfl) (hs2:∀C s H ex x,foldedSetIterable iter2 (zl X scope N C s H ex).env x=pure x:=by intro _ _ _ _ _;rfl)
  (h1a:(assignEach [.Name nx px] X.env).map (·.2)=[assign (.Name nx px) X.env]:=by rfl):QS X (.Assign [.Name nx px] (.ListComp elt [⟨tg,iter,ifs,0⟩,⟨tg2,iter2,ifs2,0⟩] scope pos) spos) (zfw (zkD wi g ti wi2 g2 ti2 te cix) (uW ix)):=⟨fun pins s σ H D I h=>zeQ hNd hix hlx hsw h1a (fun _=>rfl) fun U Qp hf=>zfD (Q:=fun v H=>D.nx (σ.set ix (some v)) H) (x8 c) hc hi.run (zbb fun C s H ex=>(hg C s H ex).run) (zbb fun C s H ex=>(ht C s H ex).run) (zbb fun C s H ex=>(hi2 C s H ex).run) (zbb fun C s H ex=>(hg2 C s H ex).run) (zbb fun C s H ex=>(ht2 C s H ex).run) (zbb fun C s H ex=>(he C s H ex).run) hs (zbb fun C s H ex=>hs2 C s H ex) I h hf⟩
section
variable {K:PySem.W.Frag}{a acc:Addr}{xs:List V}{g:TG}{ti:TT}{wi2:TI}{g2:TG}{ti2:TT}{te:TE}{σ:St}{H:Hp}{Q:VK}{N:St->Hp->Prop}
end
section
variable {X:Cx}
theorem ziJ:CallQ X (.type "range") (fun xs H Q=>∃n,xs=[.int n]/\New H (.rng 0 n) Q):=⟨by
 intro pins s σ H xs us Q I r h;obtain⟨n,rfl,q⟩:=h;obtain⟨u,rfl,ru⟩:=uq r;obtain⟨t,rfl⟩:=ru;refine call_range_1 ?_;refine⟨.ref s.heap.objs.size,_,I.laid (t':=s.toks+1+1) (o:=.rng 0 n) (fun b ob q=>am _ q) (ai _) ?_,rfl,q.at (I.hok.fresh (ai _))⟩;exact⟨_,_,_,aB _ rfl⟩⟩
theorem zfp (n:Nat):Builtin.Range.rangeSize 0 (n:Int) 1=n:=by
 unfold Builtin.Range.rangeSize
 grind
theorem ziy:∀ {xs:List V} {us:List Value},xs.length=us.length->(∀ (i:Nat) x u,xs[i]?=some x->us[i]?=some u->yo x u)->zU xs us
 | [],[],_,_=>.nil
 | [],_::_,h,_=>by simp at h
 | _::_,[],h,_=>by simp at h
 | x::xs,u::us,h,k=>.cons (k 0 x u rfl rfl) (ziy (by simpa using h) fun i y v hy hv=>k (i+1) y v hy hv)
theorem zdX (hc:X.calm=true):CallQ X (.type "list") (fun xs H Q=>∃ (p:Addr) (n:Nat),xs=[.ref p]/\H p=some (.rng 0 n)/\n<=1000/\New H (.lst ((List.range n).map fun i:Nat=>V.int i)) Q):=⟨by
 intro pins s σ H xs us Q I r h;obtain⟨p,n,rfl,hp,hn,q⟩:=h;obtain⟨u,rfl,ru⟩:=uq r;cases ru;obtain⟨t,u,v,ho⟩:=I.hok p _ hp;have hn':n<sizeLine:=zdG hn;refine call_list_range (a:=0) (b:=n) (c:=1) (n:=n) (I.ok.hd hc) ho ?_ ?_ (ao hn (by decide)) fun h' tk acc' c' kp hg hit=>?_
 ·have e:=zfp n;unfold Builtin.Range.small;rw[e];simp[Builtin.Range.rangeFitsLong];lia
 ·exact zfp n
 ·have hv:zU ((List.range n).map fun i:Nat=>V.int i) acc'.toList:=by
   refine ziy (by rw[ab,aE,aP,hit.1]) fun j x u hx hu=>?_;rw[aA] at hx;obtain⟨k,hk,rfl⟩:=ax.mp hx;obtain⟨hlt,e⟩:=af.mp hk;have:k=j:=by simpa using e.symm
   subst this;obtain⟨t',rfl⟩:=hit.2 k u (by simpa using hu);exact⟨t',by lia⟩
  refine⟨.ref s.heap.objs.size,_,I.laid (t':=tk) (o:=.lst ((List.range n).map fun i:Nat=>V.int i)) kp (ai _) ?_,rfl,q.at (I.hok.fresh (ai _))⟩;exact⟨by rw[ab,aE];exact cS hn',acc'.toList,c',hv,by simpa using hg⟩⟩
end
def zv (m:Int):List Int:=(List.range m.toNat).map fun i:Nat=>(i:Int)
def znk (rows:List (List Int))(ws:List Int):List (List Int):=rows.flatMap fun r=>ws.map fun w=>r++[w]
def zqk (cs:List (List Int)):List (List Int):=cs.foldl znk [[]]
@[reducible] def stD (st:List Int):Dt:=.tup (st.map .int)
theorem zaV:∀sts:List (List Int),Dt.noLs (sts.map stD)=true
 | []=>rfl
 | st::sts=>by show ((stD st).noL&&Dt.noLs (sts.map stD))=true;rw[zaV sts,show (stD st).noL=true from zdp st];rfl
theorem zcv (sts:List (List Int)):(Dt.lst (sts.map stD)).eqOk:=by
 have e:∀sts:List (List Int),(Dt.toWs (sts.map stD)).all (PySem.W.kqdOk 7)=true:=by
  intro sts
  induction sts with
  | nil=>rfl
  | cons m ms ih=>simp only[av,Dt.toWs,bY,ih,show PySem.W.kqdOk 7 (stD m).toW=true from zaT m,cm]
 exact e sts
theorem yh (m:Int):(zv m).length=m.toNat:=by unfold zv;rw[ab,aE]
section
variable {X:Cx}{o:Expr}{to:TE}{apos cpos:Pos}
end
open PySem PySem.Spec PyProof.Rows PySem.W
inductive Run (ans:Nat->Nat->Bool) (n:Nat):{α:Type}->KasT α->α->Prop
 | ret {α:Type} (a:α):Run ans n (.ret a) a
 | ask {α:Type} {i j:Nat} {k:Bool->KasT α} {a:α} (hi:i<n) (hj:j<n) (h:Run ans n (k (ans i j)) a):Run ans n (.ask i j k) a
theorem Run.bind {ans:Nat->Nat->Bool}{n:Nat}{α β:Type}{t:KasT α}{f:α->KasT β}{a:α}{b:β}(h:Run ans n t a)(k:Run ans n (f a) b):Run ans n (t.bind f) b:=by
 induction h with
 | ret a=>exact k
 | ask hi hj _ ih=>exact .ask hi hj (ih k)
theorem Run.wp {ans:Nat->Nat->Bool}{n:Nat}{α:Type}{t:KasT α}{a:α}(h:Run ans n t a){cmp:Nat->Nat->(Bool->Shared->Prop)->Shared->Prop}{S:Shared->Prop}{Q:α->Shared->Prop}
  (hc:∀i j C s,i<n->j<n->S s->(∀s',S s'->C (ans i j) s')->cmp i j C s) (hq:∀s,S s->Q a s):∀s,S s->KasT.kasWp cmp t Q s:=by
 induction h with
 | ret a=>intro s hs;rw[KasT.kasWp.eq_1];exact hq s hs
 | ask hi hj _ ih=>
  intro s hs;rw[KasT.kasWp.eq_2]
  simp_all
section
variable {n:Nat}{f:Nat->Int}
def zdN (f:Nat->Int)(i j:Nat):Bool:=decide (f i<f j)
def key (f:Nat->Int)(p:Array Nat)(k:Nat):Int:=f (p.getD k 0)
structure Up (n:Nat)(f:Nat->Int)(p:Array Nat)(m:Nat):Prop where
 perm:p.Perm (List.range n).toArray
 le:m<=n
 up:∀k,k+1<m->key f p k<key f p (k+1)
theorem xq {p:Array Nat}(h:p.Perm (List.range n).toArray):p.size=n:=by have:=h.size_eq;simpa using this
theorem z9 {p:Array Nat}(h:p.Perm (List.range n).toArray){k:Nat}(hk:k<n):p.getD k 0<n:=by
 have hs:=xq h
 have hm:p.getD k 0∈p:=by simp_all
 have:=(h.mem_iff).mp hm;simpa using this
theorem Up.lt_of {p:Array Nat}{m:Nat}(h:Up n f p m):∀ {i j:Nat},i<j->j<m->key f p i<key f p j:=by
 intro i j
 induction j with
 | zero=>intro h0;lia
 | succ j ih=>
  intro hij hj;have h1:=h.up j hj
  grind
theorem zdS (p:Array Nat)(hp:p.Perm (List.range n).toArray):∀ (g x:Nat),1<=x->x+g<=n->∃m,Run (zdN f) n (kas_asc p g x) m/\x<=m/\m<=x+g/\(∀k,x<=k->k<m->¬ key f p k<key f p (k - 1))/\(m<x+g->key f p m<key f p (m - 1))
 | 0,x,_,_=>⟨x,by rw[kas_asc.eq_1];exact .ret _,ai _,ai _,by grind,fun h=>by lia⟩
 | g+1,x,hx,hn=>by
  rw[kas_asc.eq_2];by_cases hc:key f p x<key f p (x - 1)
  ·refine⟨x,.ask (z9 hp (by lia)) (z9 hp (by lia)) ?_,ai _,by lia,by grind,fun _=>hc⟩;rw[show zdN f (p.getD x 0) (p.getD (x - 1) 0)=true from aK hc,if_pos rfl];exact .ret _
  ·obtain⟨m,h1,h2,h3,h4,h5⟩:=zdS p hp g (x+1) (by lia) (by lia);refine⟨m,.ask (z9 hp (by lia)) (z9 hp (by lia)) ?_,by lia,by lia,fun k k1 k2=>?_,fun h=>h5 (by lia)⟩
   ·rw[show zdN f (p.getD x 0) (p.getD (x - 1) 0)=false from aS hc,if_neg aG];exact h1
   ·by_cases e:k=x
    ·subst e;exact hc
    ·exact h4 k (by lia) k2
def za1 (n:Nat)(f:Nat->Int):Prop:=∀i j,i<n->j<n->f i=f j->i=j
theorem zfa (hu:za1 n f){p:Array Nat}(hp:p.Perm (List.range n).toArray){i j:Nat}(hi:i<n)(hj:j<n)(hij:i≠j):key f p i≠key f p j:=by
 intro e;have e2:=hu _ _ (z9 hp hi) (z9 hp hj) e;have hs:=xq hp
 have hnd:p.toList.Nodup:=by
  have:p.toList.Perm (List.range n):=by have:=hp.toList;simpa using this
  exact this.nodup_iff.mpr eE
 rw[bC,bC,br (by lia),br (by lia)] at e2;have e3:p.toList[i]'(by simp_all)=p.toList[j]'(by simp_all):=by simpa using e2
 exact hij ((cq hnd).mp e3)
theorem zeZ (hu:za1 n f)(p:Array Nat)(hp:p.Perm (List.range n).toArray):∀ (g x:Nat),1<=x->x+g<=n->∃m,Run (zdN f) n (kas_desc g p x 0) (p,m,0)/\x<=m/\m<=x+g/\(∀k,x<=k->k<m->key f p k<key f p (k - 1))
 | 0,x,_,_=>⟨x,by rw[kas_desc.eq_1];exact .ret _,ai _,ai _,by grind⟩
 | g+1,x,hx,hn=>by
  rw[kas_desc.eq_2];by_cases hc:key f p x<key f p (x - 1)
  ·obtain⟨m,h1,h2,h3,h4⟩:=zeZ hu p hp g (x+1) (by lia) (by lia);refine⟨m,.ask (z9 hp (by lia)) (z9 hp (by lia)) ?_,by lia,by lia,fun k k1 k2=>?_⟩
   ·rw[show zdN f (p.getD x 0) (p.getD (x - 1) 0)=true from aK hc,if_pos rfl,if_neg (by lia)];exact h1
   ·by_cases e:k=x
    ·subst e;exact hc
    ·exact h4 k (by lia) k2
  ·have hne:=zfa hu hp (i:=x) (j:=x - 1) (by lia) (by lia) (by lia);have hlt:key f p (x - 1)<key f p x:=by lia
   refine⟨x,.ask (z9 hp (by lia)) (z9 hp (by lia)) ?_,ai _,by lia,by grind⟩;rw[show zdN f (p.getD x 0) (p.getD (x - 1) 0)=false from aS hc,if_neg aG];refine .ask (z9 hp (by lia)) (z9 hp (by lia)) ?_;rw[show zdN f (p.getD (x - 1) 0) (p.getD x 0)=true from aK hlt,if_pos rfl];exact .ret _
theorem zhd {p:Array Nat}{j:Nat}(hj:j<=p.size)(k:Nat):key f (kas_rev p 0 j) k=if k<j then key f p (j - 1 - k) else key f p k:=by
 unfold key kas_rev;rw[bC,getElem?_mirror_all hj];by_cases h:k<j
 ·simp_all
 ·rw[if_neg (fun z=>h z.2),if_neg h,bC]
theorem zjR {p:Array Nat}(hp:p.Perm (List.range n).toArray)(j:Nat):(kas_rev p 0 j).Perm (List.range n).toArray:=(mirror_perm p 0 j _).trans hp
theorem zgt (hu:za1 n f)(hn:2<=n)(p:Array Nat)(hp:p.Perm (List.range n).toArray):∃ (m:Nat) (q:Array Nat),Run (zdN f) n (kas_count n p) (m,q)/\1<=m/\Up n f q m:=by
 have hs:=xq hp;obtain⟨m,h1,h2,h3,h4,h5⟩:=zdS (f:=f) p hp (n - 1) 1 (ai _) (by lia)
 have up1:Up n f p m:=⟨hp,by lia,fun k hk=>by have h6:=h4 (k+1) (by lia) hk;rw[dg] at h6;have:=zfa hu hp (i:=k) (j:=k+1) (by lia) (by lia) (by lia);lia⟩
 unfold kas_count;by_cases hmn:m=n
 ·refine⟨m,p,h1.bind ?_,h2,up1⟩;rw[if_pos (by simp_all)];exact .ret _
 ·by_cases hm1:m > 1
  ·refine⟨m,p,h1.bind ?_,h2,up1⟩;rw[if_neg (by simp_all),if_pos hm1];refine .ask (z9 hp (by lia)) (z9 hp (by lia)) ?_;have hlt:key f p 0<key f p (m - 1):=up1.lt_of (by lia) (by lia);rw[show zdN f (p.getD 0 0) (p.getD (m - 1) 0)=true from aK hlt,if_pos rfl];exact .ret _
  ·have em:m=1:=by lia
   subst em;have h10:=h5 (by lia);obtain⟨d,g1,g2,g3,g4⟩:=zeZ hu p hp (n - 2) 2 (by lia) (by lia);have hrp:=zjR hp d;obtain⟨m2,a1,a2,a3,a4,_⟩:=zdS (f:=f) (kas_rev p 0 d) hrp (n - d) d (by lia) (by lia);refine⟨m2,kas_rev p 0 d,h1.bind ?_,by lia,⟨hrp,by lia,fun k hk=>?_⟩⟩
   ·rw[if_neg (by simp_all),if_neg hm1];unfold kas_descPart;refine Run.bind (a:=(p,d,0)) g1 ?_;rw[if_neg (by simp)];unfold kas_tail3;exact Run.bind a1 (.ret _)
   ·by_cases hkd:k+1<d
    ·rw[zhd (by lia),zhd (by lia),if_pos (by lia),if_pos hkd];have e:d - 1 - k=(d - 1 - (k+1))+1:=by lia
     rw[e];by_cases e0:d - 1 - (k+1)=0
     ·rw[e0];exact h10
     ·have:=g4 (d - 1 - (k+1)+1) (by lia) (by lia)
      simp_all
    ·have h6:=a4 (k+1) (by lia) hk;rw[dg] at h6;have:=zfa hu hrp (i:=k) (j:=k+1) (by lia) (by lia) (by lia);lia
theorem zbz (p:Array Nat)(hp:p.Perm (List.range n).toArray)(k:Nat)(hk:k<n):∀ (g l r:Nat),r<=k->l<=r->r - l<=g->(∀i,i<l->¬ key f p k<key f p i)->(∀i,r<=i->i<k->key f p k<key f p i)->
  (∀i j,i<j->j<k->key f p i<key f p j)->
  ∃m,Run (zdN f) n (kas_place p k g l r) m/\m<=k/\(∀i,i<m->¬ key f p k<key f p i)/\(∀i,m<=i->i<k->key f p k<key f p i)
 | 0,l,r,h1,h2,h3,h4,h5,_=>⟨l,by rw[kas_place.eq_1];exact .ret _,by lia,h4,fun i hi=>h5 i (by lia)⟩
 | g+1,l,r,h1,h2,h3,h4,h5,hup=>by
  rw[kas_place.eq_2];by_cases hlr:l ≥ r
  ·refine⟨l,?_,by lia,h4,fun i hi=>h5 i (by lia)⟩;rw[if_pos hlr];exact .ret _
  ·rw[if_neg hlr];by_cases hc:key f p k<key f p ((l+r) / 2)
   ·obtain⟨m,g1,g2,g3,g4⟩:=zbz p hp k hk g l ((l+r) / 2) (by lia) (by lia) (by lia) h4 (fun i hi hik=>by
     by_cases e:i=(l+r) / 2
     ·rw[e];exact hc
     ·have:=hup ((l+r) / 2) i (by lia) hik;lia) hup
    refine⟨m,.ask (z9 hp hk) (z9 hp (by lia)) ?_,g2,g3,g4⟩;rw[show zdN f (p.getD k 0) (p.getD ((l+r) / 2) 0)=true from aK hc,if_pos rfl];exact g1
   ·obtain⟨m,g1,g2,g3,g4⟩:=zbz p hp k hk g ((l+r) / 2+1) r h1 (by lia) (by lia) (fun i hi=>by
     by_cases e:i=(l+r) / 2
     ·rw[e];exact hc
     ·have:=hup i ((l+r) / 2) (by lia) (by lia);lia) h5 hup
    refine⟨m,.ask (z9 hp hk) (z9 hp (by lia)) ?_,g2,g3,g4⟩;rw[show zdN f (p.getD k 0) (p.getD ((l+r) / 2) 0)=false from aS hc,if_neg aG];exact g1
theorem zb2 {p:Array Nat}{src d:Nat}(h1:src<p.size)(h2:d<=src)(k:Nat):key f (bubble p src d) k=if k=src - d then key f p src else if src - d<k/\k<=src then key f p (k - 1) else key f p k:=by
 unfold key;simp only[bC];rw[getElem?_bubble h1 d h2]
 grind
theorem zgj (hu:za1 n f):∀ (g k:Nat) (p:Array Nat),k+g=n->Up n f p k->∃q,Run (zdN f) n (kas_bin g p k) q/\Up n f q n
 | 0,k,p,hk,h=>by
  have e:k=n:=by lia
  rw[e] at h;exact⟨p,by rw[kas_bin.eq_1];exact .ret _,h⟩
 | g+1,k,p,hk,h=>by
  have hs:=xq h.perm;obtain⟨l,r1,r2,r3,r4⟩:=zbz (f:=f) p h.perm k (by lia) k 0 k (ai _) (aL _) (by lia) (fun i hi=>by lia) (fun i h1 h2=>by lia) (fun i j hij hj=>h.lt_of hij hj)
  have hup:Up n f (bubble p k (k - l)) (k+1):=by
   refine⟨(bubble_perm p k (k - l)).trans h.perm,by lia,fun i hi=>?_⟩;rw[zb2 (by lia) (by lia),zb2 (by lia) (by lia)];have ekl:k - (k - l)=l:=by lia
   rw[ekl];by_cases e1:i=l
   ·grind
   ·rw[if_neg e1];by_cases e2:l<i
    ·rw[if_pos (by lia),if_neg (by lia),if_pos (by lia),dg];exact h.lt_of (by lia) (by lia)
    ·rw[if_neg (by lia)];by_cases e3:i+1=l
     ·rw[if_pos e3];have h1:=r3 i (by lia);have h2:=zfa hu h.perm (i:=i) (j:=k) (by lia) (by lia) (by lia);lia
     ·rw[if_neg e3,if_neg (by lia)];exact h.lt_of (by lia) (by lia)
  obtain⟨q,q1,q2⟩:=zgj hu g (k+1) (bubble p k (k - l)) (by lia) hup;refine⟨q,?_,q2⟩;rw[kas_bin.eq_2];exact Run.bind r1 q1
theorem zfs (hu:za1 n f)(hn:2<=n):∃q,Run (zdN f) n (kas_sort n) q/\Up n f q n:=by
 obtain⟨m,p,h1,h2,h3⟩:=zgt hu hn (List.range n).toArray (Array.Perm.refl _);unfold kas_sort;by_cases hm:m<n
 ·obtain⟨q,q1,q2⟩:=zgj hu (n - m) m p (by lia) h3;refine⟨q,Run.bind h1 ?_,q2⟩
  grind
 ·have e:m=n:=by have:=h3.le;lia
  refine⟨p,Run.bind h1 ?_,by lia⟩;rw[if_neg hm];exact .ret _
end
open PySem PySem.Spec PyProof.Rows
theorem zcu {prog:Program}{w:World}{A:Around}{s:Shared}{b:Bool}{Q:Bool->Shared->Prop}:∀ {ns ms:List Int} {xs ys:List Value} (i:Nat),zU (ns.map V.int) xs->zU (ms.map V.int) ys->ns.length=ms.length->Q (HT.lexLt ns ms) s->W.KatLex prog w A b false Q (xs.zip ys) i s
 | [],[],_,_,i,hx,hy,_,q=>by cases hx;cases hy;exact W.kat_nil q
 | [],_::_,_,_,_,_,_,h,_=>by simp at h
 | _::_,[],_,_,_,_,_,h,_=>by simp at h
 | a::ns,c::ms,_,_,i,hx,hy,hl,q=>by
  cases hx with
  | cons r1 rr1=>
   cases hy with
   | cons r2 rr2=>
    obtain⟨t,rfl⟩:=r1;obtain⟨u,rfl⟩:=r2;rw[List.zip_cons_cons];have q':Q (if a=c then HT.lexLt ns ms else decide (a<c)) s:=q;refine W.kat_cons (wpAny_eqBool_int ?_);by_cases e:a=c
    ·rw[show (a==c)=true from by lia];rw[if_pos e] at q';exact W.kat_yes (zcu (i+1) rr1 rr2 (by simpa using hl) q')
    ·rw[show (a==c)=false from beq_false_of_ne e];rw[if_neg e] at q';refine W.kat_no ?_
     cases (b&&i==0) with
     | true=>exact oneLt_int q'
     | false=>exact W.kat_one _ _ (P.lt_int q')
theorem yY:∀s:List Int,HT.lexLt s s=false
 | []=>rfl
 | a::s=>by show (if a=a then HT.lexLt s s else _)=false;rw[if_pos rfl];exact yY s
theorem u3:∀ {a b c:List Int},a.length=b.length->b.length=c.length->HT.lexLt a b=true->HT.lexLt b c=true->HT.lexLt a c=true
 | [],[],[],_,_,h,_=>h
 | x::a,y::b,z::c,h1,h2,h3,h4=>by
  have h3':(if x=y then HT.lexLt a b else decide (x<y))=true:=h3;have h4':(if y=z then HT.lexLt b c else decide (y<z))=true:=h4;show (if x=z then HT.lexLt a c else decide (x<z))=true;by_cases e1:x=y
  ·by_cases e2:y=z
   ·rw[if_pos e1] at h3';rw[if_pos e2] at h4';rw[if_pos (e1.trans e2)];exact u3 (by simpa using h1) (by simpa using h2) h3' h4'
   ·grind
  ·grind
 | [],_::_,_,h,_,_,_=>by simp at h
 | _::_,[],_,h,_,_,_=>by simp at h
 | [],[],_::_,_,h,_,_=>by simp at h
 | _::_,_::_,[],_,h,_,_=>by simp at h
theorem xZ:∀ {a b:List Int},a.length=b.length->a=b\/HT.lexLt a b=true\/HT.lexLt b a=true
 | [],[],_=>.inl rfl
 | [],_::_,h=>by simp at h
 | _::_,[],h=>by simp at h
 | x::a,y::b,h=>by
  show _\/(if x=y then HT.lexLt a b else decide (x<y))=true\/(if y=x then HT.lexLt b a else decide (y<x))=true;by_cases e:x=y
  ·subst e;rw[if_pos rfl,if_pos rfl];rcases xZ (a:=a) (b:=b) (by simpa using h) with h1 | h1 | h1
   all_goals simp_all
  ·rw[if_neg e,if_neg (Ne.symm e)];rcases Int.lt_or_gt_of_ne e with h1 | h1
   all_goals simp_all
theorem zeV {α:Type}{p q:α->Bool}:∀ {l:List α},(∀x∈l,p x=true->q x=true)->(∃x∈l,p x=false/\q x=true)->l.countP p<l.countP q
 | [],_,h=>by simp_all
 | y::l,h,k=>by
  have hle:l.countP p<=l.countP q:=List.countP_mono_left fun x hx hp=>h x (ak _ hx) hp;rw[List.countP_cons,List.countP_cons];obtain⟨x,hx,hp,hq⟩:=k;rcases aI.mp hx with rfl | hx
  ·rw[hp,hq];simp;lia
  ·have ih:=zeV (l:=l) (fun z hz=>h z (ak _ hz)) ⟨x,hx,hp,hq⟩
   grind
def zbl (sts:List (List Int))(i:Nat):Int:=(sts.countP fun c=>HT.lexLt c (sts.getD i [])  : Nat)
theorem yP {sts:List (List Int)}{m:Nat}(hm:∀st∈sts,st.length=m){i j:Nat}(hi:i<sts.length)(hj:j<sts.length):decide (zbl sts i<zbl sts j)=HT.lexLt (sts.getD i []) (sts.getD j []):=by
 have gi:sts.getD i []∈sts:=by rw[aZ,aq hi];exact cw hi
 have gj:sts.getD j []∈sts:=by rw[aZ,aq hj];exact cw hj
 have mono:∀ {a b:List Int},a∈sts->b∈sts->HT.lexLt a b=true->(sts.countP fun c=>HT.lexLt c a)<(sts.countP fun c=>HT.lexLt c b):=fun {a b} ha hb hab=>
  zeV (fun x hx hp=>u3 ((hm x hx).trans (hm a ha).symm) ((hm a ha).trans (hm b hb).symm) hp hab) ⟨a,ha,yY a,hab⟩
 unfold zbl;generalize sts.getD i []=a at gi;generalize sts.getD j []=b at gj;rcases xZ (a:=a) (b:=b) ((hm a gi).trans (hm b gj).symm) with h | h | h
 ·subst h;rw[yY]
  simp_all
 all_goals grind
def xJ (h:Heap)(L:Addr):List (Addr×Obj):=(List.range h.objs.size).filterMap fun b=>if b=L then none else (h.get? b).map fun o=>(b,o)
theorem zx {h:Heap}{L b:Addr}{o:Obj}:(b,o)∈xJ h L↔b≠L/\h.get? b=some o:=by
 unfold xJ;rw[cz];constructor
 ·rintro⟨c,hc,e⟩;by_cases hL:c=L
  ·simp_all
  ·rw[if_neg hL] at e;obtain⟨o',ho,e2⟩:=ax.mp e
   grind
 ·rintro⟨hL,ho⟩;exact⟨b,bf.mpr (au ho),by simp_all⟩
theorem znZ {h:Heap}{L:Addr}{m m':Str->Option Value}(a:h.Ns L m)(b:h.Ns L m'):m=m':=by
 obtain⟨o,es,ep,ho,hd,hk,hf⟩:=a;obtain⟨o',es',ep',ho',hd',hk',hf'⟩:=b
 grind
section
variable {X:Cx}
theorem x4 {P:Program}{w:World}{H:Hp}{h:Heap}{a:Addr}{o:HO}(x:zW P w H h a o):∃u,h.get? a=some u:=by
 cases o with
 | lst xs=>obtain⟨_,_,_,_,e⟩:=x;exact⟨_,e⟩
 | tup xs=>obtain⟨_,_,_,p⟩:=x;obtain⟨o,e,_⟩:=p;exact⟨o,e⟩
 | dK kvs=>obtain⟨_,_,_,_,o,_,_,e,_⟩:=x;exact⟨_,e⟩
 | dT kvs=>obtain⟨_,_,_,_,o,_,_,e,_⟩:=x;exact⟨_,e⟩
 | set S n=>obtain⟨o,_,_,_,e,_⟩:=x;exact⟨_,e⟩
 | ins C dx fs=>obtain⟨_,_,_,e,_⟩:=x;exact⟨_,e⟩
 | own y=>exact x
 | xd fs=>obtain⟨_,⟨_,_,_,e,_⟩,_⟩:=x;exact⟨_,e⟩
 | met f y=>exact⟨_,x⟩
 | rng lo hi=>obtain⟨_,_,_,e⟩:=x;exact⟨_,e⟩
 | frz o u=>obtain⟨e,_⟩:=x;exact⟨_,e⟩
 | tbl ps=>exact⟨_,x⟩
 | ext φ=>obtain⟨_,e,_⟩:=x;exact e
theorem zbg {pins:List (Addr×Obj)}{σ:St}{H:Hp}{s:Shared}(I:Inv X pins σ H s){m:Str->Option Value}(hm:s.heap.Ns X.env.locals m){h':Heap}{D:Addr}{ys:List V}{its:List Value}{c:Nat}
  (kp:∀b o,b≠X.env.locals->s.heap.get? b=some o->h'.get? b=some o) (ns':h'.Ns X.env.locals m) (hDn:s.heap.get? D=none) (hD:H D=none)
  (ho:h'.get? D=some { cls:=.type "list",data:=.seq its.toArray c }) (hv:zU ys its) (hz:ys.length<=sizeLine) (tk:Nat):Inv X pins σ (upd H D (.lst ys)) { s with heap:=h',toks:=tk }:=by
 have nD:∀b o,s.heap.get? b=some o->b≠D:=fun b o e z=>by rw[z,hDn] at e;cases e
 have nL:∀b u,H b=some u->b≠X.env.locals:=fun b u e=>zb e I.free;refine Inv.step (ch:=[]) (g':=s.gens) (d':=s.drawn) (t':=tk) I (fun b hb=>by simp at hb) (fun b o h1 _ _ h4 _=>kp b o h1 h4) (fun b o h1 _ _ h4 _=>⟨o.slots,kp b o h1 h4⟩) (fun b o _ h4 h5=>by rw[zc (nD b o h4)];exact h5) (fun b o _ h4=>?_) (fun b ys q=>by rw[zc (zb q hD)];exact q) (fun b o u q=>by rw[zc (zb q hD)];exact q) (fun b ps q=>⟨#[],by rw[zc (zb q hD),Array.append_empty];exact q⟩) (fun m' hm'=>by rw[<- znZ hm hm'];exact ns') (fun b u hb=>?_) I.bare
 ·by_cases hL:b=X.env.locals
  ·obtain⟨o',_,_,h1,_⟩:=ns'
   simp_all
  ·exact⟨o,kp b o hL h4⟩
 ·by_cases hbD:b=D
  ·subst hbD;rw[zg] at hb;cases hb;exact⟨hz,its,c,hv,ho⟩
  ·rw[zc hbD] at hb;refine (I.hok b u hb).stay (fun c v hcv q=>kp c v ?_ q) (fun c q=>by rw[zc (zb q hD)];exact q) (fun c ys q=>by rw[zc (zb q hD)];exact q)
   grind
theorem zeB {pins:List (Addr×Obj)}{σ:St}{H:Hp}{s:Shared}(I:Inv X pins σ H s):∀ {sts:List (List Int)} {vs:List V} {its:List Value},IsL H (sts.map stD) vs->zU vs its->∀ {i:Nat},i<sts.length->∃ (a:Addr) (items:List Value),vs.getD i .non = .ref a/\its.getD i .none = .ref a/\IsTup s.heap a items.toArray/\zU ((sts.getD i []).map V.int) items/\a≠X.env.locals
 | [],_,_,_,_,i,hi=>by simp at hi
 | st::sts,_,_,h,hv,i,hi=>by
  obtain⟨x,r,rfl,⟨a,xs,rfl,ha,hxs⟩,hr⟩:=h;obtain rfl:=hxs.of_ints
  cases hv with
  | cons r1 rr=>
   cases r1
   cases i with
   | zero=>
    obtain⟨items,rv,pt,_⟩:=I.tuple (.of ha);exact⟨a,items,rfl,rfl,pt,rv,zb ha I.free⟩
   | succ i=>
    obtain⟨a',items,e1,e2,e3,e4,e5⟩:=zeB I (sts:=sts) hr rr (i:=i) (by simpa using hi);exact⟨a',items,by simpa using e1,by simpa using e2,e3,by simpa using e4,e5⟩
theorem zit {pins:List (Addr×Obj)}{σ:St}{H:Hp}{s:Shared}(I:Inv X pins σ H s){h':Heap}(kp:∀b o,b≠X.env.locals->s.heap.get? b=some o->h'.get? b=some o):∀ {sts:List (List Int)} {vs:List V} {its:List Value},IsL H (sts.map stD) vs->zU vs its->(∀st∈sts,1<=st.length)->∃fs,W.KatTups h' its fs/\fs.length=sts.length/\∀f∈fs,∃a t,f = .int a t
 | [],_,_,h,hv,_=>by cases h;cases hv;exact⟨[],trivial,rfl,fun _ h=>by simp at h⟩
 | st::sts,_,_,h,hv,h1=>by
  obtain⟨x,r,rfl,⟨a,xs,rfl,ha,hxs⟩,hr⟩:=h;obtain rfl:=hxs.of_ints
  cases hv with
  | cons r1 rr=>
   cases r1;obtain⟨items,rv,pt,_⟩:=I.tuple (.of ha);obtain⟨o,ho,hc,n,hd⟩:=pt;obtain⟨fs,f1,f2,f3⟩:=zit I kp (sts:=sts) hr rr fun z hz=>h1 z (ak _ hz);have hst:=h1 st aj
   match st,rv,hst with
   | z::zs,rv,_=>
    cases rv with
    | cons q1 qq=>
     obtain⟨t,rfl⟩:=q1;refine⟨_::fs,⟨⟨a,o,_,n,rfl,kp a o (zb ha I.free) ho,hc,hd,rfl⟩,f1⟩,by simp_all,fun f hf=>?_⟩;rcases aI.mp hf with rfl | hf
     all_goals simp_all
def zoW:List V->Hp->VK->Prop:=fun xs H Q=>∃ (l:Addr) (vs:List V) (sts:List (List Int)) (m:Nat),xs=[.ref l]/\Rd H l (.lst vs)/\IsL H (sts.map stD) vs/\2<=sts.length/\sts.length<64/\1<=m/\(∀st∈sts,st.length=m)/\sts.Nodup/\
 ∀ (ys:List V) (sts':List (List Int)),IsL H (sts'.map stD) ys->sts'.Perm sts->(sts'.Pairwise fun a b=>HT.lexLt a b=true)->New H (.lst ys) Q
theorem ze6 {H:Hp}{sts:List (List Int)}{vs:List V}(h:IsL H (sts.map stD) vs):∀ {p:List Nat},(∀i∈p,i<sts.length)->IsL H ((p.map fun i=>sts.getD i []).map stD) (p.map fun i=>vs.getD i .non)
 | [],_=>rfl
 | i::p,hp=>by
  have hi:=hp i aj;obtain⟨x,hx,hd⟩:=h.getD (i:=i) (d:=stD (sts.getD i [])) (by simp[hi]);refine⟨vs.getD i .non,_,rfl,?_,ze6 h fun j hj=>hp j (ak _ hj)⟩
  simp_all
theorem zdL {vs:List V}{its:List Value}(h:zU vs its):∀ (p:List Nat),(∀i∈p,i<vs.length)->zU (p.map fun i=>vs.getD i .non) (p.map fun i=>its.getD i .none)
 | [],_=>.nil
 | i::p,hp=>by
  have hi:=hp i aj;obtain⟨u,hu,ru⟩:=h.get (i:=i) (x:=vs[i]) (aq hi);refine .cons ?_ (zdL h p fun j hj=>hp j (ak _ hj))
  simp_all
theorem zau {α:Type}(d:α)(l:List α):(List.range l.length).map (fun i=>l.getD i d)=l:=by refine dC (by simp) fun i h1 h2=>?_;simp[h2]
theorem ziL:CallQ X (.builtin "sorted") zoW:=⟨by
 intro pins s σ H xs us Q I r h;obtain⟨l,vs,sts,m,rfl,hl,hsts,h2,h64,hm1,hm,hnd,q⟩:=h;obtain⟨u,rfl,ru⟩:=uq r;cases ru;obtain⟨its,rv,pl,hz⟩:=I.list (.inl hl);have hvl:=hsts.length;rw[ab] at hvl;have hil:=rv.length;obtain⟨m0,hns,_⟩:=id I.loc;refine W.kat_sorted (h₀:=(⟨#[],{}⟩:Heap)) (L:=X.env.locals) (m:=m0) (news:=xJ s.heap X.env.locals) ⟨hns,fun b o e=>?_,aL _⟩ (fun p hp=>?_) pl.isList (by lia) (by lia) fun D e1 h' F N hDlt=>?_
 ·have:=au e;simp at this
 ·obtain⟨b,o⟩:=p;have:=zx.mp hp;refine⟨this.2,this.1,?_⟩
  cases e:(⟨#[],{}⟩:Heap).get? b with
  | none=>rfl
  | some o'=>
   have:=au e;simp at this
 ·have kp:∀b o,b≠X.env.locals->s.heap.get? b=some o->h'.get? b=some o:=fun b o hb e=>(N (b,o) (ak _ (zx.mpr ⟨hb,e⟩))).1;obtain⟨fs,k1,k2,k3⟩:=zit I kp hsts rv fun st hst=>by rw[hm st hst];exact hm1
  refine W.kat_kind (T:=.type "int") (s:={ s with heap:=h' }) k1 (by lia) (fun f hf=>?_) (by decide) ?_
  ·obtain⟨a,t,rfl⟩:=k3 f hf;intro A' Q' E' s' _ hq;exact cV (cy s' a t) hq
  ·have hu:za1 sts.length (zbl sts):=fun i j hi hj e=>by
    have e1:=yP hm hi hj;have e2:=yP hm hj hi;rw[e,aS (ez _)] at e1;rw[e,aS (ez _)] at e2;have gi:sts.getD i []=sts[i]:=by simp[hi]
    have gj:sts.getD j []=sts[j]:=by simp[hj]
    rcases xZ (a:=sts.getD i []) (b:=sts.getD j []) (by simp_all) with h | h | h
    ·rw[gi,gj] at h;exact (cq hnd).mp h
    all_goals grind
   obtain⟨p,hrun,hup⟩:=zfs hu h2;rw[show its.length=sts.length by lia];refine hrun.wp (S:=fun s'=>s'={ s with heap:=h' }) (fun i j C s' hi hj hs' hC=>?_) (fun s' hs'=>?_) _ rfl
   ·subst hs';obtain⟨a1,it1,_,b1,c1,d1,f1⟩:=zeB I hsts rv hi;obtain⟨a2,it2,_,b2,c2,d2,f2⟩:=zeB I hsts rv hj;obtain⟨o1,ho1,_,n1,hd1⟩:=c1;obtain⟨o2,ho2,_,n2,hd2⟩:=c2;show wpAny _ _ (keyLt' _ (its.getD i .none) (its.getD j .none)) C _ _;rw[b1,b2]
    have gi:(sts.getD i []).length=m:=by simp_all
    have gj:(sts.getD j []).length=m:=by simp_all
    have l1:=d1.length;have l2:=d2.length;rw[ab] at l1 l2;refine W.kat_lt (s:={ s with heap:=h' }) (kp _ _ f1 ho1) hd1 (kp _ _ f2 ho2) hd2 ?_;rw[show decide (it1.toArray.size<it2.toArray.size)=false from aS (by simp;lia)];refine zcu 0 d1 d2 (by rw[gi,gj]) ?_;have:=hC { s with heap:=h' } rfl;rw[show zdN (zbl sts) i j=HT.lexLt (sts.getD i []) (sts.getD j []) from yP hm hi hj] at this;exact this
   ·subst hs'
    have hpl:p.toList.Perm (List.range sts.length):=by have:=hup.perm.toList;simpa using this
    have hpi:∀i∈p.toList,i<sts.length:=fun i hi=>bf.mp ((hpl.mem_iff).mp hi);refine W.KasFin.intro F N (W.UpdF.head fun q' hq'=>?_) fun h'' c F'' N''=>?_
    ·exact aO (hDlt q' hq')
    ·have kp2:∀b o,b≠X.env.locals->s.heap.get? b=some o->h''.get? b=some o:=fun b o hb e=>(N'' (b,o) (ak _ (zx.mpr ⟨hb,e⟩))).1;have hDL:D≠X.env.locals:=(N'' (D,_) aj).2.1
     have hDn:s.heap.get? D=none:=by
      cases e:s.heap.get? D with
      | none=>rfl
      | some o=>exact absurd (hDlt (D,o) (zx.mpr ⟨hDL,e⟩)) (bt _)
     have hHD:H D=none:=by
      cases e:H D with
      | none=>rfl
      | some o=>
       obtain⟨o',ho'⟩:=x4 (I.hok D o e)
       grind
     have hout:=(N'' (D,_) aj).1;have I':=zbg I hns (ys:=p.toList.map fun i=>vs.getD i .non) kp2 F''.ns hDn hHD hout (zdL rv p.toList fun i hi=>by simp_all) (by rw[ab,hpl.length_eq,aE];exact cS (zdG (by lia))) s.toks;refine⟨.ref D,_,I',rfl,(q _ (p.toList.map fun i=>sts.getD i []) (ze6 hsts hpi) ?_ ?_).at hHD⟩
     ·have:=hpl.map fun i=>sts.getD i [];rwa[zau] at this
     ·have hps:p.size=sts.length:=xq hup.perm;rw[b7];intro i j hi hj hij;rw[ab,aP] at hi hj;have hk:=hup.lt_of hij (by lia);rw[bX,bX,cI,cI];have e1:p.getD i 0=p[i]:=by simp[hi]
      have e2:p.getD j 0=p[j]:=by simp[hj]
      unfold key at hk;rw[e1,e2] at hk;rw[<- yP hm (hpi _ (by simp)) (hpi _ (by simp))];exact aK hk⟩
end
open PySem PySem.Spec PySem.Calls PyProof.Rows PySem.W
theorem ug {prog:Program}{w:World}{A:Around}{E:Value->Shared->Prop}{s:Shared}{a:Addr}{vs:List Value}{n:Nat}{P:PySem.Fin->Shared->Prop}(ho:s.heap.get? a=some (seqObj "list" vs.toArray n))(h2:vs.length<2)
  (h:∀h' c,(∀b o,b≠a->s.heap.get? b=some o->h'.get? b=some o)->h'.get? a=some (seqObj "list" vs.toArray c)->P (.done (.ret .none)) { s with heap:=h' }) :
  wpAny (model prog w) A (Builtin.«list.sort» ⟨[.ref a],[]⟩) P E s:=by
 obtain⟨e1,ho1⟩:∃e1,(s.heap.update a (Obj.mapSeq fun _=>(#[]:Array Value))).get? a=some (seqObj "list" #[] e1):=⟨_,get?_update_seq ho fun _=>#[]⟩;rw[list_sort_plain];refine aa (listItems_at ho rfl ?_);refine aa (listUpdate_at ho rfl ?_ (by rw[aW,bm];lia) (aL _));refine aa (seqEpoch_at ho1 rfl ?_);refine aa (wpAny_newTuple ?_ (by show vs.length<=_;rw[bm];lia));refine aa (wpAny_newList ?_ (aL _));refine bI ?_;show wpAny (model prog w) A _ P E { s with heap:=((s.heap.update a (Obj.mapSeq fun _=>(#[]:Array Value))).push (seqObj "tuple" vs.toArray 0)).push (seqObj "list" #[] 0) };dsimp only;have hn2:vs.toArray.size<2:=by rw[aW];lia
 rw[if_pos hn2,if_pos hn2];refine aa (ae ?_);refine aa (m:=(pure ():StateT SortSt _ _).run _) (ae ?_)
 have hsnd:(arrOf (SortSt.mk' general' (vs.toArray.zip vs.toArray) #[] 7 none)).map (fun x=>x.snd)=vs.toArray:=by show (vs.toArray.zip vs.toArray).map (fun x=>x.snd)=vs.toArray;apply Array.toList_inj.mp;rw[Array.toList_map,Array.toList_zip];exact List.map_snd_zip (ai _)
 have ha:a<s.heap.objs.size:=au ho;have g3:(((s.heap.update a (Obj.mapSeq fun _=>(#[]:Array Value))).push (seqObj "tuple" vs.toArray 0)).push (seqObj "list" #[] 0)).get? a=some (seqObj "list" #[] e1):=am _ (am _ ho1);refine aa (seqEpoch_at g3 rfl ?_);refine aa (listUpdate_at g3 rfl ?_ (aL _) ?_)
 ·show wpAny _ _ _ _ _ _;dsimp only;rw[hsnd];simp only[bne_self_eq_false,aJ,if_false];refine ae (h _ _ (fun b o hb e=>?_) (get?_update_seq g3 fun _=>vs.toArray));rw[dP _ _ _ _ hb];refine am _ (am _ ?_);rw[dP _ _ _ _ hb];exact e
 ·dsimp only;rw[hsnd,aW,bm];lia
theorem zdE {prog:Program}{w:World}{A:Around}{E:Value->Shared->Prop}{s:Shared}{l:Addr}{vs:List Value}{Q:Value->Shared->Prop}(hl:s.heap.IsList l vs.toArray)(h2:vs.length<2)
  (h:∀D h' c,(∀b o,s.heap.get? b=some o->h'.get? b=some o)->s.heap.get? D=none->h'.get? D=some (seqObj "list" vs.toArray c)->Q (.ref D) { s with heap:=h' }) :
  wpAny (model prog w) A (call (.builtin "sorted") [.ref l]) Q E s:=by
 refine Calls.call_function_entry kind_sorted plain_sorted entry_sorted (args_sorted1 _) ?_;unfold Builtin.«sorted»;refine aa (m:=checkCount "sorted" 1 1 _) (ae ?_);refine aa (collect_list hl ?_ (by rw[bm];lia));refine aa (wpAny_newList ?_ (by rw[bm];lia))
 have hsz:((s.heap.push (seqObj "list" #[] 0)).update s.heap.objs.size (Obj.mapSeq (·++vs.toArray))).objs.size=s.heap.objs.size+1:=by simp_all
 have hoL:(((s.heap.push (seqObj "list" #[] 0)).update s.heap.objs.size (Obj.mapSeq (·++vs.toArray))).push (seqObj "list" vs.toArray 0)).get? (s.heap.objs.size+1)=some (seqObj "list" vs.toArray 0):=by rw[<- hsz];exact aB _ rfl
 have keep:∀b o,s.heap.get? b=some o->(((s.heap.push (seqObj "list" #[] 0)).update s.heap.objs.size (Obj.mapSeq (·++vs.toArray))).push (seqObj "list" vs.toArray 0)).get? b=some o:=fun b o q=>by have hlt:b<s.heap.objs.size:=au q;rw[Heap.get?_push_ne _ _ _ (by rw[hsz];exact aO (Nat.lt_succ_of_lt hlt)),dP _ _ _ _ (aO hlt),Heap.get?_push_ne _ _ _ (aO hlt)];exact q
 show wpAny _ _ _ _ _ { s with heap:=((s.heap.push (seqObj "list" #[] 0)).update s.heap.objs.size (Obj.mapSeq (·++vs.toArray))).push (seqObj "list" vs.toArray 0) };rw[hsz];refine aa (bI (a6 slot_list_sort ⟨_,hoL,rfl⟩ entry_list_sort ?body (args_list_sort _)))
 case body=>
  refine ug (s:={ s with heap:=((s.heap.push (seqObj "list" #[] 0)).update s.heap.objs.size (Obj.mapSeq (·++vs.toArray))).push (seqObj "list" vs.toArray 0) }) hoL h2 fun h' c kp hD=>?_;refine⟨_,rfl,ae ⟨_,rfl,h _ _ _ (fun b o e=>kp b o (aO (Nat.lt_succ_of_lt (au e))) (keep b o e)) ?_ hD⟩⟩;exact Heap.get?_none_of_le (cQ _)
section
variable {X:Cx}
def zmw:List V->Hp->VK->Prop:=fun xs H Q=>∃ (l:Addr) (vs:List V) (sts:List (List Int)) (m:Nat),xs=[.ref l]/\Rd H l (.lst vs)/\IsL H (sts.map stD) vs/\sts.length<64/\1<=m/\(∀st∈sts,st.length=m)/\sts.Nodup/\
 ∀ (ys:List V) (sts':List (List Int)),IsL H (sts'.map stD) ys->sts'.Perm sts->(sts'.Pairwise fun a b=>HT.lexLt a b=true)->New H (.lst ys) Q
theorem zkV:CallQ X (.builtin "sorted") zmw:=⟨by
 intro pins s σ H xs us Q I r h;obtain⟨l,vs,sts,m,rfl,hl,hsts,h64,hm1,hm,hnd,q⟩:=h;by_cases h2:2<=sts.length
 ·exact ziL.run _ _ _ _ _ _ _ I r ⟨l,vs,sts,m,rfl,hl,hsts,h2,h64,hm1,hm,hnd,q⟩
 ·obtain⟨u,rfl,ru⟩:=uq r;cases ru;obtain⟨its,rv,pl,hz⟩:=I.list (.inl hl);have hvl:=hsts.length;rw[ab] at hvl;have hil:=rv.length;obtain⟨m0,hns,_⟩:=id I.loc;refine zdE pl.isList (by lia) fun D h' c kp hDn hD=>?_
  have hHD:H D=none:=by
   cases e:H D with
   | none=>rfl
   | some o=>
    obtain⟨o',ho'⟩:=x4 (I.hok D o e)
    grind
  have I':=zbg I hns (ys:=vs) (fun b o _ e=>kp b o e) (by obtain⟨o,es,ep,g,k⟩:=hns;exact⟨o,es,ep,kp _ _ g,k⟩) hDn hHD hD rv (by grind) s.toks;refine⟨.ref D,_,I',rfl,(q _ sts hsts (List.Perm.refl _) ?_).at hHD⟩
  match sts,h2 with
  | [],_=>exact .nil
  | [_],_=>exact c9 _ _
  | _::_::_,h2=>exact absurd (by simp) h2⟩
end
open PySem
def Ris (xs:Array Nat):Prop:=∀i j:Nat,i<j->j<xs.size->xs.getD i 0<xs.getD j 0
theorem zck {xs:Array Nat}(hr:Ris xs){j:Nat}:∀ (fuel lo hi:Nat),lo<=hi->hi<=xs.size->hi - lo<=fuel->(∀i,i<lo->xs.getD i 0<j)->(∀i,hi<=i->i<xs.size->j<=xs.getD i 0)->
  ∃p,SetTable.below.go xs j fuel lo hi=p/\p<=xs.size/\(∀i,i<p->xs.getD i 0<j)/\(∀i,p<=i->i<xs.size->j<=xs.getD i 0)
 | 0,lo,hi,h1,h2,h3,h4,h5=>by
  have:lo=hi:=by lia
  subst this;exact⟨lo,rfl,h2,h4,h5⟩
 | fuel+1,lo,hi,h1,h2,h3,h4,h5=>by
  show ∃p,(if lo<hi then if xs.getD ((lo+hi) / 2) j<j then SetTable.below.go xs j fuel ((lo+hi) / 2+1) hi else SetTable.below.go xs j fuel lo ((lo+hi) / 2) else lo)=p/\_;by_cases hl:lo<hi
  ·rw[if_pos hl];have hm:(lo+hi) / 2<xs.size:=by lia
   have e:xs.getD ((lo+hi) / 2) j=xs.getD ((lo+hi) / 2) 0:=by simp[hm]
   rw[e];by_cases hc:xs.getD ((lo+hi) / 2) 0<j
   ·rw[if_pos hc];refine zck hr fuel _ hi (by lia) h2 (by lia) (fun i hi'=>?_) h5;by_cases q:i=(lo+hi) / 2
    ·rw[q];exact hc
    ·have:=hr i ((lo+hi) / 2) (by lia) hm;lia
   ·rw[if_neg hc];refine zck hr fuel lo _ (by lia) (by lia) (by lia) h4 (fun i hi' hs=>?_);by_cases q:i=(lo+hi) / 2
    ·rw[q];lia
    ·have:=hr ((lo+hi) / 2) i (by lia) hs;lia
  ·rw[if_neg hl];have:lo=hi:=by lia
   subst this;exact⟨lo,rfl,h2,h4,h5⟩
theorem xo {xs:Array Nat}(hr:Ris xs)(j:Nat):SetTable.below xs j<=xs.size/\(∀i,i<SetTable.below xs j->xs.getD i 0<j)/\(∀i,SetTable.below xs j<=i->i<xs.size->j<=xs.getD i 0):=by obtain⟨p,e,h⟩:=zck hr (j:=j) xs.size 0 xs.size (aL _) (ai _) (ai _) (fun i h=>absurd h (bV _)) (fun i h1 h2=>by lia);have e':SetTable.below xs j=p:=e;rw[e'];exact h
theorem xi {xs:Array Nat}{i j:Nat}(h:xs[i]?=some j):i<xs.size/\xs.getD i 0=j:=by
 obtain⟨h1,h2⟩:=bW.mp h
 simp_all
theorem zd6 {xs:Array Nat}{i:Nat}(h:i<xs.size):xs[i]?=some (xs.getD i 0):=by simp[h]
theorem ziC {xs:Array Nat}(hr:Ris xs){i j:Nat}(h:xs[i]?=some j):SetTable.below xs j=i:=by
 obtain⟨h1,h2⟩:=xi h;obtain⟨b1,b2,b3⟩:=xo hr j;rcases bQ (SetTable.below xs j) i with q | q | q
 ·have:=b3 _ (ai _) (by lia);have:=hr _ i q h1;lia
 ·exact q
 ·have:=b2 i q;lia
theorem zae {t:SetTable}(hr:Ris t.place){i j:Nat}(h:t.place[i]?=some j):t.slot j = .live i:=by unfold SetTable.slot;rw[ziC hr h];simp[h]
theorem zii {t:SetTable}(hd:t.dummies = #[]){j:Nat}(h:∀i:Nat,t.place[i]?≠some j):t.slot j = .empty:=by
 unfold SetTable.slot
 have e:(t.place[SetTable.below t.place j]?==some j)=false:=by grind
 have e2:SetTable.has t.dummies j=false:=by rw[hd];rfl
 simp_all
theorem zmI {t:SetTable}(hr:Ris t.place)(hd:t.dummies = #[])(j:Nat):(t.slot j = .empty/\∀i:Nat,t.place[i]?≠some j)\/∃i,t.slot j = .live i/\t.place[i]?=some j:=by
 by_cases h:∃i:Nat,t.place[i]?=some j
 ·obtain⟨i,hi⟩:=h;exact .inr ⟨i,zae hr hi,hi⟩
 ·have h':∀i:Nat,t.place[i]?≠some j:=fun i e=>h ⟨i,e⟩;exact .inl ⟨zii hd h',h'⟩
def tm (mask:Nat):SetTable:=⟨mask,#[],#[],0,true,0,true⟩
def stp (mask:Nat)(h:Int):Nat->SetTable.Probe
 | 0=>(tm mask).probeStart h
 | n+1=>(tm mask).advance (stp mask h n)
def wk (mask:Nat)(h:Int)(n:Nat):Nat:=(stp mask h n).j
theorem zgg (mask:Nat)(p:SetTable.Probe):((tm mask).advance p).dummy=p.dummy:=by unfold SetTable.advance;split <;> rfl
theorem zdI (mask:Nat)(h:Int):∀n,(stp mask h n).dummy=none
 | 0=>rfl
 | n+1=>by show ((tm mask).advance _).dummy=none;rw[zgg,zdI mask h n]
theorem zci (mask:Nat)(p:SetTable.Probe)(h:0<p.more):(tm mask).advance p={ p with j:=p.j+1,more:=p.more - 1 }:=by unfold SetTable.advance;rw[if_pos h]
theorem zaR (mask:Nat)(p:SetTable.Probe)(h:p.more=0):(tm mask).advance p={ p with j:=(p.i * 5+1+p.perturb / 32) % (mask+1),more:=SetTable.runEnd mask ((p.i * 5+1+p.perturb / 32) % (mask+1)) - (p.i * 5+1+p.perturb / 32) % (mask+1),i:=(p.i * 5+1+p.perturb / 32) % (mask+1),perturb:=p.perturb / 32 }:=by unfold SetTable.advance;rw[if_neg (by lia)];rfl
def lp (mask:Nat)(h:Int):Nat->Nat×Nat
 | 0=>(SetTable.bits h % (mask+1),SetTable.bits h)
 | n+1=>SetTable.leap mask (lp mask h n).1 (lp mask h n).2
theorem zkA (mask i:Nat):SetTable.runEnd mask i - i<=9:=by unfold SetTable.runEnd;split <;> lia
theorem zcT (mask:Nat)(h:Int){T i q:Nat}(e:stp mask h T=⟨i,SetTable.runEnd mask i - i,i,q,none⟩):∀k,k<=SetTable.runEnd mask i - i->stp mask h (T+k)=⟨i+k,SetTable.runEnd mask i - i - k,i,q,none⟩
 | 0,_=>e
 | k+1,hk=>by
  show (tm mask).advance (stp mask h (T+k))=_;rw[zcT mask h e k (by lia),zci mask _ (by lia)]
  grind
theorem zhf (mask:Nat)(h:Int):∀k,∃T,T<=10 * k/\stp mask h T=⟨(lp mask h k).1,SetTable.runEnd mask (lp mask h k).1 - (lp mask h k).1,(lp mask h k).1,(lp mask h k).2,none⟩
 | 0=>⟨0,ai _,rfl⟩
 | k+1=>by obtain⟨T,hT,e⟩:=zhf mask h k;have hr:=zkA mask (lp mask h k).1;refine⟨T+(SetTable.runEnd mask (lp mask h k).1 - (lp mask h k).1)+1,by lia,?_⟩;show (tm mask).advance (stp mask h (T+_))=_;rw[zcT mask h e _ (ai _),zaR mask _ (Nat.sub_self _)];rfl
theorem zb4 (mask:Nat)(h:Int):∀k,(lp mask h k).2=SetTable.bits h / 32 ^ k
 | 0=>by show SetTable.bits h=_;simp
 | k+1=>by show (lp mask h k).2 / 32=_;rw[zb4 mask h k,Nat.div_div_eq_div_mul,Nat.pow_succ]
theorem zkN (h:Int):SetTable.bits h<2 ^ 64:=by
 unfold SetTable.bits
 grind
def lcg (m i:Nat):Nat:=(i * 5+1) % m
def orb (m:Nat):Nat->Nat->Nat
 | 0,i=>i
 | k+1,i=>lcg m (orb m k i)
theorem zhp (mask:Nat)(h:Int):∀k,(lp mask h (13+k)).1=orb (mask+1) k (lp mask h 13).1
 | 0=>rfl
 | k+1=>by
  show ((lp mask h (13+k)).1 * 5+1+(lp mask h (13+k)).2 / 32) % (mask+1)=lcg (mask+1) (orb (mask+1) k _);rw[<- zhp mask h k,zb4];have hb:=zkN h
  have e:SetTable.bits h / 32 ^ (13+k)=0:=by
   refine Nat.div_eq_of_lt (aF hb ?_)
   calc 2 ^ 64<=32 ^ 13:=by decide
    _<=32 ^ (13+k):=b9 (by decide) (by lia)
  rw[e];rfl
theorem zbx (m:Nat)(a:Nat):∀ (b i:Nat),orb m (a+b) i=orb m b (orb m a i)
 | 0,i=>rfl
 | b+1,i=>by show lcg m (orb m (a+b) i)=lcg m (orb m b _);rw[zbx m a b i]
def zm2 (m:Nat):Nat->Nat->List Nat
 | 0,_=>[]
 | n+1,i=>i::zm2 m n (lcg m i)
theorem zjp (m:Nat)(k i:Nat):orb m (k+1) i=orb m k (lcg m i):=by rw[Nat.add_comm,zbx];rfl
theorem zcG (m:Nat):∀ (n i k:Nat),k<n->(zm2 m n i)[k]?=some (orb m k i)
 | n+1,i,0,_=>rfl
 | n+1,i,k+1,h=>by rw[zjp];exact zcG m n (lcg m i) k (by lia)
theorem zfi (m:Nat):∀ (n i:Nat),(zm2 m n i).length=n
 | 0,_=>rfl
 | n+1,i=>by show (zm2 m n _).length+1=n+1;rw[zfi m n]
structure Ring (m:Nat):Prop where
 pos:0<m
 all:∀v,v<m->v∈zm2 m m 0
 back:orb m m 0=0
theorem Ring.reach {m:Nat}(r:Ring m){i j:Nat}(hi:i<m)(hj:j<m):∃k,k<m/\orb m k i=j:=by
 obtain⟨a,ha,ea⟩:=bO.mp (r.all i hi);obtain⟨b,hb,eb⟩:=bO.mp (r.all j hj);rw[zfi] at ha hb
 have ea':orb m a 0=i:=by
  have:=zcG m m 0 a ha
  simp_all
 have eb':orb m b 0=j:=by
  have:=zcG m m 0 b hb
  simp_all
 by_cases hab:a<=b
 ·refine⟨b - a,by lia,?_⟩;rw[<- ea',<- zbx,show a+(b - a)=b by lia];exact eb'
 ·refine⟨b+m - a,by lia,?_⟩;rw[<- ea',<- zbx,show a+(b+m - a)=m+b by lia,zbx,r.back];exact eb'
def zo7 (m:Nat):Bool:=((List.range m).all fun v=>(zm2 m m 0).contains v)&&orb m m 0==0
theorem zcN {m:Nat}(h0:0<m)(h:zo7 m=true):Ring m:=by
 unfold zo7 at h;rw[aR] at h;refine⟨h0,fun v hv=>?_,dO h.2⟩
 simp_all
theorem zrI:Ring 8:=zcN (by decide) (by decide +kernel)
theorem zo6:Ring 32:=zcN (by decide) (by decide +kernel)
theorem zmy:Ring 128:=zcN (by decide) (by decide +kernel)
theorem zmz:Ring 512:=zcN (by decide) (by decide +kernel)
theorem zj1 {mask:Nat}(r:Ring (mask+1))(h:Int){j:Nat}(hj:j<=mask):∃n,n<10 * SetTable.turns mask/\wk mask h n=j:=by have hb:(lp mask h 13).1<mask+1:=du _ (cW _);obtain⟨k,hk,e⟩:=r.reach hb (ek hj);obtain⟨T,hT,eT⟩:=zhf mask h (13+k);refine⟨T,by unfold SetTable.turns;lia,?_⟩;show (stp mask h T).j=j;rw[eT];show (lp mask h (13+k)).1=j;rw[zhp,e]
open PySem PySem.Spec PyProof.Rows
theorem zmB {xs:Array Nat}(hr:Ris xs){i j a b:Nat}(hi:xs[i]?=some a)(hj:xs[j]?=some b)(h:a<b):i<j:=by
 obtain⟨h1,h2⟩:=xi hi;obtain⟨h3,h4⟩:=xi hj;rcases bQ i j with q | q | q
 ·exact q
 ·subst q;lia
 ·have:=hr j i q h1;lia
theorem zfo {xs:Array Nat}(hr:Ris xs):∀ (M:Nat),(∀j,j<M->∃i:Nat,xs[i]?=some j)->∀ (j i:Nat),j<M->xs[i]?=some j->j<=i
 | _,_,0,_,_,_=>aL _
 | M,h,j+1,i,hj,e=>by obtain⟨i',e'⟩:=h j (by lia);have h1:=zmB hr e' e (Nat.lt_succ_self j);have h2:=zfo hr M h j i' (by lia) e';lia
theorem zmA {xs:Array Nat}(hr:Ris xs){M:Nat}(h:xs.size<M):∃j,j<M/\∀i:Nat,xs[i]?≠some j:=by refine b8 fun hn=>?_;have all:∀j,j<M->∃i:Nat,xs[i]?=some j:=fun j hj=>b8 fun hc=>hn ⟨j,hj,fun i e=>hc ⟨i,e⟩⟩;obtain⟨i,e⟩:=all (M - 1) (by lia);have h1:=zfo hr M all (M - 1) i (by lia) e;have h2:=(xi e).1;lia
section
variable {t:SetTable}{hashAt:Nat->Int}{h:Int}
theorem zcH (hr:Ris t.place)(hd:t.dummies = #[]):∀ (fuel n:Nat),(∃N,n<=N/\N<n+fuel/\∀i:Nat,t.place[i]?≠some (wk t.mask h N))->
  ∃N,n<=N/\(∀m,n<=m->m<N->∃i,t.place[i]?=some (wk t.mask h m)/\hashAt i≠h)/\
   (((∀i:Nat,t.place[i]?≠some (wk t.mask h N))/\SetTable.probe.go t hashAt h fuel (stp t.mask h n)=some (.empty (wk t.mask h N) none))\/
    ∃i,t.place[i]?=some (wk t.mask h N)/\hashAt i=h/\SetTable.probe.go t hashAt h fuel (stp t.mask h n)=some (.candidate (wk t.mask h N) i (stp t.mask h (N+1))))
 | 0,n,⟨N,h1,h2,_⟩=>by lia
 | fuel+1,n,⟨N,h1,h2,h3⟩=>by
  rcases zmI hr hd (wk t.mask h n) with ⟨e,hn⟩ | ⟨i,e,hi⟩
  ·refine⟨n,ai _,fun m a b=>by lia,.inl ⟨hn,?_⟩⟩;show (match t.slot (wk t.mask h n) with | .empty=>some (SetTable.Met.empty (wk t.mask h n) (stp t.mask h n).dummy) | .dummy=>_ | .live i=>_)=_;rw[e,zdI]
  ·by_cases hh:hashAt i=h
   ·refine⟨n,ai _,fun m a b=>by lia,.inr ⟨i,hi,hh,?_⟩⟩;show (match t.slot (wk t.mask h n) with | .empty=>_ | .dummy=>_ | .live i=>if hashAt i==h then some (SetTable.Met.candidate (wk t.mask h n) i (t.advance (stp t.mask h n))) else _)=_;rw[e];show (if (hashAt i==h)=true then _ else _)=_;rw[if_pos (beq_iff_eq.mpr hh)];rfl
   ·have hN:n≠N:=fun z=>by subst z;exact h3 i hi
    obtain⟨N',a1,a2,a3⟩:=zcH hr hd fuel (n+1) ⟨N,by lia,by lia,h3⟩
    have e2:SetTable.probe.go t hashAt h (fuel+1) (stp t.mask h n)=SetTable.probe.go t hashAt h fuel (stp t.mask h (n+1)):=by show (match t.slot (wk t.mask h n) with | .empty=>_ | .dummy=>_ | .live i=>if hashAt i==h then _ else SetTable.probe.go t hashAt h fuel (t.advance (stp t.mask h n)))=_;rw[e];show (if (hashAt i==h)=true then _ else _)=_;rw[if_neg (fun z=>hh (beq_iff_eq.mp z))];rfl
    refine⟨N',by lia,fun m b1 b2=>?_,?_⟩
    ·by_cases hm:m=n
     ·subst hm;exact⟨i,hi,hh⟩
     ·exact a2 m (by lia) b2
    ·simp_all
end
section
variable {prog:Program}{w:World}
abbrev tk (prog:Program)(w:World):HeapKind prog w (List Key):=tupleKind (zr prog w)
def zqi (t:SetTable)(h:Int)(i:Nat):Prop:=∃n,n<10 * SetTable.turns t.mask/\t.place[i]?=some (wk t.mask h n)/\∀m,m<n->∃i':Nat,t.place[i']?=some (wk t.mask h m)
def xc (m:Nat):Prop:=m=7\/m=31\/m=127\/m=511
theorem xc.ring {m:Nat}(h:xc m):Ring (m+1):=by
 rcases h with rfl | rfl | rfl | rfl
 ·exact zrI
 ·exact zo6
 ·exact zmy
 ·exact zmz
theorem xc.le {m:Nat}(h:xc m):7<=m/\m<=511:=by rcases h with rfl | rfl | rfl | rfl <;> lia
theorem xc.odd {m:Nat}(h:xc m):(m % 2==0)=false:=by rcases h with rfl | rfl | rfl | rfl <;> rfl
structure TbG {α:Type}(w:World)(hs:α->Int)(vl:α->Value)(t:SetTable)(es:Array (Int×Value))(xs:List α):Prop where
 eq:es.toList=xs.map fun q=>(hs q,vl q)
 dm:t.dummies = #[]
 ris:Ris t.place
 le:∀ (i j:Nat),t.place[i]?=some j->j<=t.mask
 sz:t.place.size=xs.length
 msk:xc t.mask
 few:xs.length<=t.mask
 plain:t.plain=true
 led:t.led = !w.params.followText "set-order"
 reach:∀ (i:Nat) (q:α),xs[i]?=some q->zqi t (hs q) i
structure Tb (prog:Program)(w:World)(t:SetTable)(es:Array (Int×Value))(xs:List (List Key×Addr)):Prop extends TbG w (fun q:List Key×Addr=>(tk prog w).hash q.1) (fun q=>Value.ref q.2) t es xs where
 nd:(xs.map (·.1)).Nodup
section
variable {α:Type}{w:World}{hs:α->Int}{vl:α->Value}{t:SetTable}{es:Array (Int×Value)}{xs:List α}
theorem TbG.size (T:TbG w hs vl t es xs):es.size=xs.length:=by rw[<- aP,T.eq,ab]
theorem TbG.fits (T:TbG w hs vl t es xs):t.fits es.size=true:=by unfold SetTable.fits SetTable.fill;rw[T.size,T.sz,T.dm];have:=T.few;simp;lia
theorem TbG.empty (T:TbG w hs vl t es xs)(h:Int):∃N,N<10 * SetTable.turns t.mask/\∀i:Nat,t.place[i]?≠some (wk t.mask h N):=by have:=T.few;obtain⟨j,hj,hn⟩:=zmA T.ris (M:=t.mask+1) (by rw[T.sz];lia);obtain⟨N,h1,h2⟩:=zj1 T.msk.ring h (bH hj);exact⟨N,h1,by rw[h2];exact hn⟩
end
variable {t:SetTable}{es:Array (Int×Value)}{xs:List (List Key×Addr)}
theorem Tb.get (T:Tb prog w t es xs){i:Nat}{q:List Key×Addr}(h:xs[i]?=some q):es[i]?=some ((tk prog w).hash q.1,Value.ref q.2):=by rw[<- Array.getElem?_toList,T.eq,aA,h];rfl
theorem Tb.at' (T:Tb prog w t es xs){i j:Nat}(h:t.place[i]?=some j):∃q,xs[i]?=some q:=by
 have:=(xi h).1;rw[T.sz] at this
 simp_all
variable {A:Around}{E:Value->Shared->Prop}{s:Shared}
theorem zdT {k:Key}{v:Value}(h:(zr prog w).is k v=true):(∃i t,v = .int i t)\/∃x t,v = .str x t:=by
 rcases zI h with ⟨i,t,_,e⟩ | ⟨x,t,_,e⟩
 ·exact .inl ⟨i,t,e⟩
 ·exact .inr ⟨x,t,e⟩
theorem zbh:∀ {ks:List Key} {vs:List Value},ItemsAre (zr prog w) ks vs->∀v∈vs,(∃i t,v = .int i t)\/∃x t,v = .str x t
 | _,_,.nil,v,h=>by simp at h
 | _,_,.cons h1 h2,v,h=>by
  rcases aI.mp h with rfl | h
  ·exact zdT h1
  ·exact zbh h2 v h
theorem zb6 {k:List Key}{b:Addr}{Q:Bool->Shared->Prop}(hk:(tk prog w).is s.heap k b)(h:Q false s):wpAny (model prog w) A (ofAClassStatement 8 (.ref b)) Q E s:=by
 have hk':IsTupleKey (zr prog w) s.heap k b:=hk;have hT:=hk'.typeIs;obtain⟨o,items,n,ho,_,hd,hi⟩:=hk';unfold ofAClassStatement;refine aa (cV hT ?_);dsimp only;rw[if_pos (by decide)];refine aa (ae ?_);simp only[eA,aJ,if_false];refine aa (wpAny_seqItems ho hd ?_);refine aa ?_;show wpAny _ _ (forIn items _ _) _ _ s;rw[<- Array.forIn_toList];refine eF _ (fun yn r s'=>r.1=none/\s'=s/\∀v∈yn,(∃i t,v=Value.int i t)\/∃x t,v=Value.str x t) _ ?_ ?_ _ _ ⟨rfl,rfl,zbh hi⟩
 ·rintro v yn r s' ⟨hr,rfl,hall⟩
  have e:ofAClassStatement 7 v=pure false:=by rcases hall v aj with ⟨i,t,rfl⟩ | ⟨x,t,rfl⟩ <;> rfl
  rw[e];refine aa (ae ?_);simp only[aJ,if_false];exact ae ⟨rfl,rfl,fun u hu'=>hall u (ak _ hu')⟩
 ·rintro⟨r1,r2⟩ s' ⟨hr,rfl,_⟩;simp only at hr;subst hr;exact ae h
theorem zpG {k:List Key}{b:Addr}{Q:Bool->Shared->Prop}(hk:(tk prog w).is s.heap k b):∀ (l:List Value),(∀v∈l,∃k' b',v = .ref b'/\(tk prog w).is s.heap k' b')->Q false s->wpAny (model prog w) A (searchCouldBeSeen (.ref b) l) Q E s:=by
 intro l hl h;unfold searchCouldBeSeen;refine aa ?_;refine eF _ (fun yn r s'=>r.1=none/\s'=s/\∀v∈yn,∃k' b',v=Value.ref b'/\(tk prog w).is s.heap k' b') _ ?_ ?_ _ _ ⟨rfl,rfl,hl⟩
 ·rintro v yn r s' ⟨hr,rfl,hall⟩;obtain⟨k',b',rfl,hk'⟩:=hall v aj;have next:∀u∈yn,∃k' b',u=Value.ref b'/\(tk prog w).is s'.heap k' b':=fun u hu'=>hall u (ak _ hu');dsimp only;split
  ·exact ae ⟨rfl,rfl,next⟩
  ·refine aa ((tk prog w).quiet hk ?_);simp only[eA,aJ,if_false];refine aa ((tk prog w).quiet hk' ?_);simp only[eA,aJ,if_false];refine aa (zb6 hk ?_);simp only[aJ,if_false];refine aa (zb6 hk' ?_);simp only[aJ,if_false];exact ae ⟨rfl,rfl,next⟩
 ·rintro⟨r1,r2⟩ s' ⟨hr,rfl,_⟩;simp only at hr;subst hr;exact ae h
end
section
variable {prog:Program}{w:World}{t:SetTable}{es:Array (Int×Value)}{xs:List (List Key×Addr)}{A:Around}{E:Value->Shared->Prop}{s:Shared}
def zcY (t:SetTable)(xs:List (List Key×Addr))(h:Int)(k:List Key)(n:Nat):Prop:=∀m,m<n->∃ (i:Nat) (q:List Key×Addr),t.place[i]?=some (wk t.mask h m)/\xs[i]?=some q/\q.1≠k
theorem zdD {a b:Addr}{o:Obj}{ep:Nat}{k:List Key}{adding:Bool}{Q:SetFound->Shared->Prop}(hu:A.units<cLine)(T:Tb prog w t es xs)(hk:(tk prog w).is s.heap k b)(hel:∀q∈xs,(tk prog w).is s.heap q.1 q.2)
  (ho:s.heap.get? a=some o) (hd:o.data = .set es ep t)
  (found:∀r i q,xs[i]?=some q->q.1=k->(r=none/\adding=true\/r=some i)->Q (.there r) s)
  (free:∀N,N<10 * SetTable.turns t.mask->(∀i:Nat,t.place[i]?≠some (wk t.mask ((tk prog w).hash k) N))->zcY t xs ((tk prog w).hash k) k N->Q (.free (wk t.mask ((tk prog w).hash k) N) false) s) :
  ∀ (fuel n:Nat) (stand:Option SetTable.Probe),stand.getD (t.probeStart ((tk prog w).hash k))=stp t.mask ((tk prog w).hash k) n->10 * SetTable.turns t.mask<n+fuel->n<=10 * SetTable.turns t.mask->zcY t xs ((tk prog w).hash k) k n->
   wpAny (model prog w) A (setSearchFrom a (.ref b) ((tk prog w).hash k) adding fuel stand) Q E s
 | 0,n,stand,_,h2,h3,_=>by lia
 | fuel+1,n,stand,h1,h2,h3,h4=>by
  unfold setSearchFrom;refine aa (bd ho hd T.fits ?_);dsimp only;rw[show t.gaveWay=false from T.msk.odd];simp only[aJ,if_false];rw[h1];obtain⟨N0,hN0,eN0⟩:=T.empty ((tk prog w).hash k)
  have hn0:n<=N0:=by
   rcases eM N0 n with q | q
   ·obtain⟨i,_,e,_⟩:=h4 N0 q;exact absurd e (eN0 i)
   ·exact q
  have pass:∀N,n<=N->(∀m,n<=m->m<N->∃i:Nat,t.place[i]?=some (wk t.mask ((tk prog w).hash k) m)/\(es[i]?.map (·.1)).getD 0≠(tk prog w).hash k)->zcY t xs ((tk prog w).hash k) k N:=fun N hN hh m hm=>by
   rcases eM m n with q | q
   ·exact h4 m q
   ·obtain⟨i,e1,e2⟩:=hh m q hm;obtain⟨q,hq⟩:=T.at' e1;refine⟨i,q,e1,hq,fun z=>e2 ?_⟩;rw[T.get hq,<- z];rfl
  obtain⟨N,hN,hp,hc⟩:=zcH (t:=t) (hashAt:=fun i=>(es[i]?.map (·.1)).getD 0) (h:=(tk prog w).hash k) T.ris T.dm (10 * SetTable.turns t.mask) n ⟨N0,hn0,by lia,eN0⟩
  have hNle:N<=N0:=by
   rcases eM N0 N with q | q
   ·obtain⟨i,e,_⟩:=hp N0 hn0 q;exact absurd e (eN0 i)
   ·exact q
  rcases hc with ⟨he,hg⟩ | ⟨i,hi,hh,hg⟩
  ·have hg':t.probe (fun i=>(es[i]?.map (·.1)).getD 0) ((tk prog w).hash k) (stp t.mask ((tk prog w).hash k) n)=some (.empty (wk t.mask ((tk prog w).hash k) N) none):=hg;have fin:=free N (by lia) he (pass N hN hp);generalize hm:SetTable.probe t _ _ _=met;have:met=some (.empty (wk t.mask ((tk prog w).hash k) N) none):=hm.symm.trans hg';rw[this];dsimp only;exact ae fin
  ·have hg':t.probe (fun i=>(es[i]?.map (·.1)).getD 0) ((tk prog w).hash k) (stp t.mask ((tk prog w).hash k) n)=some (.candidate (wk t.mask ((tk prog w).hash k) N) i (stp t.mask ((tk prog w).hash k) (N+1))):=hg;generalize hm:SetTable.probe t _ _ _=met;have:met=some (.candidate (wk t.mask ((tk prog w).hash k) N) i (stp t.mask ((tk prog w).hash k) (N+1))):=hm.symm.trans hg';rw[this];dsimp only;obtain⟨q,hq⟩:=T.at' hi;have hqe:=T.get hq;have hqk:=hel q (aw hq);have stl:t.slot (wk t.mask ((tk prog w).hash k) N) = .live i:=zae T.ris hi
   have core:wpAny (model prog w) A (do
     let some (_,y):=es[i]? | unsupported "internal:set-entry"
     let equal <- holding [y] (eqBool y (.ref b))
     let (es',_,t') <- setState a
     if adding&&equal then return .there none
     let some smem:=t'.sameMemory t.moves t.mask | unsupported "set.changed-during-lookup:is-the-new-block-at-the-old-address"
     let still <- match (if smem then t'.slot (wk t.mask ((tk prog w).hash k) N) else .empty) with
      | .live i'=>match es'[i']? with
       | some (_,y')=>do pure (if <- isSame y' y then some i' else none)
       | none=>pure none
      | _=>pure none
     match still with
     | none=>rule "set.search.anew";setSearchFrom a (.ref b) ((tk prog w).hash k) adding fuel none
     | some i'=>if equal then return .there (some i') else setSearchFrom a (.ref b) ((tk prog w).hash k) adding fuel (some (stp t.mask ((tk prog w).hash k) (N+1)))) Q E s:=by
    rw[hqe];dsimp only;refine aa (bI ((tk prog w).eqBool hu hqk hk ?_));refine aa (bd ho hd T.fits ?_);dsimp only;by_cases hkk:q.1=k
    ·rw[aK hkk]
     cases adding with
     | true=>
      simp only[Bool.and_self,if_true];exact ae (found none i q hq hkk (.inl ⟨rfl,rfl⟩))
     | false=>
      simp only[Bool.false_and,aJ,if_false];have e1:t.sameMemory t.moves t.mask=some true:=by unfold SetTable.sameMemory;simp
      rw[e1];dsimp only;simp only[if_true];rw[stl];dsimp only;rw[hqe];dsimp only;refine aa (wpAny_isSame_ref_self (aa (ae ?_)));simp only[if_true];exact ae (found (some i) i q hq hkk (.inr rfl))
    ·rw[aS hkk];simp only[cJ,aJ,if_false];have e1:t.sameMemory t.moves t.mask=some true:=by unfold SetTable.sameMemory;simp
     rw[e1];dsimp only;simp only[if_true];rw[stl];dsimp only;rw[hqe];dsimp only;refine aa (wpAny_isSame_ref_self (aa (ae ?_)));simp only[if_true];refine zdD hu T hk hel ho hd found free fuel (N+1) _ rfl (by lia) (by lia) fun m hm=>?_;rcases Nat.lt_succ_iff_lt_or_eq.mp hm with z | z
     ·exact pass N hN hp m z
     ·subst z;exact⟨i,q,hi,hq,hkk⟩
   split
   ·refine aa (zpG hk _ (fun v hv=>?_) ?_)
    ·obtain⟨e,he,rfl⟩:=ay.mp hv
     have he':e∈es.toList:=by have:=dG.mp he;exact dG.mpr (Array.mem_filter.mp this).1
     rw[T.eq] at he';obtain⟨q',hq',rfl⟩:=ay.mp he';exact⟨_,_,rfl,hel q' hq'⟩
    ·simp only[aJ,if_false];exact core
   ·exact core
end
def zc9 {α:Type}(l:List α)(p:Nat)(x:α):List α:=l.take p++x::l.drop p
theorem zea {α:Type}{l:List α}{p i:Nat}{x:α}(hp:p<=l.length)(h:i<p):(zc9 l p x)[i]?=l[i]?:=by unfold zc9;rw[bq (by grind),cT h]
theorem zd8 {α:Type}{l:List α}{p:Nat}{x:α}(hp:p<=l.length):(zc9 l p x)[p]?=some x:=by
 unfold zc9
 simp_all
theorem zd9 {α:Type}{l:List α}{p i:Nat}{x:α}(hp:p<=l.length)(h:p<=i):(zc9 l p x)[i+1]?=l[i]?:=by unfold zc9;rw[bg (by grind),aQ,show i+1 - min p l.length=(i - p)+1 by lia,dh,List.getElem?_drop,show p+(i - p)=i by lia]
theorem zcq {α:Type}{l:List α}{p:Nat}{x:α}(hp:p<=l.length):(zc9 l p x).length=l.length+1:=by
 unfold zc9
 grind
theorem zi1 {α β:Type}(f:α->β)(l:List α)(p:Nat)(x:α):(zc9 l p x).map f=zc9 (l.map f) p (f x):=by
 unfold zc9
 simp_all
theorem zgV {α:Type}(l:List α)(p:Nat)(x:α):(zc9 l p x).Perm (x::l):=by
 unfold zc9;refine List.perm_middle.trans ?_
 simp_all
theorem ye {α:Type}(xs:Array α){p:Nat}(x:α):(SetTable.insertAt xs p x).toList=zc9 xs.toList p x:=by
 unfold SetTable.insertAt zc9;rw[Array.toList_append,Array.toList_push,Array.toList_extract,Array.toList_extract,List.extract_eq_take_drop,List.extract_eq_take_drop];rw[eL,dZ,bR];congr 1;show x::_=_;congr 1;show []++List.take _ (List.drop p xs.toList)=_;rw[List.nil_append];refine List.take_of_length_le ?_
 simp_all
theorem za2 {α:Type}(xs:Array α)(i:Nat):xs[i]?=xs.toList[i]?:=by simp_all
theorem zeb {xs:Array Nat}{p j i v:Nat}(hp:p<=xs.size)(h:xs[i]?=some v):(SetTable.insertAt xs p j)[if i<p then i else i+1]?=some v:=by
 rw[za2,ye];rw[za2] at h;have hp':p<=xs.toList.length:=by rw[aP];exact hp
 split
 ·rename_i hi;rw[zea hp' hi,h]
 ·rename_i hi;rw[zd9 hp' (by lia),h]
theorem uX {xs:Array Nat}{p j i v:Nat}(hp:p<=xs.size)(h:(SetTable.insertAt xs p j)[i]?=some v):(i=p/\v=j)\/(i<p/\xs[i]?=some v)\/∃i',i=i'+1/\p<=i'/\xs[i']?=some v:=by
 rw[za2,ye] at h;have hp':p<=xs.toList.length:=by rw[aP];exact hp
 rcases bQ i p with q | q | q
 ·rw[zea hp' q,<- za2] at h
  simp_all
 ·subst q;rw[zd8 hp'] at h
  simp_all
 ·obtain⟨i',rfl⟩:∃i',i=i'+1:=⟨i - 1,by lia⟩;rw[zd9 hp' (by lia),<- za2] at h;exact .inr (.inr ⟨i',rfl,by lia,h⟩)
theorem zfT {xs:Array Nat}(hr:Ris xs){j:Nat}(hn:∀i:Nat,xs[i]?≠some j):Ris (SetTable.insertAt xs (SetTable.below xs j) j):=by
 obtain⟨b1,b2,b3⟩:=xo hr j;intro i i2 hlt h2;have e1:=zd6 (xs:=SetTable.insertAt xs (SetTable.below xs j) j) (i:=i) (by lia);have e2:=zd6 h2;generalize (SetTable.insertAt xs (SetTable.below xs j) j).getD i 0=v at e1;generalize (SetTable.insertAt xs (SetTable.below xs j) j).getD i2 0=v2 at e2
 have big:∀i v,SetTable.below xs j<=i->xs[i]?=some v->j<v:=fun i v h e=>by
  obtain⟨a1,a2⟩:=xi e
  grind
 have small:∀i v,i<SetTable.below xs j->xs[i]?=some v->v<j:=fun i v h e=>by obtain⟨a1,a2⟩:=xi e;have:=b2 i h;lia
 have mono:∀i i2 v v2,i<i2->xs[i]?=some v->xs[i2]?=some v2->v<v2:=fun i i2 v v2 h e e2=>by
  obtain⟨a1,a2⟩:=xi e;obtain⟨a3,a4⟩:=xi e2;have:=hr i i2 h a3
  omega
 rcases uX b1 e1 with ⟨rfl,rfl⟩ | ⟨q,e⟩ | ⟨i',rfl,q,e⟩
 ·rcases uX b1 e2 with ⟨rfl,rfl⟩ | ⟨q',e'⟩ | ⟨i'',rfl,q',e'⟩
  ·lia
  ·lia
  ·exact big _ _ q' e'
 ·rcases uX b1 e2 with ⟨rfl,rfl⟩ | ⟨q',e'⟩ | ⟨i'',rfl,q',e'⟩
  ·exact small _ _ q e
  ·exact mono _ _ _ _ hlt e e'
  ·exact mono _ _ _ _ (by lia) e e'
 ·rcases uX b1 e2 with ⟨rfl,rfl⟩ | ⟨q',e'⟩ | ⟨i'',rfl,q',e'⟩
  ·lia
  ·lia
  ·exact mono _ _ _ _ (by lia) e e'
theorem zli {j:Nat}:SetTable.has #[] j=false:=rfl
section
variable {α:Type}{w:World}{hs:α->Int}{vl:α->Value}{t:SetTable}{es:Array (Int×Value)}{xs:List α}
theorem TbG.put (T:TbG w hs vl t es xs){c:α}{N:Nat}(hN:N<10 * SetTable.turns t.mask)(he:∀i:Nat,t.place[i]?≠some (wk t.mask (hs c) N))(hp:∀m,m<N->∃i:Nat,t.place[i]?=some (wk t.mask (hs c) m))
  (hf:xs.length+1<=t.mask) (hle:wk t.mask (hs c) N<=t.mask) :
  ∃xs',TbG w hs vl (t.put (wk t.mask (hs c) N)).1 (SetTable.insertAt es (t.put (wk t.mask (hs c) N)).2 (hs c,vl c)) xs'/\xs'.Perm (c::xs):=by
 generalize hj:wk t.mask (hs c) N=j at *;obtain⟨b1,b2,b3⟩:=xo T.ris j;have hp2:(t.put j).2=SetTable.below t.place j:=rfl
 have ht:(t.put j).1={ t with place:=SetTable.insertAt t.place (SetTable.below t.place j) j }:=by
  unfold SetTable.put;dsimp only;rw[T.dm,zli]
  grind
 generalize hpp:SetTable.below t.place j=p at *;have hpx:p<=xs.length:=by rw[<- T.sz];exact b1
 have shift:∀ {i v:Nat},t.place[i]?=some v->∃i':Nat,(SetTable.insertAt t.place p j)[i']?=some v:=fun {i v} h=>⟨_,zeb b1 h⟩;have hxp:=zgV xs p c;refine⟨zc9 xs p c,?_,hxp⟩;rw[hp2,ht];refine⟨?_,T.dm,?_,?_,?_,T.msk,?_,T.plain,T.led,?_⟩
 ·rw[ye,T.eq,zi1]
 ·have:=zfT T.ris he
  simp_all
 ·intro i v e;rcases uX b1 e with ⟨_,rfl⟩ | ⟨_,e'⟩ | ⟨_,_,_,e'⟩
  ·exact hle
  ·exact T.le _ _ e'
  ·exact T.le _ _ e'
 ·show (SetTable.insertAt t.place p j).size=_;rw[<- aP,ye,zcq (by simp_all),zcq hpx,aP,T.sz]
 ·show (zc9 xs p c).length<=t.mask;rw[zcq hpx];exact hf
 ·intro i q hq;rcases bQ i p with z | z | z
  ·rw[zea hpx z] at hq;obtain⟨n,h1,h2,h3⟩:=T.reach i q hq;refine⟨n,h1,?_,fun m hm=>?_⟩
   ·have:=zeb (j:=j) b1 h2
    simp_all
   ·obtain⟨i',e⟩:=h3 m hm;exact shift e
  ·subst z;rw[zd8 hpx] at hq;cases hq;refine⟨N,hN,?_,fun m hm=>?_⟩
   ·show (SetTable.insertAt t.place i j)[i]?=_;rw[za2,ye,zd8 (by simp_all)]
    simp_all
   ·obtain⟨i',e⟩:=hp m hm;exact shift e
  ·obtain⟨i',rfl⟩:∃i',i=i'+1:=⟨i - 1,by lia⟩;rw[zd9 hpx (by lia)] at hq;obtain⟨n,h1,h2,h3⟩:=T.reach i' q hq;refine⟨n,h1,?_,fun m hm=>?_⟩
   ·have:=zeb (j:=j) b1 h2;rw[if_neg (by lia)] at this;exact this
   ·obtain⟨i',e⟩:=h3 m hm;exact shift e
end
section
variable {prog:Program}{w:World}{t:SetTable}{es:Array (Int×Value)}{xs:List (List Key×Addr)}
theorem Tb.put (T:Tb prog w t es xs){k:List Key}{b:Addr}{N:Nat}(hN:N<10 * SetTable.turns t.mask)(he:∀i:Nat,t.place[i]?≠some (wk t.mask ((tk prog w).hash k) N))(hp:zcY t xs ((tk prog w).hash k) k N)
  (hk:k∉xs.map (·.1)) (hf:xs.length+1<=t.mask) (hle:wk t.mask ((tk prog w).hash k) N<=t.mask) :
  ∃xs',Tb prog w (t.put (wk t.mask ((tk prog w).hash k) N)).1 (SetTable.insertAt es (t.put (wk t.mask ((tk prog w).hash k) N)).2 ((tk prog w).hash k,.ref b)) xs'/\xs'.Perm ((k,b)::xs):=by
 obtain⟨xs',T',p⟩:=T.toTbG.put (c:=(k,b)) hN he (fun m hm=>let ⟨i,_,e,_⟩:=hp m hm;⟨i,e⟩) hf hle;exact⟨xs',⟨T',by rw[(p.map (·.1)).nodup_iff,av,bT];exact⟨hk,T.nd⟩⟩,p⟩
end
theorem zcC:∀ (n:Nat) {l:List Nat},l.Nodup->(∀x∈l,x<n)->l.length<=n
 | 0,l,_,h=>by
  cases l with
  | nil=>exact ai _
  | cons a _=>exact absurd (h a aj) (bV _)
 | n+1,l,hn,h=>by
  by_cases hm:n∈l
  ·have h1:=zcC n (hn.erase n) fun x hx=>by
    grind
   grind
  ·have:=zcC n hn fun x hx=>by
    grind
   lia
theorem zaa {α:Type}[BEq α][LawfulBEq α]:∀ {l l':List α},l.Nodup->l'.Nodup->(∀x,x∈l↔x∈l')->l.Perm l'
 | [],l',_,_,h=>by
  cases l' with
  | nil=>exact .nil
  | cons a _=>exact absurd ((h a).mpr aj) (by simp)
 | a::l,l',hn,hn',h=>by grind
def St0 (mask:Nat)(h:Int)(K:Nat):SetTable.Probe:=⟨(lp mask h K).1,SetTable.runEnd mask (lp mask h K).1 - (lp mask h K).1,(lp mask h K).1,(lp mask h K).2,none⟩
theorem zhg {mask:Nat}{h:Int}{T K:Nat}(e:stp mask h T=St0 mask h K):stp mask h (T+(SetTable.runEnd mask (lp mask h K).1 - (lp mask h K).1)+1)=St0 mask h (K+1):=by show (tm mask).advance (stp mask h (T+_))=_;rw[zcT mask h e _ (ai _),zaR mask _ (Nat.sub_self _)];rfl
theorem znO (mask:Nat)(h:Int):∀K,(lp mask h K).1<=mask
 | 0=>bH (du _ (cW _))
 | K+1=>bH (du _ (cW _))
theorem ub {mask i:Nat}(h:i<=mask):SetTable.runEnd mask i<=mask/\i<=SetTable.runEnd mask i:=by unfold SetTable.runEnd;split <;> lia
theorem zc5 {mask:Nat}{h:Int}{owner:Array (Option Nat)}(hs:owner.size=mask+1):∀ (fuel K T:Nat),T<=10 * K->stp mask h T=St0 mask h K->(∀m,m<T->∃i',owner[wk mask h m]?=some (some i'))->
  (∃K',K<=K'/\K'<K+fuel/\owner[(lp mask h K').1]?=some none)->
  ∃N,SetTable.layClean.free mask owner fuel (lp mask h K).1 (lp mask h K).2=some (wk mask h N)/\N<10 * (K+fuel)/\wk mask h N<=mask/\owner[wk mask h N]?=some none/\∀m,m<N->∃i',owner[wk mask h m]?=some (some i')
 | 0,K,T,_,_,_,⟨K',h1,h2,_⟩=>by lia
 | fuel+1,K,T,hT,eT,occ,⟨K',h1,h2,h3⟩=>by
  have hle:=znO mask h K;obtain⟨r1,r2⟩:=ub hle;have r9:=zkA mask (lp mask h K).1
  have wkk:∀k,k<=SetTable.runEnd mask (lp mask h K).1 - (lp mask h K).1->wk mask h (T+k)=(lp mask h K).1+k:=fun k hk=>by show (stp mask h (T+k)).j=_;rw[zcT mask h eT k hk]
  have inR:∀k,k<=SetTable.runEnd mask (lp mask h K).1 - (lp mask h K).1->∃u,owner[(lp mask h K).1+k]?=some u/\owner.getD ((lp mask h K).1+k) (some 0)=u:=fun k hk=>by
   have hlt:(lp mask h K).1+k<owner.size:=by lia
   simp_all
  show ∃N,(match (List.range (SetTable.runEnd mask (lp mask h K).1+1 - (lp mask h K).1)).find? fun k=>(owner.getD ((lp mask h K).1+k) (some 0)).isNone with
   | some k=>some ((lp mask h K).1+k)
   | none=>SetTable.layClean.free mask owner fuel (lp mask h (K+1)).1 (lp mask h (K+1)).2)=some (wk mask h N)/\_
  cases hf:(List.range (SetTable.runEnd mask (lp mask h K).1+1 - (lp mask h K).1)).find? fun k=>(owner.getD ((lp mask h K).1+k) (some 0)).isNone with
  | some k=>
   obtain⟨hp,i,hi,hik,hbef⟩:=List.find?_eq_some_iff_getElem.mp hf;rw[bZ] at hik;subst hik;rw[aE] at hi;have hk:i<=SetTable.runEnd mask (lp mask h K).1 - (lp mask h K).1:=by lia
   obtain⟨u,hu1,hu2⟩:=inR i hk;rw[hu2] at hp
   have hun:u=none:=by
    cases u with
    | none=>rfl
    | some z=>exact absurd hp (by simp)
   subst hun;refine⟨T+i,by rw[wkk i hk],by lia,by rw[wkk i hk];lia,by rw[wkk i hk];exact hu1,fun m hm=>?_⟩;by_cases hmT:m<T
   ·exact occ m hmT
   ·obtain⟨k',rfl⟩:∃k',m=T+k':=⟨m - T,by lia⟩;obtain⟨u,hu1,hu2⟩:=inR k' (by lia);have:=hbef k' (by lia);rw[bZ,hu2] at this;rw[wkk k' (by lia),hu1]
    cases u with
    | none=>simp at this
    | some i'=>exact⟨i',rfl⟩
  | none=>
   have hall:=List.find?_eq_none.mp hf
   have occR:∀k,k<=SetTable.runEnd mask (lp mask h K).1 - (lp mask h K).1->∃i',owner[(lp mask h K).1+k]?=some (some i'):=fun k hk=>by
    obtain⟨u,hu1,hu2⟩:=inR k hk;have:=hall k (bf.mpr (by lia));rw[hu2] at this
    cases u with
    | none=>simp at this
    | some i'=>exact⟨i',hu1⟩
   have hKK:K≠K':=fun z=>by
    subst z;obtain⟨i',e⟩:=occR 0 (aL _)
    grind
   have occ':∀m,m<T+(SetTable.runEnd mask (lp mask h K).1 - (lp mask h K).1)+1->∃i',owner[wk mask h m]?=some (some i'):=fun m hm=>by
    by_cases hmT:m<T
    ·exact occ m hmT
    ·obtain⟨k',rfl⟩:∃k',m=T+k':=⟨m - T,by lia⟩;rw[wkk k' (by lia)];exact occR k' (by lia)
   obtain⟨N,a1,a2,a3⟩:=zc5 hs fuel (K+1) _ (by lia) (zhg eT) occ' ⟨K',by lia,by lia,h3⟩;exact⟨N,a1,by lia,a3⟩
structure Own (mask:Nat)(hs:List Int)(n:Nat)(owner:Array (Option Nat)):Prop where
 size:owner.size=mask+1
 lt:∀ (j i:Nat),owner[j]?=some (some i)->i<n
 inj:∀ (j j' i:Nat),owner[j]?=some (some i)->owner[j']?=some (some i)->j=j'
 reach:∀ (i:Nat) (h:Int),i<n->hs[i]?=some h->∃N,N<10 * SetTable.turns mask/\owner[wk mask h N]?=some (some i)/\∀m,m<N->∃i',owner[wk mask h m]?=some (some i')
theorem Own.gap {mask:Nat}{hs:List Int}{n:Nat}{owner:Array (Option Nat)}(o:Own mask hs n owner)(hn:n<=mask):∃j,j<=mask/\owner[j]?=some none:=by
 refine b8 fun hc=>?_
 have all:∀j,j<mask+1->∃i,owner[j]?=some (some i):=fun j hj=>by
  have hlt:j<owner.size:=by rw[o.size];exact hj
  cases e:owner[j] with
  | none=>exact absurd ⟨j,bH hj,by simp_all⟩ hc
  | some i=>exact⟨i,by simp_all⟩
 have hl:=zcC n (l:=(List.range (mask+1)).map fun j=>((owner[j]?).join).getD 0) ?_ ?_
 ·rw[ab,aE] at hl;lia
 ·refine bS.mpr (List.Pairwise.imp_of_mem ?_ eE);intro a b ha hb hab e;refine hab ?_;obtain⟨i,hi⟩:=all a (bf.mp ha);obtain⟨i',hi'⟩:=all b (bf.mp hb);rw[hi,hi'] at e;have:i=i':=e;subst this;exact o.inj _ _ _ hi hi'
 ·intro x hx;obtain⟨j,hj,rfl⟩:=ay.mp hx;obtain⟨i,hi⟩:=all j (bf.mp hj);rw[hi];exact o.lt _ _ hi
theorem Own.step {mask:Nat}{hs:List Int}{n:Nat}{owner:Array (Option Nat)}{h:Int}(o:Own mask hs n owner)(hr:Ring (mask+1))(hn:n<=mask)(hh:hs[n]?=some h) :
  ∃j,SetTable.layClean.free mask owner (SetTable.turns mask) (SetTable.bits h % (mask+1)) (SetTable.bits h)=some j/\Own mask hs (n+1) (owner.setIfInBounds j (some n)):=by
 obtain⟨g,hg,eg⟩:=o.gap hn;have hb:(lp mask h 13).1<mask+1:=ek (znO mask h 13);obtain⟨k,hk,e⟩:=hr.reach hb (ek hg);obtain⟨N,h1,h2,h3,h4,h5⟩:=zc5 o.size (SetTable.turns mask) 0 0 (ai _) (h:=h) rfl (fun m hm=>absurd hm (bV _)) ⟨13+k,aL _,by unfold SetTable.turns;lia,by rw[zhp,e];exact eg⟩;have hj:wk mask h N<owner.size:=by rw[o.size];lia
 have set_at:(owner.setIfInBounds (wk mask h N) (some n))[wk mask h N]?=some (some n):=by simp_all
 have set_ne:∀j,j≠wk mask h N->(owner.setIfInBounds (wk mask h N) (some n))[j]?=owner[j]?:=fun j hne=>by rw[Array.getElem?_setIfInBounds];rw[if_neg (fun z=>hne z.symm)]
 have keep:∀j i,owner[j]?=some (some i)->(owner.setIfInBounds (wk mask h N) (some n))[j]?=some (some i):=fun j i e=>by
  by_cases q:j=wk mask h N
  ·rw[q,h4] at e;cases e
  ·rw[set_ne j q];exact e
 refine⟨wk mask h N,h1,by simp[o.size],fun j i e=>?_,fun j j' i e e'=>?_,fun i h' hi hh'=>?_⟩
 ·by_cases q:j=wk mask h N
  ·simp_all
  ·rw[set_ne j q] at e;have:=o.lt _ _ e;lia
 ·by_cases q:j=wk mask h N
  ·subst q;rw[set_at] at e;cases e;by_cases q':j'=wk mask h N
   ·exact q'.symm
   ·rw[set_ne j' q'] at e';have:=o.lt _ _ e';lia
  ·rw[set_ne j q] at e;by_cases q':j'=wk mask h N
   ·subst q';rw[set_at] at e';cases e';have:=o.lt _ _ e;lia
   ·rw[set_ne j' q'] at e';exact o.inj _ _ _ e e'
 ·by_cases q:i=n
  ·subst q;rw[hh] at hh';cases hh';refine⟨N,by lia,set_at,fun m hm=>?_⟩;obtain⟨i',e⟩:=h5 m hm;exact⟨i',keep _ _ e⟩
  ·obtain⟨M,m1,m2,m3⟩:=o.reach i h' (by lia) hh';refine⟨M,m1,keep _ _ m2,fun m hm=>?_⟩;obtain⟨i',e⟩:=m3 m hm;exact⟨i',keep _ _ e⟩
theorem zjr (mask:Nat)(hs:List Int):Own mask hs 0 (Array.replicate (mask+1) none):=by
 have no:∀j i,(Array.replicate (mask+1) (none:Option Nat))[j]?≠some (some i):=fun j i e=>by
  rw[Array.getElem?_replicate] at e
  grind
 exact⟨by simp,fun j i e=>absurd e (no j i),fun j j' i e=>absurd e (no j i),fun i h hi=>absurd hi (bV _)⟩
theorem ze4 {mask:Nat}(hr:Ring (mask+1)):∀ (yn pre:List Int) (owner:Array (Option Nat)),(pre++yn).length<=mask->Own mask (pre++yn) pre.length owner->
  ∃owner',yn.foldl (fun (acc:Option (Array (Option Nat)×Nat)) h=>acc.bind fun x=>(SetTable.layClean.free mask x.1 (SetTable.turns mask) (SetTable.bits h % (mask+1)) (SetTable.bits h)).bind fun j=>some (x.1.setIfInBounds j (some x.2),x.2+1)) (some (owner,pre.length))=some (owner',(pre++yn).length)/\Own mask (pre++yn) (pre++yn).length owner'
 | [],pre,owner,_,o=>by simp_all
 | h::yn,pre,owner,hl,o=>by
  have hl':pre.length+(yn.length+1)<=mask:=by rw[aD,a8] at hl;exact hl
  obtain⟨j,e,o'⟩:=o.step hr (by lia) (h:=h) (by simp);have e1:pre++h::yn=(pre++[h])++yn:=by rw[bR];rfl
  have e2:pre.length+1=(pre++[h]).length:=by rw[aD];rfl
  rw[e1,e2] at o';obtain⟨owner',f1,f2⟩:=ze4 hr yn (pre++[h]) _ (by rw[<- e1];exact hl) o'
  grind
theorem zdg {mask:Nat}(hr:Ring (mask+1))(hs:Array Int)(hl:hs.size<=mask):∃owner,SetTable.layClean mask hs=some owner/\Own mask hs.toList hs.size owner:=by
 obtain⟨owner,h1,h2⟩:=ze4 hr hs.toList [] (Array.replicate (mask+1) none) (by simp_all) (zjr mask _);rw[List.nil_append,aP] at h2;refine⟨owner,?_,h2⟩;unfold SetTable.layClean
 simp_all
def yQ (mask:Nat)(owner:Array (Option Nat)):List (Nat×Nat):=(List.range (mask+1)).filterMap fun j=>(owner.getD j none).map (j,·)
theorem xb {mask:Nat}{hs:List Int}{n:Nat}{owner:Array (Option Nat)}(o:Own mask hs n owner){j i:Nat}:(j,i)∈yQ mask owner↔owner[j]?=some (some i):=by
 unfold yQ;rw[cz];constructor
 ·rintro⟨j',hj',e⟩;obtain⟨i',e1,e2⟩:=ax.mp e;cases e2;have hlt:j<owner.size:=by rw[o.size];exact bf.mp hj'
  simp_all
 ·intro e;obtain⟨hlt,e1⟩:=bW.mp e;refine⟨j,bf.mpr (by rw[<- o.size];exact hlt),?_⟩
  simp_all
theorem zhn (mask:Nat)(owner:Array (Option Nat)):(yQ mask owner).Pairwise fun a b=>a.1<b.1:=by
 unfold yQ;refine List.pairwise_filterMap.mpr ((List.pairwise_lt_range).imp ?_)
 simp_all
theorem zhm {mask:Nat}{hs:List Int}{owner:Array (Option Nat)}(o:Own mask hs hs.length owner):((yQ mask owner).map (·.2)).Perm (List.range hs.length):=by
 refine zaa ?_ eE fun i=>?_
 ·refine bS.mpr (List.Pairwise.imp_of_mem ?_ (zhn mask owner));intro a b ha hb hab e;have h1:=(xb o).mp ha;have h2:=(xb o).mp hb;rw[e] at h1;have:=o.inj _ _ _ h1 h2;lia
 ·rw[bf];constructor
  ·intro h;obtain⟨⟨j,i'⟩,h1,rfl⟩:=ay.mp h;exact o.lt _ _ ((xb o).mp h1)
  ·intro h;obtain⟨N,_,e,_⟩:=o.reach i hs[i] h (aq h);exact ay.mpr ⟨(_,i),(xb o).mpr e,rfl⟩
theorem zbC {α:Type}(l:List α):(List.range l.length).filterMap (fun i=>l[i]?)=l:=by
 have:∀ (n:Nat) (l:List α),n=l.length->(List.range n).filterMap (fun i=>l[i]?)=l:=by
  intro n
  induction n with
  | zero=>intro l h;cases l with | nil=>rfl | cons _ _=>simp at h
  | succ n ih=>
   intro l h
   cases l with
   | nil=>simp at h
   | cons a l=>
    rw[List.range_succ_eq_map,cg];show a::_=_;rw[List.filterMap_map];congr 1;exact ih l (by simpa using h)
 exact this _ l rfl
section
variable {α:Type}{w:World}{hs:α->Int}{vl:α->Value}{t:SetTable}{es:Array (Int×Value)}{xs:List α}
theorem TbG.laid (T:TbG w hs vl t es xs){mask:Nat}(hm:xc mask)(hl:xs.length<=mask)(finger moves:Nat) :
  ∃t' order xs',SetTable.laid mask finger moves t.led true (es.map (·.1))=some (t',order)/\(order.filterMap (es[·]?)).size=es.size/\TbG w hs vl t' (order.filterMap (es[·]?)) xs'/\xs'.Perm xs/\t'.mask=mask/\order.toList.Perm (List.range es.size):=by
 obtain⟨owner,e,o⟩:=zdg hm.ring (es.map (·.1)) (by rw[Array.size_map,T.size];exact hl)
 have hh:(es.map (·.1)).toList=xs.map fun q=>hs q:=by rw[Array.toList_map,T.eq,az];rfl
 have hsz:(es.map (·.1)).size=xs.length:=by rw[Array.size_map,T.size]
 rw[hh,hsz] at o;have o':Own mask (xs.map fun q=>hs q) (xs.map fun q=>hs q).length owner:=by rw[ab];exact o
 have hp:=zhm o';rw[ab] at hp
 have hes:((((yQ mask owner).map (·.2)).toArray).filterMap (es[·]?)).toList=((yQ mask owner).map (·.2)).filterMap (es.toList[·]?):=by simp_all
 have hxp:(((yQ mask owner).map (·.2)).filterMap (xs[·]?)).Perm xs:=by have:=hp.filterMap (xs[·]?);rw[zbC] at this;exact this
 have heq:((yQ mask owner).map (·.2)).filterMap (es.toList[·]?)=(((yQ mask owner).map (·.2)).filterMap (xs[·]?)).map fun q=>(hs q,vl q):=by rw[List.map_filterMap];congr 1;funext i;rw[T.eq,aA]
 have hgetx:∀ {c:Nat} {q:α},(((yQ mask owner).map (·.2)).filterMap (xs[·]?))[c]?=some q->∃j i,(yQ mask owner)[c]?=some (j,i)/\xs[i]?=some q:=by
  have gen:∀ (l:List (Nat×Nat)),(∀p∈l,p.2<xs.length)->∀ {c:Nat} {q:α},((l.map (·.2)).filterMap (xs[·]?))[c]?=some q->∃j i,l[c]?=some (j,i)/\xs[i]?=some q:=by
   intro l
   induction l with
   | nil=>intro _ c q h;simp at h
   | cons p l ih=>
    intro hlt c q h;have hp2:=hlt p aj;rw[av,cg,aq hp2] at h
    cases c with
    | zero=>
     refine⟨p.1,p.2,rfl,?_⟩
     simp_all
    | succ c=>exact ih (fun p' hp'=>hlt p' (ak _ hp')) (by simpa using h)
  intro c q h;refine gen _ (fun p hp=>?_) h;obtain⟨j,i⟩:=p;exact o.lt _ _ ((xb o).mp hp)
 have hplace:∀ {c j i:Nat},(yQ mask owner)[c]?=some (j,i)->(((yQ mask owner).map (·.1)).toArray)[c]?=some j:=fun {c j i} h=>by simp_all
 refine⟨_,_,((yQ mask owner).map (·.2)).filterMap (xs[·]?),by unfold SetTable.laid;rw[e];rfl,?_,⟨?_,rfl,?_,?_,?_,hm,?_,rfl,by exact T.led,?_⟩,hxp,rfl,by rw[T.size];exact hp⟩
 ·show ((((yQ mask owner).map (·.2)).toArray).filterMap (es[·]?)).size=es.size;rw[<- aP,hes,heq,ab,hxp.length_eq,T.size]
 ·exact hes.trans heq
 ·intro i j hij hj
  have hj':j<(yQ mask owner).length:=by
   have:(((yQ mask owner).map (·.1)).toArray).size=(yQ mask owner).length:=by simp
   rw[<- this];exact hj
  have hi':i<(yQ mask owner).length:=eK hij hj';have:=b7.mp (zhn mask owner) i j hi' hj' hij;show (((yQ mask owner).map (·.1)).toArray).getD i 0<(((yQ mask owner).map (·.1)).toArray).getD j 0
  simp_all
 ·intro c j hc;have hc':((yQ mask owner).map (·.1))[c]?=some j:=by rw[za2] at hc;exact hc
  rw[aA] at hc';obtain⟨⟨j',i'⟩,h1,rfl⟩:=ax.mp hc';have h2:=(xb o).mp (aw h1);have:=(bW.mp h2).1;rw[o.size] at this;show j'<=mask;lia
 ·show (((yQ mask owner).map (·.1)).toArray).size=_;have h1:(((yQ mask owner).map (·.1)).toArray).size=(yQ mask owner).length:=by simp
  rw[h1,hxp.length_eq];have:=hp.length_eq
  grind
 ·rw[hxp.length_eq];exact hl
 ·intro c q hq;obtain⟨j,i,h1,h2⟩:=hgetx hq;have hi:=(af.mp h2).1;obtain⟨N,n1,n2,n3⟩:=o.reach i (hs q) hi (by simp_all);have hj:=o.inj _ _ _ ((xb o).mp (aw h1)) n2;subst hj;refine⟨N,n1,hplace h1,fun m hm'=>?_⟩;obtain⟨i',e'⟩:=n3 m hm';obtain⟨c',hc',ec'⟩:=bO.mp ((xb o).mpr e');exact⟨c',hplace (by rw[aq hc',ec'])⟩
end
section
variable {prog:Program}{w:World}{t:SetTable}{es:Array (Int×Value)}{xs:List (List Key×Addr)}
theorem Tb.laid (T:Tb prog w t es xs){mask:Nat}(hm:xc mask)(hl:xs.length<=mask)(finger moves:Nat) :
  ∃t' order xs',SetTable.laid mask finger moves t.led true (es.map (·.1))=some (t',order)/\(order.filterMap (es[·]?)).size=es.size/\Tb prog w t' (order.filterMap (es[·]?)) xs'/\xs'.Perm xs/\t'.mask=mask:=by
 obtain⟨t',order,xs',a,b,c,d,e,_⟩:=T.toTbG.laid hm hl finger moves;exact⟨t',order,xs',a,b,⟨c,by rw[(d.map (·.1)).nodup_iff];exact T.nd⟩,d,e⟩
end
section
variable {prog:Program}{w:World}{t:SetTable}{es:Array (Int×Value)}{xs:List (List Key×Addr)}{A:Around}{E:Value->Shared->Prop}{s:Shared}
def za0 (prog:Program)(w:World)(h:Heap)(a:Addr)(xs:List (List Key×Addr)):Prop:=∃o es ep t,h.get? a=some o/\o.ExactSet/\o.data = .set es ep t/\Tb prog w t es xs/\xs.length * 5<t.mask * 3
theorem zaK {ns:List Int}{b:Addr}{Q:Bool->Shared->Prop}(hk:(tk prog w).is s.heap (ns.map Sum.inl) b)(h:Q true s):wpAny (model prog w) A (hashByValue 8 (.ref b)) Q E s:=by
 have hk':IsTupleKey (zr prog w) s.heap (ns.map Sum.inl) b:=hk;have hT:=hk'.typeIs;obtain⟨o,items,n,ho,_,hd,hi⟩:=hk'
 have hints:∀ {ns:List Int} {vs:List Value},ItemsAre (zr prog w) (ns.map Sum.inl) vs->∀v∈vs,∃i t,v=Value.int i t:=by
  intro ns
  induction ns with
  | nil=>intro vs h v hv;cases h;simp at hv
  | cons n ns ih=>
   intro vs h v hv
   cases h with
   | cons h1 h2=>
    rcases aI.mp hv with rfl | hv
    ·have h1':zdd (Sum.inl n) v=true:=h1;rcases zI h1' with ⟨i,t,_,e⟩ | ⟨x,t,z,_⟩
     all_goals simp_all
    ·exact ih h2 v hv
 unfold hashByValue;refine aa (wpAny_specialOf hT F.slot_tuple_hash.lookup ?_);dsimp only;refine aa (wpAny_seqItems ho hd ?_);refine aa ?_;show wpAny _ _ (forIn items _ _) _ _ s;rw[<- Array.forIn_toList];refine eF _ (fun yn r s'=>r.1=none/\s'=s/\∀v∈yn,∃i t,v=Value.int i t) _ ?_ ?_ _ _ ⟨rfl,rfl,hints hi⟩
 ·rintro v yn r s' ⟨hr,rfl,hall⟩;obtain⟨i,t,rfl⟩:=hall v aj;have e:hashByValue 7 (Value.int i t)=pure true:=rfl;rw[e];refine aa (ae ?_);simp only[eA,aJ,if_false];exact ae ⟨rfl,rfl,fun u hu'=>hall u (ak _ hu')⟩
 ·rintro⟨r1,r2⟩ s' ⟨hr,rfl,_⟩;simp only at hr;subst hr;exact ae h
theorem uk {h:Heap}{a:Addr}{o:Obj}{es:Array (Int×Value)}{ep:Nat}{t:SetTable}{es':Array (Int×Value)}{t':SetTable}(ho:h.get? a=some o)(hd:o.data = .set es ep t) :
  (h.update a (Obj.putSet es' t')).get? a=some { o with data:=.set es' (ep+1) t' }:=by
 have:=cF (Obj.putSet es' t') ho (by rw[putSet_of es' t' hd];rfl);rw[putSet_of es' t' hd] at this;exact this
theorem zjQ {a:Addr}{o:Obj}{ep wanted mask:Nat}{Q:Unit->Shared->Prop}(T:Tb prog w t es xs)(ho:s.heap.get? a=some o)(hx:o.ExactSet)(hd:o.data = .set es ep t)(hw:SetTable.sizeAbove wanted=mask+1)(hm:xc mask)(hl:xs.length * 5<mask * 3)
  (h:∀h' xs',Heap.SameBut a s.heap h'->za0 prog w h' a xs'->xs'.Perm xs->Q () { s with heap:=h' }):wpAny (model prog w) A (setRelay a wanted) Q E s:=by
 unfold setRelay;refine aa (bd ho hd T.fits ?_);dsimp only;have:=hm.le;rw[if_neg (by rw[hw,bm];lia)];obtain⟨t',order,xs',e,hsz,T',hp,hmk⟩:=T.laid hm (by lia) t.finger (t.movedTo mask)
 have e':t.relaid (es.map (·.1)) wanted=some (t',order):=by unfold SetTable.relaid;rw[hw,T.plain];exact e
 have core:∀ {R:Array (Int×Value)×SetTable->Shared->Prop},R (order.filterMap (es[·]?),t') s->wpAny (model prog w) A (do
   let some (t,order):=t.relaid (es.map (·.1)) wanted | unsupported "internal:set-table-without-room"
   let es':=order.filterMap (es[·]?)
   if es'.size != es.size then unsupported "internal:set-table-lost-an-element"
   pure (es',t)) R E s:=fun {R} hR=>by
  rw[e'];dsimp only;rw[hsz];simp only[bne_self_eq_false,aJ,if_false]
  first | exact ae hR | exact aa (by grind)
 refine aa (core ?_);refine dv ho hd ?_ (by rw[hsz,T.size,bm];lia);refine h _ xs' (bh _ a _) ⟨_,_,_,t',uk ho hd,hx,rfl,T',?_⟩ hp;rw[hp.length_eq,hmk];exact hl
theorem Tb.out (T:Tb prog w t es xs){k:List Key}{N:Nat}(hN:N<10 * SetTable.turns t.mask)(he:∀i:Nat,t.place[i]?≠some (wk t.mask ((tk prog w).hash k) N))(hp:zcY t xs ((tk prog w).hash k) k N):k∉xs.map (·.1):=fun z=>by
 obtain⟨q,hq,hqk⟩:=ay.mp z;obtain⟨i,hi⟩:=List.mem_iff_getElem?.mp hq;obtain⟨n,h1,h2,h3⟩:=T.reach i q hi;rw[hqk] at h2 h3;rcases bQ N n with z | z | z
 ·obtain⟨i',e⟩:=h3 N z;exact he i' e
 ·simp_all
 ·obtain⟨i',q',e1,e2,e3⟩:=hp n z
  have:i'=i:=by
   have a1:=zae T.ris e1;have a2:=zae T.ris h2
   simp_all
  grind
theorem zm8 {a b:Addr}{ns:List Int}{Q:Bool->Shared->Prop}(hu:A.units<cLine)(S:za0 prog w s.heap a xs)(hk:(tk prog w).is s.heap (ns.map Sum.inl) b)(hel:∀q∈xs,(tk prog w).is s.heap q.1 q.2)(hn:xs.length<300)
  (h:∀r h' n xs',Heap.SameBut a s.heap h'->za0 prog w h' a xs'->((ns.map Sum.inl)∈xs.map (·.1)->xs'=xs)->((ns.map Sum.inl)∉xs.map (·.1)->xs'.Perm ((ns.map Sum.inl,b)::xs))->Q r { s with heap:=h',toks:=n }) :
  wpAny (model prog w) A (setAdd a (.ref b)) Q E s:=by
 obtain⟨o,es,ep,t,ho,hx,hd,T,hroom⟩:=S;unfold setAdd;refine bI (aa ((tk prog w).pyHash hu hk ?_));unfold setAddHashed;refine bI ?_;rw[show (100000:Nat)=99999+1 from rfl];unfold setAddHashedIn;refine aa (bd (s:={ s with toks:=s.toks+(tk prog w).draws (ns.map Sum.inl) }) ho hd T.fits ?_);dsimp only;rw[show byScan (.ref b) es=false from rfl];simp only[aJ,if_false];unfold setSearch;have hm:=T.msk.le;have htl:t.fill=xs.length:=by unfold SetTable.fill;rw[T.sz,T.dm];rfl
 refine aa (zdD (s:={ s with toks:=s.toks+(tk prog w).draws (ns.map Sum.inl) }) hu T hk hel ho hd ?found ?free 100000 0 none rfl (by unfold SetTable.turns;lia) (aL _) (fun m hm=>absurd hm (bV _)))
 case found=>
  intro r i q hq hqk _;dsimp only;have hmem:(ns.map Sum.inl)∈xs.map (·.1):=ay.mpr ⟨q,aw hq,hqk⟩;exact ae (h false s.heap _ xs (Heap.SameBut.refl a s.heap) ⟨o,es,ep,t,ho,hx,hd,T,hroom⟩ (fun _=>rfl) (fun z=>absurd hmem z))
 case free=>
  intro N hN he hp;have hnm:=T.out hN he hp;dsimp only;refine aa (bd (s:={ s with toks:=s.toks+(tk prog w).draws (ns.map Sum.inl) }) ho hd T.fits ?_);dsimp only
  have hwle:wk t.mask ((tk prog w).hash (ns.map Sum.inl)) N<=t.mask:=by
   have:∀ (h:Int) (n:Nat),wk t.mask h n<=t.mask/\(stp t.mask h n).j+(stp t.mask h n).more<=t.mask:=by
    intro h n
    induction n with
    | zero=>
     have h0:SetTable.bits h % (t.mask+1)<=t.mask:=bH (du _ (cW _));obtain⟨r1,r2⟩:=ub h0;refine⟨h0,?_⟩;show SetTable.bits h % (t.mask+1)+(SetTable.runEnd t.mask (SetTable.bits h % (t.mask+1)) - SetTable.bits h % (t.mask+1))<=t.mask;lia
    | succ n ih=>
     show ((tm t.mask).advance (stp t.mask h n)).j<=t.mask/\((tm t.mask).advance (stp t.mask h n)).j+((tm t.mask).advance (stp t.mask h n)).more<=t.mask;by_cases hmr:0<(stp t.mask h n).more
     ·rw[zci _ _ hmr]
      grind
     ·rw[zaR _ _ (by lia)];have h0:((stp t.mask h n).i * 5+1+(stp t.mask h n).perturb / 32) % (t.mask+1)<=t.mask:=bH (du _ (cW _));obtain⟨r1,r2⟩:=ub h0
      grind
   exact (this _ _).1
  obtain⟨xs1,T1,hp1⟩:=T.put (b:=b) hN he hp hnm (by lia) hwle;generalize hput:t.put (wk t.mask ((tk prog w).hash (ns.map Sum.inl)) N)=tp at T1;obtain⟨t1,p⟩:=tp;dsimp only at T1 ⊢
  have hmk:t1.mask=t.mask:=by
   have:t1=(t.put (wk t.mask ((tk prog w).hash (ns.map Sum.inl)) N)).1:=by rw[hput]
   rw[this];rfl
  rw[T1.plain];simp only[if_true];refine aa (zaK (s:={ s with toks:=s.toks+(tk prog w).draws (ns.map Sum.inl) }) hk ?_);simp only[if_true];have hl1:=hp1.length_eq;rw[a8] at hl1;refine aa (dv (s:={ s with toks:=s.toks+(tk prog w).draws (ns.map Sum.inl) }) ho hd ?_ (by rw[T1.size,bm];lia));have g1:=uk (es':=SetTable.insertAt es p ((tk prog w).hash (ns.map Sum.inl),.ref b)) (t':=t1) ho hd;have sb1:=bh s.heap a (Obj.putSet (SetTable.insertAt es p ((tk prog w).hash (ns.map Sum.inl),.ref b)) t1);simp only[Bool.not_false,dH];have htl1:t1.fill=xs.length+1:=by unfold SetTable.fill;rw[T1.sz,T1.dm,hl1];rfl
  by_cases hf:t1.tooFull=true
  ·rw[if_pos hf];unfold SetTable.tooFull at hf;rw[htl1,hmk] at hf;have hf':=bw hf;rw[T.size]
   have next:∃mask,SetTable.sizeAbove (SetTable.grown (xs.length+1))=mask+1/\xc mask/\(xs.length+1) * 5<mask * 3:=by
    rcases T.msk with e | e | e | e
    ·rw[e] at hf' hroom;have:xs.length=4:=by lia
     rw[this];exact⟨31,by decide,.inr (.inl rfl),by lia⟩
    ·rw[e] at hf' hroom;have:xs.length=18:=by lia
     rw[this];exact⟨127,by decide,.inr (.inr (.inl rfl)),by lia⟩
    ·rw[e] at hf' hroom;have:xs.length=76:=by lia
     rw[this];exact⟨511,by decide,.inr (.inr (.inr rfl)),by lia⟩
    ·rw[e] at hf' hroom;lia
   obtain⟨mask,m1,m2,m3⟩:=next;refine aa (zjQ (s:={ s with heap:=s.heap.update a (Obj.putSet (SetTable.insertAt es p ((tk prog w).hash (ns.map Sum.inl),.ref b)) t1),toks:=s.toks+(tk prog w).draws (ns.map Sum.inl) }) T1 g1 hx rfl m1 m2 (by rw[hl1];exact m3) fun h' xs2 sb2 S2 hp2=>?_);exact ae (h true h' _ xs2 (sb1.trans sb2) S2 (fun z=>absurd z hnm) fun _=>hp2.trans hp1)
  ·rw[if_neg hf];unfold SetTable.tooFull at hf;rw[htl1,hmk] at hf;have hf':¬ ((xs.length+1) * 5 ≥ t.mask * 3):=fun z=>hf (aK z);refine ae (h true _ _ xs1 sb1 ⟨_,_,_,t1,g1,hx,rfl,T1,?_⟩ (fun z=>absurd z hnm) fun _=>hp1)
   simp_all
end
open PySem PySem.Spec PyProof.Rows PySem.W
theorem zH:Slot "set_iterator" "__next__" "set_iterator.__next__" :=
 .of (owner := "set_iterator") (n := "__next__") (by rw[typeLookup_type,builtinLookup_eq_fast];kernel_rfl) (by decide +kernel) (by decide +kernel) (by decide +kernel)
  (by first | exact .inl (by decide +kernel) | exact .inr (by decide +kernel)) (by rw[isSubtype_type];kernel_rfl)
theorem xw:Slot "set_iterator" "__iter__" "set_iterator.__iter__" :=
 .of (owner := "set_iterator") (n := "__iter__") (by rw[typeLookup_type,builtinLookup_eq_fast];kernel_rfl) (by decide +kernel) (by decide +kernel) (by decide +kernel)
  (by first | exact .inl (by decide +kernel) | exact .inr (by decide +kernel)) (by rw[isSubtype_type];kernel_rfl)
theorem xa:entryFor table "set_iterator.__next__" = some Builtin.«set_iterator.__next__»:=entryFor_of_tree (by kernel_rfl)
theorem uV:entryFor table "set_iterator.__iter__" = some Builtin.«dict_keyiterator.__iter__»:=entryFor_alias (id' := "dict_keyiterator.__iter__") (by kernel_rfl) rfl (by decide +kernel) (by kernel_rfl)
theorem zbS:entryFor table "set.__iter__" = some Builtin.«frozenset.__iter__»:=entryFor_alias (id' := "frozenset.__iter__") (by kernel_rfl) rfl (by decide +kernel) (by kernel_rfl)
theorem xn (a:Value):argsOk "set_iterator.__next__" ⟨[a],[]⟩:=by unfold argsOk;kernel_rfl
theorem zah (a:Value):argsOk "set_iterator.__iter__" ⟨[a],[]⟩:=by unfold argsOk;kernel_rfl
theorem zgR {α:Type}(next:Nat->Nat):∀ (n k:Nat) (left:List α) (out:Array α),left.length=n->(pickOrder.go next n k left out).toList.Perm (out.toList++left)
 | 0,k,left,out,h=>by
  have:left=[]:=dD h;subst this;show out.toList.Perm (out.toList++[])
  simp_all
 | n+1,k,left,out,h=>by
  have hlt:next k % left.length<left.length:=du _ (by lia)
  show (match left[next k % left.length]? with
   | some x=>pickOrder.go next n (k+1) (left.eraseIdx (next k % left.length)) (out.push x)
   | none=>out).toList.Perm _
  rw[aq hlt];refine (zgR next n (k+1) _ _ (by grind)).trans ?_;rw[Array.toList_push,bR];refine List.Perm.append_left _ ?_
  have e:left=left.take (next k % left.length)++left[next k % left.length]::left.drop (next k % left.length+1):=by simp_all
  rw[List.eraseIdx_eq_take_drop_succ];refine List.Perm.trans ?_ (List.Perm.of_eq e.symm);rw[List.singleton_append];exact List.perm_middle.symm
theorem zdz {α:Type}(next:Nat->Nat)(xs:Array α):(pickOrder next xs).toList.Perm xs.toList:=by
 show (pickOrder.go next xs.size 0 xs.toList #[]).toList.Perm _;have:=zgR next xs.size 0 xs.toList #[] (aP)
 grind
section
variable {prog:Program}{w:World}{t:SetTable}{es:Array (Int×Value)}{xs:List (List Key×Addr)}{A:Around}{E:Value->Shared->Prop}{s:Shared}
def zjq (w:World)(a:Addr)(ep:Nat)(es:Array (Int×Value)):Array (Int×Value):=if w.params.followText "set-order" then pickOrder (w.params.setOrder a ep) es else es
theorem zby (a:Addr)(ep:Nat):(zjq w a ep es).toList.Perm es.toList:=by
 unfold zjq;split
 ·exact zdz _ _
 ·simp_all
def yd (h:Heap)(it a:Addr)(slot i n ep:Nat):Prop:=∃o,h.get? it=some o/\o.cls = .type "set_iterator" /\ o.data = .fields #[.int slot 0,.int i 0,.ref a,.int n 0,.int ep 0]
theorem yd.typeIs {it a:Addr}{slot i n ep:Nat}(x:yd s.heap it a slot i n ep):s.TypeIs (.ref it) "set_iterator" := let ⟨o,ho,hc,_⟩:=x;⟨o,ho,hc⟩
structure Tq (w:World)(t:SetTable)(n:Nat):Prop where
 fits:t.fits n=true
 sz:t.place.size=n
 plain:t.plain=true
 led:t.led = !w.params.followText "set-order"
 ris:Ris t.place
theorem TbG.q {α:Type}{hs:α->Int}{vl:α->Value}{xs:List α}(T:TbG w hs vl t es xs):Tq w t es.size:=⟨T.fits,by rw[T.sz,T.size],T.plain,T.led,T.ris⟩
structure SetIs (w:World)(h:Heap)(a:Addr)(es:Array (Int×Value))(ep:Nat)(t:SetTable):Prop where
 ob:∃o,h.get? a=some o/\o.ExactSet/\o.data = .set es ep t
 tb:Tq w t es.size
theorem zhB {it a:Addr}{slot i ep:Nat}{e:Int×Value}{Q:Option Value->Shared->Prop}(hit:yd s.heap it a slot i es.size ep)(S:SetIs w s.heap a es ep t)
  (hs:w.params.followText "set-order" = true\/SetTable.below t.place slot=i) (hx:(zjq w a ep es)[i]?=some e)
  (hQ:∀h' slot',yd h' it a slot' (i+1) es.size ep->(w.params.followText "set-order" = true\/SetTable.below t.place slot'=i+1)->Heap.SameBut it s.heap h'->Q (some e.2) { s with heap:=h' }):wpAny (model prog w) A (pyNext (.ref it)) Q E s:=by
 obtain⟨o,ho,hc,hd⟩:=id hit;obtain⟨⟨os,hos,_,hds⟩,T⟩:=S;have hf:=T.fits;unfold pyNext
 refine aa (dJ (wpAny_callSpecial?_slot (name:=Str.ofString "__next__") hit.typeIs zH
  (a6 zH hit.typeIs xa ?_ (xn _))))
 refine aa (ae ?_);refine aa (ee ho hd ?_);dsimp only;refine aa (dQ hos hds hf ?_);rw[if_neg (by simp)]
 have upd2:∀slot':Nat,∃h',yd h' it a slot' (i+1) es.size ep/\Heap.SameBut it s.heap h'/\∀ {A':Around} {E':Value->Shared->Prop} {α:Type} {f:Sem α} {R:α->Shared->Prop},wpAny (model prog w) A' f R E' { s with heap:=h' }->wpAny (model prog w) A' (do setField (.ref it) 0 (rawInt slot');setField (.ref it) 1 (rawInt ((i:Int)+1));f) R E' s:=by
  intro slot';have h1:(s.heap.update it (Obj.mapFields (·.setIfInBounds 0 (rawInt slot')))).get? it=some (Obj.mapFields (·.setIfInBounds 0 (rawInt slot')) o):=cF _ ho (dw (b5 hd _));have hd1:(Obj.mapFields (·.setIfInBounds 0 (rawInt slot')) o).data = .fields #[.int slot' 0,.int i 0,.ref a,.int es.size 0,.int ep 0]:=by rw[b5 hd];simp[rawInt]
  refine⟨(s.heap.update it (Obj.mapFields (·.setIfInBounds 0 (rawInt slot')))).update it (Obj.mapFields (·.setIfInBounds 1 (rawInt ((i:Int)+1)))),⟨_,cF _ h1 (dw (b5 hd1 _)),?_,?_⟩,(bh ..).trans (bh ..),fun {A' E' α f R} hR=>?_⟩
  ·rw[el,el];exact hc
  ·rw[b5 hd1];simp[rawInt]
  ·exact aa (cK ho hd (by simp) (aa (cK (s:={ s with heap:=s.heap.update it (Obj.mapFields (·.setIfInBounds 0 (rawInt slot'))) }) h1 hd1 (by simp) hR)))
 unfold setNext
 cases hb:w.params.followText "set-order" with
 | true=>
  have hx':(pickOrder (w.params.setOrder a ep) es)[i]?=some e:=by
   unfold zjq at hx
   simp_all
  obtain⟨h',hi',sb',step⟩:=upd2 slot;refine aa ?_;refine aa (bd hos hds hf ?_);dsimp only;unfold setsByText;refine aa (aa (bu (ae ?_)));rw[show (model prog w).w=w from rfl,hb];simp only[if_true];rw[if_neg (by simp)];unfold setWalk;refine aa ?_;refine aa (bd hos hds hf ?_);dsimp only;unfold setsByText;refine aa (aa (bu (ae ?_)));rw[show (model prog w).w=w from rfl,hb];simp only[if_true];refine aa (bu (ae ?_));refine ae ?_;rw[show (model prog w).w=w from rfl];simp only[bv];rw[hx'];dsimp only[Option.map];exact step (ae ⟨_,rfl,ae (hQ h' slot hi' (.inl hb) sb')⟩)
 | false=>
  have hx':es[i]?=some e:=by
   unfold zjq at hx
   grind
  have hsl:SetTable.below t.place slot=i:=by grind
  have hi:i<es.size:=(bW.mp hx').1;have hpl:t.place[i]?=some (t.place.getD i 0):=zd6 (by rw[T.sz];exact hi);obtain⟨h',hi',sb',step⟩:=upd2 (t.place.getD i 0+1);refine aa ?_;refine aa (bd hos hds hf ?_);dsimp only;unfold setsByText;refine aa (aa (bu (ae ?_)));rw[show (model prog w).w=w from rfl,hb];simp only[aJ,if_false];rw[if_neg (by show ¬ ((!t.plain&&decide (es.size > 1))=true);rw[T.plain];simp)];refine aa ?_;show wpAny _ _ (if (!t.led&&!es.isEmpty)=true then unsupported "set:maker-not-led" else pure ()) _ _ s;rw[if_neg (by rw[T.led,hb];simp)];refine ae ?_;simp only[bv];rw[hsl,hx',hpl];refine ae ?_;dsimp only;refine step (ae ⟨_,rfl,ae (hQ h' _ hi' (.inr ?_) sb')⟩);obtain⟨b1,b2,b3⟩:=xo T.ris (t.place.getD i 0+1);have hi2:=(xi hpl).1;rcases bQ (SetTable.below t.place (t.place.getD i 0+1)) (i+1) with z | z | z
  ·have:=b3 i (by lia) hi2;lia
  ·exact z
  ·have h1:=b2 (i+1) z;have h2:=T.ris i (i+1) (Nat.lt_succ_self i) (by lia);lia
theorem zjm {it a:Addr}{slot ep:Nat}{Q:Option Value->Shared->Prop}(hh:A.handled=none)(hit:yd s.heap it a slot es.size es.size ep)(S:SetIs w s.heap a es ep t)
  (hs:w.params.followText "set-order" = true\/SetTable.below t.place slot=es.size)
  (hQ:∀h',Heap.ExtBut it s.heap h'->Q none { s with heap:=h' }):wpAny (model prog w) A (pyNext (.ref it)) Q E s:=by
 obtain⟨o,ho,hc,hd⟩:=id hit;obtain⟨⟨os,hos,_,hds⟩,T⟩:=S;have hf:=T.fits;unfold pyNext
 refine aa (dJ (wpAny_callSpecial?_slot (name:=Str.ofString "__next__") hit.typeIs zH
  (a6 zH hit.typeIs xa ?_ (xn _))))
 refine aa (ae ?_);refine aa (ee ho hd ?_);dsimp only;refine aa (dQ hos hds hf ?_);rw[if_neg (by simp)];unfold setNext;refine aa ?_;refine aa (bd hos hds hf ?_);dsimp only;unfold setsByText;refine aa (aa (bu (ae ?_)))
 cases hb:w.params.followText "set-order" with
 | true=>
  rw[show (model prog w).w=w from rfl,hb];simp only[if_true];rw[if_neg (by simp)];unfold setWalk;refine aa ?_;refine aa (bd hos hds hf ?_);dsimp only;unfold setsByText;refine aa (aa (bu (ae ?_)));rw[show (model prog w).w=w from rfl,hb];simp only[if_true];refine aa (bu (ae ?_));refine ae ?_;rw[show (model prog w).w=w from rfl];simp only[bv]
  have hn:(pickOrder (w.params.setOrder a ep) es)[es.size]?=none:=by rw[za2];refine List.getElem?_eq_none ?_;rw[(zdz _ es).length_eq,aP];exact ai _
  rw[hn];dsimp only[Option.map];refine aa (cK ho hd (by simp) ?_);show wpAny _ _ (newExc (.type "StopIteration") [] >>= _) _ _ _;refine aa ?_;simp only[newExc,newTuple];refine aa (bc ?_ (by size_fits));refine aa (m:=firstArgMember _ _) (wpAny_of_eq (a:=Value.none) (by first | rfl | (simp only[firstArgMember];rfl)) ?_);refine bc ?_ (by size_fits);simp only[raiseNew];refine aa (wpAny_handled ?_);rw[show A.in1.handled=none from hh];refine aa (ae (wpAny_throw ?_));refine aa (cP (T := "StopIteration") (b:=true) ⟨_,aB _ rfl,rfl⟩ eh ?_);exact ae (hQ _ (((bh ..).extBut.push _).push _))
 | false=>
  have hsl:SetTable.below t.place slot=es.size:=by grind
  rw[show (model prog w).w=w from rfl,hb];simp only[aJ,if_false];rw[if_neg (by show ¬ ((!t.plain&&decide (es.size > 1))=true);rw[T.plain];simp)];refine aa ?_;show wpAny _ _ (if (!t.led&&!es.isEmpty)=true then unsupported "set:maker-not-led" else pure ()) _ _ s;rw[if_neg (by rw[T.led,hb];simp)];refine ae ?_;simp only[bv];rw[hsl,Array.getElem?_eq_none (ai _)];refine ae ?_;dsimp only;refine aa (cK ho hd (by simp) ?_);show wpAny _ _ (newExc (.type "StopIteration") [] >>= _) _ _ _;refine aa ?_;simp only[newExc,newTuple];refine aa (bc ?_ (by size_fits));refine aa (m:=firstArgMember _ _) (wpAny_of_eq (a:=Value.none) (by first | rfl | (simp only[firstArgMember];rfl)) ?_);refine bc ?_ (by size_fits);simp only[raiseNew];refine aa (wpAny_handled ?_);rw[show A.in1.handled=none from hh];refine aa (ae (wpAny_throw ?_));refine aa (cP (T := "StopIteration") (b:=true) ⟨_,aB _ rfl,rfl⟩ eh ?_);exact ae (hQ _ (((bh ..).extBut.push _).push _))
theorem zg5 {it a:Addr}{slot i n ep:Nat}{Q:Value->Shared->Prop}(hit:yd s.heap it a slot i n ep)(h:Q (.ref it) s):wpAny (model prog w) A (pyIter (.ref it)) Q E s:=by refine en hit.typeIs xw (a6 xw hit.typeIs uV ?_ (zah _));show wpAny _ _ (ret (.ref it)) _ _ s;exact ae ⟨_,rfl,"set_iterator",_,hit.typeIs,zH.lookup,h⟩
theorem SetIs.typeIs {a:Addr}{ep:Nat}(S:SetIs w s.heap a es ep t):s.TypeIs (.ref a) "set" := let ⟨o,ho,hc,_⟩:=S.ob;⟨o,ho,hc.1⟩
theorem zi4 {a:Addr}{ep:Nat}{Q:Value->Shared->Prop}(S:SetIs w s.heap a es ep t)
  (h:Q (.ref s.heap.objs.size) { s with heap:=s.heap.push { cls:=.type "set_iterator",data:=.fields #[.int 0 0,.int 0 0,.ref a,.int es.size 0,.int ep 0] } }):wpAny (model prog w) A (pyIter (.ref a)) Q E s:=by
 have hT:=S.typeIs;obtain⟨⟨os,hos,hx,hds⟩,T⟩:=S;have hf:=T.fits;refine en hT F.slot_set_iter (a6 F.slot_set_iter hT zbS ?_ (F.args_set_iter_1 _));unfold Builtin.«frozenset.__iter__»;refine aa (m:=Builtin.Frozenset.slot0 "__iter__" ⟨[.ref a],[]⟩) (ae ?_);refine aa ?_;unfold Builtin.Frozenset.sizeOf;refine aa (dQ hos hds hf (ae ?_));refine aa ?_;unfold setDrawn;refine aa (bd hos hds hf ?_);dsimp only;unfold setsByText;refine aa (aa (bu (ae ?_)));refine ae ?_;rw[if_neg (by show ¬ ((!_&&(!t.plain&&decide (es.size > 1)))=true);rw[T.plain];simp)];refine aa (ae ?_);refine aa (wpAny_setEpoch_of hos hds hf ?_);refine aa (bc (ae ⟨_,rfl,"set_iterator",_,⟨_,aB _ rfl,rfl⟩,zH.lookup,?_⟩));simpa [rawInt] using h
end
open PySem PySem.Spec PyProof.Rows PySem.W PySem.Calls
section
variable {prog:Program}{w:World}{t:SetTable}{es:Array (Int×Value)}{xs:List (List Key×Addr)}{A:Around}{E:Value->Shared->Prop}{s:Shared}
theorem zjU {r:Addr}{Q:Bool->Shared->Prop}(hT:s.TypeIs (.ref r) "set")(h:Q false s):wpAny (model prog w) A (Builtin.List.listLengthHint (.ref r)) Q E s:=by
 unfold Builtin.List.listLengthHint;refine aa (wpAny_specialOf hT PySem.F.slot_set_len.lookup ?_);generalize hid:("set.__len__" : String)=id0
 wp_delta
 rw[show splitId id0=some ("set","__len__") from by subst hid;decide +kernel];subst hid;refine aa (cP (T := "set") (b:=true) hT (by rw[isSubtype_type];kernel_rfl) ?_);refine wpAny_ite_split (fun hab=>absurd hab (by decide)) (fun _=>?_);refine wpAny_ite_split (fun _=>?_) (fun hab=>absurd (by decide +kernel) hab);refine aa (cV hT ?_);exact ae h
theorem SetIs.keep {h h':Heap}{a:Addr}{ep:Nat}(S:SetIs w h a es ep t)(k:∀o,h.get? a=some o->h'.get? a=some o):SetIs w h' a es ep t:=let ⟨⟨o,ho,r⟩,T⟩:=S;⟨⟨o,k o ho,r⟩,T⟩
theorem yd.keep {h h':Heap}{it a:Addr}{slot i n ep:Nat}(S:yd h it a slot i n ep)(k:∀o,h.get? it=some o->h'.get? it=some o):yd h' it a slot i n ep:=let ⟨o,ho,r⟩:=S;⟨o,k o ho,r⟩
theorem SetIs.lt {h:Heap}{a:Addr}{ep:Nat}(S:SetIs w h a es ep t):a<h.objs.size:=let ⟨⟨o,ho,_⟩,_⟩:=S;au ho
theorem zih (hh:A.handled=none)(I a:Addr)(hne:a≠I)(ep:Nat) :
  Walks prog w A I [I,a] [I] es.size (fun i v=>∃e,(zjq w a ep es)[i]?=some e/\v=e.2) (fun i h=>(∃slot,yd h I a slot i es.size ep/\(w.params.followText "set-order" = true\/SetTable.below t.place slot=i))/\SetIs w h a es ep t) where
 sub:=fun b hb=>by simp at hb;simp[hb]
 frame:=fun _ _ _ st hk=>⟨let ⟨sl,x,y⟩:=st.1;⟨sl,x.keep fun o e=>hk I (by simp) o e,y⟩,st.2.keep fun o e=>hk a (by simp) o e⟩
 item:=fun i s Q E hi st hQ=>by
  obtain⟨⟨sl,hit,hs⟩,S⟩:=st
  have hlt:i<(zjq w a ep es).size:=by
   have:=(zby (w:=w) (es:=es) a ep).length_eq
   grind
  refine zhB hit S hs (e:=(zjq w a ep es)[i]) (br hlt) fun h' slot' hit' hs' sb=>?_;exact hQ _ h' s.toks ⟨_,br hlt,rfl⟩ ⟨⟨slot',hit',hs'⟩,S.keep fun o e=>(sb.2 a hne).trans e⟩ fun b o hb e=>sb.extBut b o (fun h=>hb (by simp[h])) e
 done:=fun s Q E st hQ=>by obtain⟨⟨sl,hit,hs⟩,S⟩:=st;exact zjm hh hit S hs fun h' he'=>hQ h' s.toks fun b o hb e=>he' b o (fun h=>hb (by simp[h])) e
 self:=fun _ _ _ _ st hQ=>let ⟨sl,x,_⟩:=st.1;zg5 x hQ
theorem zig (a:Addr)(ep:Nat):KdlSrc prog w "set" a a es.size (fun i v=>∃e,(zjq w a ep es)[i]?=some e/\v=e.2) (fun h=>SetIs w h a es ep t) where
 type:=fun s S=>S.typeIs
 there:=fun _ S=>⟨S.lt,S.lt⟩
 keep:=fun _ _ S hk=>S.keep fun o e=>hk a (.inl rfl) o e
 notList:=by decide
 notTuple:=by decide
 hint:=fun _ _ _ _ S hq=>zjU S.typeIs hq
 iter:=fun A s hh S=>⟨_,_,(fun _ _ hq=>zi4 S hq),zih hh _ a (aO S.lt) ep,⟨⟨0,⟨_,aB _ rfl,rfl,rfl⟩,.inr ?_⟩,S.keep fun o e=>am _ e⟩⟩
where finally
 have b:=xo S.tb.ris 0;rcases Nat.eq_zero_or_pos (SetTable.below t.place 0) with z | z
 ·exact z
 ·exact absurd (b.2.1 0 z) (bV _)
end
def zcZ (h:Heap)(L D:Addr)(v:Value)(st:List Int):Prop:=∃ (a:Addr) (items:List Value),v = .ref a/\IsTup h a items.toArray/\zU (st.map V.int) items/\a≠L/\a≠D
theorem zcZ.keep {h h':Heap}{L D:Addr}{v:Value}{st:List Int}(r:zcZ h L D v st)(kp:∀b o,b≠L->b≠D->h.get? b=some o->h'.get? b=some o):zcZ h' L D v st:=by obtain⟨a,items,e,⟨o,ho,hc⟩,hv,h1,h2⟩:=r;exact⟨a,items,e,⟨o,kp a o h1 h2 ho,hc⟩,hv,h1,h2⟩
theorem zb1 {h:Heap}{L D:Addr}:∀ {vs:List Value} {sts:List (List Int)},Paired (zcZ h L D) vs sts->(∀st∈sts,1<=st.length)->∃fs,W.KatTups h vs fs/\fs.length=sts.length/\∀f∈fs,∃a t,f=Value.int a t
 | _,_,.nil,_=>⟨[],trivial,rfl,fun _ h=>by simp at h⟩
 | _,_,.cons (b:=st) r rr,h1=>by
  obtain⟨a,items,rfl,⟨o,ho,hc,n,hd⟩,rv,_⟩:=r;obtain⟨fs,f1,f2,f3⟩:=zb1 rr fun z hz=>h1 z (ak _ hz);have hst:=h1 st aj
  match st,rv,hst with
  | z::zs,rv,_=>
   cases rv with
   | cons q1 qq=>
    obtain⟨t,rfl⟩:=q1;refine⟨_::fs,⟨⟨a,o,_,n,rfl,ho,hc,hd,rfl⟩,f1⟩,by simp_all,fun f hf=>?_⟩;rcases aI.mp hf with rfl | hf
    all_goals simp_all
theorem zat {α β:Type}{R:α->β->Prop}:∀ {l:List α} {l':List β},Paired R l l'->∀ {i:Nat} (d:α) (d':β),i<l'.length->R (l.getD i d) (l'.getD i d')
 | _,_,.nil,i,_,_,h=>by simp at h
 | _,_,.cons r _,0,_,_,_=>r
 | _,_,.cons _ t,i+1,d,d',h=>by have:=zat t (i:=i) d d' (by simpa using h);simpa using this
theorem zb8 {α β:Type}{R:α->β->Prop}:∀ {l:List α} {l':List β},Paired R l l'->l.length=l'.length
 | _,_,.nil=>rfl
 | _,_,.cons _ t=>by rw[a8,a8,zb8 t]
section
variable {prog:Program}{w:World}{A:Around}{E:Value->Shared->Prop}{s:Shared}
theorem zjg {L D:Addr}{m0:Str->Option Value}{vs:List Value}{n m:Nat}{sts:List (List Int)}{Q:Value->Shared->Prop}(hns:s.heap.Ns L m0)(hDL:D≠L)(ho:s.heap.get? D=some (seqObj "list" vs.toArray n))
  (hv:Paired (zcZ s.heap L D) vs sts) (h64:sts.length<64) (hm1:1<=m) (hm:∀st∈sts,st.length=m) (hnd:sts.Nodup)
  (h:∀h' c p,List.Perm p (List.range sts.length)->((p.map fun i=>sts.getD i []).Pairwise fun a b=>HT.lexLt a b=true)->(∀b o,b≠L->b≠D->s.heap.get? b=some o->h'.get? b=some o)->h'.Ns L m0->
   h'.get? D=some (seqObj "list" (p.map fun i=>vs.getD i .none).toArray c)->Q .none { s with heap:=h' }) :
  wpAny (model prog w) A (call (.builtin "list.sort") [.ref D]) Q E s:=by
 have hvl:=zb8 hv;by_cases h2:2<=sts.length
 ·have hrest:∀p∈(xJ s.heap L).filter (fun q=>decide (q.1≠D)),s.heap.get? p.1=some p.2/\p.1≠L/\p.1≠D:=fun p hp=>by
   have h1:=aT.mp hp;have h2:=zx.mp (show (p.1,p.2)∈xJ s.heap L from h1.1)
   simp_all
  have none0:∀b,(⟨#[],{}⟩:Heap).get? b=none:=fun b=>by
   cases e:(⟨#[],{}⟩:Heap).get? b with
   | none=>rfl
   | some o'=>
    have:=au e;simp at this
  refine W.kat_lsort (h₀:=(⟨#[],{}⟩:Heap)) (L:=L) (m:=m0) (D:=D) (its:=vs.toArray) (n:=n) (news:=(D,seqObj "list" vs.toArray n)::(xJ s.heap L).filter (fun q=>decide (q.1≠D))) (g:=fun o=>(D,o)::(xJ s.heap L).filter (fun q=>decide (q.1≠D))) ⟨hns,fun b o e=>?_,aL _⟩ (fun p hp=>?_) (W.UpdF.head fun q hq=>(hrest q hq).2.2) (vs:=vs) rfl (by lia) (by lia) fun e1 h' F N=>?_
  ·simp_all
  ·rcases aI.mp hp with rfl | hp
   ·simp_all
   ·exact⟨(hrest p hp).1,(hrest p hp).2.1,none0 _⟩
  ·have kp:∀b o,b≠L->b≠D->s.heap.get? b=some o->h'.get? b=some o:=fun b o hb hD e=>(N (b,o) (ak _ (aT.mpr ⟨zx.mpr ⟨hb,e⟩,aK hD⟩))).1;have hv':Paired (zcZ h' L D) vs sts:=Paired.mapP hv fun v st r=>r.keep kp;obtain⟨fs,k1,k2,k3⟩:=zb1 hv' fun st hst=>by rw[hm st hst];exact hm1
   refine W.kat_kind (T:=.type "int") (s:={ s with heap:=h' }) k1 (by lia) (fun f hf=>?_) (by decide) ?_
   ·obtain⟨a,t,rfl⟩:=k3 f hf;intro A' Q' E' s' _ hq;exact cV (cy s' a t) hq
   ·have hu:za1 sts.length (zbl sts):=fun i j hi hj e=>by
     have e1:=yP hm hi hj;have e2:=yP hm hj hi;rw[e,aS (ez _)] at e1;rw[e,aS (ez _)] at e2;have gi:sts.getD i []=sts[i]:=by simp[hi]
     have gj:sts.getD j []=sts[j]:=by simp[hj]
     rcases xZ (a:=sts.getD i []) (b:=sts.getD j []) (by simp_all) with h | h | h
     ·rw[gi,gj] at h;exact (cq hnd).mp h
     all_goals grind
    obtain⟨p,hrun,hup⟩:=zfs hu h2;rw[show vs.length=sts.length by lia];refine hrun.wp (S:=fun s'=>s'={ s with heap:=h' }) (fun i j C s' hi hj hs' hC=>?_) (fun s' hs'=>?_) _ rfl
    ·subst hs';obtain⟨a1,it1,b1,c1,d1,_⟩:=zat hv' .none [] hi;obtain⟨a2,it2,b2,c2,d2,_⟩:=zat hv' .none [] hj;obtain⟨o1,ho1,_,n1,hd1⟩:=c1;obtain⟨o2,ho2,_,n2,hd2⟩:=c2;show wpAny _ _ (keyLt' _ (vs.getD i .none) (vs.getD j .none)) C _ _;rw[b1,b2]
     have gi:(sts.getD i []).length=m:=by simp_all
     have gj:(sts.getD j []).length=m:=by simp_all
     have l1:=d1.length;have l2:=d2.length;rw[ab] at l1 l2;refine W.kat_lt (s:={ s with heap:=h' }) ho1 hd1 ho2 hd2 ?_;rw[show decide (it1.toArray.size<it2.toArray.size)=false from aS (by simp;lia)];refine zcu 0 d1 d2 (by rw[gi,gj]) ?_;have:=hC { s with heap:=h' } rfl;rw[show zdN (zbl sts) i j=HT.lexLt (sts.getD i []) (sts.getD j []) from yP hm hi hj] at this;exact this
    ·subst hs'
     have hpl:p.toList.Perm (List.range sts.length):=by have:=hup.perm.toList;simpa using this
     have hpi:∀i∈p.toList,i<sts.length:=fun i hi=>bf.mp ((hpl.mem_iff).mp hi);refine W.KasFin.intro F N (W.UpdF.head fun q' hq'=>(hrest q' hq').2.2) fun h'' c F'' N''=>?_;refine h h'' c p.toList hpl ?_ (fun b o hb hD e=>(N'' (b,o) (ak _ (aT.mpr ⟨zx.mpr ⟨hb,e⟩,aK hD⟩))).1) F''.ns (N'' (D,_) aj).1;have hps:p.size=sts.length:=xq hup.perm;rw[b7];intro i j hi hj hij;rw[ab,aP] at hi hj;have hk:=hup.lt_of hij (by lia);rw[bX,bX,cI,cI];have e1:p.getD i 0=p[i]:=by simp[hi]
     have e2:p.getD j 0=p[j]:=by simp[hj]
     unfold key at hk;rw[e1,e2] at hk;rw[<- yP hm (hpi _ (by simp)) (hpi _ (by simp))]
     simp_all
 ·refine a6 slot_list_sort ⟨_,ho,rfl⟩ entry_list_sort ?_ (args_list_sort _);refine ug ho (by lia) fun h' c kp hD=>⟨_,rfl,?_⟩;refine h h' c (List.range sts.length) (List.Perm.refl _) ?_ (fun b o _ hb e=>kp b o hb e) ?_ ?_
  ·grind
  ·obtain⟨o,es,ep,g,k⟩:=hns;exact⟨o,es,ep,kp _ _ (Ne.symm hDL) g,k⟩
  ·rw[<- hvl,zau];exact hD
end
theorem yR {α β:Type}{f:α->β}{l m:List β}(h:l.Perm m):∀ {xs:List α},m=xs.map f->∃xs':List α,xs'.Perm xs/\l=xs'.map f:=by
 induction h with
 | nil=>
  simp_all
 | cons x _ ih=>
  intro xs e
  cases xs with
  | nil=>cases e
  | cons y ys=>
   rw[av] at e;injection e with e1 e2;obtain⟨xs',h1,h2⟩:=ih e2;exact⟨y::xs',h1.cons y,by simp_all⟩
 | swap x y l=>
  intro xs e
  match xs,e with
  | [],e=>cases e
  | [_],e=>cases e
  | a::b::r,e=>
   rw[av,av] at e;injection e with e1 e2;injection e2 with e2 e3;exact⟨b::a::r,.swap _ _ _,by grind⟩
 | trans _ _ ih1 ih2=>
  intro xs e;obtain⟨xs',h1,h2⟩:=ih2 e;obtain⟨xs'',h3,h4⟩:=ih1 h2;exact⟨xs'',h3.trans h1,h4⟩
def zfr (P:Program)(w:World)(a:Addr)(xs:List (List Key×Addr)):HO:=.ext fun h=>za0 P w h a xs
def uF (xs:List (List Int×Addr)):List (List Key×Addr):=xs.map fun q=>(q.1.map Sum.inl,q.2)
theorem zif {P:Program}{w:World}{H:Hp}{h:Heap}{a:Addr}{xs:List (List Key×Addr)}(S:za0 P w h a xs):zW P w H h a (zfr P w a xs):=by
 refine⟨S,?_,fun h1 h2 q k=>?_⟩
 ·obtain⟨o,_,_,_,ho,_⟩:=S;exact⟨o,ho⟩
 ·obtain⟨o,es,ep,t,ho,r⟩:=q;exact⟨o,es,ep,t,k o ho,r⟩
theorem zez {o:Obj}{n:Nat}{d:Addr}{u:Obj}(h:(⟨Array.replicate (n+1) o,{}⟩:Heap).get? d=some u):u=o:=by
 unfold Heap.get? at h;simp only[Array.getElem?_replicate] at h;split at h
 ·cases h
 ·split at h
  ·exact (bJ h).symm
  ·cases h
theorem zmE {P:Program}{w:World}{a d:Addr}{xs:List (List Key×Addr)}{ob:Obj}(hs:∃h:Heap,h.get? d=some ob):(fun h=>za0 P w h a xs)≠fun h=>h.get? d=some ob:=fun e=>by
 obtain⟨h0,hh⟩:=hs;have h1:za0 P w h0 a xs:=by rw[show za0 P w h0 a xs=_ from congrFun e h0];exact hh
 obtain⟨o,es,ep,t,ho,hx,hd,T,hr⟩:=h1
 have k:∀ep':Nat,({ o with data:=.set es ep' t }:Obj)=ob:=fun ep'=>by have h2:za0 P w (⟨Array.replicate (a+1) { o with data:=.set es ep' t },{}⟩:Heap) a xs:=⟨{ o with data:=.set es ep' t },es,ep',t,by simp[Heap.get?],hx,rfl,T,hr⟩;rw[show za0 P w _ a xs=_ from congrFun e _] at h2;exact (zez h2).symm
 have:=congrArg Obj.data ((k 0).trans (k 1).symm);cases this
theorem zfe {P:Program}{w:World}{a:Addr}{xs:List (List Key×Addr)}:∀kvs,pnK (zfr P w a xs)=some kvs->uI kvs (Sum.inr "at" : Key)=none:=fun kvs e=>by
 unfold zfr pnK at e;dsimp only at e;rw[if_neg] at e
 ·cases e
 ·rintro⟨d,ob,hs,z⟩;exact zmE hs z
def zeN (P:Program)(w:World)(H:Hp)(a:Addr)(ks:List (List Int)):Prop:=∃xs:List (List Int×Addr),H a=some (zfr P w a (uF xs))/\(∀q∈xs,H q.2=some (.tup (q.1.map V.int)))/\ks=xs.map (·.1)/\ks.Nodup
theorem zeN.stay {P:Program}{w:World}{H H':Hp}{a:Addr}{ks:List (List Int)}(S:zeN P w H a ks)(h:zm H H'):zeN P w H' a ks:=by obtain⟨xs,h1,h2,h3,h4⟩:=S;exact⟨xs,h _ _ h1 zfe,fun q hq=>h.tup (h2 q hq),h3,h4⟩
section
variable {X:Cx}
theorem zha {pins:List (Addr×Obj)}{σ:St}{H:Hp}{s:Shared}(I:Inv X pins σ H s){b:Addr}{ns:List Int}(h:H b=some (.tup (ns.map V.int))):(tk X.prog X.w).is s.heap (ns.map Sum.inl) b:=by
 obtain⟨its,rv,⟨o,ho,hc,n,hd⟩,_⟩:=I.tuple (.of h);refine⟨o,its.toArray,n,ho,hc,hd,?_⟩
 have gen:∀ {ns:List Int} {its:List Value},zU (ns.map V.int) its->ItemsAre (zr X.prog X.w) (ns.map Sum.inl) its:=by
  intro ns
  induction ns with
  | nil=>intro its r;cases r;exact .nil
  | cons n ns ih=>
   intro its r
   cases r with
   | cons r1 r2=>
    obtain⟨t,rfl⟩:=r1;exact .cons (xY n t) (ih r2)
 exact gen rv
def zky (P:Program)(w:World):List V->Hp->VK->Prop:=fun xs H Q=>∃ (a:Addr) (ks:List (List Int)) (m:Nat),xs=[.ref a]/\zeN P w H a ks/\ks.length<64/\1<=m/\(∀st∈ks,st.length=m)/\
 ∀ (ys:List V) (sts':List (List Int)),IsL H (sts'.map stD) ys->sts'.Perm ks->(sts'.Pairwise fun a b=>HT.lexLt a b=true)->New H (.lst ys) Q
theorem ze7 {H:Hp}:∀ {xs:List (List Int×Addr)},(∀q∈xs,H q.2=some (.tup (q.1.map V.int)))->IsL H ((xs.map (·.1)).map stD) (xs.map fun q=>V.ref q.2)
 | [],_=>rfl
 | q::xs,h=>⟨_,_,rfl,⟨q.2,_,rfl,h q aj,IsL.ints⟩,ze7 fun r hr=>h r (ak _ hr)⟩
theorem zdM:∀ (xs:List (List Int×Addr)),zU (xs.map fun q=>V.ref q.2) (xs.map fun q=>Value.ref q.2)
 | []=>.nil
 | q::xs=>.cons rfl (zdM xs)
theorem ziK (hc:X.calm=true):CallQ X (.builtin "sorted") (zky X.prog X.w):=⟨by
 intro pins s σ H xs us Q I r h;obtain⟨a,ks,m,rfl,⟨xs,hH,hel,rfl,hnd⟩,h64,hm1,hm,q⟩:=h;obtain⟨u,rfl,ru⟩:=uq r;cases ru;obtain⟨⟨o,es,ep,t,ho,hx,hd,T,_⟩,_⟩:=(show zW X.prog X.w H s.heap a (zfr X.prog X.w a (uF xs)) from I.hok a _ hH);have S:SetIs X.w s.heap a es ep t:=⟨⟨o,ho,hx,hd⟩,T.q⟩;obtain⟨m0,hns,_⟩:=id I.loc;have hsz:es.size=xs.length:=by rw[T.size];unfold uF;rw[ab]
 rw[ab] at h64
 have none0:∀b,(⟨#[],{}⟩:Heap).get? b=none:=fun b=>by
  cases e:(⟨#[],{}⟩:Heap).get? b with
  | none=>rfl
  | some o'=>
   have:=au e;simp at this
 have hpo:=zby (w:=X.w) (es:=es) a ep;have heq:es.toList=xs.map fun q=>((tk X.prog X.w).hash (q.1.map Sum.inl),Value.ref q.2):=by rw[T.eq];unfold uF;rw[az];rfl
 rw[heq] at hpo;obtain⟨xs2,hp2,he2⟩:=yR hpo rfl;refine kdu_sorted (h₀:=(⟨#[],{}⟩:Heap)) (L:=X.env.locals) (m:=m0) (news:=xJ s.heap X.env.locals) (zig (t:=t) a ep) (I.ok.hd hc) ⟨hns,fun b o e=>(by simp_all),aL _⟩ (fun p hp=>?_) S (by rw[hsz,bm];lia) fun D h' tk' vs F N hlt hl hP=>?_
 ·obtain⟨b,o⟩:=p;have:=zx.mp hp
  simp_all
 ·have hvs:vs=xs2.map fun q=>Value.ref q.2:=by
   have hl2:=hp2.length_eq;refine dC (by simp_all) fun j h1 h2=>?_;obtain⟨e,he,hv⟩:=hP j vs[j] (aq h1);rw[za2,he2,aA] at he;rw[ab] at h2;rw[aq h2] at he;rw[hv,bX,<- bJ he]
  have kp:∀b o,b≠X.env.locals->s.heap.get? b=some o->h'.get? b=some o:=fun b o hb e=>(N (b,o) (ak _ (zx.mpr ⟨hb,e⟩))).1;have hDL:D≠X.env.locals:=(N (D,_) aj).2.1
  have hDn:s.heap.get? D=none:=by
   cases e:s.heap.get? D with
   | none=>rfl
   | some o=>exact absurd (hlt (D,o) (zx.mpr ⟨hDL,e⟩)) (bt _)
  have hHD:H D=none:=by
   cases e:H D with
   | none=>rfl
   | some o=>
    obtain⟨o',ho'⟩:=x4 (I.hok D o e)
    grind
  have hel2:∀q∈xs2,H q.2=some (.tup (q.1.map V.int)):=fun q hq=>hel q ((hp2.mem_iff).mp hq)
  have rows:Paired (zcZ h' X.env.locals D) vs (xs2.map (·.1)):=by
   rw[hvs]
   have gen:∀ (l:List (List Int×Addr)),(∀q∈l,H q.2=some (.tup (q.1.map V.int)))->Paired (zcZ h' X.env.locals D) (l.map fun q=>Value.ref q.2) (l.map (·.1)):=by
    intro l
    induction l with
    | nil=>intro _;exact .nil
    | cons q l ih=>
     intro hl;have hq:=hl q aj;obtain⟨items,rv,⟨o',ho',hc'⟩,_⟩:=I.tuple (.of hq);have hqL:=zb hq I.free;exact .cons ⟨q.2,items,rfl,⟨o',kp _ _ hqL ho',hc'⟩,rv,hqL,zb hq hHD⟩ (ih fun r hr=>hl r (ak _ hr))
   exact gen xs2 hel2
  have hpk:=hp2.map (·.1);refine zjg (s:={ s with heap:=h',toks:=tk' }) F.ns hDL (N (D,_) aj).1 rows (by simp_all) hm1 (fun st hst=>hm st ((hpk.mem_iff).mp hst)) (hpk.nodup_iff.mpr hnd) fun h'' c p hp hup kp2 ns2 hD2=>?_;have hpi:∀i∈p,i<xs2.length:=fun i hi=>by have:=bf.mp ((hp.mem_iff).mp hi);rwa[ab] at this
  have pickd:(p.map fun i=>(xs2.map (·.1)).getD i [])=(p.map fun i=>xs2.getD i ([],0)).map (·.1):=by simp_all
  have pickv:(p.map fun i=>vs.getD i .none)=(p.map fun i=>xs2.getD i ([],0)).map fun q=>Value.ref q.2:=by simp_all
  have pin:∀q∈(p.map fun i=>xs2.getD i ([],0)),H q.2=some (.tup (q.1.map V.int)):=fun q hq=>by
   obtain⟨i,hi,rfl⟩:=ay.mp hq;have h1:=hpi i hi;have:xs2.getD i ([],0)=xs2[i]:=by simp[h1]
   rw[this];exact hel2 _ (cw h1)
  rw[pickv] at hD2;rw[pickd] at hup;have hplen:p.length=xs.length:=by rw[hp.length_eq,aE,ab,hp2.length_eq]
  have I':=zbg I hns (ys:=(p.map fun i=>xs2.getD i ([],0)).map fun q=>V.ref q.2) (fun b o hb e=>kp2 b o hb (by grind) (kp b o hb e)) ns2 hDn hHD hD2 (zdM _) (by rw[ab,ab,hplen,bm];lia) tk';refine⟨.ref D,_,I',rfl,(q _ ((p.map fun i=>xs2.getD i ([],0)).map (·.1)) (ze7 pin) ?_ hup).at hHD⟩;refine List.Perm.trans ?_ hpk;rw[<- pickd];have:=hp.map fun i=>(xs2.map (·.1)).getD i [];rwa[zau] at this⟩
end
open PySem PySem.Spec PyProof.Rows
section
variable {prog:Program}{w:World}{A:Around}{E:Value->Shared->Prop}{R:Result->Shared->Prop}{s:Shared}
theorem zdn {Q:Value->Shared->Prop}(h:Q (.ref s.heap.objs.size) { s with heap:=s.heap.push { cls:=.type "set",dict:=none,data:=.set #[] 0 (.fresh 0 0 (!w.params.followText "set-order")) } }):wpAny (model prog w) A (newSet (.type "set")) Q E s:=by unfold newSet setsByText;refine aa (aa (bu (ae ?_)));dsimp only;simp only[newObj];exact aa (wpAny_alloc (ae h))
theorem zie (h:Heap):za0 prog w (h.push { cls:=.type "set",dict:=none,data:=.set #[] 0 (.fresh 0 0 (!w.params.followText "set-order")) }) h.objs.size []:=by
 refine⟨_,#[],0,_,aB _ rfl,⟨rfl,rfl,rfl⟩,rfl,⟨⟨rfl,rfl,fun i j _ hj=>?_,fun i j e=>?_,rfl,.inl rfl,aL _,rfl,rfl,fun i q e=>?_⟩,ei⟩,by show 0 * 5<7 * 3;decide⟩
 ·exact absurd hj (bV _)
 ·simp[SetTable.fresh] at e
 ·simp at e
end
theorem zbp:∀ {ns ms:List Int},ns.map (Sum.inl:Int->Key)=ms.map Sum.inl->ns=ms
 | [],[],_=>rfl
 | [],_::_,e=>by cases e
 | _::_,[],e=>by cases e
 | n::ns,m::ms,e=>by rw[av,av] at e;injection e with e1 e2;rw[Sum.inl.inj e1,zbp e2]
section
variable {X:Cx}
theorem zfX {pins:List (Addr×Obj)}{σ:St}{H:Hp}{s:Shared}{acc b:Addr}{ns:List Int}{ks:List (List Int)}{Q:Value->Shared->Prop}(hu:X.A.units+1<cLine)(I:Inv X pins σ H s)(S:zeN X.prog X.w H acc ks)(hb:H b=some (.tup (ns.map V.int)))(hn:ks.length<300)
  (h:∀o ks' s',zeN X.prog X.w (upd H acc o) acc ks'->(∀x,x∈ks'↔x=ns\/x∈ks)->ks'.length<=ks.length+1->Inv X pins σ (upd H acc o) s'->Q .none s') :
  wpAny (model X.prog X.w) X.A (call (.builtin "set.add") [.ref acc,.ref b]) Q X.xe s:=by
 obtain⟨xs,hH,hel,rfl,hnd⟩:=S;have hS:=(show zW X.prog X.w H s.heap acc (zfr X.prog X.w acc (uF xs)) from I.hok acc _ hH).1;obtain⟨o,es,ep,t,ho,hx,hd,T,hroom⟩:=id hS;refine a6 F.slot_set_add ⟨o,ho,hx.1⟩ F.entry_set_add ?_ (F.args_set_add_2 _ _);unfold Builtin.«set.add»;refine aa (m:=Builtin.Frozenset.oneOther "add" ⟨[.ref acc,.ref b],[]⟩) (ae ?_);have hba:b≠acc:=zjl hb hH (by intro z;cases z);have hea:∀q∈xs,q.2≠acc:=fun q hq=>zjl (hel q hq) hH (by intro z;cases z);rw[ab] at hn;refine aa (zm8 (A:=X.A.in1) (xs:=uF xs) (ns:=ns) (aU (ai _) hu) hS (zha I hb) (fun q hq=>?_) (by unfold uF;rw[ab];exact hn) fun r h' n xs' sb S' hin hout=>?_)
 ·unfold uF at hq;obtain⟨q',hq',rfl⟩:=ay.mp hq;exact zha I (hel q' hq')
 ·
  have mem_key:∀ {l:List (List Int×Addr)},(ns.map Sum.inl)∈(uF l).map (·.1)↔ns∈l.map (·.1):=by
   intro l;unfold uF;rw[az,ay,ay];constructor
   ·rintro⟨q,hq,e⟩;refine⟨q,hq,?_⟩;have e':q.1.map (Sum.inl:Int->Key)=ns.map Sum.inl:=e;exact zbp e'
   ·rintro⟨q,hq,rfl⟩;exact⟨q,hq,rfl⟩
  have fin:∀xs2:List (List Int×Addr),xs'=uF xs2->(∀q∈xs2,q∈xs\/q=(ns,b))->(∀x,x∈xs2.map (·.1)↔x=ns\/x∈xs.map (·.1))->(xs2.map (·.1)).Nodup->xs2.length<=xs.length+1->wpAny (model X.prog X.w) X.A.in1 (do ret .none) (fun fin s'=>∃v,fin = .done (.ret v)/\Q v s') X.xe { s with heap:=h',toks:=n }:=by
   rintro xs2 rfl hsub hmem hnd2 hlen
   have hel2:∀q∈xs2,H q.2=some (.tup (q.1.map V.int)):=fun q hq=>by
    rcases hsub q hq with z | z
    ·exact hel q z
    ·rw[z];exact hb
   have hea2:∀q∈xs2,q.2≠acc:=fun q hq=>zjl (hel2 q hq) hH (by intro z;cases z);refine ae ⟨.none,rfl,h (zfr X.prog X.w acc (uF xs2)) (xs2.map (·.1)) _ ⟨xs2,zg,fun q hq=>by rw[zc (hea2 q hq)];exact hel2 q hq,rfl,hnd2⟩ hmem (by simp_all) ?_⟩;refine I.write (e:=acc) (by rw[hH];trivial) (.inl rfl) (fun c u hc q=>sb.extBut c u hc q) ?_ (zif S');obtain⟨o',_,_,_,ho',_⟩:=S';exact⟨o',ho'⟩
  by_cases hm:ns∈xs.map (·.1)
  ·have:=hin (mem_key.mpr hm);refine fin xs this (fun q hq=>.inl hq) (fun x=>⟨.inr,fun z=>z.elim (fun e=>e ▸ hm) id⟩) hnd (cQ _)
  ·have hp:=hout fun z=>hm (mem_key.mp z);have hk:((ns.map Sum.inl,b)::uF xs)=uF ((ns,b)::xs):=rfl;rw[hk] at hp;obtain⟨xs2,hp2,e2⟩:=yR hp rfl;refine fin xs2 e2 (fun q hq=>?_) (fun x=>?_) ?_ ?_
   ·grind
   ·rw[(hp2.map (·.1)).mem_iff,av,aI]
   ·rw[(hp2.map (·.1)).nodup_iff,av,bT];exact⟨hm,hnd⟩
   ·rw[hp2.length_eq,a8];exact ai _
end
theorem zax {env:Env}(elt gens scope pos):eval (.SetComp elt gens scope pos) env=comprehension (.SetComp elt gens scope pos) scope env (firstIterPos gens pos) (newSet (.type "set")) (firstAsync gens) (firstIter gens env):=rfl
def setT (P:Program)(w:World)(g:TG)(ti:TT)(te:TE)(acc:Addr)(N:St->Hp->Prop)(x:V)(σ:St)(H:Hp):Prop:=
 g x σ H fun σ3 H3=>ti σ3 H3 fun ok H4=>if ok=true then te σ3 H4 fun v H5=>∃b ns ks,v = .ref b/\H5 b=some (.tup (ns.map V.int))/\zeN P w H5 acc ks/\ks.length<300/\
  (∀o ks',zeN P w (upd H5 acc o) acc ks'->(∀x,x∈ks'↔x=ns\/x∈ks)->ks'.length<=ks.length+1->N σ3 (upd H5 acc o)) else N σ3 H4
def setG (P:Program)(w:World)(J:It)(g:TG)(ti:TT)(te:TE)(acc:Addr)(Q:VK)(σ:St)(H:Hp):Prop:=∃W:Nat->Nat->St->Hp->Prop,(∃m,W 0 m σ H)/\
 ∀i m σ' H',W i m σ' H'->(J.stop i H'/\Q (.ref acc) H')\/(J.go i H'/\∃N:St->Hp->Prop,(∀ σ2 H2,N σ2 H2->∃m',m'<m/\W (i+1) m' σ2 H2)/\∀x H2,J.yld i H' x H2->setT P w g ti te acc N x σ' H2)
def zmN (P:Program)(w:World)(wi:TI)(g:TG)(ti:TT)(te:TE)(cix:List (Option Nat)):TE:=fun σ H Q=>wi σ H fun J H1=>∀acc,H1 acc=none->zeN P w (upd H1 acc (zfr P w acc [])) acc []->setG P w J g ti te acc Q (xy σ cix) (upd H1 acc (zfr P w acc []))
section
variable {X:Cx}{Fam:Cx->Prop}{scope:Scope}{N:List Str}{cix:List (Option Nat)}{z:Str}{use:Option (Value->Sem Unit)}{Qp:Value->Shared->Prop}{elt ke ve tg iter tg2 iter2:Expr}{ifs ifs2:List Expr}{pos ipos spos px:Pos}{wi wi2:TI}{g g2:TG}{ti ti2:TT}{te tk tv:TE}{pins:List (Addr×Obj)}{σ:St}{H:Hp}{s:Shared}{Q:VK}{o0:HO}
theorem zjT (hu:X.A.units+1<cLine)(O:Opn X scope cix Fam)(hc:X.calm=true)(hi:PI X tg iter wi)(hg:∀X',Fam X'->PG X' tg g)(ht:∀X',Fam X'->PTs X' ifs ti)(he:∀X',Fam X'->PE X' elt te)(hs:∀x,foldedSetIterable iter X.env x=pure x)(I:Inv X pins σ H s)
  (h:zmN X.prog X.w wi g ti te cix σ H Q) (hfin:zqc X pins σ use Qp Q) :
  wpAny (model X.prog X.w) X.A (comprehension (.SetComp elt [⟨tg,iter,ifs,0⟩] scope pos) scope X.env ipos (newSet (.type "set")) false (eval iter X.env) use) Qp X.xe s:=
 uP (ob:={ cls:=.type "set",dict:=none,data:=.set #[] 0 (.fresh 0 0 (!X.w.params.followText "set-order")) }) (o0:=fun a=>zfr X.prog X.w a []) (Fin:=fun acc H=>Q (.ref acc) H) (tb:=fun acc Nx σ H=>te σ H fun v H5=>∃ (b:Addr) (ns:List Int) (ks:List (List Int)),v = .ref b/\H5 b=some (.tup (ns.map V.int))/\zeN X.prog X.w H5 acc ks/\ks.length<300/\(∀o ks',zeN X.prog X.w (upd H5 acc o) acc ks'->(∀x,x∈ks'↔x=ns\/x∈ks)->ks'.length<=ks.length+1->Nx σ (upd H5 acc o))) O x9 hc rfl hs (fun s Q h=>zdn h) (fun _ _=>zif (zie _)) hi hg ht (fun X' hF pX wX AX _ xX acc=>⟨_,fun it=>zcw (iter:=iter) x9 (nx:=fun c=>(do let v <- eval elt X'.env;standAt elt.pos;let _ <- call (.builtin "set.add") [.ref acc,v]) >>= fun _=>c) rfl,fun pl s σ H Nx P I q k _ _ _ hk=>by have e9:=he X' hF pl s σ H _ I q;rw[xX] at e9;refine aa (aa (bn e9 ?_ fun _ _ h'=>h'.elim));rintro u2 s10 ⟨v,H10,I10,r10,b,ns,ks,rfl,hb,S,hn,nx⟩;cases r10;have m10:=zfX (X:=X') (Q:=fun _ s'=>P s') (by rw[AX];exact hu) I10 (by simp_all) hb hn fun o ks' s' S' hm hl I'=>k _ _ _ I' (nx o ks' (by simp_all) hm hl);rw[xX] at m10;exact aa (c7 (aa (bn m10 (fun _ _ h6=>ae (hk _ h6)) fun _ _ h'=>h'.elim)))⟩) I h (fun J H1 acc q hn=>q acc hn ⟨[],zg,fun q hq=>by simp at hq,rfl,ei⟩) hfin
end
theorem zfR {X:Cx}{pos:Pos}{te:TE}{elt tg iter:Expr}{ifs:List Expr}{scope:Scope}{wi:TI}{g:TG}{ti:TT}{N:List Str}{cix:List (Option Nat)}(hu:X.A.units+1<cLine)(hc:X.calm=true)(c:CompOk X scope N cix)
  (hi:QI X tg iter wi) (hg:∀C s H ex,QG (zl X scope N C s H ex) tg g) (ht:∀C s H ex,QTs (zl X scope N C s H ex) ifs ti) (he:∀C s H ex,QE (zl X scope N C s H ex) elt te)
  (hs:∀x,foldedSetIterable iter X.env x=pure x:=by intro _;rfl):QE X (.SetComp elt [⟨tg,iter,ifs,0⟩] scope pos) (zmN X.prog X.w wi g ti te cix):=⟨fun pins s σ H Q I h=>by
 rw[zax];exact zjT hu (x8 c) hc hi.run (zbb fun C s H ex=>(hg C s H ex).run) (zbb fun C s H ex=>(ht C s H ex).run) (zbb fun C s H ex=>(he C s H ex).run) hs I h fun _ _ _ _ _ hm hb q=>zaS hm hb q⟩
section
variable {P:Program}{w:World}{K:PySem.W.Frag}{a acc:Addr}{xs:List V}{g:TG}{ti:TT}{te:TE}{σ:St}{H:Hp}{Q:VK}
end
open PySem
theorem zib (H:Hp):yW H H:=fun _ _ z=>z
open PySem PySem.Spec PyProof.Rows
section
variable {X:Cx}
end
open PySem PySem.Spec PyProof.Rows PySem.W PySem.Calls
section
variable {prog:Program}{w:World}{A:Around}{E:Value->Shared->Prop}{s:Shared}{es:Array DictEntry}
def uy (h:Heap)(d:Addr)(es:Array DictEntry)(ep:Nat):Prop:=∃o,h.get? d=some o/\o.ExactDict/\o.data = .dict es ep
theorem uy.keep {h h':Heap}{d:Addr}{ep:Nat}(x:uy h d es ep)(k:∀o,h.get? d=some o->h'.get? d=some o):uy h' d es ep:=let ⟨o,ho,r⟩:=x;⟨o,k o ho,r⟩
theorem uy.typeIs {d:Addr}{ep:Nat}(x:uy s.heap d es ep):s.TypeIs (.ref d) "dict" := let ⟨o,ho,hc,_⟩:=x;⟨o,ho,hc.1⟩
theorem uy.lt {h:Heap}{d:Addr}{ep:Nat}(x:uy h d es ep):d<h.objs.size:=let ⟨o,ho,_⟩:=x;au ho
theorem zg4 {d:Addr}{ep:Nat}{Q:Value->Shared->Prop}(hd:(d==sysModules)=false)(hm:uy s.heap d es ep)
  (hQ:Q (.ref s.heap.objs.size) { s with heap:=s.heap.push { cls:=.type "dict_keyiterator",data:=.fields #[.ref d,.int 0 0,.int es.size 0,.int ep 0] } }) :
  wpAny (model prog w) A (pyIter (.ref d)) Q E s:=by
 obtain⟨o,ho,hc,hdat⟩:=id hm;have hT:=hm.typeIs;refine en hT PySem.F.slot_dict_iter (a6 PySem.F.slot_dict_iter hT PySem.F.entry_dict_iter ?_ (PySem.F.args_dict_iter_1 _));unfold Builtin.«dict.__iter__»;refine aa ?_;unfold Builtin.Dict.dictSlotNone;refine aa (wpAny_notOrdered_dict hT ?_);show wpAny _ _ (pure (Value.ref d)) _ _ s;refine ae ?_;show wpAny _ _ (Builtin.Dict.showsAll d >>= _) _ _ s;unfold Builtin.Dict.showsAll;rw[if_neg (by simp_all)];refine aa (ae ?_);refine aa (eo ho hdat ?_);refine aa (wpAny_dictEpoch ho hdat ?_);refine aa (bc (ae ⟨_,rfl,"dict_keyiterator",_,⟨_,aB _ rfl,rfl⟩,PySem.F.slot_dict_keyiterator_next.lookup,?_⟩));simpa [rawInt] using hQ
theorem zjd {it d:Addr}{i ep:Nat}{e:DictEntry}{Q:Fin->Shared->Prop}(hit:s.heap.IsKeyIter it d i es.size ep)(hm:uy s.heap d es ep)(hx:es[i]?=some e)
  (hQ:∀h',h'.IsKeyIter it d (i+1) es.size ep->Heap.SameBut it s.heap h'->Q (.done (.ret e.key)) { s with heap:=h' }):wpAny (model prog w) A (Builtin.«dict_keyiterator.__next__» { pos:=[Value.ref it] }) Q E s:=by
 obtain⟨o,ho,hc,hd⟩:=id hit;obtain⟨od,hod,hcd,hdd⟩:=id hm;refine aa (ae ?_);refine aa ?_;refine aa ?_
 first | refine aa (bN hit.typeIs (ae ?_)) | refine aa (by grind)
 refine aa (ee ho hd ?_);have hown:Builtin.Dict_items.ownsTuple "dict_keyiterator" = false:=by decide
 simp only[hown,aJ,if_false];show wpAny _ _ (if (Value.ref d==Value.none)=true then _ else _) _ _ s;rw[if_neg (by grind)];refine aa (ae ?_);refine aa (eo hod hdd ?_);rw[if_neg (by simp)];refine aa (ae ?_);refine aa (wpAny_dictEpoch hod hdd ?_);rw[if_neg (by simp)];refine ae ?_;simp only[show ¬ ((i:Int)<0) from by lia,if_false,bv,hx];refine aa ?_
 first | refine aa (bN hit.typeIs (ae ?_)) | refine aa (by grind)
 refine aa (wpAny_isOneOf_keyiter hit.typeIs ?_);show wpAny _ _ (setField (.ref it) 1 (rawInt ((i:Int)+1)) >>= _) _ _ s;refine aa (cK ho hd (by simp) ?_)
 have hit':(s.heap.update it (Obj.mapFields (·.setIfInBounds 1 (rawInt ((i:Int)+1))))).IsKeyIter it d (i+1) es.size ep:=
  ⟨_,cF _ ho (dw (b5 hd _)),(el ..).trans hc,by rw[b5 hd];simp[rawInt]⟩
 refine aa (bI ?_);refine aa (wpAny_isOneOf_keyiter (s:={ s with heap:=s.heap.update it (Obj.mapFields (·.setIfInBounds 1 (rawInt ((i:Int)+1)))) }) hit'.typeIs ?_);show wpAny _ _ (pure e.key) _ _ _;exact ae (ae (hQ _ hit' (bh ..)))
theorem zfO {it d:Addr}{i ep:Nat}{e:DictEntry}{Q:Option Value->Shared->Prop}(hit:s.heap.IsKeyIter it d i es.size ep)(hm:uy s.heap d es ep)(hx:es[i]?=some e)
  (hQ:∀h',h'.IsKeyIter it d (i+1) es.size ep->Heap.SameBut it s.heap h'->Q (some e.key) { s with heap:=h' }):wpAny (model prog w) A (pyNext (.ref it)) Q E s:=by
 unfold pyNext
 exact aa (dJ (wpAny_callSpecial?_slot (name:=Str.ofString "__next__") hit.typeIs bA
  (a6 bA hit.typeIs cR (zjd hit hm hx fun h' a b=>⟨_,rfl,ae (hQ h' a b)⟩) (cL _))))
theorem zlw {it d:Addr}{ep:Nat}{Q:Fin->Shared->Prop}(hh:A.handled=none)(hit:s.heap.IsKeyIter it d es.size es.size ep)(hm:uy s.heap d es ep)
  (hE:∀h' x,Heap.ExtBut it s.heap h'->(∃o,h'.get? x=some o/\o.cls = .type "StopIteration")->E (.ref x) { s with heap:=h' }):wpAny (model prog w) A (Builtin.«dict_keyiterator.__next__» { pos:=[Value.ref it] }) Q E s:=by
 obtain⟨o,ho,hc,hd⟩:=id hit;obtain⟨od,hod,hcd,hdd⟩:=id hm;refine aa (ae ?_);refine aa ?_;refine aa ?_
 first | refine aa (bN hit.typeIs (ae ?_)) | refine aa (by grind)
 refine aa (ee ho hd ?_);have hown:Builtin.Dict_items.ownsTuple "dict_keyiterator" = false:=by decide
 simp only[hown,aJ,if_false];show wpAny _ _ (if (Value.ref d==Value.none)=true then _ else _) _ _ s;rw[if_neg (by grind)];refine aa (ae ?_);refine aa (eo hod hdd ?_);rw[if_neg (by simp)];refine aa (ae ?_);refine aa (wpAny_dictEpoch hod hdd ?_);rw[if_neg (by simp)];refine ae ?_;simp only[show ¬ ((es.size:Int)<0) from by lia,if_false,bv,Array.getElem?_eq_none (ai es.size)];refine aa ?_
 first | refine aa (bN hit.typeIs (ae ?_)) | refine aa (by grind)
 show wpAny _ _ (setField (.ref it) 0 .none >>= _) _ _ s;refine aa (cK ho hd (by simp) ?_);show wpAny _ _ (newExc (.type "StopIteration") [] >>= _) _ _ _;refine aa ?_;simp only[newExc,newTuple];refine aa (bc ?_ (by size_fits));refine aa (m:=firstArgMember _ _) (wpAny_of_eq (a:=Value.none) (by first | rfl | (simp only[firstArgMember];rfl)) ?_);refine bc ?_ (by size_fits);simp only[raiseNew];refine aa (wpAny_handled ?_);rw[hh];refine aa (ae (wpAny_throw ?_));exact hE _ _ (((bh ..).extBut.push _).push _) ⟨_,aB _ rfl,rfl⟩
theorem zhA {it d:Addr}{ep:Nat}{Q:Option Value->Shared->Prop}(hh:A.handled=none)(hit:s.heap.IsKeyIter it d es.size es.size ep)(hm:uy s.heap d es ep)
  (hQ:∀h',Heap.ExtBut it s.heap h'->Q none { s with heap:=h' }):wpAny (model prog w) A (pyNext (.ref it)) Q E s:=by
 unfold pyNext
 refine aa (dJ (wpAny_callSpecial?_slot (name:=Str.ofString "__next__") hit.typeIs bA
  (a6 bA hit.typeIs cR (zlw hh hit hm fun h' x a b=>?_) (cL _))))
 exact aa (cP (T := "StopIteration") (b:=true) b eh (ae (hQ _ a)))
theorem zfF (hh:A.handled=none)(I d:Addr)(hne:d≠I)(ep:Nat) :
  Walks prog w A I [I,d] [I] es.size (fun i v=>∃e,es[i]?=some e/\v=e.key) (fun i h=>h.IsKeyIter I d i es.size ep/\uy h d es ep) where
 sub:=fun b hb=>by simp at hb;simp[hb]
 frame:=fun _ _ _ st hk=>⟨let ⟨o,ho,r⟩:=st.1;⟨o,hk I (by simp) o ho,r⟩,st.2.keep fun o e=>hk d (by simp) o e⟩
 item:=fun i s Q E hi st hQ=>by refine zfO st.1 st.2 (br hi) fun h' hit' sb=>?_;exact hQ _ h' s.toks ⟨_,br hi,rfl⟩ ⟨hit',st.2.keep fun o e=>(sb.2 d hne).trans e⟩ fun b o hb e=>sb.extBut b o (fun h=>hb (by simp[h])) e
 done:=fun s Q E st hQ=>zhA hh st.1 st.2 fun h' he'=>hQ h' s.toks fun b o hb e=>he' b o (fun h=>hb (by simp[h])) e
 self:=fun _ _ _ _ st hQ=>wpAny_pyIter_keyiter st.1 hQ
theorem ziN (d:Addr)(ep:Nat)(lo:(d==sysModules)=false):KdlSrc prog w "dict" d d es.size (fun i v=>∃e,es[i]?=some e/\v=e.key) (fun h=>uy h d es ep) where
 type:=fun s S=>S.typeIs
 there:=fun _ S=>⟨S.lt,S.lt⟩
 keep:=fun _ _ S hk=>S.keep fun o e=>hk d (.inl rfl) o e
 notList:=by decide
 notTuple:=by decide
 hint:=fun _ _ _ _ S hq=>kdl_hint_dict S.typeIs hq
 iter:=fun A s hh S=>⟨_,_,(fun _ _ hq=>zg4 lo S hq),zfF hh _ d (aO S.lt) ep,⟨⟨_,aB _ rfl,rfl,rfl⟩,S.keep fun o e=>am _ e⟩⟩
end
section
variable {prog:Program}{w:World}{A:Around}{E:Value->Shared->Prop}{s:Shared}
end
section
variable {X:Cx}
end
def keyT (kvs:List (List Int×V)):List (List Key×V):=kvs.map fun q=>(q.1.map Sum.inl,q.2)
def dtO (kvs:List (List Int×V)):HO:=.dT (keyT kvs)
section
variable {X:Cx}
end
open PySem PySem.Spec PyProof.Rows
abbrev Up' (l:List (List Int)):Prop:=l.Pairwise fun a b=>HT.lexLt a b=true
def zlm (x:List Int):List (List Int)->List (List Int)
 | []=>[x]
 | y::r=>if HT.lexLt x y then x::y::r else if x=y then y::r else y::zlm x r
def zcQ (l:List (List Int)):List (List Int):=l.foldr zlm []
theorem zcr {x z:List Int}:∀ {l:List (List Int)},z∈zlm x l↔z=x\/z∈l
 | []=>by show z∈[x]↔_;simp
 | y::r=>by
  unfold zlm;split
  ·simp
  ·split
   ·simp_all
   ·rw[aI,zcr,aI]
    grind
theorem xx {z:List Int}:∀ {l:List (List Int)},z∈zcQ l↔z∈l
 | []=>Iff.rfl
 | x::l=>by show z∈zlm x (zcQ l)↔_;rw[zcr,xx,aI]
theorem zgW {x:List Int}{m:Nat}(hx:x.length=m):∀ {l:List (List Int)},(∀y∈l,y.length=m)->Up' l->Up' (zlm x l)
 | [],_,_=>c9 _ _
 | y::r,hl,hu=>by
  have hy:=hl y aj;rw[Up',bB] at hu;unfold zlm;split
  ·rename_i h;refine bB.mpr ⟨fun z hz=>?_,bB.mpr hu⟩;rcases aI.mp hz with rfl | hz
   ·exact h
   ·exact u3 (hx.trans hy.symm) (by grind) h (hu.1 z hz)
  ·rename_i h;split
   ·exact bB.mpr hu
   ·rename_i hne;refine bB.mpr ⟨fun z hz=>?_,zgW hx (fun z hz=>hl z (ak _ hz)) hu.2⟩;rcases zcr.mp hz with rfl | hz
    ·rcases xZ (a:=z) (b:=y) (hx.trans hy.symm) with e | e | e
     all_goals simp_all
    ·exact hu.1 z hz
theorem zij {m:Nat}{l:List (List Int)}(h:∀y∈l,y.length=m):∀y∈zcQ l,y.length=m:=fun y hy=>h y (xx.mp hy)
theorem zaX {m:Nat}:∀ {l:List (List Int)},(∀y∈l,y.length=m)->Up' (zcQ l)
 | [],_=>.nil
 | x::l,h=>zgW (h x aj) (zij fun y hy=>h y (ak _ hy)) (zaX fun y hy=>h y (ak _ hy))
theorem zix {m:Nat}:∀ {l l':List (List Int)},(∀y∈l,y.length=m)->Up' l->Up' l'->(∀z,z∈l↔z∈l')->l=l'
 | [],[],_,_,_,_=>rfl
 | [],y::r,_,_,_,h=>absurd ((h y).mpr aj) (by simp)
 | x::l,[],_,_,_,h=>absurd ((h x).mp aj) (by simp)
 | x::l,y::r,hm,hu,hu',h=>by
  rw[Up',bB] at hu hu';have hm':∀z∈y::r,z.length=m:=fun z hz=>hm z ((h z).mpr hz)
  have e:x=y:=by
   rcases aI.mp ((h x).mp aj) with e | e
   ·exact e
   ·rcases aI.mp ((h y).mpr aj) with e' | e'
    ·exact e'.symm
    ·have h1:=hu'.1 x e;have h2:=hu.1 y e';have h3:=u3 ((hm x aj).trans (hm' y aj).symm) ((hm' y aj).trans (hm x aj).symm) h2 h1;rw[yY] at h3;cases h3
  subst e
  have notin:∀ {l:List (List Int)},(∀z∈l,HT.lexLt x z=true)->x∉l:=fun hl z=>by have:=hl x z;rw[yY] at this;cases this
  congr 1;refine zix (fun z hz=>hm z (ak _ hz)) hu.2 hu'.2 fun z=>?_
  grind
theorem zcR {m:Nat}{l l':List (List Int)}(hm:∀y∈l,y.length=m)(hu:Up' l')(h:∀z,z∈l'↔z∈l):l'=zcQ l:=
 zix (fun y hy=>hm y ((h y).mp hy)) hu (zaX hm) fun z=>(h z).trans xx.symm
def zam (bk:List Wi)(st hs:List Int):List (List Int):=(bk.filter fun x=>zbT st x&&!hs.contains x.b).map fun x=>chg st x.b x.r
def zj6 (bk:List Wi)(st hs:List Int):List (List Int):=zcQ (zam bk st hs)
theorem zc7 {bk:List Wi}{st hs z:List Int}:z∈zam bk st hs↔∃x∈bk,zbT st x=true/\x.b∉hs/\z=chg st x.b x.r:=by
 unfold zam
 grind
theorem zc6 {rm:List Int}{bk:List Wi}{st hs:List Int}(hok:∀x∈bk,WishOk rm x)(hl:st.length=rm.length):∀z∈zam bk st hs,z.length=rm.length:=fun z hz=>by obtain⟨x,hx,_,_,rfl⟩:=zc7.mp hz;have h1:=(hok x hx).b1;rw[zkR (hok x hx).b0 (by lia)];exact hl
theorem yr {α:Type}[BEq α][LawfulBEq α]:∀ {l l':List α},l.Nodup->(∀x∈l,x∈l')->l.length<=l'.length
 | [],_,_,_=>aL _
 | a::l,l',hn,h=>by
  rw[bT] at hn;have ha:=h a aj
  have:=yr (l:=l) (l':=l'.erase a) hn.2 fun x hx=>by grind
  grind
open PySem
end L2
namespace L2
open PySem PySem.Spec PyProof.Rows PySem.SeqAt
theorem zaY:∀ds:List Dt,Dt.toWs ds=ds.map Dt.toW
 | []=>rfl
 | d::ds=>by rw[Dt.toWs,av,zaY ds]
theorem zde:∀ds:List PySem.W.Dat,PySem.W.kqdPs ds=ds.map PySem.W.kqdP
 | []=>by simp[PySem.W.kqdPs]
 | d::ds=>by rw[av,<- zde ds];simp[PySem.W.kqdPs]
def zp7 (neg:Bool):R2:=fun x y H Q=>∃d ds,Is H d x/\(Is H (.lst ds) y\/Is H (.tup ds) y)/\d.eqOk/\(Dt.lst ds).eqOk/\∀b:Bool,(b=true↔d∈ds)->Q (.bl (if neg then !b else b)) H
section
variable {X:Cx}
theorem zcs {ds:List Dt}(h:(Dt.lst ds).eqOk):∀d∈ds,PySem.W.kqdOk 7 d.toW=true:=fun d hd=>by
 have h':PySem.W.kqdOk 8 (Dt.lst ds).toW=true:=h;simp only[Dt.toW,PySem.W.kqdOk,ba,zaY] at h'
 simp_all
theorem zcj {d:Dt}{ds:List Dt}(hd:d.eqOk)(hs:(Dt.lst ds).eqOk):((PySem.W.kqdPs (Dt.toWs ds)).any fun y=>PyData.eqv y (PySem.W.kqdP d.toW))=true↔d∈ds:=by
 rw[zde,zaY,az,List.any_map,List.any_eq_true];constructor
 ·rintro⟨e,he,h⟩;have:=(PySem.W.kqd_eqv 7 e.toW d.toW 8 (zcs hs e he) hd).mp h;rw[<- zeI this];exact he
 ·intro h;exact⟨d,h,(PySem.W.kqd_eqv 7 d.toW d.toW 8 (zcs hs d h) hd).mpr rfl⟩
theorem zje {d:PySem.W.Dat}(h:PySem.W.kqdOk 7 d=true):PySem.W.kqdOk 8 d=true:=by
 have gen:∀ (n:Nat) (d:PySem.W.Dat),PySem.W.kqdOk n d=true->PySem.W.kqdOk (n+1) d=true:=by
  intro n
  induction n with
  | zero=>intro d h;cases d <;> simp_all [PySem.W.kqdOk]
  | succ n ih=>
   intro d h;cases d <;> simp_all [PySem.W.kqdOk]
 exact gen 7 d h
theorem zkn {d:Dt}{ds:List Dt}{u:Nat}(hd:d.eqOk)(hs:(Dt.lst ds).eqOk)(hu:u+64<cLine):PyData.canLayAll0 (PySem.W.kqdPs (Dt.toWs ds))=true/\(PySem.W.kqdP d.toW).canLay0=true/\u+1+min (PyData.depthAll (PySem.W.kqdPs (Dt.toWs ds))) (PySem.W.kqdP d.toW).depth<cLine:=by
 have l1:=PySem.W.kqd_lay 8 _ hd
 have l2:=PySem.W.kqd_layL (ds:=Dt.toWs ds) fun e he=>by rw[zaY] at he;obtain⟨e',he',rfl⟩:=ay.mp he;exact zje (zcs hs e' he')
 refine⟨l2.1,l1.1,?_⟩;have:min (PyData.depthAll (PySem.W.kqdPs (Dt.toWs ds))) (PySem.W.kqdP d.toW).depth<=8:=ao (Nat.min_le_right _ _) l1.2;lia
theorem zoh (hu:X.A.units+64<cLine):OpQ X (compareOp .In) (zp7 false):=⟨by
 intro pins s σ H x y v u Q I rx ry h;obtain⟨d,ds,hd,hy,kd,ks,q⟩:=h;obtain⟨as,ra⟩:=yC I.hok 8 hd rx kd;obtain⟨l1,l2,l3⟩:=zkn kd ks hu;rcases hy with hy | hy
 ·obtain⟨bs,rb⟩:=yC I.hok 8 hy ry ks;exact in_list_reads rb ra l1 l2 l3 ⟨.bl _,H,I,rfl,q _ (zcj kd ks)⟩
 ·obtain⟨bs,rb⟩:=yC I.hok 8 hy ry (show (Dt.tup ds).eqOk from ks);exact in_tuple_reads rb ra l1 l2 l3 ⟨.bl _,H,I,rfl,q _ (zcj kd ks)⟩⟩
theorem zhK (hu:X.A.units+64<cLine):OpQ X (compareOp .NotIn) (zp7 true):=⟨by
 intro pins s σ H x y v u Q I rx ry h;obtain⟨d,ds,hd,hy,kd,ks,q⟩:=h;obtain⟨as,ra⟩:=yC I.hok 8 hd rx kd;obtain⟨l1,l2,l3⟩:=zkn kd ks hu;rcases hy with hy | hy
 ·obtain⟨bs,rb⟩:=yC I.hok 8 hy ry ks;exact notIn_list_reads rb ra l1 l2 l3 ⟨.bl _,H,I,rfl,q _ (zcj kd ks)⟩
 ·obtain⟨bs,rb⟩:=yC I.hok 8 hy ry (show (Dt.tup ds).eqOk from ks);exact notIn_tuple_reads rb ra l1 l2 l3 ⟨.bl _,H,I,rfl,q _ (zcj kd ks)⟩⟩
end
open PySem PySem.Spec PyProof.Rows
def zok (bk:List Wi)(box:Int)(st:List Int):List (List Int):=(bk.filter fun x=>decide (x.b=box)&&y0 st x.g).map fun x=>[x.w,x.r]
def lpF (bk:List Wi)(box:Int)(st:List Int):List (List Int):=zcQ (zok bk box st)
theorem zbk {rm st:List Int}{x:Wi}{w:Int}(hx:WishOk rm x)(hl:st.length=rm.length):y0 (chg st x.b w) x.g=y0 st x.g:=by
 unfold y0;rw[bK,ba,ba];have b1:=hx.b1;have key:∀q∈x.g,zC (chg st x.b w) q.1=zC st q.1:=fun q hq=>by rw[zal hx.b0 (by lia) (hx.giv.ok q hq).1,if_neg (hx.apart q hq)]
 constructor
 ·intro h q hq;have:=h q hq;rwa[key q hq] at this
 ·intro h q hq;rw[key q hq];exact h q hq
def zjX (C:Nat->Nat->Bool)(w j:Nat):List (List Int):=((List.range j).filter (C w)).map fun b:Nat=>[(w:Int),(b:Int)]
def zrQ (C:Nat->Nat->Bool)(n:Nat):Nat->List (List Int)
 | 0=>[]
 | i+1=>zrQ C n i++zjX C i n
open PySem PySem.Spec PyProof.Rows PySem.W PySem.Calls
section
variable {prog:Program}{w:World}{A:Around}{E:Value->Shared->Prop}{s:Shared}{R:Result->Shared->Prop}
end
open PySem PySem.Spec PyProof.Rows PySem.W
section
variable {prog:Program}{w:World}{A:Around}{E:Value->Shared->Prop}{s:Shared}
abbrev hI (prog:Program)(w:World)(q:Int×Tok):Int:=(zr prog w).hash (Sum.inl q.1)
abbrev vI (q:Int×Tok):Value:=.int q.1 q.2
def ur (prog:Program)(w:World)(h:Heap)(a:Addr)(ks:List Int):Prop:=∃xs o es ep t,h.get? a=some o/\o.ExactSet/\o.data = .set es ep t/\TbG w (hI prog w) vI t es xs/\ks=xs.map (·.1)/\ks.Nodup/\xs.length * 5<t.mask * 3
theorem zlK {n m:Nat}(h:xc m)(hr:n * 5<m * 3)(hf:(n+1) * 5 ≥ m * 3)(hn:n<300):∃mask,SetTable.sizeAbove (SetTable.grown (n+1))=mask+1/\xc mask/\(n+1) * 5<mask * 3:=by
 rcases h with e | e | e | e
 ·rw[e] at hr hf;have:n=4:=by lia
  rw[this];exact⟨31,by decide,.inr (.inl rfl),by lia⟩
 ·rw[e] at hr hf;have:n=18:=by lia
  rw[this];exact⟨127,by decide,.inr (.inr (.inl rfl)),by lia⟩
 ·rw[e] at hr hf;have:n=76:=by lia
  rw[this];exact⟨511,by decide,.inr (.inr (.inr rfl)),by lia⟩
 ·rw[e] at hr hf;lia
theorem zr8 {mask:Nat}(h:Int)(n:Nat):(stp mask h n).j+(stp mask h n).more<=mask:=by
 induction n with
 | zero=>
  have h0:SetTable.bits h % (mask+1)<=mask:=bH (du _ (cW _));obtain⟨r1,r2⟩:=ub h0;show SetTable.bits h % (mask+1)+(SetTable.runEnd mask (SetTable.bits h % (mask+1)) - SetTable.bits h % (mask+1))<=mask;lia
 | succ n ih=>
  show ((tm mask).advance (stp mask h n)).j+((tm mask).advance (stp mask h n)).more<=mask;by_cases hmr:0<(stp mask h n).more
  ·rw[zci _ _ hmr]
   grind
  ·rw[zaR _ _ (by lia)];have h0:((stp mask h n).i * 5+1+(stp mask h n).perturb / 32) % (mask+1)<=mask:=bH (du _ (cW _));obtain⟨r1,r2⟩:=ub h0
   grind
section
variable {α:Type}{hs:α->Int}{vl:α->Value}{t:SetTable}{es:Array (Int×Value)}{xs:List α}
theorem TbG.lay (T:TbG w hs vl t es xs)(c:α)(hf:xs.length+1<=t.mask):∃es' t' xs',layNew t es (hs c) (vl c)=(es',t',false,false)/\TbG w hs vl t' es' xs'/\xs'.Perm (c::xs)/\t'.mask=t.mask:=by
 obtain⟨N0,hN0,e0⟩:=T.empty (hs c);obtain⟨N,hN,hp,hc⟩:=zcH (t:=t) (hashAt:=fun _=>hs c+1) (h:=hs c) T.ris T.dm (10 * SetTable.turns t.mask) 0 ⟨N0,aL _,by lia,e0⟩;rcases hc with ⟨he,hg⟩ | ⟨i,_,z,_⟩
 ·have hNl:N<=N0:=by
   rcases eM N0 N with q | q
   ·obtain⟨i,e,_⟩:=hp N0 (aL _) q;exact absurd e (e0 i)
   ·exact q
  obtain⟨xs',T',pm⟩:=T.put (c:=c) (N:=N) (by lia) he (fun m hm=>let ⟨i,e,_⟩:=hp m (aL _) hm;⟨i,e⟩) hf (ao (Nat.le_add_right _ _) (zr8 (hs c) N))
  have ef:t.freeSlot (hs c)=some (wk t.mask (hs c) N,false):=by unfold SetTable.freeSlot;rw[show t.probe (fun _=>hs c+1) (hs c) (t.probeStart (hs c))=some (.empty (wk t.mask (hs c) N) none) from hg];rfl
  refine⟨_,_,xs',?_,T',pm,rfl⟩;unfold layNew;rw[ef];dsimp only;have ff:=T'.fits;rw[show (t.put (wk t.mask (hs c) N)).1.orStandIn (SetTable.insertAt es (t.put (wk t.mask (hs c) N)).2 (hs c,vl c)).size=(t.put (wk t.mask (hs c) N)).1 from if_pos ff,ff];rfl
 ·lia
theorem TbG.relay (T:TbG w hs vl t es xs){wanted mask:Nat}(hw:SetTable.sizeAbove wanted=mask+1)(hm:xc mask)(hl:xs.length<=mask):∃es' t' xs',relayAll t es wanted=(es',t',false)/\TbG w hs vl t' es' xs'/\xs'.Perm xs/\t'.mask=mask:=by obtain⟨t',order,xs',e,hsz,T',hp,hmk,hpo⟩:=T.laid hm hl t.finger (t.movedTo mask);refine⟨_,t',xs',?_,T',hp,hmk⟩;unfold relayAll SetTable.relaid;rw[hw,T.plain,dg,e];dsimp only;have ff:=T'.fits;rw[if_pos];rw[ff,cm];unfold coversAll;exact List.isPerm_iff.mpr hpo
end
end
section
variable {prog:Program}{w:World}{A:Around}{E:Value->Shared->Prop}{s:Shared}
theorem znu {xs:List (Int×Tok)}{es:Array (Int×Value)}(e:es.toList=xs.map fun q=>(hI prog w q,vI q)):ElemsOf (zr prog w) es.toList:=fun z hz=>by rw[e] at hz;obtain⟨q,_,rfl⟩:=ay.mp hz;exact⟨⟨Sum.inl q.1,xY q.1 q.2,rfl⟩,rfl⟩
theorem zkJ {a:Addr}{n:Int}{tk:Tok}{ks:List Int}{Q:Bool->Shared->Prop}(S:ur prog w s.heap a ks)(hn:ks.length<300)
  (h:∀r h' m ks',Heap.SameBut a s.heap h'->ur prog w h' a ks'->(∀x,x∈ks'↔x=n\/x∈ks)->ks'.length<=ks.length+1->Q r { s with heap:=h',toks:=m }):wpAny (model prog w) A (setAdd a (.int n tk)) Q E s:=by
 obtain⟨xs,o,es,ep,t,ho,hx,hd,T,rfl,hnd,hroom⟩:=S;rw[ab] at hn;have hkey:(zr prog w).is (Sum.inl n) (.int n tk)=true:=xY n tk;have hel:=znu (prog:=prog) (w:=w) T.eq;have hsz:=T.size;unfold setAdd;refine bI (aa ((zr prog w).pyHash hkey ?_));unfold setAddHashed;refine bI ?_;rw[show (100000:Nat)=99999+1 from rfl];unfold setAddHashedIn;refine aa (bd (s:={ s with toks:=s.toks+1 }) ho hd T.fits ?_);dsimp only;rw[byScan_of rfl (by rw[hsz];unfold scanBound;lia) hel];simp only[↓reduceIte];unfold setAddByScan;refine aa (aa (wpAny_rule (aa (wpAny_setScan_of (s:={ s with toks:=s.toks+1 }) hkey ho hd T.fits hel ?_))))
 have hit:∀q:Int×Tok,(zr prog w).is (Sum.inl n) (vI q)=decide (n=q.1):=fun q=>by have:=KeyKind.is_eq_decide (knd:=zr prog w) (k:=Sum.inl q.1) (v:=vI q) (xY q.1 q.2) (Sum.inl n);rw[this];simp
 have hmem:(∃e∈es.toList,(zr prog w).is (Sum.inl n) e.2=true)↔n∈xs.map (·.1):=by
  rw[T.eq];constructor
  ·rintro⟨e,he,hp⟩;obtain⟨q,hq,rfl⟩:=ay.mp he;rw[hit q] at hp;exact ay.mpr ⟨q,hq,(bw hp).symm⟩
  ·intro z;obtain⟨q,hq,rfl⟩:=ay.mp z;exact⟨_,ay.mpr ⟨q,hq,rfl⟩,by rw[hit q];simp⟩
 cases hr:List.findIdx? (fun e=>(zr prog w).is (Sum.inl n) e.2) es.toList with
 | some j=>
  dsimp only;obtain⟨hj,hpj,_⟩:=List.findIdx?_eq_some_iff_getElem.mp hr;have hin:=hmem.mp ⟨_,cw hj,hpj⟩;exact ae (ae (h false s.heap _ _ (Heap.SameBut.refl a s.heap) ⟨xs,o,es,ep,t,ho,hx,hd,T,rfl,hnd,hroom⟩ (fun x=>⟨.inr,fun z=>z.elim (fun e=>e ▸ hin) id⟩) (cQ _)))
 | none=>
  dsimp only
  have hout:n∉xs.map (·.1):=fun z=>by obtain⟨e,he,hp⟩:=hmem.mpr z;have:=List.findIdx?_eq_none_iff.mp hr e he;rw[hp] at this;cases this
  obtain⟨es1,t1,xs1,e1,T1,p1,hmk⟩:=T.lay (c:=(n,tk)) (by have:=T.msk.le;lia);have e1':layNew t es ((zr prog w).hash (Sum.inl n)) (.int n tk)=(es1,t1,false,false):=e1;rw[e1'];dsimp only;refine aa (ae ?_);rw[hashByValue_scannable 8 (x:=.int n tk) rfl,T1.plain];simp only[↓reduceIte];refine aa (ae ?_);simp only[plainKind,↓reduceIte];have l1:xs1.length=xs.length+1:=by rw[p1.length_eq];rfl
  have g1:=uk (es':=es1) (t':=t1) ho hd;have sb1:=bh s.heap a (Obj.putSet es1 t1);refine aa (dv (s:={ s with toks:=s.toks+1 }) ho hd ?_ (by rw[T1.size,bm];lia))
  have fin:∀ {xs2:List (Int×Tok)} {h':Heap},xs2.Perm xs1->Heap.SameBut a s.heap h'->(∃o es ep t,h'.get? a=some o/\o.ExactSet/\o.data = .set es ep t/\TbG w (hI prog w) vI t es xs2/\xs2.length * 5<t.mask * 3)->Q true { s with heap:=h',toks:=s.toks+1 }:=fun {xs2 h'} hp sb S=>by
   have hp2:=hp.trans p1;obtain⟨o2,es2,ep2,t2,a1,a2,a3,a4,a5⟩:=S;refine h true h' _ (xs2.map (·.1)) sb ⟨xs2,o2,es2,ep2,t2,a1,a2,a3,a4,rfl,?_,a5⟩ (fun x=>?_) ?_
   ·rw[(hp2.map (·.1)).nodup_iff,av,bT];exact⟨hout,hnd⟩
   ·rw[(hp2.map (·.1)).mem_iff,av,aI]
   ·rw[ab,ab,hp2.length_eq];exact ai _
  by_cases hf:t1.tooFull=true
  ·rw[if_pos (by rw[hf];rfl)];unfold SetTable.tooFull SetTable.fill at hf;have hf':=bw hf;rw[T1.sz,T1.dm,l1,hmk] at hf';obtain⟨mask,m1,m2,m3⟩:=zlK T.msk hroom hf' hn;obtain⟨es2,t2,xs2,e2,T2,p2,hmk2⟩:=T1.relay (wanted:=SetTable.grown es1.size) (by rw[T1.size,l1];exact m1) m2 (by lia);rw[e2];dsimp only;refine aa (ae ?_);refine aa (dv (s:={ s with heap:=s.heap.update a (Obj.putSet es1 t1),toks:=s.toks+1 }) g1 rfl ?_ (by rw[T2.size,p2.length_eq,bm];lia));exact ae (ae (fin p2 (sb1.trans (bh ..)) ⟨_,_,_,t2,uk g1 rfl,hx,rfl,T2,by rw[p2.length_eq,l1,hmk2];exact m3⟩))
  ·rw[if_neg (by simpa using hf)];unfold SetTable.tooFull SetTable.fill at hf;have hf':¬ (t1.place.size+t1.dummies.size) * 5 ≥ t1.mask * 3:=fun z=>hf (aK z);rw[T1.sz,T1.dm] at hf';exact ae (ae (fin (List.Perm.refl _) sb1 ⟨_,_,_,t1,g1,hx,rfl,T1,Nat.lt_of_not_le hf'⟩))
end
open PySem PySem.Spec PyProof.Rows PySem.W PySem.Calls
section
variable {X:Cx}
end
open PySem PySem.Spec PyProof.Rows
section
variable {X:Cx}{e st:Expr}{te tk:TE}{pos p2:Pos}
end
def unlike (one z hs:List Int):List Int:=hs.filter fun b=>decide (zC one b≠zC z b)
section
variable {X:Cx}{pos:Pos}
end
end L2
namespace L2
open PySem PySem.Spec PyProof.Rows
end L2
namespace L2
open PySem PySem.Spec PyProof.Rows
section
variable {M:Model}{A:Around}{E:Value->Shared->Prop}{s:Shared}
theorem za4 {α:Type}{f:List (Str×Addr)->Sem α}{Q:α->Shared->Prop}:∀ (names:List (Str×NameKind)) (cells:List (Str×Addr)),(∀y∈names,y.2≠.cell)->wpAny M A (f cells) Q E s->
  wpAny M A ((forIn names cells fun x r=>match x with | (name,kind)=>if (kind==NameKind.cell)=true then do let a <- alloc { cls:=.type "cell",data:=.cell none };pure (ForInStep.yield ((name,a)::r)) else pure (ForInStep.yield r)) >>= f) Q E s
 | [],cells,_,h=>h
 | (n,k)::r,cells,hn,h=>by
  have hk:(k==NameKind.cell)=false:=by simpa using hn (n,k) aj
  rw[List.forIn_cons];simp only[hk,aJ,if_false,pure_bind];exact za4 r cells (fun y hy=>hn y (ak _ hy)) h
theorem za5 {α:Type}{z:Str}{f:List (Str×Addr)->Sem α}{Q:α->Shared->Prop}:∀ (names:List (Str×NameKind)) (cells:List (Str×Addr)),names.filter (fun y=>y.2==.cell)=[(z,.cell)]->
  wpAny M A (f ((z,s.heap.objs.size)::cells)) Q E { s with heap:=s.heap.push { cls:=.type "cell",data:=.cell none } }->
  wpAny M A ((forIn names cells fun x r=>match x with | (name,kind)=>if (kind==NameKind.cell)=true then do let a <- alloc { cls:=.type "cell",data:=.cell none };pure (ForInStep.yield ((name,a)::r)) else pure (ForInStep.yield r)) >>= f) Q E s
 | [],cells,hn,h=>by cases hn
 | (n,k)::r,cells,hn,h=>by
  rw[List.forIn_cons];by_cases hk:(k==NameKind.cell)=true
  ·rw[List.filter_cons_of_pos (p:=fun y:Str×NameKind=>y.2==.cell) (a:=(n,k)) hk] at hn;injection hn with h1 h2;cases h1;simp only[hk,if_true,bind_assoc,pure_bind];refine aa (wpAny_alloc ?_);refine za4 r _ (fun y hy e=>?_) h;have:y∈r.filter (fun y=>y.2==.cell):=aT.mpr ⟨hy,by rw[e];rfl⟩
   grind
  ·rw[List.filter_cons_of_neg (p:=fun y:Str×NameKind=>y.2==.cell) (a:=(n,k)) hk] at hn;simp only[hk,aJ,if_false,pure_bind];exact za5 r cells hn h
theorem zek {scope:Scope}{z:Str}{globals:Addr}{closure:List (Str×Addr)}{qual:Str}{o:Env}{Q:Env->Shared->Prop}(hn:scope.names.filter (fun y=>y.2==.cell)=[(z,.cell)])
  (h:Q { scope,locals:=s.heap.objs.size,globals,cells:=(z,(s.heap.push { cls:=.type "dict",data:=.dict #[] }).objs.size)::closure,qual,func:=none,code:=o.code,frame:=o.frame,builtins:=o.builtins } { s with heap:=(s.heap.push { cls:=.type "dict",data:=.dict #[] }).push { cls:=.type "cell",data:=.cell none } }) :
  wpAny M A (newFunctionEnv scope globals closure [] qual none .none (some o)) Q E s:=by
 unfold newFunctionEnv;simp only[Option.isSome_some,if_true];refine aa (wpAny_alloc ?_);refine za5 scope.names closure hn ?_;exact aa (ae (ae h))
end
def z6 (X:Cx)(scope:Scope)(N:List Str)(z:Str)(C D:Addr)(s:Shared)(H:Hp)(ex:List Addr):Cx:=
 { zl X scope N C s H ex with env:={ compEnvC scope (zbQ X.env scope.names []) C X.env with cells:=(z,D)::zbQ X.env scope.names [] },fn:=fun y=>y==z }
def zgm (XN:List Str)(Xnames names:List (Str×NameKind))(N:List Str)(z:Str)(cix:List (Option Nat)):Bool:=
 N.length==cix.length&&(names.filter (fun y=>y.2==.cell)==[(z,NameKind.cell)]&&names.lookup z==some .cell)&&((N.zip cix).all fun p=>match p.2 with
  | none=>true
  | some i=>XN[i]?==some p.1&&names.lookup p.1==some .free&&(Xnames.lookup p.1==some .cell || Xnames.lookup p.1==some .free)) &&
 (names.all fun y=>y.2 != .free || (Xnames.lookup y.1==some .cell || Xnames.lookup y.1==some .free))
structure CompOkC (X:Cx)(scope:Scope)(N:List Str)(z:Str)(cix:List (Option Nat)):Prop where
 kind:scope.kind = .function
 names:∀x∈scope.names,x.2 = .local->scope.names.lookup x.1=some .local
 caps:zgm X.N X.env.scope.names scope.names N z cix=true
theorem mem_of_lookup {α β:Type}[BEq α][LawfulBEq α]{x:α}{k:β}:∀ {l:List (α×β)},l.lookup x=some k->(x,k)∈l
 | [],h=>by simp at h
 | (n,q)::r,h=>by
  rw[cr] at h
  cases e:x==n with
  | true=>
   grind
  | false=>
   rw[e] at h;exact ak _ (mem_of_lookup h)
theorem yJ {env:Env}:∀ {names:List (Str×NameKind)} {x:Str} {k:NameKind},
  (names.map fun (n,k)=>if (k==NameKind.free&&env.scope.kind==.function&&env.kindOf n==some .cell) then (n,NameKind.cell) else (n,k)).lookup x=some k->(k = .cell\/k = .free)->names.lookup x=some .free\/names.lookup x=some .cell
 | [],_,_,h,_=>by simp at h
 | (n,k)::r,x,k',h,hk=>by
  have ih:=@yJ env r x k'
  grind
section
variable {X:Cx}{pins:List (Addr×Obj)}{σ:St}{H:Hp}{s:Shared}{scope:Scope}{N:List Str}{z:Str}{cix:List (Option Nat)}
theorem CompOkC.parts (c:CompOkC X scope N z cix):N.length=cix.length/\scope.names.filter (fun y=>y.2==.cell)=[(z,.cell)]:=by
 have h:=c.caps;unfold L2.zgm at h
 simp_all
theorem CompOkC.lk (c:CompOkC X scope N z cix):scope.names.lookup z=some .cell:=by
 have h:=c.caps;unfold L2.zgm at h
 simp_all
theorem CompOkC.cells (c:CompOkC X scope N z cix)(ok:X.Ok):∀x∈scope.names,x.2 = .free->∃a,X.env.cells.lookup x.1=some a:=fun x hx e=>by
 have h:=c.caps;unfold L2.zgm at h;rw[aR] at h;have q:=ba.mp h.2 x hx;rw[e] at q;have q':(X.env.scope.names.lookup x.1==some NameKind.cell || X.env.scope.names.lookup x.1==some NameKind.free)=true:=by simpa using q
 rcases Bool.or_eq_true_iff.mp q' with q | q
 ·exact ok.has _ (.inl (dO q))
 ·exact ok.has _ (.inr (dO q))
theorem CompOkC.cap (c:CompOkC X scope N z cix){j i:Nat}{x:Str}(h1:N[j]?=some x)(h2:cix[j]?=some (some i)):X.N[i]?=some x/\scope.names.lookup x=some .free/\(X.env.scope.names.lookup x=some .cell\/X.env.scope.names.lookup x=some .free):=by
 have h:=c.caps;unfold L2.zgm at h;rw[aR,aR] at h
 have hm:(x,some i)∈N.zip cix:=by refine aw (i:=j) ?_;rw[List.getElem?_zip_eq_some];exact⟨h1,h2⟩
 have q:=ba.mp h.1.2 _ hm
 grind
theorem CompOkC.isZ (c:CompOkC X scope N z cix){x:Str}(h:scope.names.lookup x=some .cell):x=z:=by
 have:(x,NameKind.cell)∈scope.names.filter (fun y=>y.2==.cell):=aT.mpr ⟨mem_of_lookup h,rfl⟩;rw[c.parts.2,aC] at this
 grind
theorem zgX {fp:List Addr}{h':Heap}{tk:Nat}{m:Str->Option Value}{D:Addr}(I:Inv X pins σ H s)(c:CompOkC X scope N z cix)(hf:∀b∈fp,zcX X pins H b)(hfo:∀b∈fp,b<s.heap.objs.size)
  (hn:h'.Ns s.heap.objs.size m) (hD:s.heap.objs.size<=D) (hcd:h'.IsCell D none) (hk:∀b o,s.heap.get? b=some o->h'.get? b=some o) :
  Inv (z6 X scope N z s.heap.objs.size D s H fp) [] (xy σ cix) H { s with heap:=h',toks:=tk }:=by
 have hcl:=c.cells I.ok
 have back:∀x a,((z,D)::zbQ X.env scope.names []).lookup x=some a->(x=z/\a=D)\/(x≠z/\(zbQ X.env scope.names []).lookup x=some a/\X.env.cells.lookup x=some a/\a<s.heap.objs.size):=fun x a e=>by
  rw[cr] at e
  cases q:x==z with
  | true=>
   simp_all
  | false=>
   rw[q] at e;have e':(zbQ X.env scope.names []).lookup x=some a:=e
   have hl:X.env.cells.lookup x=some a:=by
    rcases xS hcl e' with z | z
    ·exact z
    ·simp at z
   obtain⟨v,oc,hoc,_⟩:=I.cell x a hl;exact .inr ⟨by grind,e',hl,au hoc⟩
 refine⟨⟨I.mod,c.kind,I.ok.glob,I.ok.blt,ai _,fun x y a e1 e2=>?_,fun x hx=>?_,fun x a hz e=>?_,I.ok.hd,I.ok.frames,.inl rfl,
  fun b hb=>⟨aO (hfo b hb),fun x a e=>?_⟩,I.bs,ao I.ok.bsz I.sz,fun b o e hb=>?_,fun b hb z=>?_,I.stack,I.stkFree⟩,
  I.os ▸ rfl,I.bare,Un.kept hk,⟨m,hn,fun j x v h1 h2 h3=>?_⟩,fun x a e=>?_,I.hok.fresh (ai _),fun x a e=>?_,fun p hp=>absurd (show p∈([]:List (Addr×Obj)) from hp) (by simp),I.hok.kept hk,?_⟩
 ·rcases back x a e1 with ⟨r1,r2⟩ | ⟨_,_,r1,r2⟩ <;> rcases back y a e2 with ⟨q1,q2⟩ | ⟨_,_,q1,q2⟩
  ·grind
  ·exact absurd (aF q2 (r2 ▸ hD)) (bt _)
  ·exact absurd (aF r2 (q2 ▸ hD)) (bt _)
  ·exact I.ok.inj x y a r1 q1
 ·have hx':((relabel scope X.env).names.lookup x=some .cell\/(relabel scope X.env).names.lookup x=some .free):=hx
  have hx2:scope.names.lookup x=some .free\/scope.names.lookup x=some .cell:=by
   rcases hx' with q | q
   ·exact yJ q (.inl rfl)
   ·exact yJ q (.inr rfl)
  show ∃a,((z,D)::zbQ X.env scope.names []).lookup x=some a;rw[cr]
  cases q:x==z with
  | true=>exact⟨D,rfl⟩
  | false=>
   rcases hx2 with e | e
   ·exact uh e
   ·exact absurd (c.isZ e) fun w=>by subst w;simp at q
 ·have hz':(x==z)=true:=hz;rcases back x a e with ⟨_,r⟩ | ⟨r,_⟩
  ·rw[r];exact hD
  ·simp_all
 ·rcases back x a e with ⟨_,r⟩ | ⟨_,_,r,_⟩
  ·rw[r];exact dU (aF (hfo b hb) hD)
  ·exact (hf b hb).2.2.2.2.1 x a r
 ·rcases (hf b hb).2.2.2.1 with z | z
  ·exact I.ok.noex b o e z
  ·exact absurd (aF (au e) (ao I.ok.bsz z)) (bt _)
 ·rcases aI.mp (I.stkSub b z) with e | e
  ·exact (hf b hb).2.1 e
  ·exact (hf b hb).2.2.1 e
 ·have h1':N[j]?=some x:=h1;unfold xy at h2;rw[aA] at h2
  cases e:cix[j]? with
  | none=>rw[e] at h2;cases h2
  | some o=>
   rw[e] at h2
   cases o with
   | none=>cases h2
   | some i=>
    have h2':(σ[i]?).join=some v:=bJ h2
    have h2'':σ[i]?=some (some v):=by
     cases q:σ[i]? with
     | none=>rw[q] at h2';cases h2'
     | some z=>rw[q] at h2';have:z=some v:=h2';rw[this]
    obtain⟨q1,q2,q3⟩:=c.cap h1' e;obtain⟨m0,hn0,hl0⟩:=I.loc;obtain⟨u,ru,hu⟩:=hl0 i x v q1 h2'' (q3.elim (fun z=>.inr (.inl z)) fun z=>.inr (.inr z));refine⟨u,ru,.inr ⟨yz q2,?_⟩⟩;rcases hu with ⟨z,_⟩ | ⟨_,a,ha,hcell⟩
    ·have z':X.env.scope.names.lookup x=some .local:=z
     simp_all
    ·obtain⟨a',ha'⟩:=uh (env:=X.env) (cs:=[]) q2
     have hxz:(x==z)=false:=by
      cases q:x==z with
      | false=>rfl
      | true=>
       have:=dO q;subst this;rw[c.lk] at q2;cases q2
     have hlk:((z,D)::zbQ X.env scope.names []).lookup x=some a':=by rw[cr,hxz];exact ha'
     have:a'=a:=by
      rcases back x a' hlk with ⟨r,_⟩ | ⟨_,_,r,_⟩
      all_goals simp_all
     subst this;obtain⟨oc,hoc,hd⟩:=hcell;exact⟨a',hlk,oc,hk _ _ hoc,hd⟩
 ·rcases back x a e with ⟨_,r⟩ | ⟨_,_,r,_⟩
  ·rw[r];exact⟨none,hcd⟩
  ·obtain⟨v,oc,hoc,hd⟩:=I.cell x a r;exact⟨v,oc,hk _ _ hoc,hd⟩
 ·rcases back x a e with ⟨_,r⟩ | ⟨_,_,r,_⟩
  ·rw[r];exact I.hok.fresh hD
  ·exact I.freeC x a r
 ·show (xy σ cix).length=N.length;unfold xy;rw[ab,c.parts.1]
theorem zec {fp:List Addr}{σ':St}{H':Hp}{s':Shared}{h'':Heap}{D:Addr}(I:Inv X pins σ H s)(hf:∀b∈fp,zcX X pins H b)(I':Inv (z6 X scope N z s.heap.objs.size D s H fp) [] σ' H' s')(hs:Heap.SameBut s.heap.objs.size s'.heap h'') :
  Inv X pins σ H' { s' with heap:=h'' }:=by
 have ne:∀b o,s.heap.get? b=some o->b≠s.heap.objs.size:=fun b o e=>aO (au e);have u:=I'.base;refine Inv.call' (ch:=fp) I I'.os ⟨fun b o e n hb hx=>?_,fun b o e n hb hx=>?_,u.free,fun b o e hx=>?_,u.tups,u.frzs,u.tbls⟩ (zbe I'.hok I'.free hs) I'.bare fun b hb=>⟨(hf b hb).2.2.2.1,(hf b hb).2.1,(hf b hb).2.2.2.2.1,(hf b hb).2.2.2.2.2⟩
 ·exact (hs.2 b (ne b o e)).trans (u.keep b o e n hb hx)
 ·obtain⟨sl,q⟩:=u.slot b o e n hb hx;exact⟨sl,(hs.2 b (ne b o e)).trans q⟩
 ·obtain⟨o',q⟩:=u.there b o e hx;exact⟨o',(hs.2 b (ne b o e)).trans q⟩
end
section
variable {X:Cx}{scope:Scope}{N:List Str}{cix:List (Option Nat)}{z:Str}
theorem zjo (c:CompOkC X scope N z cix):Opn X scope cix (fun X'=>∃C D s H ex,X'=z6 X scope N z C D s H ex) where
 kind:=c.kind
 names:=c.names
 cells:=c.cells
 run:=fun pins σ H3 s3 fp Q I3 f3 ltF k=>by
  refine zek c.parts.2 ?_;have hCD:s3.heap.objs.size<=(s3.heap.push { cls:=.type "dict",data:=.dict #[] }).objs.size:=by rw[Heap.size_push];exact cQ _
  have kp:∀b o,s3.heap.get? b=some o->((s3.heap.push { cls:=.type "dict",data:=.dict #[] }).push { cls:=.type "cell",data:=.cell none }).get? b=some o:=fun b o e=>am _ (am _ e);refine k (z6 X scope N z s3.heap.objs.size (s3.heap.push { cls:=.type "dict",data:=.dict #[] }).objs.size s3 H3 fp) _ _ ⟨_,_,_,_,_,rfl⟩ ⟨rfl,rfl,rfl,rfl,rfl,rfl,rfl,fun {H'} hn b hb=>⟨hn b hb,aO (ltF b hb),fun y=>?_,.inl hb,fun x a e=>?_,fun p hp=>?_⟩,fun I' hs=>zec I3 f3 I' hs⟩ rfl rfl (zgX I3 c f3 ltF ((Heap.Ns.new ..).at' fun o e=>am _ e) hCD ⟨_,aB _ rfl,rfl⟩ kp) kp
  ·rcases aI.mp (I3.stkSub b y) with e | e
   ·exact (f3 b hb).2.1 e
   ·exact (f3 b hb).2.2.1 e
  ·have e':((z,(s3.heap.push { cls:=.type "dict",data:=.dict #[] }).objs.size)::zbQ X.env scope.names []).lookup x=some a:=e;rw[cr] at e'
   cases q:x==z with
   | true=>
    rw[q] at e';cases (show some _=some a from e');exact dU (aF (ltF b hb) hCD)
   | false=>
    rw[q] at e';rcases xS (c.cells I3.ok) e' with y | y
    ·exact (f3 b hb).2.2.2.2.1 x a y
    ·simp at y
  ·exact absurd (show p∈([]:List (Addr×Obj))++[] from hp) (by simp)
theorem zqP {P:Cx->Prop}(h:∀C D s H ex,P (z6 X scope N z C D s H ex)):∀X',(∃C D s H ex,X'=z6 X scope N z C D s H ex)->P X':=by simp_all
end
end L2
namespace L2
open PySem PySem.Spec PyProof.Rows
theorem zhS {X:Cx}{pos:Pos}{te:TE}{elt tg iter:Expr}{ifs:List Expr}{scope:Scope}{wi:TI}{g:TG}{ti:TT}{N:List Str}{z:Str}{cix:List (Option Nat)}(hc:X.calm=true)(c:CompOkC X scope N z cix)
  (hi:QI X tg iter wi) (hg:∀C D s H ex,QG (z6 X scope N z C D s H ex) tg g) (ht:∀C D s H ex,QTs (z6 X scope N z C D s H ex) ifs ti) (he:∀C D s H ex,QE (z6 X scope N z C D s H ex) elt te)
  (hs:∀x,foldedSetIterable iter X.env x=pure x:=by intro _;rfl):QE X (.ListComp elt [⟨tg,iter,ifs,0⟩] scope pos) (zfx wi g ti te cix):=⟨fun pins s σ H Q I h=>by
 rw[eval_ListComp];exact zbm (Fin:=fun acc H=>Q (.ref acc) H) (zjo c) hc hi.run (zqP fun C D s H ex=>(hg C D s H ex).run) (zqP fun C D s H ex=>(ht C D s H ex).run) (zqP fun C D s H ex=>(he C D s H ex).run) hs I h fun _ _ _ _ _ hm hb q=>zaS hm hb q⟩
section
variable {prog:Program}{w:World}{A:Around}{E:Value->Shared->Prop}{s:Shared}{R:Result->Shared->Prop}{Kt:Type}[DecidableEq Kt]{knd:KeyKind prog w Kt}{κ:Int->Kt}
end
end L2
namespace L2
open PySem PySem.Spec PyProof.Rows
theorem zer {X:Cx}{pins:List (Addr×Obj)}{σ:St}{H:Hp}{s:Shared}{a:Addr}{xs:List V}(I:Inv X pins σ H s)(h:SqL X.K H a xs):∃its:List Value,zU xs its/\s.heap.IsList a its.toArray/\xs.length<=sizeLine:=by obtain⟨its,r,⟨o,n,e,c,_,d⟩,z⟩:=I.list h;exact⟨its,r,⟨o,e,c,n,d⟩,z⟩
def Iel (K:PySem.W.Frag)(a:Addr):It:=
 ⟨fun i H=>∃xs x,SqL K H a xs/\xs[i]?=some x,fun i H v H'=>∃T x,v = .ref T/\H T=none/\H'=upd H T (.tup [.int i,x])/\∀xs,SqL K H a xs->xs[i]?=some x,fun i H=>∃xs,SqL K H a xs/\xs.length<=i⟩
theorem zgJ {X:Cx}{pins:List (Addr×Obj)}{σ:St}{H:Hp}{s:Shared}{e it:Addr}{i n:Nat}{old:Value}{fp:List Addr}{P:Nat->Value->Prop}{St:Nat->Heap->Prop}{x:V}{elts:List Expr}{x1}{tpos:Pos}{E:Value->Shared->Prop}(I:Inv X pins σ H s)(hf:∀b∈[e,it],zcX X pins H b)(hei:e≠it)(he:IsEnum s.heap e it i old)
  (D:Draws X.prog X.w X.A.in1 it fp n P St) (hst:St i s.heap) (hi:i<n) (hef:e∉fp) (hx:∀y,P i y->yo x y) :
  wpAny (model X.prog X.w) X.A (pyNext (.ref e)) (fun r s1=>∃u,r=some u/\wpAny (model X.prog X.w) X.A (letOwnedTupleGo (.Tuple elts x1 tpos) (.ref e) u) (fun _ s2=>∃T,Inv X pins σ (upd H T (.tup [.int i,x])) s2/\u = .ref T/\H T=none/\(∃old,IsEnum s2.heap e it ((i+1:Nat):Int) old)/\St (i+1) s2.heap/\∀b∈[e,it],upd H T (.tup [.int i,x]) b=none) E s1) E s:=by
 obtain⟨f0,f1,f2,f3,f4,f5⟩:=hf e (by simp);obtain⟨g0,g1,g2,g3,g4,g5⟩:=hf it (by simp);obtain⟨o0,ho0⟩:=D.live _ _ hst;refine wpAny_pyNext_enum_itemD D he hst hi hei hef fun y h' tk hy ho hst' hT hsz' hk=>⟨_,rfl,wpAny_letOwnedTupleGo_enum ho fun h'' he'' hs''=>?_⟩;have ru:=hx y hy;have hTe:s.heap.objs.size≠e:=dU (au he);have hTi:s.heap.objs.size≠it:=dU (au ho0);have hnone:=I.hok.fresh (ai s.heap.objs.size);have kp:∀b o,b≠e->b≠it->s.heap.get? b=some o->h''.get? b=some o:=fun b o h1 h2 hb=>(hs''.2 b h1).trans (hk b o h1 h2 hb);have hT'':h''.get? s.heap.objs.size=some { cls:=.type "tuple",data:=.seq #[.int i tk,y] }:=(hs''.2 _ hTe).trans hT;have objK:∀b u',H b=some u'->b≠e/\b≠it:=fun b u' hb=>⟨zb hb f0,zb hb g0⟩
 have hok':HOk X.prog X.w (upd H s.heap.objs.size (.tup [.int i,x])) h'':=by
  intro b u' hb;by_cases hbT:b=s.heap.objs.size
  ·subst hbT;rw[zg] at hb;cases hb;exact⟨by show 2<=sizeLine;decide,[.int i tk,y],.cons ⟨tk,rfl⟩ (.cons ru .nil),_,hT'',rfl,⟨0,rfl⟩,rfl⟩
  ·rw[zc hbT] at hb;refine (I.hok b u' hb).stay (fun c v hcv q=>?_) (fun c q=>?_) (fun c ys q=>?_)
   ·grind
   ·rw[zc (zb q hnone)];exact q
   ·rw[zc (zb q hnone)];exact q
 have I1:Inv X pins σ (upd H s.heap.objs.size (.tup [.int i,x])) { s with heap:=h'',toks:=tk+1 }:=by
  refine Inv.step (ch:=[e,it]) (g':=s.gens) (d':=s.drawn) (t':=tk+1) I (fun b hb=>?_) (fun b o h1 h2 h3 h4 h5=>?_) (fun b o h1 h2 h3 h4 h5=>?_) (fun b o h3 h4 h5=>?_) (fun b o h3 h4=>?_) (fun b ys q=>?_) (fun b o u' q=>?_) (fun b ps q=>?_) (fun m hm=>?_) hok' I.bare
  ·rcases aI.mp hb with rfl | hb
   ·exact⟨f3,f1,f4,f5⟩
   ·rw[aC.mp hb];exact⟨g3,g1,g4,g5⟩
  ·simp_all
  ·exact⟨o.slots,kp b o (fun z=>h3 (by simp[z])) (fun z=>h3 (by simp[z])) h4⟩
  ·rw[zc (aO (au h4))];exact h5
  ·simp_all
  ·rw[zc (zb q hnone)];exact q
  ·rw[zc (zb q hnone)];exact q
  ·exact⟨#[],by rw[zc (zb q hnone),Array.append_empty];exact q⟩
  ·obtain⟨o,es,ep,ho1,r1⟩:=hm;exact⟨o,es,ep,kp _ o (Ne.symm f1) (Ne.symm g1) ho1,r1⟩
 refine⟨s.heap.objs.size,I1,rfl,hnone,⟨y,by have:=he'';push_cast;exact this⟩,D.frame _ _ _ hst' fun b hb o z=>(hs''.2 b fun q=>hef (q ▸ hb)).trans z,fun b hb=>?_⟩;rcases aI.mp hb with rfl | hb
 ·rw[zc (Ne.symm hTe)];exact f0
 ·rw[aC.mp hb,zc (Ne.symm hTi)];exact g0
theorem ziP {h:Heap}{e it:Addr}{i:Int}(he:∃old,IsEnum h e it i old)(hi:∃o,h.get? it=some o/\∀v,o.data≠.cell v):∀b∈[e,it],∃o,h.get? b=some o/\∀v,o.data≠.cell v:=by grind
theorem zf2 {P:Program}{w:World}{K:PySem.W.Frag}{elts:List Expr}{x1}{tpos:Pos}(a it e:Addr)(hei:e≠it) :
  Turn P w K (.Tuple elts x1 tpos) (Iel K a) [e,it] e (fun i h=>(∃old,IsEnum h e it i old)/\h.IsListIter it a i) where
 mem:=by simp
 obj:=fun i h st=>ziP st.1 (by obtain⟨_,o,e,c,d⟩:=st;exact⟨o,e,by grind⟩)
 keep:=fun i h h' st k=>by obtain⟨⟨old,he⟩,o,ho,r⟩:=st;exact⟨⟨old,k e (by simp) _ he⟩,o,k it (by simp) _ ho,r⟩
 item:=by
  intro X hP hw hK hc i pins s σ H E I hf st hg;subst hP hw hK;obtain⟨xs,x,hq,hx⟩:=hg;obtain⟨its,rv,p,hz⟩:=zer I hq;obtain⟨u,hu,ru⟩:=rv.get hx;obtain⟨⟨old,he⟩,hit⟩:=st
  have hai:a≠it:=by
   intro z;obtain⟨o,ho,hcl,_⟩:=p;obtain⟨o',ho',hcl',_⟩:=hit
   grind
  have hea:e≠a:=by
   intro z;obtain⟨o,ho,hcl,_⟩:=p
   grind
  refine thn (zgJ (x:=x) (elts:=elts) (x1:=x1) (tpos:=tpos) I hf hei he (Draws.list (A:=X.A.in1) (I.ok.hd hc) it a hai its.toArray) ⟨hit,p⟩ (by simpa using (af.mp hu).1) (by simp[hei,hea]) fun y hy=>?_) ?_
  ·simp_all
  ·rintro r s1 ⟨u2,rfl,h2⟩;refine⟨_,rfl,thn h2 ?_⟩;rintro _ s2 ⟨T,h3,rfl,h4,h5,h6,h7⟩;exact⟨.ref T,_,h3,rfl,⟨T,x,rfl,h4,rfl,fun ys hy2=>by rw[I.list_inj hy2 hq];exact hx⟩,⟨h5,h6.1⟩,h7⟩
 done:=by
  intro X hP hw hK hc i pins s σ H E I hf st hg;subst hP hw hK;obtain⟨xs,hq,hx⟩:=hg;obtain⟨its,rv,p,hz⟩:=zer I hq;obtain⟨f0,f1,f2,f3,f4,f5⟩:=hf it (by simp);obtain⟨⟨old,he⟩,hit⟩:=st;have hl:=rv.length;have hT:s.TypeIs (.ref e) "enumerate" := ⟨_,he,rfl⟩;unfold pyNext
  refine aa (dJ (wpAny_callSpecial?_slot (name:=Str.ofString "__next__") hT F.slot_enumerate_next
   (a6 F.slot_enumerate_next hT F.entry_enumerate_next ?_ (F.args_enumerate_next_1 _))))
  show wpAny _ _ (field (.ref e) 2 >>= _) _ _ _;refine aa (wpAny_field he rfl (x:=.ref it) rfl ?_);refine aa (wpAny_nextOf_list_end (A:=X.A.in1) (I.ok.hd hc) hit p (by simp;lia) fun h' x he' hx'=>?_);obtain⟨o,ho,hc'⟩:=hx';refine aa (cP (T := "StopIteration") (b:=true) ⟨o,ho,hc'⟩ eh ?_);exact ae ⟨rfl,I.turned (t':=s.toks) (fun b o hb e=>he' b o hb e) f0 f1 f3 f4 f5⟩
 self:=fun A i s Q E st h=>by obtain⟨⟨old,he⟩,hit⟩:=st;exact wpAny_pyIter_enum he h
def zki (K:PySem.W.Frag)(ta:TA):TI:=fun σ H R=>ta σ H fun vs H1=>∃a,vs=[.ref a]/\(∃xs,SqL K H1 a xs)/\R (Iel K a) H1
theorem zjw {X:Cx}{elts:List Expr}{x1}{tpos:Pos}{a:Expr}{ta:TA}{p pos:Pos}(hg:Gl X "enumerate")(hm:X.mg "enumerate" = none)(ha:PA X [a] ta)(hs:starEach [a] X.env=[(false,eval a X.env)]:=by rfl) :
  PI X (.Tuple elts x1 tpos) (.Call (.Name "enumerate" p) [a] [] pos) (zki X.K ta):=by
 intro pins s σ H R I h;refine Call_ (zdh I hg hm boot_enumerate (cC (thn (ha pos pins s σ H _ I h) fun us s1 ⟨vs,H1,I1,r1,q1⟩=>?_) hs rfl));obtain⟨b,rfl,⟨xs,hq⟩,q⟩:=q1;obtain⟨u,rfl,ru⟩:=uq r1;cases ru;obtain⟨its,rv,pt,hz⟩:=zer I1 hq;refine call_enumerate_list (show s1.heap.IsList b its.toArray from pt) fun h' he hit hsz hk=>?_;have I2:Inv X pins σ H1 { s1 with heap:=h',toks:=s1.toks }:=I1.kept (t':=s1.toks) hk;refine wpAny_pyIter_enum he ?_;refine⟨s1.heap.objs.size+1,[s1.heap.objs.size+1,s1.heap.objs.size],_,_,H1,rfl,I2,zf2 b s1.heap.objs.size (s1.heap.objs.size+1) (Nat.succ_ne_self _),⟨⟨_,he⟩,hit⟩,fun c hc=>?_,q⟩;rcases aI.mp hc with rfl | hc
 ·exact I1.fpOk (cQ _) (I1.hok.fresh (cQ _))
 ·rw[aC.mp hc];exact I1.fpOk (ai _) (I1.hok.fresh (ai _))
theorem zjH {X:Cx}{elts:List Expr}{x1}{tpos:Pos}{a:Expr}{ta:TA}{p pos:Pos}(hg:Gl X "enumerate")(hm:X.mg "enumerate" = none)(ha:QA X [a] ta)(hs:starEach [a] X.env=[(false,eval a X.env)]:=by rfl) :
  QI X (.Tuple elts x1 tpos) (.Call (.Name "enumerate" p) [a] [] pos) (zki X.K ta):=⟨zjw hg hm ha.run hs⟩
end L2
namespace L2
open PySem PySem.Spec PyProof.Rows
@[reducible] def nmS (b:Bool):String:=match b with | true => "tuple" | false => "list"
@[reducible] def nmI (b:Bool):String:=match b with | true => "tuple_iterator" | false => "list_iterator"
@[reducible] def SqV (b:Bool) (K:PySem.W.Frag) (H:Hp) (a:Addr) (xs:List V):Prop:=match b with | true=>SqT K H a xs | false=>SqL K H a xs
section
variable {prog:Program}{w:World}{A:Around}{E:Value->Shared->Prop}{s:Shared}
end
section
variable {X:Cx}
theorem zku {T:String}{name:Str}{id:String}{r:V->List V->Hp->VK->Prop}{o e:Expr}{es:List Expr}{to:TE}{t:TA}{apos cpos:Pos}(pa:PlainAttrs T)(slot:Slot T name id)(hty:typeOf (.builtin id)=pure (.type "method_descriptor"))(hm:MtR X id r)(ho:QE X o to)(ha:QA X (e::es) t)
  (hbase:attributeBase o name X.env (eval o X.env)=eval o X.env:=by rfl)
  (hfew:((backTo cpos (starEach (e::es) X.env)).all (fun x=>!x.1)&&(backToKw cpos (keywordEach [] X.env)).all (fun x=>x.1.isSome)
   && decide ((e::es).length+([]:List Keyword).length+(if ([]:List Keyword).isEmpty then 0 else 1)<30))=true:=by rfl)
  (hline:(apos.endLine==cpos.line)=true:=by rfl) (hs:starEach (e::es) X.env=(false,eval e X.env)::starEach es X.env:=by rfl) (hplain:(backTo cpos (starEach es X.env)).any (·.1)=false:=by rfl) :
  QE X (.Call (.Attribute o name apos) (e::es) [] cpos) (tBM X.K T r to t):=⟨zom pa slot hty hm ho.run ha.run hbase hfew hline hs hplain⟩
def zh3:List V->Hp->VK->Prop:=fun xs H Q=>∃ (l:Addr) (ns:List Int),xs=[.ref l]/\Rd H l (.lst (ns.map V.int))/\ns.length<64/\∀ns':List Int,ns'.Perm ns->ns'.Pairwise (·<=·)->New H (.lst (ns'.map V.int)) Q
theorem ze5:∀ {ns:List Int} {its:List Value},zU (ns.map V.int) its->IntsAre its ns
 | [],_,h=>by cases h;exact .nil
 | n::ns,_,h=>by
  cases h with
  | cons r1 r2=>
   obtain⟨t,rfl⟩:=r1;exact .cons _ _ (ze5 r2)
theorem zeP {ns:List Int}{its:List Value}(h:IntsAre its ns):zU (ns.map V.int) its:=by
 induction h with
 | nil=>exact .nil
 | cons _ _ _ ih=>exact .cons ⟨_,rfl⟩ ih
theorem uQ:CallQ X (.builtin "sorted") zh3:=⟨by
 intro pins s σ H xs us Q I r h;obtain⟨l,ns,rfl,hl,h64,q⟩:=h;obtain⟨u,rfl,ru⟩:=uq r;cases ru;obtain⟨its,rv,pl,hz⟩:=I.list (.inl hl);obtain⟨m0,hns,_⟩:=id I.loc;refine PySem.W.kso_sorted (h₀:=(⟨#[],{}⟩:Heap)) (L:=X.env.locals) (m:=m0) (news:=xJ s.heap X.env.locals) ⟨hns,fun b o e=>?_,aL _⟩ (fun p hp=>?_) pl.isList (ze5 rv) h64 fun D vs' ns' c h' F N hDlt hi hlen hp hs _=>?_
 ·have:=au e;simp at this
 ·obtain⟨b,o⟩:=p;have:=zx.mp hp;refine⟨this.2,this.1,?_⟩
  cases e:(⟨#[],{}⟩:Heap).get? b with
  | none=>rfl
  | some o'=>
   have:=au e;simp at this
 ·have kp2:∀b o,b≠X.env.locals->s.heap.get? b=some o->h'.get? b=some o:=fun b o hb e=>(N (b,o) (ak _ (zx.mpr ⟨hb,e⟩))).1;have hDL:D≠X.env.locals:=(N (D,_) aj).2.1
  have hDn:s.heap.get? D=none:=by
   cases e:s.heap.get? D with
   | none=>rfl
   | some o=>exact absurd (hDlt (D,o) (zx.mpr ⟨hDL,e⟩)) (bt _)
  have hHD:H D=none:=by
   cases e:H D with
   | none=>rfl
   | some o=>
    obtain⟨o',ho'⟩:=x4 (I.hok D o e)
    grind
  have hout:=(N (D,_) aj).1;have I':=zbg I hns (ys:=ns'.map V.int) kp2 F.ns hDn hHD hout (zeP hi) (by grind) s.toks;exact⟨.ref D,_,I',rfl,(q ns' hp hs).at hHD⟩⟩
end
open PySem PySem.Spec PyProof.Rows PySem.W
def uo (P:Program)(w:World)(a:Addr)(ks:List Int):HO:=.ext fun h=>ur P w h a ks
theorem zfq {P:Program}{w:World}{H:Hp}{h:Heap}{a:Addr}{ks:List Int}(S:ur P w h a ks):zW P w H h a (uo P w a ks):=by
 refine⟨S,?_,fun h1 h2 q k=>?_⟩
 ·obtain⟨_,o,_,_,_,ho,_⟩:=S;exact⟨o,ho⟩
 ·obtain⟨xs,o,es,ep,t,ho,r⟩:=q;exact⟨xs,o,es,ep,t,k o ho,r⟩
theorem zjS {P:Program}{w:World}{a d:Addr}{ks:List Int}{ob:Obj}(hs:∃h:Heap,h.get? d=some ob):(fun h=>ur P w h a ks)≠fun h=>h.get? d=some ob:=fun e=>by
 obtain⟨h0,hh⟩:=hs;have h1:ur P w h0 a ks:=by rw[show ur P w h0 a ks=_ from congrFun e h0];exact hh
 obtain⟨xs,o,es,ep,t,ho,hx,hd,T,hr⟩:=h1
 have k:∀ep':Nat,({ o with data:=.set es ep' t }:Obj)=ob:=fun ep'=>by have h2:ur P w (⟨Array.replicate (a+1) { o with data:=.set es ep' t },{}⟩:Heap) a ks:=⟨xs,{ o with data:=.set es ep' t },es,ep',t,by simp[Heap.get?],hx,rfl,T,hr⟩;rw[show ur P w _ a ks=_ from congrFun e _] at h2;exact (zez h2).symm
 have:=congrArg Obj.data ((k 0).trans (k 1).symm);cases this
theorem zcB {P:Program}{w:World}{a:Addr}{ks:List Int}:∀kvs,pnK (uo P w a ks)=some kvs->uI kvs (Sum.inr "at" : Key)=none:=fun kvs e=>by
 unfold uo pnK at e;dsimp only at e;rw[if_neg] at e
 ·cases e
 ·rintro⟨d,ob,hs,z⟩;exact zjS hs z
section
variable {prog:Program}{w:World}
theorem zfW (h:Heap):ur prog w (h.push { cls:=.type "set",dict:=none,data:=.set #[] 0 (.fresh 0 0 (!w.params.followText "set-order")) }) h.objs.size []:=by
 refine⟨[],_,#[],0,_,aB _ rfl,⟨rfl,rfl,rfl⟩,rfl,⟨rfl,rfl,fun i j _ hj=>?_,fun i j e=>?_,rfl,.inl rfl,aL _,rfl,rfl,fun i q e=>?_⟩,rfl,ei,by show 0 * 5<7 * 3;decide⟩
 ·exact absurd hj (bV _)
 ·simp[SetTable.fresh] at e
 ·simp at e
end
section
variable {X:Cx}
theorem zeG {pins:List (Addr×Obj)}{σ:St}{H:Hp}{s:Shared}{acc:Addr}{n:Int}{tk:Tok}{ks:List Int}{Q:Value->Shared->Prop}(I:Inv X pins σ H s)(hH:H acc=some (uo X.prog X.w acc ks))(hn:ks.length<300)
  (h:∀ks' s',(∀x,x∈ks'↔x=n\/x∈ks)->ks'.Nodup->Inv X pins σ (upd H acc (uo X.prog X.w acc ks')) s'->Q .none s') :
  wpAny (model X.prog X.w) X.A (call (.builtin "set.add") [.ref acc,.int n tk]) Q X.xe s:=by
 have hS:=(show zW X.prog X.w H s.heap acc (uo X.prog X.w acc ks) from I.hok acc _ hH).1;obtain⟨xs,o,es,ep,t,ho,hx,_⟩:=id hS;refine a6 F.slot_set_add ⟨o,ho,hx.1⟩ F.entry_set_add ?_ (F.args_set_add_2 _ _);unfold Builtin.«set.add»;refine aa (m:=Builtin.Frozenset.oneOther "add" ⟨[.ref acc,.int n tk],[]⟩) (ae ?_);refine aa (zkJ (A:=X.A.in1) hS hn fun r h' m ks' sb S' hm hl=>?_);obtain⟨_,o',_,_,_,ho',_,_,_,_,hnd',_⟩:=id S';refine ae ⟨.none,rfl,h ks' _ hm hnd' ?_⟩;exact I.write (e:=acc) (by rw[hH];trivial) (.inl rfl) (fun c u hc q=>sb.extBut c u hc q) ⟨o',ho'⟩ (zfq S')
def zh4 (P:Program)(w:World):List V->Hp->VK->Prop:=fun xs H Q=>∃ (a:Addr) (ks:List Int),xs=[.ref a]/\H a=some (uo P w a ks)/\ks.Nodup/\ks.length<64/\∀ns':List Int,ns'.Perm ks->ns'.Pairwise (·<=·)->New H (.lst (ns'.map V.int)) Q
theorem zgv (hc:X.calm=true):CallQ X (.builtin "sorted") (zh4 X.prog X.w):=⟨by
 intro pins s σ H xs us Q I r h;obtain⟨a,ks,rfl,hH,hnd,h64,q⟩:=h;obtain⟨u,rfl,ru⟩:=uq r;cases ru;obtain⟨⟨xs,o,es,ep,t,ho,hx,hd,T,rfl,_⟩,_⟩:=(show zW X.prog X.w H s.heap a (uo X.prog X.w a ks) from I.hok a _ hH);have S:SetIs X.w s.heap a es ep t:=⟨⟨o,ho,hx,hd⟩,T.q⟩;obtain⟨m0,hns,_⟩:=id I.loc;have hsz:=T.size;rw[ab] at h64
 have none0:∀b,(⟨#[],{}⟩:Heap).get? b=none:=fun b=>by
  cases e:(⟨#[],{}⟩:Heap).get? b with
  | none=>rfl
  | some o'=>
   have:=au e;simp at this
 have hpo:=zby (w:=X.w) (es:=es) a ep;rw[T.eq] at hpo;obtain⟨xs2,hp2,he2⟩:=yR hpo rfl;refine PySem.W.kdu_sorted (h₀:=(⟨#[],{}⟩:Heap)) (L:=X.env.locals) (m:=m0) (news:=xJ s.heap X.env.locals) (zig (t:=t) a ep) (I.ok.hd hc) ⟨hns,fun b o e=>(by simp_all),aL _⟩ (fun p hp=>?_) S (by rw[hsz,bm];lia) fun D h' tk' vs F N hlt hl hP=>?_
 ·obtain⟨b,o⟩:=p;have:=zx.mp hp
  simp_all
 ·have hl2:=hp2.length_eq
  have hvs:vs=xs2.map vI:=by refine dC (by simp_all) fun j h1 h2=>?_;obtain⟨e,he,hv⟩:=hP j vs[j] (aq h1);rw[za2,he2,aA] at he;rw[ab] at h2;rw[aq h2] at he;rw[hv,bX,<- bJ he]
  have hints:IntsAre vs (xs2.map (·.1)):=by
   rw[hvs];clear hvs he2 hp2 hl2 hP
   induction xs2 with
   | nil=>exact .nil
   | cons q l ih=>exact .cons _ _ ih
  have hrest:∀p∈xJ s.heap X.env.locals,p.1≠D:=fun p hp=>aO (hlt p hp);refine PySem.W.ksk_lsort (s:={ s with heap:=h',toks:=tk' }) (its:=vs.toArray) (n:=0) (news':=fun o=>(D,o)::xJ s.heap X.env.locals) F N (fun o=>.head hrest) (by simp) hints (by rw[ab];lia) fun vs' ns' c h'' F2 N2 hi hlen hp hs _=>?_;have kp:∀b o,b≠X.env.locals->s.heap.get? b=some o->h''.get? b=some o:=fun b o hb e=>(N2 (b,o) (ak _ (zx.mpr ⟨hb,e⟩))).1;have hDL:D≠X.env.locals:=(N (D,_) aj).2.1
  have hDn:s.heap.get? D=none:=by
   cases e:s.heap.get? D with
   | none=>rfl
   | some o=>exact absurd (hlt (D,o) (zx.mpr ⟨hDL,e⟩)) (bt _)
  have hHD:H D=none:=by
   cases e:H D with
   | none=>rfl
   | some o=>
    obtain⟨o',ho'⟩:=x4 (I.hok D o e)
    grind
  have hout:=(N2 (D,_) aj).1;have I':=zbg I hns (ys:=ns'.map V.int) kp F2.ns hDn hHD hout (zeP hi) (by rw[ab,hlen,ab,hl2,bm];lia) tk';exact⟨.ref D,_,I',rfl,(q ns' (hp.trans (hp2.map (·.1))) hs).at hHD⟩⟩
end
open PySem PySem.Spec PyProof.Rows
def zqj (P:Program)(w:World)(te:TE)(acc:Addr)(N:St->Hp->Prop)(σ:St)(H:Hp):Prop:=te σ H fun v H5=>∃ (n:Int) (ks:List Int),v = .int n/\H5 acc=some (uo P w acc ks)/\ks.length<300/\
 ∀ks',(∀x,x∈ks'↔x=n\/x∈ks)->ks'.Nodup->N σ (upd H5 acc (uo P w acc ks'))
def zps (P:Program)(w:World)(wi:TI)(g:TG)(ti:TT)(wi2:TI)(g2:TG)(ti2:TT)(te:TE)(cix:List (Option Nat)):TE:=fun σ H Q=>wi σ H fun J H1=>∀acc,H1 acc=none->
 inG J g ti (fun N σ H=>wi2 σ H fun J2 H2=>inG J2 g2 ti2 (zqj P w te acc) N σ H2) (fun _ H=>Q (.ref acc) H) (xy σ cix) (upd H1 acc (uo P w acc []))
section
variable {X:Cx}{Fam:Cx->Prop}{scope:Scope}{N:List Str}{cix:List (Option Nat)}{use:Option (Value->Sem Unit)}{Qp:Value->Shared->Prop}{elt tg iter tg2 iter2:Expr}{ifs ifs2:List Expr}{pos ipos:Pos}{wi wi2:TI}{g g2:TG}{ti ti2:TT}{te:TE}{pins:List (Addr×Obj)}{σ:St}{H:Hp}{s:Shared}{Q:VK}
theorem zid (O:Opn X scope cix Fam)(hc:X.calm=true)(hi:PI X tg iter wi)(hg:∀X',Fam X'->PG X' tg g)(ht:∀X',Fam X'->PTs X' ifs ti)(hi2:∀X',Fam X'->PI X' tg2 iter2 wi2)(hg2:∀X',Fam X'->PG X' tg2 g2)(ht2:∀X',Fam X'->PTs X' ifs2 ti2)(he:∀X',Fam X'->PE X' elt te)
  (hs:∀x,foldedSetIterable iter X.env x=pure x) (hs2:∀X',Fam X'->∀x,foldedSetIterable iter2 X'.env x=pure x) (I:Inv X pins σ H s) (h:zps X.prog X.w wi g ti wi2 g2 ti2 te cix σ H Q) (hfin:zqc X pins σ use Qp Q) :
  wpAny (model X.prog X.w) X.A (comprehension (.SetComp elt [⟨tg,iter,ifs,0⟩,⟨tg2,iter2,ifs2,0⟩] scope pos) scope X.env ipos (newSet (.type "set")) false (eval iter X.env) use) Qp X.xe s:=
 uP (ob:={ cls:=.type "set",dict:=none,data:=.set #[] 0 (.fresh 0 0 (!X.w.params.followText "set-order")) }) (o0:=fun a=>uo X.prog X.w a []) (Fin:=fun acc H=>Q (.ref acc) H) (tb:=fun acc Nx σ H=>wi2 σ H fun J2 H2=>inG J2 g2 ti2 (zqj X.prog X.w te acc) Nx σ H2)
  O x9 hc rfl hs (fun s Q h=>zdn h) (fun _ _=>zfq (zfW _)) hi hg ht (fun X' hF pX wX _ cX xX acc=>zj7 (iter:=iter) x9 (fun _=>rfl) rfl (hs2 X' hF) cX xX (hi2 X' hF) (hg2 X' hF) (ht2 X' hF) ⟨_,fun it=>zcw (iter:=iter2) x9 (nx:=fun c=>(do let v <- eval elt X'.env;standAt elt.pos;let _ <- call (.builtin "set.add") [.ref acc,v]) >>= fun _=>c) rfl,fun pl s σ H Nx P I q k _ _ _ hk=>by have e9:=he X' hF pl s σ H _ I q;rw[xX] at e9;refine aa (aa (bn e9 ?_ fun _ _ h'=>h'.elim));rintro u2 s10 ⟨v,H10,I10,r10,n,ks,rfl,hS,hn,nx⟩;obtain⟨t,rfl⟩:=r10;rw[<- pX,<- wX] at hS;have m10:=zeG (X:=X') (tk:=t) (Q:=fun _ s'=>P s') I10 hS hn fun ks' s' hm hd I'=>k _ _ _ I' (by rw[pX,wX];exact nx ks' hm hd);rw[xX] at m10;exact aa (c7 (aa (bn m10 (fun _ _ h6=>ae (hk _ h6)) fun _ _ h'=>h'.elim)))⟩) I h (fun J H1 acc q hn=>q acc hn) hfin
end
theorem zml {X:Cx}{elt tg iter tg2 iter2:Expr}{ifs ifs2:List Expr}{scope:Scope}{pos:Pos}{wi wi2:TI}{g g2:TG}{ti ti2:TT}{te:TE}{N:List Str}{cix:List (Option Nat)}(hc:X.calm=true)(c:CompOk X scope N cix)
  (hi:QI X tg iter wi) (hg:∀C s H ex,QG (zl X scope N C s H ex) tg g) (ht:∀C s H ex,QTs (zl X scope N C s H ex) ifs ti)
  (hi2:∀C s H ex,QI (zl X scope N C s H ex) tg2 iter2 wi2) (hg2:∀C s H ex,QG (zl X scope N C s H ex) tg2 g2) (ht2:∀C s H ex,QTs (zl X scope N C s H ex) ifs2 ti2) (he:∀C s H ex,QE (zl X scope N C s H ex) elt te)
  (hs:∀x,foldedSetIterable iter X.env x=pure x:=by intro _;rfl) (hs2:∀C s H ex x,foldedSetIterable iter2 (zl X scope N C s H ex).env x=pure x:=by intro _ _ _ _ _;rfl) :
  QE X (.SetComp elt [⟨tg,iter,ifs,0⟩,⟨tg2,iter2,ifs2,0⟩] scope pos) (zps X.prog X.w wi g ti wi2 g2 ti2 te cix):=⟨fun pins s σ H Q I h=>by
 rw[zax];exact zid (x8 c) hc hi.run (zbb fun C s H ex=>(hg C s H ex).run) (zbb fun C s H ex=>(ht C s H ex).run) (zbb fun C s H ex=>(hi2 C s H ex).run) (zbb fun C s H ex=>(hg2 C s H ex).run) (zbb fun C s H ex=>(ht2 C s H ex).run) (zbb fun C s H ex=>(he C s H ex).run) hs (zbb fun C s H ex=>hs2 C s H ex) I h fun _ _ _ _ _ hm hb q=>zaS hm hb q⟩
mutual
def Dt.hk:Dt->Bool
 | .int _=>true
 | .bl _=>true
 | .tup l=>Dt.hks l
 | _=>false
def Dt.hks:List Dt->Bool
 | []=>true
 | d::ds=>d.hk&&Dt.hks ds
end
noncomputable instance:DecidableEq Dt:=fun a b=>Classical.propDecidable _
section
mutual
def zlj:Dt->Int
 | .int n=>hashInt n
 | .bl b=>reduceHash (if b then 1 else 0)
 | .tup l=>reduceHash (Builtin.Tuple.tupleHashOf (zkg l))
 | _=>0
def zkg:List Dt->List Int
 | []=>[]
 | d::ds=>zlj d::zkg ds
end
mutual
def drD:Dt->Nat
 | .tup l=>drDs l+1
 | _=>1
def drDs:List Dt->Nat
 | []=>0
 | d::ds=>drD d+drDs ds
end
end
def kd:Nat->Dt->Bool
 | _,.int _=>true
 | _,.bl _=>true
 | n+1,.tup l=>l.all (kd n)
 | _,_=>false
def Dt.isT:Dt->Bool
 | .tup _=>true
 | _=>false
def Dt.isB:Dt->Bool
 | .bl _=>true
 | _=>false
def Dt.kk:Dt->Prop
 | .tup l=>(Dt.tup l).eqOk/\l.all Dt.isT=true\/l.all Dt.isB=true
 | _=>False
section
variable {P:Program}{w:World}
def DDo (h:Heap)(a:Addr)(ks:List (Dt×Addr×V)):Prop:=ks.length<=sizeLine/\(a==sysModules)=false/\∃xs:List (Dt×Addr×Value),
 Paired (fun (p:Dt×Addr×V) (q:Dt×Addr×Value)=>p.1=q.1/\p.2.1=q.2.1/\yo p.2.2 q.2.2) ks xs/\∃o es ep,h.get? a=some o/\o.ExactDict/\o.data = .dict es ep/\es.toList=xs.map (fun x=>⟨zlj x.1,.ref x.2.1,x.2.2⟩)/\(xs.map (·.1)).Nodup
def ddO (a:Addr)(ks:List (Dt×Addr×V)):HO:=.ext fun h=>DDo h a ks
theorem znX {a:Addr}{ks:List (Dt×Addr×V)}:∀kvs,pnK (ddO a ks)=some kvs->uI kvs (Sum.inr "at" : Key)=none:=fun kvs e=>by
 unfold ddO pnK at e;dsimp only at e;rw[if_neg] at e
 ·cases e
 ·rintro⟨d,ob,⟨h0,hh⟩,z⟩;have h1:DDo h0 a ks:=by rw[show DDo h0 a ks=_ from congrFun z h0];exact hh
  obtain⟨z1,lo,xs,r,o,es,ep,ho,⟨c1,c2,c3⟩,hd,q⟩:=h1
  have k:∀ep':Nat,({ o with data:=.dict es ep' }:Obj)=ob:=fun ep'=>by have h2:DDo (⟨Array.replicate (a+1) { o with data:=.dict es ep' },{}⟩:Heap) a ks:=⟨z1,lo,xs,r,{ o with data:=.dict es ep' },es,ep',by simp[Heap.get?],⟨c1,c2,c3⟩,rfl,q⟩;rw[show DDo _ a ks=_ from congrFun z _] at h2;exact (zez h2).symm
  have:=congrArg Obj.data ((k 0).trans (k 1).symm);cases this
def zch (H:Hp)(ks:List (Dt×Addr×V)):Prop:=∀q∈ks,q.1.hk=true/\q.1.kk/\Is H q.1 (.ref q.2.1)
abbrev PrN (p:Dt×Addr×V)(q:Dt×Addr×Value):Prop:=p.1=q.1/\p.2.1=q.2.1/\yo p.2.2 q.2.2
end
section
variable {X:Cx}{pins:List (Addr×Obj)}{σ:St}{H:Hp}{s:Shared}
end
def ziz (fz:Bool)(T:Hp)(a:Addr)(ks:List (Dt×Addr×V)):Prop:=if fz=true then ∃ob,T a=some (.frz ob (ddO a ks)) else T a=some (ddO a ks)
theorem ziz.rd {fz:Bool}{T:Hp}{a:Addr}{ks:List (Dt×Addr×V)}(h:ziz fz T a ks):Rd T a (ddO a ks):=by
 cases fz with
 | true=>exact .inr (by simpa [ziz] using h)
 | false=>exact .inl (by simpa [ziz] using h)
theorem ziz.imp {fz:Bool}{T T':Hp}{a:Addr}{ks:List (Dt×Addr×V)}(h:ziz fz T a ks)(t:∀o,(∀kvs,pnK o=some kvs->uI kvs (Sum.inr "at" : Key)=none)->T a=some o->T' a=some o):ziz fz T' a ks:=by
 cases fz with
 | true=>
  obtain⟨ob,e⟩:∃ob,T a=some (.frz ob (ddO a ks)):=by simpa [ziz] using h
  exact (if_pos rfl).mpr ⟨ob,t _ (fun _ z=>by cases z) e⟩
 | false=>exact t _ znX (by simpa [ziz] using h)
theorem zch.stay {G G':Hp}{ks:List (Dt×Addr×V)}(h:zch G ks)(s:zm G G'):zch G' ks:=fun q hq=>let ⟨h1,h2,h3⟩:=h q hq;⟨h1,h2,h3.stay s⟩
def kvN (ks:List (Dt×Addr×V)):List (Dt×V):=ks.map fun q=>(q.1,q.2.2)
end L2
namespace L3
open PySem L2
abbrev zqh:=Addr×Addr×List Int
@[reducible] def imm:HO->Bool
 | .lst _=>false
 | .dK _=>false
 | .dT _=>false
 | .ext _=>false
 | _=>true
def Mt (o:HO):Prop:=imm o=false
theorem Mt.tup {o:HO}(h:Mt o):∀xs,o≠.tup xs:=fun _ e=>by subst e;cases h
def NP (o:HO):Prop:=∀kvs,pnK o=some kvs->uI kvs (Sum.inr "at" : Key)=none
theorem NP.lst {xs:List V}:NP (.lst xs):=fun _ e=>by cases e
structure Jv where
 K:(Addr->Prop)->Hp->Prop
 same:∀ {A:Addr->Prop} {H H':Hp},K A H->yW H H'->K A H'
 grow:∀ {A A':Addr->Prop} {H:Hp},K A' H->(∀a,A a->A' a\/∃o,H a=some o/\NP o/\Mt o)->K A H
 upd:∀ {A:Addr->Prop} {H:Hp} {p:Addr} {o:HO},K A H->A p->K A (L2.upd H p o)
 frz:∀ {A:Addr->Prop} {H:Hp} {p:Addr} {o o':HO},K A H->H p=some o->NP o->Mt o->K A (L2.upd H p o')
structure PN where
 pn:Option zqh
 J:Jv
def J0:Jv:=⟨fun _ _=>True,fun _ _=>trivial,fun _ _=>trivial,fun _ _=>trivial,fun _ _ _ _=>trivial⟩
structure CuW where
 at_:Hp->Hp->Addr->Prop
 mv:∀ {T T' G G':Hp} {a:Addr},(∀o,T a=some o->NP o->T' a=some o)->zm G G'->at_ T G a->at_ T' G' a
inductive W where
 | d (x:Dt) | pen (p:Addr) | dk (kvs:List (Key×Dt)) | dt (kvs:List (List Int×Dt)) | ss (P:Program) (w:World) (ks:List (List Int)) | df (kvs:List (List Int×Dt)) | kf (kvs:List (Key×Dt)) | fl (l:List Dt) | ad (a:Addr) (x:Dt) | tz (kvs:List (List Int×Dt)) (x:Dt) | dn (fz:Bool) (kvs:List (Dt×Dt)) | wd (d:Addr) (fs:List (Key×Dt)) (kn:List (List Int×Dt)) | lf (ls:List (List Dt)) | cu (k:CuW)
abbrev Mo (α:Type):=Nat->(α->Nat->Prop)->Prop
abbrev Ev:=List (Option W)
open Classical in
noncomputable def zO (A:Addr->Prop)(H:Hp):Hp:=fun b=>if A b then none else H b
section
variable {A A0:Addr->Prop}{H H' G G' T T':Hp}{a b:Addr}{o:HO}
theorem zS:zO A H b=some o↔¬ A b/\H b=some o:=by
 unfold zO
 grind
theorem zp (h:¬ A b)(e:H b=some o):zO A H b=some o:=zS.mpr ⟨h,e⟩
theorem zX:yW (zO A H) H:=fun b o e=>(zS.mp e).2
theorem _root_.L2.Rd.sub {u:HO}(h:Rd (zO A H) b u):Rd H b u:=h.imp (zX b _) fun⟨o,h⟩=>⟨o,zX b _ h⟩
theorem _root_.L2.Rd.hid {u:HO}(h:Rd H b u)(n:¬ A b):Rd (zO A H) b u:=h.imp (zp n) fun⟨o,h⟩=>⟨o,zp n h⟩
theorem zw (s:zm H H'):zm (zO A H) (zO A H'):=fun b o e n=>zp (zS.mp e).1 (s b o (zS.mp e).2 n)
theorem zc8 (s:yW H H'):yW (zO A H) (zO A H'):=fun b o e=>zp (zS.mp e).1 (s b o (zS.mp e).2)
theorem yB (h:∀b,A0 b->A b):yW (zO A H) (zO A0 H):=fun b o e=>zp (fun z=>(zS.mp e).1 (h b z)) (zS.mp e).2
theorem zF (h:A a):zO A (upd H a o)=zO A H:=by
 funext b;unfold zO;by_cases hb:A b
 ·simp[hb]
 ·have:b≠a:=fun e=>hb (e ▸ h);simp[hb,zc this]
end
def DAt (T G:Hp):Dt->V->Prop
 | .lst l,v=>∃a xs,v = .ref a/\Rd T a (.lst xs)/\IsL G l xs
 | .dct,v=>∃a kvs,v = .ref a/\T a=some (.dK kvs)/\kvs=[]
 | .non,v=>Is G .non v
 | .bl b,v=>Is G (.bl b) v
 | .int i,v=>Is G (.int i) v
 | .str x,v=>Is G (.str x) v
 | .tup l,v=>Is G (.tup l) v
theorem DAt.is {G:Hp}{x:Dt}{v:V}(h:DAt G G x v):Is G x v:=by cases x <;> exact h
theorem DAt.of {G:Hp}{x:Dt}{v:V}(h:Is G x v):DAt G G x v:=by cases x <;> exact h
theorem DAt.up {T T' G G':Hp}{x:Dt}{v:V}(t:zm T T')(g:zm G G')(h:DAt T G x v):DAt T' G' x v:=by
 cases x with
 | lst l=>obtain⟨a,xs,e,h1,h2⟩:=h;exact⟨a,xs,e,t.rdl h1,h2.stay g⟩
 | dct=>obtain⟨a,kvs,e,h1,h2⟩:=h;exact⟨a,kvs,e,t _ _ h1 fun k q=>by cases q;subst h2;rfl,h2⟩
 | _=>exact Is.stay g h
theorem DAt.full {T G H:Hp}{x:Dt}{v:V}(t:yW T H)(g:yW G H)(h:DAt T G x v):Is H x v:=(DAt.up (zm.same t) (zm.same g) h).is
def xQ {κ:Type}(G:Hp):List (κ×Dt)->List (κ×V)->Prop
 | [],ks=>ks=[]
 | q::r,ks=>∃v s,ks=(q.1,v)::s/\Is G q.2 v/\xQ G r s
theorem xQ.stay {κ:Type}{G G':Hp}(s:zm G G'):∀ {kvs:List (κ×Dt)} {ks:List (κ×V)},xQ G kvs ks->xQ G' kvs ks
 | [],_,h=>h
 | q::r,ks,⟨v,t,e,h1,h2⟩=>⟨v,t,e,h1.stay s,xQ.stay s h2⟩
def SIs (G:Hp)(ks:List (List Int))(xs:List (List Int×Addr)):Prop:=ks=xs.map (·.1)/\(∀q∈xs,G q.2=some (.tup (q.1.map V.int)))/\ks.Nodup
theorem SIs.stay {G G':Hp}{ks:List (List Int)}{xs:List (List Int×Addr)}(h:SIs G ks xs)(s:zm G G'):SIs G' ks xs:=⟨h.1,fun q hq=>s _ _ (h.2.1 q hq) (fun _ e=>by cases e),h.2.2⟩
noncomputable def zlL (a:Addr)(H:Hp):Hp:=zO (fun b=>b≠a/\∃xs,H b=some (.lst xs)) H
theorem zb7 {a:Addr}{H H':Hp}(s:zm H H'):zm (zlL a H) (zlL a H'):=fun b o e n=>by obtain⟨h1,h2⟩:=zS.mp e;have h3:=s b o h2 n;refine zp (fun z=>h1 ⟨z.1,?_⟩) h3;obtain⟨xs,hx⟩:=z.2;rw[h3] at hx;cases hx;exact⟨_,h2⟩
def zpU (G:Hp)(d:Addr)(fs:List (Key×Dt))(kn:List (List Int×Dt))(ks:List (Key×V)):Prop:=uI ks (Sum.inr "at" : Key)=none/\∃ks1 kd ob ks2,ks=ks1++([(Sum.inr "known",V.ref kd),(Sum.inr "wide",V.ref d)]:List (Key×V))/\xQ G fs ks1/\G kd=some (.frz ob (dtO ks2))/\xQ G kn ks2
theorem zpU.stay {G G':Hp}{d:Addr}{fs:List (Key×Dt)}{kn:List (List Int×Dt)}{ks:List (Key×V)}(h:zpU G d fs kn ks)(s:zm G G'):zpU G' d fs kn ks:=by obtain⟨h0,ks1,kd,ob,ks2,h1,h2,h3,h4⟩:=h;exact⟨h0,ks1,kd,ob,ks2,h1,h2.stay s,s _ _ h3 (fun k q=>by cases q),h4.stay s⟩
def zmZ (G:Hp):List (List Dt)->List V->Prop
 | [],xs=>xs=[]
 | l::r,xs=>∃b o ys s,xs = .ref b::s/\G b=some (.frz o (.lst ys))/\IsL G l ys/\zmZ G r s
theorem zmZ.stay {G G':Hp}(s:zm G G'):∀ {ls:List (List Dt)} {xs:List V},zmZ G ls xs->zmZ G' ls xs
 | [],_,h=>h
 | _::_,_,⟨b,o,ys,t,e,h1,h2,h3⟩=>⟨b,o,ys,t,e,s _ _ h1 (fun k q=>by cases q),h2.stay s,zmZ.stay s h3⟩
def WAt (T G:Hp):W->V->Prop
 | .d x,v=>DAt T G x v
 | .pen p,v=>v = .ref p
 | .dk kvs,v=>∃a ks,v = .ref a/\T a=some (.dK ks)/\xQ G kvs ks/\uI ks (Sum.inr "at" : Key)=none
 | .dt kvs,v=>∃a ks,v = .ref a/\T a=some (dtO ks)/\xQ G kvs ks
 | .ss P w ks,v=>∃a xs,v = .ref a/\T a=some (zfr P w a (uF xs))/\SIs G ks xs
 | .dn fz kvs,v=>∃a ks,v = .ref a/\ziz fz T a ks/\zch G ks/\xQ G kvs (kvN ks)
 | .wd d fs kn,v=>∃a ks,v = .ref a/\T a=some (.dK ks)/\zpU G d fs kn ks
 | .lf ls,v=>∃a xs,v = .ref a/\Rd T a (.lst xs)/\zmZ G ls xs
 | .cu k,v=>∃a,v = .ref a/\k.at_ T G a
 | .df kvs,v=>∃a ob ks,v = .ref a/\T a=some (.frz ob (dtO ks))/\xQ G kvs ks
 | .kf kvs,v=>∃a ob ks,v = .ref a/\T a=some (.frz ob (.dK ks))/\xQ G kvs ks
 | .fl l,v=>∃a ob xs,v = .ref a/\T a=some (.frz ob (.lst xs))/\IsL G l xs
 | .ad a x,v=>(∃b,v = .ref b)/\Is (zlL a G) x v
 | .tz kvs x,v=>∃a b ob ks y,v = .ref a/\G a=some (.tup [.ref b,y])/\G b=some (.frz ob (dtO ks))/\xQ G kvs ks/\Is G x y
theorem WAt.up {T T' G G':Hp}{w:W}{v:V}(t:zm T T')(g:zm G G')(h:WAt T G w v):WAt T' G' w v:=by
 cases w with
 | d x=>exact DAt.up t g h
 | pen p=>exact h
 | dk kvs=>
  obtain⟨a,ks,e,h1,h2,h3⟩:=h;exact⟨a,ks,e,t _ _ h1 fun k q=>by cases q;exact h3,h2.stay g,h3⟩
 | dt kvs=>
  obtain⟨a,ks,e,h1,h2⟩:=h;exact⟨a,ks,e,t _ _ h1 (fun k q=>by cases q),h2.stay g⟩
 | dn fz kvs=>
  obtain⟨a,ks,e,h1,h2,h3⟩:=h;exact⟨a,ks,e,h1.imp fun o n q=>t a o q n,h2.stay g,h3.stay g⟩
 | wd d fs kn=>
  obtain⟨a,ks,e,h1,h2⟩:=h;exact⟨a,ks,e,t _ _ h1 (fun k q=>by cases q;exact h2.1),h2.stay g⟩
 | cu k=>
  obtain⟨a,e,h1⟩:=h;exact⟨a,e,k.mv (fun o z n=>t a o z n) g h1⟩
 | lf ls=>
  obtain⟨a,xs,e,h1,h2⟩:=h;exact⟨a,xs,e,t.rdl h1,h2.stay g⟩
 | ss P w kvs=>
  obtain⟨a,ks,e,h1,h2⟩:=h;exact⟨a,ks,e,t _ _ h1 zfe,h2.stay g⟩
 | df kvs=>
  obtain⟨a,ob,ks,e,h1,h2⟩:=h;exact⟨a,ob,ks,e,t _ _ h1 (fun k q=>by cases q),h2.stay g⟩
 | kf kvs=>
  obtain⟨a,ob,ks,e,h1,h2⟩:=h;exact⟨a,ob,ks,e,t _ _ h1 (fun k q=>by cases q),h2.stay g⟩
 | fl kvs=>
  obtain⟨a,ob,ks,e,h1,h2⟩:=h;exact⟨a,ob,ks,e,t _ _ h1 (fun k q=>by cases q),h2.stay g⟩
 | ad a x=>exact⟨h.1,Is.stay (zb7 g) h.2⟩
 | tz kvs x=>
  obtain⟨a,b,ob,ks,y,e,h1,h2,h3,h4⟩:=h;exact⟨a,b,ob,ks,y,e,g.tup h1,g _ _ h2 (fun k q=>by cases q),h3.stay g,h4.stay g⟩
@[reducible] def W.mut:W->Bool
 | .d (.lst _)=>true
 | .d .dct=>true
 | .dk _=>true
 | .dt _=>true
 | .ss _ _ _=>true
 | .dn false _=>true
 | _=>false
abbrev Val (A:Addr->Prop)(H:Hp)(w:W)(v:V):Prop:=WAt (zO A H) (zO A H) w v
abbrev Bor (A:Addr->Prop)(H:Hp)(w:W)(v:V):Prop:=WAt H (zO A H) w v
theorem Val.bor {A:Addr->Prop}{H:Hp}{w:W}{v:V}(h:Val A H w v):Bor A H w v:=WAt.up (zm.same zX) (zm.refl _) h
theorem Val.stay {A:Addr->Prop}{H H':Hp}{w:W}{v:V}(h:Val A H w v)(s:zm H H'):Val A H' w v:=WAt.up (zw s) (zw s) h
theorem Bor.stay {A:Addr->Prop}{H H':Hp}{w:W}{v:V}(h:Bor A H w v)(s:zm H H'):Bor A H' w v:=WAt.up s (zw s) h
theorem Bor.is {A:Addr->Prop}{H:Hp}{x:Dt}{v:V}(h:Bor A H (.d x) v):Is H x v:=DAt.full (zib _) zX h
theorem Val.is {A:Addr->Prop}{H:Hp}{x:Dt}{v:V}(h:Val A H (.d x) v):Is (zO A H) x v:=DAt.is h
theorem Val.of {A:Addr->Prop}{H:Hp}{x:Dt}{v:V}(h:Is (zO A H) x v):Val A H (.d x) v:=DAt.of h
mutual
theorem zkk {A:Addr->Prop}{H:Hp}(hA:∀a xs,A a->H a≠some (.tup xs)):∀ {x:Dt} {v:V},x.noL=true->Is H x v->Is (zO A H) x v
 | .non,_,_,h=>h
 | .bl _,_,_,h=>h
 | .int _,_,_,h=>h
 | .str _,_,_,h=>h
 | .tup l,_,n,h=>by obtain⟨p,xs,e,hp,hl⟩:=h;exact⟨p,xs,e,zp (fun z=>hA p xs z hp) hp,uD hA (by simpa [Dt.noL] using n) hl⟩
 | .lst l,_,n,_=>by simp[Dt.noL] at n
 | .dct,_,n,_=>by simp[Dt.noL] at n
theorem uD {A:Addr->Prop}{H:Hp}(hA:∀a xs,A a->H a≠some (.tup xs)):∀ {ds:List Dt} {xs:List V},Dt.noLs ds=true->IsL H ds xs->IsL (zO A H) ds xs
 | [],_,_,h=>h
 | d::ds,xs,n,h=>by
  obtain⟨x,r,e,h1,h2⟩:=h;have n':(d.noL&&Dt.noLs ds)=true:=by simpa [Dt.noLs] using n
  rw[aR] at n';exact⟨x,r,e,zkk hA n'.1 h1,uD hA n'.2 h2⟩
end
def xm (Pn:PN)(A:Addr->Prop)(n:Nat)(H:Hp):Prop:=
 (match Pn.pn with
 | none=>True
 | some (p,c,ns)=>Pen H p c ns n/\¬ A c/\¬ A p)/\Pn.J.K A H
def Own (A:Addr->Prop)(H:Hp)(w:W)(v:V):Prop:=∃a,v = .ref a/\A a/\Bor A H w v/\w.mut=true
def Al (A:Addr->Prop)(H:Hp):Prop:=∀a,A a->∃o,H a=some o/\NP o/\Mt o
structure EnvR (A:Addr->Prop)(M:List Nat)(σ:St)(H:Hp)(ρ:Ev):Prop where
 len:σ.length=ρ.length
 val:∀i w,ρ[i]?=some (some w)->∃v,σ[i]?=some (some v)/\(i∉M->Val A H w v)/\(i∈M->Own A H w v)
 dis:∀i j w u a,i∈M->j∈M->i≠j->ρ[i]?=some (some w)->ρ[j]?=some (some u)->σ[i]?=some (some (.ref a))->σ[j]?≠some (some (.ref a))
 al:Al A H
theorem _root_.L2.Rd.own {A:Addr->Prop}{H:Hp}{a:Addr}{xs:List V}(h:Rd H a (.lst xs))(al:Al A H)(ha:A a):H a=some (.lst xs):=by
 rcases h with h | ⟨o,h⟩
 ·exact h
 ·obtain⟨u,e,_,m⟩:=al a ha;rw[h] at e;cases e;cases m
theorem EnvR.stay {A:Addr->Prop}{M:List Nat}{σ:St}{H H':Hp}{ρ:Ev}(E:EnvR A M σ H ρ)(s:zm H H'):EnvR A M σ H' ρ where
 len:=E.len
 val:=fun i w e=>by obtain⟨v,h1,h2,h3⟩:=E.val i w e;refine⟨v,h1,fun z=>(h2 z).stay s,fun z=>?_⟩;obtain⟨a,e,h4,h5,h6⟩:=h3 z;exact⟨a,e,h4,h5.stay s,h6⟩
 dis:=E.dis
 al:=fun a h=>by obtain⟨o,h1,h2,h3⟩:=E.al a h;exact⟨o,s _ _ h1 h2,h2,h3⟩
theorem EnvR.new {A:Addr->Prop}{M:List Nat}{σ:St}{H:Hp}{ρ:Ev}(E:EnvR A M σ H ρ){p:Addr}(h:H p=none):¬ A p:=fun z=>by
 obtain⟨o,h1,_⟩:=E.al p z
 grind
def Fr (H:Hp)(a:Addr):Prop:=∀o,H a=some o->¬ NP o
theorem Fr.of {H:Hp}{a:Addr}(h:H a=none):Fr H a:=fun o e=>by rw[h] at e;cases e
theorem Fr.back {H H1:Hp}{a:Addr}(h:Fr H1 a)(s:zm H H1):Fr H a:=fun o e n=>h o (s _ _ e n) n
def FrV (A:Addr->Prop)(H H':Hp)(w:W)(v:V):Prop:=∃a,v = .ref a/\Fr H a/\(∃o,H' a=some o/\Mt o)/\WAt H' (zO (fun b=>A b\/b=a) H') w v
theorem FrV.back {A:Addr->Prop}{H H1 H':Hp}{w:W}{v:V}(h:FrV A H1 H' w v)(s:zm H H1):FrV A H H' w v:=let ⟨a,e,f,g⟩:=h;⟨a,e,f.back s,g⟩
theorem FrV.less {A A0:Addr->Prop}{H H':Hp}{w:W}{v:V}(h:FrV A H H' w v)(s:∀a,A0 a->A a):FrV A0 H H' w v:=let ⟨a,e,f,m,g⟩:=h;⟨a,e,f,m,WAt.up (zm.refl _) (zm.same (yB fun b z=>z.elim (fun z=>.inl (s b z)) .inr)) g⟩
theorem EnvR.newF {A:Addr->Prop}{M:List Nat}{σ:St}{H:Hp}{ρ:Ev}(E:EnvR A M σ H ρ){p:Addr}(h:Fr H p):¬ A p:=fun z=>by obtain⟨o,h1,h2,_⟩:=E.al p z;exact h o h1 h2
theorem yp {A:Addr->Prop}{H H':Hp}{p:Addr}(s:zm H H')(n:Fr H p):zm (zO A H) (zO (fun b=>A b\/b=p) H'):=fun b o e np=>by obtain⟨h1,h2⟩:=zS.mp e;exact zp (fun z=>z.elim h1 fun z=>by subst z;exact n o h2 np) (s b o h2 np)
structure Go (Pn:PN)(A:Addr->Prop)(H:Hp)(n:Nat)(H':Hp):Prop where
 st:zm H H'
 pn:xm Pn A n H'
theorem Go.trans {Pn:PN}{A:Addr->Prop}{H H1 H2:Hp}{n m:Nat}(a:Go Pn A H n H1)(b:Go Pn A H1 m H2):Go Pn A H m H2:=⟨a.st.trans b.st,b.pn⟩
structure RE (Pn:PN)(M:List Nat)(fr:Bool)(te:TE)(f:Ev->Mo W):Prop where
 run:∀A σ H ρ n Q R,EnvR A M σ H ρ->xm Pn A n H->f ρ n R->(∀w m v H',R w m->Val A H' w v->Go Pn A H m H'->(fr=true->FrV A H H' w v)->Q v H')->te σ H Q
structure RB (Pn:PN)(M:List Nat)(te:TE)(f:Ev->Mo W):Prop where
 run:∀A σ H ρ n Q R,EnvR A M σ H ρ->xm Pn A n H->f ρ n R->(∀w m v H',R w m->Bor A H' w v->Go Pn A H m H'->Q v H')->te σ H Q
structure RT (Pn:PN)(M:List Nat)(te:TT)(f:Ev->Mo Bool):Prop where
 run:∀A σ H ρ n Q R,EnvR A M σ H ρ->xm Pn A n H->f ρ n R->(∀b m H',R b m->Go Pn A H m H'->Q b H')->te σ H Q
def zmW (A:Addr->Prop)(H:Hp):List W->List V->Prop
 | [],vs=>vs=[]
 | w::ws,vs=>∃v r,vs=v::r/\Bor A H w v/\zmW A H ws r
def zbP (A:Addr->Prop)(H:Hp):List W->List V->Prop
 | [],vs=>vs=[]
 | w::ws,vs=>∃v r,vs=v::r/\Val A H w v/\zbP A H ws r
theorem zbP.bor {A:Addr->Prop}{H:Hp}:∀ {ws:List W} {vs:List V},zbP A H ws vs->zmW A H ws vs
 | [],_,h=>h
 | _::_,_,⟨v,r,e,h1,h2⟩=>⟨v,r,e,h1.bor,zbP.bor h2⟩
structure RA (Pn:PN)(M:List Nat)(ta:TA)(f:Ev->Mo (List W)):Prop where
 run:∀A σ H ρ n Q R,EnvR A M σ H ρ->xm Pn A n H->f ρ n R->(∀ws m vs H',R ws m->zbP A H' ws vs->Go Pn A H m H'->Q vs H')->ta σ H Q
structure RAB (Pn:PN)(M:List Nat)(ta:TA)(f:Ev->Mo (List W)):Prop where
 run:∀A σ H ρ n Q R,EnvR A M σ H ρ->xm Pn A n H->f ρ n R->(∀ws m vs H',R ws m->zmW A H' ws vs->Go Pn A H m H'->Q vs H')->ta σ H Q
structure Kt where
 nx:Ev->Nat->Prop
 rt:W->Nat->Prop
 bk:Ev->Nat->Prop:=fun _ _=>False
 ct:Ev->Nat->Prop:=fun _ _=>False
abbrev Ms:=Ev->Nat->Kt->Prop
def StX (ca:Addr->Prop)(H0 H:Hp):Prop:=∀b o,H0 b=some o->NP o->¬ ca b->H b=some o
theorem StX.of {ca:Addr->Prop}{H0 H:Hp}(s:zm H0 H):StX ca H0 H:=fun b o e n _=>s b o e n
theorem StX.stay {H0 H:Hp}(s:StX (fun _=>False) H0 H):zm H0 H:=fun b o e n=>s b o e n fun z=>z
structure Frm (A0:Addr->Prop)(H0:Hp)(ca:Addr->Prop)(A:Addr->Prop)(H:Hp):Prop where
 sub:∀a,A0 a->A a
 new:∀a,A a->A0 a\/Fr H0 a\/ca a
 st:StX ca H0 H
 al:Al A0 H0
 cn:∀a,ca a->¬ A0 a
 cs:∀a,ca a->∃o,H a=some o/\NP o
theorem Frm.back {A0:Addr->Prop}{H0:Hp}{ca A:Addr->Prop}{H:Hp}(f:Frm A0 H0 ca A H){a:Addr}(h:Fr H a)(n:¬ A a):Fr H0 a:=fun o e np=>h o (f.st a o e np fun z=>let ⟨o2,e2,n2⟩:=f.cs a z;h o2 e2 n2) np
structure Bs where
 ca:Addr->Prop:=fun _=>False
 A0:Addr->Prop
 H0:Hp
 G0:Hp
 σ0:St
def NoL (G:Hp):Prop:=∀a xs,G a≠some (.lst xs)
structure At3 (Pn:PN)(B:Bs)(S M:List Nat)(A:Addr->Prop)(σ:St)(H:Hp)(ρ:Ev)(n:Nat):Prop where
 env:EnvR A M σ H ρ
 frm:Frm B.A0 B.H0 B.ca A H
 pn:xm Pn A n H
 prot:zm B.G0 (zO A H)
 fix:(∀i∈S,σ[i]?=B.σ0[i]?)/\(9999∈S->NoL B.G0/\NoL B.H0)
 mine:∀i w a,i∈M->ρ[i]?=some (some w)->σ[i]?=some (some (.ref a))->Fr B.H0 a\/B.ca a
structure KOk (Pn:PN)(B:Bs)(S M:List Nat)(fr:Bool)(k:Kt)(D:Ends):Prop where
 nx:∀A σ H ρ n,At3 Pn B S M A σ H ρ n->k.nx ρ n->D.nx σ H
 bk:∀A σ H ρ n,At3 Pn B S M A σ H ρ n->k.bk ρ n->D.bk σ H
 ct:∀A σ H ρ n,At3 Pn B S M A σ H ρ n->k.ct ρ n->D.ct σ H
 fc:∀a,¬ B.ca a
 rt:∀w n v H,Val B.A0 H w v->StX B.ca B.H0 H->xm Pn B.A0 n H->(fr=true->FrV B.A0 B.H0 H w v)->k.rt w n->D.rt v H
structure RS (Pn:PN)(S M:List Nat)(fr:Bool)(ts:TS)(fs:Ms):Prop where
 run:∀B A σ H ρ n k D,At3 Pn B S M A σ H ρ n->KOk Pn B S M fr k D->fs ρ n k->ts D σ H
structure RG (S M:List Nat)(g:TG)(mg:W->Ev->(Ev->Prop)->Prop):Prop where
 run:∀A σ H ρ v w Q R,EnvR A M σ H ρ->Val A H w v->mg w ρ R->(∀ σ' ρ',R ρ'->EnvR A M σ' H ρ'->(∀i∈S,σ'[i]?=σ[i]?/\ρ'[i]?=ρ[i]?)->Q σ' H)->g v σ H Q
structure RGs (S M:List Nat)(g:TGs)(mg:List Dt->Ev->(Ev->Prop)->Prop):Prop where
 run:∀A σ H ρ vs ds Q R,EnvR A M σ H ρ->IsL (zO A H) ds vs->mg ds ρ R->(∀ σ' ρ',R ρ'->EnvR A M σ' H ρ'->(∀i∈S,σ'[i]?=σ[i]?/\ρ'[i]?=ρ[i]?)->Q σ' H)->g vs σ H Q
structure ItV (ow:Bool)(A:Addr->Prop)(H:Hp)(J:It)(l:List W):Prop where
 one:∀i w A2 H2,l[i]?=some w->zm (zO A H) (zO A2 H2)->(ow=true->zm H H2)->(∀p,H2 p=none->¬ A2 p)->J.go i H2/\∀x H3,J.yld i H2 x H3->yW H2 H3/\Val A2 H3 w x
 stop:∀A2 H2,zm (zO A H) (zO A2 H2)->(ow=true->zm H H2)->J.stop l.length H2
structure RI (Pn:PN)(M:List Nat)(ow:Bool)(wi:TI)(f:Ev->Mo (List W)):Prop where
 run:∀A σ H ρ n Q R,EnvR A M σ H ρ->xm Pn A n H->f ρ n R->(∀l m J H',R l m->ItV ow A H' J l->Go Pn A H m H'->Q J H')->wi σ H Q
theorem RE.rb {Pn:PN}{M:List Nat}{fr:Bool}{te:TE}{f:Ev->Mo W}(h:RE Pn M fr te f):RB Pn M te f:=
 ⟨fun A σ H ρ n Q R E P hf k=>h.run A σ H ρ n Q R E P hf fun w m v H' r a g _=>k w m v H' r a.bor g⟩
theorem RA.rab {Pn:PN}{M:List Nat}{te:TA}{f:Ev->Mo (List W)}(h:RA Pn M te f):RAB Pn M te f:=
 ⟨fun A σ H ρ n Q R E P hf k=>h.run A σ H ρ n Q R E P hf fun w m v H' r a g=>k w m v H' r a.bor g⟩
theorem xm.same {Pn:PN}{A:Addr->Prop}{n:Nat}{H H':Hp}(h:xm Pn A n H)(s:yW H H'):xm Pn A n H':=by
 refine⟨?_,Pn.J.same h.2 s⟩;have h:=h.1;split at h
 ·trivial
 ·exact⟨h.1.same s,h.2⟩
theorem Go.same {Pn:PN}{A:Addr->Prop}{n:Nat}{H H':Hp}(h:xm Pn A n H)(s:yW H H'):Go Pn A H n H':=⟨zm.same s,h.same s⟩
theorem Go.refl {Pn:PN}{A:Addr->Prop}{n:Nat}{H:Hp}(h:xm Pn A n H):Go Pn A H n H:=⟨zm.refl _,h⟩
open PySem L2
structure JE (X:Cx)(Pn:PN)(M:List Nat)(fr:Bool)(e:Expr)(f:Ev->Mo W):Prop where
 ex:∃te,QE X e te/\RE Pn M fr te f
structure JB (X:Cx)(Pn:PN)(M:List Nat)(e:Expr)(f:Ev->Mo W):Prop where
 ex:∃te,QE X e te/\RB Pn M te f
structure JT (X:Cx)(Pn:PN)(M:List Nat)(e:Expr)(f:Ev->Mo Bool):Prop where
 ex:∃te,QT X e te/\RT Pn M te f
structure JW (X:Cx)(Pn:PN)(M:List Nat)(e:Expr)(f:Ev->Mo Bool):Prop where
 ex:∃te,QW X e te/\RT Pn M te f
structure JA (X:Cx)(Pn:PN)(M:List Nat)(es:List Expr)(f:Ev->Mo (List W)):Prop where
 ex:∃te,QA X es te/\RA Pn M te f
structure JAB (X:Cx)(Pn:PN)(M:List Nat)(es:List Expr)(f:Ev->Mo (List W)):Prop where
 ex:∃te,QA X es te/\RAB Pn M te f
structure JO (X:Cx)(Pn:PN)(M:List Nat)(e:Option Expr)(f:Ev->Mo (Option Int)):Prop where
 ex:∃t,QO X e t/\∀A σ H ρ n Q R,EnvR A M σ H ρ->xm Pn A n H->f ρ n R->(∀o m H',R o m->Go Pn A H m H'->Q o H')->t σ H Q
section
variable {X:Cx}{Pn:PN}{M:List Nat}{fr:Bool}{e a b c:Expr}{es:List Expr}{f fa fb fc:Ev->Mo W}{pos p:Pos}
def znV (i:Nat):Ev->Mo W:=fun ρ n Q=>∃w,ρ[i]?=some (some w)/\Q w n
@[reducible] def mC (w:W):Ev->Mo W:=fun _ n Q=>Q w n
@[reducible] def znP (F:W->W->Mo W) (fa fb:Ev->Mo W):Ev->Mo W:=fun ρ n Q=>fa ρ n fun x n1=>fb ρ n1 fun y n2=>F x y n2 Q
@[reducible] def mUn (F:W->Mo W) (fa:Ev->Mo W):Ev->Mo W:=fun ρ n Q=>fa ρ n fun x n1=>F x n1 Q
def zlF (fa:Ev->Mo W):Ev->Mo Bool:=fun ρ n Q=>fa ρ n fun x n1=>∃c,x = .d (.bl c)/\Q c n1
def zp0 (t u:Ev->Mo Bool):Ev->Mo Bool:=fun ρ n Q=>t ρ n fun c n1=>if c=true then u ρ n1 Q else Q false n1
def mOr (t u:Ev->Mo Bool):Ev->Mo Bool:=fun ρ n Q=>t ρ n fun c n1=>if c=true then Q true n1 else u ρ n1 Q
def zq9 (t:Ev->Mo Bool):Ev->Mo Bool:=fun ρ n Q=>t ρ n fun c n1=>Q (!c) n1
@[reducible] def mNil:Ev->Mo (List W):=fun _ n Q=>Q [] n
@[reducible] def znQ (fa:Ev->Mo W) (fr:Ev->Mo (List W)):Ev->Mo (List W):=fun ρ n Q=>fa ρ n fun x n1=>fr ρ n1 fun xs n2=>Q (x::xs) n2
@[reducible] def zq1 (F:List W->Mo W) (fa:Ev->Mo (List W)):Ev->Mo W:=fun ρ n Q=>fa ρ n fun xs n1=>F xs n1 Q
theorem JE.bo (h:JE X Pn M fr e f):JB X Pn M e f:=let ⟨te,h1,h2⟩:=h.ex;⟨te,h1,h2.rb⟩
theorem JA.bo {f:Ev->Mo (List W)}(h:JA X Pn M es f):JAB X Pn M es f:=let ⟨te,h1,h2⟩:=h.ex;⟨te,h1,h2.rab⟩
theorem znG (h:JE X Pn M true e f):JE X Pn M false e f:=let ⟨te,h1,h2⟩:=h.ex;⟨te,h1,⟨fun A σ H ρ n Q R E P hf k=>h2.run A σ H ρ n Q R E P hf fun w m v H' r a g _=>k w m v H' r a g fun z=>by cases z⟩⟩
theorem zo4 {i:Nat}(hi:i∉M):RE Pn M false (zkG i) (znV i):=⟨fun A σ H ρ n Q R E P hf k=>by obtain⟨w,e,r⟩:=hf;obtain⟨v,h1,h2,_⟩:=E.val i w e;exact⟨v,h1,k w n v H r (h2 hi) (Go.refl P) fun z=>by cases z⟩⟩
theorem zo0 {i:Nat}:RB Pn M (zkG i) (znV i):=⟨fun A σ H ρ n Q R E P hf k=>by
 obtain⟨w,e,r⟩:=hf;obtain⟨v,h1,h2,h3⟩:=E.val i w e;refine⟨v,h1,k w n v H r ?_ (Go.refl P)⟩;by_cases hi:i∈M
 ·obtain⟨a,_,_,h,_⟩:=h3 hi;exact h
 ·exact (h2 hi).bor⟩
theorem zqW (i:Nat){x:Str}(hi:i∉M:=by decide)(hN:X.N[i]?=some x:=by rfl)(hv:Vis X.env.scope x:=by first | exact Or.inl rfl | exact Or.inr (Or.inl rfl) | exact Or.inr (Or.inr rfl))(hd:(x==("__debug__" : Str))=false:=by decide)
  (hcd:(x==("__classdict__" : Str))=false:=by decide):JE X Pn M false (.Name x pos) (znV i):=⟨_,qv i hN hv hd hcd,zo4 hi⟩
theorem zqU (i:Nat){x:Str}(hN:X.N[i]?=some x:=by rfl)(hv:Vis X.env.scope x:=by first | exact Or.inl rfl | exact Or.inr (Or.inl rfl) | exact Or.inr (Or.inr rfl))(hd:(x==("__debug__" : Str))=false:=by decide)
  (hcd:(x==("__classdict__" : Str))=false:=by decide):JB X Pn M (.Name x pos) (znV i):=⟨_,qv i hN hv hd hcd,zo0⟩
theorem zo1 {x:Dt}{v:V}(h:∀G,Is G x v):RE Pn M false (tC v) (mC (.d x)):=⟨fun A σ H ρ n Q R E P hf k=>k _ n v H hf (Val.of (h _)) (Go.refl P) fun z=>by cases z⟩
theorem zB {i:Int}{j:Nat}:JE X Pn M false (.Constant (.int i) j pos) (mC (.d (.int i))):=⟨_,ya,zo1 fun _=>rfl⟩
theorem zfJ {k:Bool}{j:Nat}:JE X Pn M false (.Constant (.bool k) j pos) (mC (.d (.bl k))):=⟨_,zrD,zo1 fun _=>rfl⟩
theorem znH {j:Nat}:JE X Pn M false (.Constant .none j pos) (mC (.d .non)):=⟨_,zoL,zo1 fun _=>rfl⟩
theorem zqV {x:Str}{j:Nat}:JE X Pn M false (.Constant (.str x) j pos) (mC (.d (.str x))):=⟨_,y6,zo1 fun _=>rfl⟩
theorem zef {x:Str}{i:Int}(hg:Gl X x)(h:∃w,yo (.int i) w/\X.mg x=some w)(hd:(x==("__debug__" : Str))=false:=by decide):JE X Pn M false (.Name x pos) (mC (.d (.int i))):=⟨_,zjF hg h hd,zo1 fun _=>rfl⟩
theorem Al.new {A:Addr->Prop}{H:Hp}(h:Al A H){p:Addr}(e:H p=none):¬ A p:=fun z=>by
 obtain⟨o,h1,_⟩:=h p z
 grind
theorem Al.stay {A:Addr->Prop}{H H':Hp}(h:Al A H)(s:zm H H'):Al A H':=fun a z=>by obtain⟨o,h1,h2,h3⟩:=h a z;exact⟨o,s _ _ h1 h2,h2,h3⟩
theorem Al.noT {A:Addr->Prop}{H:Hp}(h:Al A H):∀a xs,A a->H a≠some (.tup xs):=fun a xs z e=>by
 obtain⟨o,h1,_,h3⟩:=h a z;have:=h3.tup
 grind
theorem Al.noT' {A:Addr->Prop}{H H':Hp}(h:Al A H)(s:zm H H'){p:Addr}{xs:List V}(e:H' p=some (.tup xs)):¬ A p:=fun z=>(h.stay s).noT p xs z e
structure F2 (Pn:PN)(fr:Bool)(r:R2)(F:W->W->Mo W):Prop where
 run:∀A H x y wx wy n Q R,Al A H->Bor A H wx x->Bor A H wy y->xm Pn A n H->F wx wy n R->(∀w m v H',R w m->Val A H' w v->Go Pn A H m H'->(fr=true->FrV A H H' w v)->Q v H')->r x y H Q
structure FL (Pn:PN)(fr:Bool)(r:List V->Hp->VK->Prop)(F:List W->Mo W):Prop where
 run:∀A H xs ws n Q R,Al A H->zmW A H ws xs->xm Pn A n H->F ws n R->(∀w m v H',R w m->Val A H' w v->Go Pn A H m H'->(fr=true->FrV A H H' w v)->Q v H')->r xs H Q
theorem zjO {r:R2}{F:W->W->Mo W}{ta tb:TE}(hr:F2 Pn fr r F)(ha:RB Pn M ta fa)(hb:RB Pn M tb fb):RE Pn M fr (tOp r ta tb) (znP F fa fb):=⟨fun A σ H ρ n Q R E P hf k=>by refine ha.run A σ H ρ n _ _ E P hf fun x n1 v1 H1 r1 b1 g1=>?_;refine hb.run A σ H1 ρ n1 _ _ (E.stay g1.st) g1.pn r1 fun y n2 v2 H2 r2 b2 g2=>?_;have g:=g1.trans g2;exact hr.run A H2 v1 v2 x y n2 _ _ (E.stay g.st).al (b1.stay g2.st) b2 g2.pn r2 fun w m v H' h1 h2 h3 h4=>k w m v H' h1 h2 (g.trans h3) fun z=>(h4 z).back g.st⟩
theorem zo2 {r:List V->Hp->VK->Prop}{F:List W->Mo W}{ta:TA}{fa:Ev->Mo (List W)}(hr:FL Pn fr r F)(ha:RAB Pn M ta fa):RE Pn M fr (tCB r ta) (zq1 F fa):=⟨fun A σ H ρ n Q R E P hf k=>by refine ha.run A σ H ρ n _ _ E P hf fun x n1 v1 H1 r1 b1 g1=>?_;exact hr.run A H1 v1 x n1 _ _ (E.stay g1.st).al b1 g1.pn r1 fun w m v H' h1 h2 h3 h4=>k w m v H' h1 h2 (g1.trans h3) fun z=>(h4 z).back g1.st⟩
theorem y8 {op:Operator}{r:R2}{F:W->W->Mo W}(ho:OpQ X (binaryOp op) r)(hr:F2 Pn fr r F)(ha:JB X Pn M a fa)(hb:JB X Pn M b fb):JE X Pn M fr (.BinOp a op b pos) (znP F fa fb):=by obtain⟨ta,qa,ra⟩:=ha.ex;obtain⟨tb,qb,rb⟩:=hb.ex;exact⟨_,yE ho qa qb,zjO hr ra rb⟩
theorem zi6 {op:CmpOp}{r:R2}{F:W->W->Mo W}(ho:OpQ X (compareOp op) r)(hr:F2 Pn fr r F)(ha:JB X Pn M a fa)(hb:JB X Pn M b fb)(hm:behindInMarks op b=false):JE X Pn M fr (.Compare a [op] [b] pos) (znP F fa fb):=by obtain⟨ta,qa,ra⟩:=ha.ex;obtain⟨tb,qb,rb⟩:=hb.ex;exact⟨_,zmg ho qa qb hm,zjO hr ra rb⟩
theorem zia {ta:TE}(h:RB Pn M ta fa):RT Pn M (zis ta) (zlF fa):=⟨fun A σ H ρ n Q R E P hf k=>by refine h.run A σ H ρ n _ _ E P hf  ?_;rintro x n1 v1 H1 ⟨c,e,r⟩ b1 g1;subst e;have b1':v1 = .bl c:=b1;exact⟨c,b1',k c n1 H1 r g1⟩⟩
theorem yV {op:CmpOp}{r:R2}{F:W->W->Mo W}(ho:OpQ X (compareOp op) r)(hr:F2 Pn fr r F)(ha:JB X Pn M a fa)(hb:JB X Pn M b fb)(hm:behindInMarks op b=false):JT X Pn M (.Compare a [op] [b] pos) (zlF (znP F fa fb)):=by obtain⟨ta,qa,ra⟩:=ha.ex;obtain⟨tb,qb,rb⟩:=hb.ex;exact⟨_,zbA ho qa qb hm,zia (zjO hr ra rb).rb⟩
theorem zaz (h:JB X Pn M e f)(he:∀whole,isTrue e X.env whole=(do let v <- whole;standAt e.pos;holding [v] (truthy v)):=by intro _;rfl):JT X Pn M e (zlF f):=by obtain⟨ta,qa,ra⟩:=h.ex;exact⟨_,zoT qa he,zia ra⟩
theorem zay {t:Ev->Mo Bool}(h:JT X Pn M a t):JT X Pn M (.UnaryOp .Not a pos) (zq9 t):=by obtain⟨ta,qa,ra⟩:=h.ex;exact⟨_,zoS qa,⟨fun A σ H ρ n Q R E P hf k=>ra.run A σ H ρ n _ _ E P hf fun b m H' r g=>k _ m H' r g⟩⟩
theorem uY {op:BoolOp}{t:Ev->Mo Bool}(hop:op = .And\/op = .Or)(h:JT X Pn M a t):JW X Pn M (.BoolOp op [a] pos) t:=by
 obtain⟨ta,qa,ra⟩:=h.ex;rcases hop with rfl | rfl
 ·exact⟨_,zh1 qa,ra⟩
 ·exact⟨_,zoU qa,ra⟩
theorem zpd {t u:TT}{ft fu:Ev->Mo Bool}(h:RT Pn M t ft)(h':RT Pn M u fu):RT Pn M (zrL t u) (zp0 ft fu):=⟨fun A σ H ρ n Q R E P hf k=>by
 refine h.run A σ H ρ n _ _ E P hf fun c m H1 r g=>?_
 cases c with
 | true=>exact h'.run A σ H1 ρ m _ _ (E.stay g.st) g.pn (by simpa using r) fun b m' H' r' g'=>k b m' H' r' (g.trans g')
 | false=>exact k false m H1 (by simpa using r) g⟩
theorem zrJ {t u:TT}{ft fu:Ev->Mo Bool}(h:RT Pn M t ft)(h':RT Pn M u fu):RT Pn M (tOr t u) (mOr ft fu):=⟨fun A σ H ρ n Q R E P hf k=>by
 refine h.run A σ H ρ n _ _ E P hf fun c m H1 r g=>?_
 cases c with
 | false=>exact h'.run A σ H1 ρ m _ _ (E.stay g.st) g.pn (by simpa using r) fun b m' H' r' g'=>k b m' H' r' (g.trans g')
 | true=>exact k true m H1 (by simpa using r) g⟩
theorem zg9 {yn:List Expr}{t u:Ev->Mo Bool}(h:JT X Pn M a t)(h':JW X Pn M (.BoolOp .And (b::yn) pos) u):JW X Pn M (.BoolOp .And (a::b::yn) pos) (zp0 t u):=by obtain⟨ta,qa,ra⟩:=h.ex;obtain⟨tb,qb,rb⟩:=h'.ex;exact⟨_,zkv qa qb,zpd ra rb⟩
theorem zfL {yn:List Expr}{t u:Ev->Mo Bool}(h:JT X Pn M a t)(h':JW X Pn M (.BoolOp .Or (b::yn) pos) u):JW X Pn M (.BoolOp .Or (a::b::yn) pos) (mOr t u):=by obtain⟨ta,qa,ra⟩:=h.ex;obtain⟨tb,qb,rb⟩:=h'.ex;exact⟨_,zrE qa qb,zrJ ra rb⟩
theorem JW.t {t:Ev->Mo Bool}(h:JW X Pn M e t):JT X Pn M e t:=let ⟨te,h1,h2⟩:=h.ex;⟨te,h1.pt,h2⟩
@[reducible] def znB:W->Bool
 | .d .non=>true
 | _=>false
@[reducible] def mIsN (fa:Ev->Mo W):Ev->Mo W:=fun ρ n Q=>fa ρ n fun x n1=>Q (.d (.bl (znB x))) n1
@[reducible] def mNotN (fa:Ev->Mo W):Ev->Mo W:=fun ρ n Q=>fa ρ n fun x n1=>Q (.d (.bl (!znB x))) n1
theorem zf:JA X Pn M [] mNil:=⟨_,yA,⟨fun A σ H ρ n Q R E P hf k=>k [] n [] H hf rfl (Go.refl P)⟩⟩
theorem za {fs:Ev->Mo (List W)}(ha:JE X Pn M fr e f)(hr:JA X Pn M es fs)(hs:starEach (e::es) X.env=(false,eval e X.env)::starEach es X.env:=by rfl):JA X Pn M (e::es) (znQ f fs):=by obtain⟨ta,qa,ra⟩:=ha.ex;obtain⟨tb,qb,rb⟩:=hr.ex;refine⟨_,zE qa qb hs,⟨fun A σ H ρ n Q R E P hf k=>?_⟩⟩;refine ra.run A σ H ρ n _ _ E P hf fun x n1 v1 H1 r1 b1 g1 _=>?_;exact rb.run A σ H1 ρ n1 _ _ (E.stay g1.st) g1.pn r1 fun xs n2 vs H2 r2 b2 g2=>k _ n2 _ H2 r2 ⟨v1,vs,rfl,b1.stay g2.st,b2⟩ (g1.trans g2)
theorem zo:JAB X Pn M [] mNil:=zf.bo
theorem zh {fs:Ev->Mo (List W)}(ha:JB X Pn M e f)(hr:JAB X Pn M es fs)(hs:starEach (e::es) X.env=(false,eval e X.env)::starEach es X.env:=by rfl):JAB X Pn M (e::es) (znQ f fs):=by obtain⟨ta,qa,ra⟩:=ha.ex;obtain⟨tb,qb,rb⟩:=hr.ex;refine⟨_,zE qa qb hs,⟨fun A σ H ρ n Q R E P hf k=>?_⟩⟩;refine ra.run A σ H ρ n _ _ E P hf fun x n1 v1 H1 r1 b1 g1=>?_;exact rb.run A σ H1 ρ n1 _ _ (E.stay g1.st) g1.pn r1 fun xs n2 vs H2 r2 b2 g2=>k _ n2 _ H2 r2 ⟨v1,vs,rfl,b1.stay g2.st,b2⟩ (g1.trans g2)
def lim:Nat:=500000
theorem zb3 {n:Nat}(h:n<=lim):n<=sizeLine:=ao h (by decide)
theorem zfb {n:Nat}(h:n<=lim):n<sizeLine:=aU h (by decide)
def dts:List W->Option (List Dt)
 | []=>some []
 | .d x::r=>(dts r).map (x::·)
 | _::_=>none
theorem zbP.dts {A:Addr->Prop}{H:Hp}:∀ {ws:List W} {vs:List V} {l:List Dt},zbP A H ws vs->dts ws=some l->IsL (zO A H) l vs
 | [],vs,l,h,e=>by cases e;exact h
 | .d x::ws,vs,l,⟨v,r,e1,h1,h2⟩,e=>by obtain⟨l',e2,rfl⟩:=ax.mp e;exact⟨v,r,e1,h1.is,zbP.dts h2 e2⟩
 | .pen _::_,_,_,_,e=>by cases e
 | .dk _::_,_,_,_,e=>by cases e
 | .dt _::_,_,_,_,e=>by cases e
 | .ss _ _ _::_,_,_,_,e=>by cases e
 | .dn _ _::_,_,_,_,e=>by cases e
 | .wd _ _ _::_,_,_,_,e=>by cases e
 | .lf _::_,_,_,_,e=>by cases e
 | .cu _::_,_,_,_,e=>by cases e
 | .df _::_,_,_,_,e=>by cases e
 | .kf _::_,_,_,_,e=>by cases e
 | .fl _::_,_,_,_,e=>by cases e
 | .ad _ _::_,_,_,_,e=>by cases e
 | .tz _ _::_,_,_,_,e=>by cases e
theorem zbP.len {A:Addr->Prop}{H:Hp}:∀ {ws:List W} {vs:List V},zbP A H ws vs->vs.length=ws.length
 | [],_,h=>by cases h;rfl
 | _::ws,vs,⟨v,r,e,_,h2⟩=>by rw[e,a8,a8,zbP.len h2]
theorem zav {A:Addr->Prop}{H H':Hp}{p:Addr}{xs:List V}{l:List Dt}(hl:IsL (zO A H) l xs)(s:zm H H')(n:¬ A p)(g:H' p=some (.tup xs)):Val A H' (.d (.tup l)) (.ref p):=
 Val.of ⟨p,xs,rfl,zp n g,hl.stay (zw s)⟩
theorem xG {A:Addr->Prop}{H H':Hp}{p:Addr}{xs:List V}{l:List Dt}(hl:IsL (zO A H) l xs)(s:zm H H')(n:¬ A p)(g:H' p=some (.lst xs)):Val A H' (.d (.lst l)) (.ref p):=
 Val.of ⟨p,xs,rfl,.inl (zp n g),hl.stay (zw s)⟩
theorem xU {A:Addr->Prop}{H H':Hp}{p:Addr}{xs:List V}{l:List Dt}(hl:IsL (zO A H) l xs)(s:yW H H')(n:H p=none)(g:H' p=some (.lst xs)):FrV A H H' (.d (.lst l)) (.ref p):=
 ⟨p,rfl,.of n,⟨_,g,rfl⟩,p,xs,rfl,.inl g,hl.stay (yp (zm.same s) (.of n))⟩
@[reducible] def zp4:Nat->List W->(List Dt->Prop)->Prop
 | _,[],P=>P []
 | k+1,.d x::r,P=>zp4 k r fun l=>P (x::l)
 | _,_,_=>False
theorem zcF:∀ {k:Nat} {l:List W} {P:List Dt->Prop},zp4 k l P->∃ds,dts l=some ds/\P ds/\l.length<=k
 | 0,[],P,h=>⟨[],rfl,h,aL _⟩
 | k+1,[],P,h=>⟨[],rfl,h,aL _⟩
 | 0,.d x::r,P,h=>h.elim
 | k+1,.d x::r,P,h=>by obtain⟨ds,e,h2,hz⟩:=zcF (k:=k) (l:=r) (P:=fun l=>P (x::l)) h;exact⟨x::ds,by simp[dts,e],h2,Nat.succ_le_succ hz⟩
 | 0,.pen _::r,P,h=>h.elim
 | k+1,.pen _::r,P,h=>h.elim
 | 0,.dk _::r,P,h=>h.elim
 | k+1,.dk _::r,P,h=>h.elim
 | 0,.dt _::r,P,h=>h.elim
 | 0,.ss _ _ _::r,P,h=>h.elim
 | 0,.dn _ _::r,P,h=>h.elim
 | 0,.wd _ _ _::r,P,h=>h.elim
 | 0,.lf _::r,P,h=>h.elim
 | 0,.cu _::r,P,h=>h.elim
 | 0,.df _::r,P,h=>h.elim
 | 0,.kf _::r,P,h=>h.elim
 | 0,.fl _::r,P,h=>h.elim
 | 0,.ad _ _::r,P,h=>h.elim
 | 0,.tz _ _::r,P,h=>h.elim
 | k+1,.dt _::r,P,h=>h.elim
 | k+1,.ss _ _ _::r,P,h=>h.elim
 | k+1,.dn _ _::r,P,h=>h.elim
 | k+1,.wd _ _ _::r,P,h=>h.elim
 | k+1,.lf _::r,P,h=>h.elim
 | k+1,.cu _::r,P,h=>h.elim
 | k+1,.df _::r,P,h=>h.elim
 | k+1,.kf _::r,P,h=>h.elim
 | k+1,.fl _::r,P,h=>h.elim
 | k+1,.ad _ _::r,P,h=>h.elim
 | k+1,.tz _ _::r,P,h=>h.elim
@[reducible] def zrc (fa:Ev->Mo (List W)):Ev->Mo W:=fun ρ n Q=>fa ρ n fun ws m=>zp4 200 ws fun l=>Q (.d (.tup l)) m
theorem yH {x1}{fs:Ev->Mo (List W)}(h:JA X Pn M es fs):JE X Pn M false (.Tuple es x1 pos) (zrc fs):=by obtain⟨ta,qa,ra⟩:=h.ex;refine⟨_,zmm qa,⟨fun A σ H ρ n Q R E P hf k=>?_⟩⟩;refine ra.run A σ H ρ n _ _ E P hf fun ws m vs H1 hq b g=>?_;obtain⟨l,e,r,hz⟩:=zcF hq;refine⟨zb3 (by rw[b.len];exact ao hz (by decide)),fun p H2 np gp S=>?_⟩;exact k _ m _ H2 r (zav (b.dts e) (zm.same S) ((E.stay g.st).new np) gp) (g.trans (Go.same g.pn S)) fun z=>by cases z
@[reducible] def zq8 (fa:Ev->Mo (List W)):Ev->Mo W:=fun ρ n Q=>fa ρ n fun ws m=>zp4 200 ws fun l=>Q (.d (.lst l)) m
theorem zbi {fs:Ev->Mo (List W)}(h:JA X Pn M es fs):JE X Pn M true (.List es pos) (zq8 fs):=by obtain⟨ta,qa,ra⟩:=h.ex;refine⟨_,zmj qa,⟨fun A σ H ρ n Q R E P hf k=>?_⟩⟩;refine ra.run A σ H ρ n _ _ E P hf fun ws m vs H1 hq b g=>?_;obtain⟨l,e,r,hz⟩:=zcF hq;refine⟨zb3 (by rw[b.len];exact ao hz (by decide)),fun p H2 np gp S=>?_⟩;exact k _ m _ H2 r (xG (b.dts e) (zm.same S) ((E.stay g.st).new np) gp) (g.trans (Go.same g.pn S)) fun _=>(xU (b.dts e) S np gp).back g.st
theorem z7 {id:String}{r:List V->Hp->VK->Prop}{F:List W->Mo W}{x:Str}{fs:Ev->Mo (List W)}(hc:CallQ X (.builtin id) r)(hr:FL Pn fr r F)(hg:Gl X x)(hm:X.mg x=none)(hv:bootBuiltins x=some (.builtin id))(ha:JAB X Pn M (e::es) fs)(hn:x ≠ "__name__" := by decide)(hdb:(x==("__debug__" : Str))=false:=by decide)
  (he:starEach (e::es) X.env=(false,eval e X.env)::starEach es X.env:=by rfl) (hpl:(backTo pos (starEach es X.env)).any (·.1)=false:=by rfl):JE X Pn M fr (.Call (.Name x p) (e::es) [] pos) (zq1 F fs):=by
 obtain⟨ta,qa,ra⟩:=ha.ex;exact⟨_,yg hc hg hm hv qa hn hdb he hpl,zo2 hr ra⟩
theorem yX {T:String}{r:List V->Hp->VK->Prop}{F:List W->Mo W}{x:Str}{fs:Ev->Mo (List W)}(hc:CallQ X (.type T) r)(hr:FL Pn fr r F)(hg:Gl X x)(hm:X.mg x=none)(hv:bootBuiltins x=some (.type T))(ha:JAB X Pn M (e::es) fs)(hn:x ≠ "__name__" := by decide)(hdb:(x==("__debug__" : Str))=false:=by decide)
  (he:starEach (e::es) X.env=(false,eval e X.env)::starEach es X.env:=by rfl) (hpl:(backTo pos (starEach es X.env)).any (·.1)=false:=by rfl):JE X Pn M fr (.Call (.Name x p) (e::es) [] pos) (zq1 F fs):=by
 obtain⟨ta,qa,ra⟩:=ha.ex;exact⟨_,zab hc hg hm hv qa hn hdb he hpl,zo2 hr ra⟩
end
open PySem L2
section
variable {Pn:PN}{K:PySem.W.Frag}{A:Addr->Prop}{H:Hp}
theorem yI {i:Int}{v:V}(h:Bor A H (.d (.int i)) v):v = .int i:=h
theorem zgk {i:Bool}{v:V}(h:Bor A H (.d (.bl i)) v):v = .bl i:=h
theorem xR {l:List Dt}{v:V}(h:Bor A H (.d (.tup l)) v):∃a xs,v = .ref a/\H a=some (.tup xs)/\IsL (zO A H) l xs:=by obtain⟨a,xs,e,h1,h2⟩:=h;exact⟨a,xs,e,zX _ _ h1,h2⟩
theorem yZ {l:List Dt}{v:V}(h:Bor A H (.d (.lst l)) v):∃a xs,v = .ref a/\Rd H a (.lst xs)/\IsL (zO A H) l xs:=h
theorem zkO {l:List Dt}{v:V}(h:Bor A H (.d (.lst l)) v\/Bor A H (.d (.tup l)) v):∃a xs,v = .ref a/\(SqL K H a xs\/SqT K H a xs)/\IsL (zO A H) l xs:=by
 rcases h with h | h
 ·obtain⟨a,xs,e,h1,h2⟩:=yZ h;exact⟨a,xs,e,.inl (.inl h1),h2⟩
 ·obtain⟨a,xs,e,h1,h2⟩:=xR h;exact⟨a,xs,e,.inr (.of h1),h2⟩
def fI (C:Int->Int->Prop)(g:Int->Int->Dt):W->W->Mo W:=fun x y n Q=>∃i j,x = .d (.int i)/\y = .d (.int j)/\C i j/\Q (.d (g i j)) n
def fI0 (g:Int->Int->Dt):W->W->Mo W:=fun x y n Q=>∃i j,x = .d (.int i)/\y = .d (.int j)/\Q (.d (g i j)) n
theorem zqH {C:Int->Int->Prop}{g:Int->Int->V}{g':Int->Int->Dt}(hg:∀i j G,Is G (g' i j) (g i j)):F2 Pn false (rI C g) (fI C g'):=⟨by
 rintro A H x y wx wy n Q R al bx byy P ⟨i,j,e1,e2,c,r⟩ k;subst e1 e2;exact⟨i,j,yI bx,yI byy,c,k _ n _ H r (Val.of (hg _ _ _)) (Go.refl P) fun z=>by cases z⟩⟩
theorem ziQ {g:Int->Int->V}{g':Int->Int->Dt}(hg:∀i j G,Is G (g' i j) (g i j)):F2 Pn false (rI0 g) (fI0 g'):=⟨by
 rintro A H x y wx wy n Q R al bx byy P ⟨i,j,e1,e2,r⟩ k;subst e1 e2;exact⟨i,j,yI bx,yI byy,k _ n _ H r (Val.of (hg _ _ _)) (Go.refl P) fun z=>by cases z⟩⟩
abbrev fAdd:=fI0 fun i j=>.int (i+j)
abbrev fSub:=fI0 fun i j=>.int (i - j)
abbrev fMul:=fI zj2 fun i j=>.int (i * j)
abbrev fMod:=fI (fun _ j=>0<j) fun i j=>.int (i % j)
abbrev fPow:=fI zmX fun i j=>.int (i ^ j.toNat)
abbrev fLt:=fI0 fun i j=>.bl (decide (i<j))
abbrev fLe:=fI0 fun i j=>.bl (decide (i<=j))
theorem zrV:F2 Pn false (rI0 fun i j=>.int (i+j)) fAdd:=ziQ fun _ _ _=>rfl
theorem zr6:F2 Pn false (rI0 fun i j=>.int (i - j)) fSub:=ziQ fun _ _ _=>rfl
theorem zr3:F2 Pn false (rI zj2 fun i j=>.int (i * j)) fMul:=zqH fun _ _ _=>rfl
theorem zr2:F2 Pn false (rI (fun _ j=>0<j) fun i j=>.int (i % j)) fMod:=zqH fun _ _ _=>rfl
theorem zr5:F2 Pn false (rI zmX fun i j=>.int (i ^ j.toNat)) fPow:=zqH fun _ _ _=>rfl
theorem v_lt:F2 Pn false (rI0 fun i j=>.bl (decide (i<j))) fLt:=ziQ fun _ _ _=>rfl
theorem v_le:F2 Pn false (rI0 fun i j=>.bl (decide (i<=j))) fLe:=ziQ fun _ _ _=>rfl
@[reducible] def sEq:Dt->Dt->Option Bool
 | .int i,.int j=>some (decide (i=j))
 | .bl i,.bl j=>some (decide (i=j))
 | .str i,.str j=>some (decide (i=j))
 | .non,.non=>some true
 | .non,.int _=>some false
 | .int _,.non=>some false
 | .non,.bl _=>some false
 | .bl _,.non=>some false
 | .non,.str _=>some false
 | .str _,.non=>some false
 | .int _,.str _=>some false
 | .str _,.int _=>some false
 | _,_=>none
def plain:Dt->Option V
 | .int i=>some (.int i)
 | .bl i=>some (.bl i)
 | .str i=>some (.str i)
 | .non=>some .non
 | _=>none
theorem zkB {a b:Dt}{r:Bool}(h:sEq a b=some r):∃x y,plain a=some x/\plain b=some y/\zrK x y=true/\decide (x=y)=r:=by cases a <;> cases b <;> cases h <;> refine⟨_,_,rfl,rfl,rfl,?_⟩ <;> first | rfl | exact aS (by lia) | exact decide_eq_decide.mpr (by simp)
theorem uN {a:Dt}{x v:V}(h:Bor A H (.d a) v)(e:plain a=some x):v=x:=by cases a <;> cases e <;> exact h
def fEq:W->W->Mo W:=fun x y n Q=>∃a b r,x = .d a/\y = .d b/\sEq a b=some r/\Q (.d (.bl r)) n
def fNe:W->W->Mo W:=fun x y n Q=>∃a b r,x = .d a/\y = .d b/\sEq a b=some r/\Q (.d (.bl (!r))) n
theorem v_eq:F2 Pn false rEq fEq:=⟨by
 rintro A H x y wx wy n Q R al bx byy P ⟨a,b,r,e1,e2,e,h⟩ k;subst e1 e2;obtain⟨x',y',p1,p2,s,d⟩:=zkB e;obtain rfl:=uN bx p1;obtain rfl:=uN byy p2;exact⟨s,k _ n _ H h (Val.of (by rw[d];rfl)) (Go.refl P) fun z=>by cases z⟩⟩
theorem v_ne:F2 Pn false rNe fNe:=⟨by
 rintro A H x y wx wy n Q R al bx byy P ⟨a,b,r,e1,e2,e,h⟩ k;subst e1 e2;obtain⟨x',y',p1,p2,s,d⟩:=zkB e;obtain rfl:=uN bx p1;obtain rfl:=uN byy p2;exact⟨s,k _ n _ H h (Val.of (by rw[d];rfl)) (Go.refl P) fun z=>by cases z⟩⟩
def zqJ:W->W->Mo W:=fun x y n Q=>∃a b,x = .d a/\y = .d b/\a.eqOk/\b.eqOk/\∀r:Bool,(r=true↔a=b)->Q (.d (.bl r)) n
def zqO:W->W->Mo W:=fun x y n Q=>∃a b,x = .d a/\y = .d b/\a.eqOk/\b.eqOk/\∀r:Bool,(r=true↔a=b)->Q (.d (.bl (!r))) n
theorem zrX:F2 Pn false zp6 zqJ:=⟨by
 rintro A H x y wx wy n Q R al bx byy P ⟨a,b,e1,e2,o1,o2,h⟩ k;subst e1 e2;exact⟨a,b,bx.is,byy.is,o1,o2,fun r hr=>k _ n _ H (h r hr) (Val.of rfl) (Go.refl P) fun z=>by cases z⟩⟩
theorem zr4:F2 Pn false zqa zqO:=⟨by
 rintro A H x y wx wy n Q R al bx byy P ⟨a,b,e1,e2,o1,o2,h⟩ k;subst e1 e2;exact⟨a,b,bx.is,byy.is,o1,o2,fun r hr=>k _ n _ H (h r hr) (Val.of rfl) (Go.refl P) fun z=>by cases z⟩⟩
def zd5:W->W->Mo W:=fun x y n Q=>∃a b,x = .d (.bl a)/\y = .d (.bl b)/\Q (.d (.bl (a != b))) n
theorem zf6:F2 Pn false (fun x y H Q=>∃a b,x = .bl a/\y = .bl b/\Q (.bl (a != b)) H) zd5:=⟨by
 rintro A H x y wx wy n Q R al bx byy P ⟨a,b,e1,e2,h⟩ k;subst e1 e2;exact⟨a,b,zgk bx,zgk byy,k _ n _ H h (Val.of rfl) (Go.refl P) fun z=>by cases z⟩⟩
def zqK (neg:Bool):W->W->Mo W:=fun x y n Q=>∃d ds,x = .d d/\(y = .d (.lst ds)\/y = .d (.tup ds))/\d.eqOk/\(Dt.lst ds).eqOk/\∀b:Bool,(b=true↔d∈ds)->Q (.d (.bl (if neg then !b else b))) n
theorem zrY {neg:Bool}:F2 Pn false (zp7 neg) (zqK neg):=⟨by
 rintro A H x y wx wy n Q R al bx byy P ⟨d,ds,e1,e2,o1,o2,h⟩ k;subst e1;refine⟨d,ds,bx.is,?_,o1,o2,fun b hb=>k _ n _ H (h b hb) (Val.of rfl) (Go.refl P) fun z=>by cases z⟩;rcases e2 with rfl | rfl
 ·exact .inl byy.is
 ·exact .inr byy.is⟩
theorem zkj {G:Hp}{l:List Dt}{xs:List V}{i:Int}{d:Dt}(h:IsL G l xs)(e:atI l i=some d):∃v,atI xs i=some v/\Is G d v:=by
 unfold atI at e ⊢;rw[h.length];obtain⟨j,h1,h2⟩:=Option.bind_eq_some_iff.mp e;obtain⟨v,h3,h4⟩:=h.getD h2
 simp_all
def zqM:W->W->Mo W:=fun x y n Q=>∃l i d,x = .d (.tup l)/\y = .d (.int i)/\atI l i=some d/\Q (.d d) n
def zqL:W->W->Mo W:=fun x y n Q=>∃l i d,x = .d (.lst l)/\y = .d (.int i)/\atI l i=some d/\Q (.d d) n
theorem zr0:F2 Pn false (zp9 K) zqM:=⟨by
 rintro A H x y wx wy n Q R al bx byy P ⟨l,i,d,e1,e2,e,h⟩ k;subst e1 e2;obtain⟨a,xs,ea,ha,hl⟩:=xR bx;obtain⟨v,h1,h2⟩:=zkj hl e;exact⟨a,xs,i,v,ea,yI byy,.of ha,h1,k _ n _ H h (Val.of h2) (Go.refl P) fun z=>by cases z⟩⟩
theorem zrZ:F2 Pn false (zp8 K) zqL:=⟨by
 rintro A H x y wx wy n Q R al bx byy P ⟨l,i,d,e1,e2,e,h⟩ k;subst e1 e2;obtain⟨a,xs,ea,ha,hl⟩:=yZ bx;obtain⟨v,h1,h2⟩:=zkj hl e;exact⟨a,xs,i,v,ea,yI byy,.inl ha,h1,k _ n _ H h (Val.of h2) (Go.refl P) fun z=>by cases z⟩⟩
def zd4:W->W->Mo W:=fun x y n Q=>∃l m,x = .d (.tup l)/\y = .d (.tup m)/\l.length+m.length<=lim/\Q (.d (.tup (l++m))) n
theorem zpJ:F2 Pn false (zjL K) zd4:=⟨by
 rintro A H x y wx wy n Q R al bx byy P ⟨l,m,e1,e2,z,h⟩ k;subst e1 e2;obtain⟨a,xs,ea,ha,hl⟩:=xR bx;obtain⟨b,ys,eb,hb,hm⟩:=xR byy;refine⟨a,b,xs,ys,ea,eb,ha,hb,zb3 (by rw[hl.length,hm.length];exact z),fun p H' g S=>?_⟩;exact k _ n _ H' h (zav (hl.append hm) (zm.same S) (al.noT' (zm.same S) g) g) (Go.same P S) fun z=>by cases z⟩
def zk5:W->W->Mo W:=fun x y n Q=>∃l m,x = .d (.lst l)/\y = .d (.lst m)/\l.length+m.length<=lim/\Q (.d (.lst (l++m))) n
theorem zpI:F2 Pn true zmt zk5:=⟨by
 rintro A H x y wx wy n Q R al bx byy P ⟨l,m,e1,e2,z,h⟩ k;subst e1 e2;obtain⟨a,xs,ea,ha,hl⟩:=yZ bx;obtain⟨b,ys,eb,hb,hm⟩:=yZ byy;refine⟨a,b,xs,ys,ea,eb,ha,hb,zb3 (by rw[hl.length,hm.length];exact z),fun p H' np g S=>?_⟩;exact k _ n _ H' h (xG (hl.append hm) (zm.same S) (al.new np) g) (Go.same P S) fun z=>xU (hl.append hm) S np g⟩
def zle:W->W->Mo W:=fun x y n Q=>∃l j,x = .d (.tup l)/\y = .d (.int j)/\1<=j/\j<=1000000/\l.length * j.toNat<=lim/\Q (.d (.tup (List.replicate j.toNat l).flatten)) n
theorem zg0 {G:Hp}{l:List Dt}{xs:List V}(h:IsL G l xs):∀k:Nat,IsL G (List.replicate k l).flatten (List.replicate k xs).flatten
 | 0=>rfl
 | k+1=>by rw[ck,ck,dj,dj];exact h.append (zg0 h k)
theorem zpM:F2 Pn false zmv zle:=⟨by
 rintro A H x y wx wy n Q R al bx byy P ⟨l,j,e1,e2,j1,j2,z,h⟩ k;subst e1 e2;obtain⟨a,xs,ea,ha,hl⟩:=xR bx;refine⟨a,j,xs,ea,yI byy,ha,j1,by lia,zb3 (by rw[hl.length];exact z),fun p H' g S=>?_⟩;exact k _ n _ H' h (zav (zg0 hl _) (zm.same S) (al.noT' (zm.same S) g) g) (Go.same P S) fun z=>by cases z⟩
@[reducible] def lenD:W->Option Nat
 | .d (.lst l)=>some l.length
 | .d (.tup l)=>some l.length
 | _=>none
def zqN:List W->Mo W:=fun ws n Q=>∃x k,ws=[x]/\lenD x=some k/\Q (.d (.int (k:Int))) n
theorem zai {w:W}{vs:List V}(h:zmW A H [w] vs):∃v,vs=[v]/\Bor A H w v:=by obtain⟨v,r,e,h1,h2⟩:=h;cases h2;exact⟨v,e,h1⟩
theorem zr1:FL Pn false (fun xs H Q=>∃x n,xs=[x]/\zm7 K x H n/\Q (.int n) H) zqN:=⟨by
 rintro A H xs ws n Q R al b P ⟨x,j,e1,e2,h⟩ k;subst e1;obtain⟨v,rfl,bb⟩:=zai b;refine⟨v,j,rfl,?_,k _ n _ H h (Val.of rfl) (Go.refl P) fun z=>by cases z⟩
 cases x with
 | d x=>
  cases x with
  | lst l=>
   cases e2;obtain⟨a,ys,rfl,ha,hl⟩:=yZ bb;exact .inl ⟨ys,.inl ha,hl.length.symm⟩
  | tup l=>
   cases e2;obtain⟨a,ys,rfl,ha,hl⟩:=xR bb;exact .inr ⟨ys,.of ha,hl.length.symm⟩
  | _=>cases e2
 | _=>cases e2⟩
theorem zgZ {G:Hp}:∀ {bs:List Bool} {xs:List V},IsL G (bs.map .bl) xs->xs=bs.map V.bl
 | [],_,h=>h
 | b::bs,xs,h=>by obtain⟨y,r,rfl,h1,h2⟩:=h;cases h1;rw[zgZ h2];rfl
def zqI:List W->Mo W:=fun ws n Q=>∃bs:List Bool,ws=[.d (.lst (bs.map .bl))]/\Q (.d (.bl (bs.all id))) n
theorem zrW:FL Pn false (fun xs H Q=>∃ (p:Addr) (bs:List Bool),xs=[.ref p]/\Rd H p (.lst (bs.map V.bl))/\Q (.bl (bs.all id)) H) zqI:=⟨by
 rintro A H xs ws n Q R al b P ⟨bs,e1,h⟩ k;subst e1;obtain⟨v,rfl,bb⟩:=zai b;obtain⟨a,ys,rfl,ha,hl⟩:=yZ bb;obtain rfl:=zgZ hl;exact⟨a,bs,rfl,ha,k _ n _ H h (Val.of rfl) (Go.refl P) fun z=>by cases z⟩⟩
def znx:List W->Mo W:=fun ws n Q=>∃l,(ws=[.d (.lst l)]\/ws=[.d (.tup l)])/\Q (.d (.lst l)) n
theorem zpL:FL Pn true (zh2 K) znx:=⟨by
 rintro A H xs ws n Q R al b P ⟨l,e1,h⟩ k
 obtain⟨v,rfl,bb⟩:∃v,xs=[v]/\(Bor A H (.d (.lst l)) v\/Bor A H (.d (.tup l)) v):=by
  rcases e1 with rfl | rfl
  ·obtain⟨v,e,h⟩:=zai b;exact⟨v,e,.inl h⟩
  ·obtain⟨v,e,h⟩:=zai b;exact⟨v,e,.inr h⟩
 obtain⟨a,ys,rfl,hs,hl⟩:=zkO (K:=K) bb;exact⟨a,ys,rfl,hs,fun p H' np g S=>k _ n _ H' h (xG hl (zm.same S) (al.new np) g) (Go.same P S) fun z=>xU hl S np g⟩⟩
def zke:List W->Mo W:=fun ws n Q=>∃l,(ws=[.d (.lst l)]\/ws=[.d (.tup l)])/\Q (.d (.tup l)) n
theorem zmU:FL Pn false (zew K) zke:=⟨by
 rintro A H xs ws n Q R al b P ⟨l,e1,h⟩ k;rcases e1 with rfl | rfl
 ·obtain⟨v,rfl,bb⟩:=zai b;obtain⟨a,ys,rfl,ha,hl⟩:=yZ bb;exact⟨a,ys,rfl,.inl ⟨.inl ha,fun p H' np g S=>k _ n _ H' h (zav hl (zm.same S) (al.new np) g) (Go.same P S) fun z=>by cases z⟩⟩
 ·obtain⟨v,rfl,bb⟩:=zai b;obtain⟨a,ys,e,ha,hl⟩:=id bb;subst e;exact⟨a,ys,rfl,.inr ⟨.of (zX _ _ ha),k _ n _ H h (Val.of ⟨a,ys,rfl,ha,hl⟩) (Go.refl P) fun z=>by cases z⟩⟩⟩
def xp {α:Type}(xs:List α)(lo hi:Option Int):List α:=(xs.drop (HT.sIx xs.length 0 lo)).take (HT.sIx xs.length xs.length hi - HT.sIx xs.length 0 lo)
theorem zed {G:Hp}{l:List Dt}{xs:List V}{lo hi:Option Int}(h:IsL G l xs):IsL G (xp l lo hi) (zbR xs lo hi):=by unfold xp zbR;rw[h.length];exact (h.drop _).take _
def xO {κ:Type}[DecidableEq κ](kvs:List (κ×Dt))(k:κ):Option Dt:=(kvs.find? fun q=>decide (q.1=k)).map (·.2)
end
open PySem L2
section
variable {X:Cx}{Pn:PN}{M S:List Nat}{fr:Bool}{e a b c:Expr}{es:List Expr}{f fa fb fc:Ev->Mo W}{pos p:Pos}
theorem zdP {r:R2}{F:W->W->Mo W}(hx:IxQ X r)(hr:F2 Pn fr r F)(ha:JB X Pn M a fa)(hb:JB X Pn M b fb)(hs:zdQ b):JE X Pn M fr (.Subscript a b pos) (znP F fa fb):=by obtain⟨ta,qa,ra⟩:=ha.ex;obtain⟨tb,qb,rb⟩:=hb.ex;exact⟨_,zoK hx qa qb hs,zjO hr ra rb⟩
@[reducible] def zlC:Ev->Mo (Option Int):=fun _ n Q=>Q none n
def zlD (fa:Ev->Mo W):Ev->Mo (Option Int):=fun ρ n Q=>fa ρ n fun x m=>∃i,x = .d (.int i)/\Q (some i) m
theorem zK:JO X Pn M none zlC:=⟨_,zhX,fun A σ H ρ n Q R E P hf k=>k none n H hf (Go.refl P)⟩
theorem zL (h:JB X Pn M e f):JO X Pn M (some e) (zlD f):=by obtain⟨te,q,r⟩:=h.ex;refine⟨_,zhY q,fun A σ H ρ n Q R E P hf k=>?_⟩;refine r.run A σ H ρ n _ _ E P hf  ?_;rintro w m v H' ⟨i,e,r⟩ bb g;subst e;exact⟨i,yI bb,k (some i) m H' r g⟩
def zrb (fa:Ev->Mo W)(fl fh:Ev->Mo (Option Int)):Ev->Mo W:=fun ρ n Q=>fa ρ n fun x n1=>fl ρ n1 fun lo n2=>fh ρ n2 fun hi n3=>∃l,x = .d (.tup l)/\Q (.d (.tup (xp l lo hi))) n3
def zra (fa:Ev->Mo W)(fl fh:Ev->Mo (Option Int)):Ev->Mo W:=fun ρ n Q=>fa ρ n fun x n1=>fl ρ n1 fun lo n2=>fh ρ n2 fun hi n3=>∃l,x = .d (.lst l)/\Q (.d (.lst (xp l lo hi))) n3
theorem xN {lo hi:Option Expr}{fl fh:Ev->Mo (Option Int)}{p2:Pos}(he:JB X Pn M e f)(hl:JO X Pn M lo fl)(hh:JO X Pn M hi fh):JE X Pn M false (.Subscript e (.Slice lo hi none p2) pos) (zrb f fl fh):=by obtain⟨te,qe,re⟩:=he.ex;obtain⟨tl,ql,rl⟩:=hl.ex;obtain⟨th,qh,rh⟩:=hh.ex;refine⟨_,zcJ zmK qe ql qh,⟨fun A σ H ρ n Q R E P hf k=>?_⟩⟩;refine re.run A σ H ρ n _ _ E P hf fun w m v H1 r1 bb g1=>?_;refine rl A σ H1 ρ m _ _ (E.stay g1.st) g1.pn r1 fun o m2 H2 r2 g2=>?_;refine rh A σ H2 ρ m2 _ _ ((E.stay g1.st).stay g2.st) g2.pn r2  ?_;rintro o3 m3 H3 ⟨l,e,r3⟩ g3;subst e;have g:=(g1.trans g2).trans g3;obtain⟨ad,xs,rfl,ha,hl⟩:=xR (bb.stay (g2.trans g3).st);exact⟨ad,xs,rfl,ha,fun p H' gp S=>k _ m3 _ H' r3 (zav (zed hl) (zm.same S) (Al.noT' (E.stay g.st).al (zm.same S) gp) gp) (g.trans (Go.same g3.pn S)) fun z=>by cases z⟩
theorem zi7 {lo hi:Option Expr}{fl fh:Ev->Mo (Option Int)}{p2:Pos}(he:JB X Pn M e f)(hl:JO X Pn M lo fl)(hh:JO X Pn M hi fh):JE X Pn M true (.Subscript e (.Slice lo hi none p2) pos) (zra f fl fh):=by obtain⟨te,qe,re⟩:=he.ex;obtain⟨tl,ql,rl⟩:=hl.ex;obtain⟨th,qh,rh⟩:=hh.ex;refine⟨_,zcJ zin qe ql qh,⟨fun A σ H ρ n Q R E P hf k=>?_⟩⟩;refine re.run A σ H ρ n _ _ E P hf fun w m v H1 r1 bb g1=>?_;refine rl A σ H1 ρ m _ _ (E.stay g1.st) g1.pn r1 fun o m2 H2 r2 g2=>?_;refine rh A σ H2 ρ m2 _ _ ((E.stay g1.st).stay g2.st) g2.pn r2  ?_;rintro o3 m3 H3 ⟨l,e,r3⟩ g3;subst e;have g:=(g1.trans g2).trans g3;obtain⟨ad,xs,rfl,ha,hl⟩:=yZ (bb.stay (g2.trans g3).st);refine⟨ad,xs,rfl,.inl ha,fun p np=>?_⟩;have S:=yW.upd (o:=.lst (zbR xs o o3)) np;exact k _ m3 _ _ r3 (xG (zed hl) (zm.same S) ((E.stay g.st).new np) zg) (g.trans (Go.same g3.pn S)) fun z=>(xU (zed hl) S np zg).back g.st
@[reducible] def zpZ:W->Option Key
 | .d (.int i)=>some (Sum.inl i)
 | .d (.str x)=>some (Sum.inr x)
 | _=>none
theorem zne {A:Addr->Prop}{H:Hp}{kvs:List (Key×Dt)}{v:V}(h:Bor A H (.dk kvs) v):∃a ks,v = .ref a/\H a=some (.dK ks)/\xQ (zO A H) kvs ks/\uI ks (Sum.inr "at" : Key)=none:=h
@[reducible] def prD (q:Int×Dt):Dt:=.tup [.int q.1,q.2]
def kvD (q:Int×Dt):Key×Dt:=(Sum.inl q.1,q.2)
def spV (k:Nat)(fr:Bool)(F:PN->List W->Mo W):Sp:=fun vs H Q _=>∃Pn A ws n R,Al A H/\zbP A H ws vs/\ws.length=k/\xm Pn A n H/\F Pn ws n R/\∀w m v H',R w m->Val A H' w v->Go Pn A H m H'->(fr=true->FrV A H H' w v)->Q v H'
def mFn (k:Nat)(F:List W->Mo W)(fa:Ev->Mo (List W)):Ev->Mo W:=fun ρ n Q=>fa ρ n fun ws m=>ws.length=k/\F ws m Q
theorem zrH {k:Nat}{F:PN->List W->Mo W}{ta:TA}{fs:Ev->Mo (List W)}(ha:RA Pn M ta fs):RE Pn M fr (zeH (spV k fr F) [] E0 ta) (mFn k (F Pn) fs):=⟨fun A σ H ρ n Q R E P hf kk=>by refine ha.run A σ H ρ n _ _ E P hf  ?_;rintro ws m vs H1 ⟨hk,r⟩ b g;rw[dM];exact⟨Pn,A,ws,m,R,(E.stay g.st).al,b,hk,g.pn,r,fun w m' v H' h1 h2 h3 h4=>kk w m' v H' h1 h2 (g.trans h3) fun z=>(h4 z).back g.st⟩⟩
theorem xj {x:Str}{st:Stmt}{ps:List Str}{fA:Addr}{fd:FuncData}{k:Nat}{F:PN->List W->Mo W}{j kk:Nat}{fs:Ev->Mo (List W)}(D:Dfn X.K X.mg x st ps fA fd)(G:FnOk X.prog X.w X.K X.mg X.base CX0 j fA fd ps (spV k fr F))(hr:Room kk X.A)
  (ha:JA X Pn M (e::es) fs) (hjk:j<=kk:=by decide) (hg:Gl X x:=by rfl) (hdb:(x==("__debug__" : Str))=false:=by decide) (he:starEach (e::es) X.env=(false,eval e X.env)::starEach es X.env:=by rfl) (hpl:(backTo pos (starEach es X.env)).any (·.1)=false:=by rfl) :
  JE X Pn M fr (.Call (.Name x p) (e::es) [] pos) (mFn k (F Pn) fs):=by
 obtain⟨ta,qa,ra⟩:=ha.ex;exact⟨_,zjE D G hr qa hjk hg hdb he hpl,zrH ra⟩
@[reducible] def W.flat (fr:Bool):W->Bool
 | .d (.lst l)=>fr&&Dt.noLs l
 | .d x=>x.noL
 | .pen _=>true
 | .dk _=>false
 | .dt _=>false
 | .ss _ _ _=>false
 | .dn _ _=>false
 | .wd _ _ _=>false
 | .lf _=>false
 | .cu _=>false
 | .df _=>false
 | .kf _=>false
 | .fl _=>false
 | .ad _ _=>false
 | .tz _ _=>false
theorem ziX {A A':Addr->Prop}{H H':Hp}{w:W}{v:V}(al:Al A H)(s:zm H H')(h:Val A' H' w v)(hf:fr=true->FrV A' H H' w v)(fl:w.flat fr=true):Val A H' w v:=by
 have al':=al.stay s
 cases w with
 | d x=>
  cases x with
  | lst l=>
   rw[show W.flat fr (.d (.lst l))=(fr&&Dt.noLs l) from rfl,aR] at fl;obtain⟨ad,xs,rfl,had,hl⟩:=h;obtain⟨a2,e2,f2,_⟩:=hf fl.1;cases e2
   have hn:¬ A ad:=fun z=>by obtain⟨o,o1,o2,_⟩:=al ad z;exact f2 o o1 o2
   exact⟨ad,xs,rfl,had.sub.hid hn,uD al'.noT fl.2 (hl.stay (zm.same zX))⟩
  | dct=>cases fl
  | non=>exact h
  | bl c=>exact h
  | int c=>exact h
  | str c=>exact h
  | tup l=>exact Val.of (zkk al'.noT fl ((Val.is h).stay (zm.same zX)))
 | pen p=>exact h
 | dk kvs=>cases fl
 | dt kvs=>cases fl
 | ss P w kvs=>cases fl
 | dn fz kvs=>cases fl
 | wd d fs kn=>cases fl
 | lf ls=>cases fl
 | cu k=>cases fl
 | df kvs=>cases fl
 | kf kvs=>cases fl
 | fl kvs=>cases fl
 | ad a x=>cases fl
 | tz kvs x=>cases fl
theorem ziV {A A':Addr->Prop}{H H':Hp}{w:W}{v:V}(al:Al A H)(s:zm H H')(h:Val A' H' w v)(hf:FrV A' H H' w v)(fl:w.flat true=true):FrV A H H' w v:=by
 obtain⟨a2,e2,f2,m2,h2⟩:=hf;refine⟨a2,e2,f2,m2,?_⟩;have al':=al.stay s
 cases w with
 | d x=>
  cases x with
  | lst l=>
   obtain⟨ad,xs,e,had,hl⟩:=h2;rw[e2] at e;cases e;refine⟨a2,xs,e2,had,uD (fun b ys z g=>?_) (by lia) (hl.stay (zm.same zX))⟩;rcases z with z | z
   ·exact al'.noT b ys z g
   ·obtain⟨o,e,mt⟩:=m2;subst z;rw[e] at g;cases g;exact mt.tup ys rfl
  | tup l=>
   obtain⟨ad,xs,e,had,_⟩:=h2;rw[e2] at e;cases e;exact absurd rfl (fun z=>(zS.mp had).1 (.inr z))
  | dct=>cases fl
  | non=>exact h2
  | bl c=>exact h2
  | int c=>exact h2
  | str c=>exact h2
 | pen p=>exact h2
 | dk kvs=>cases fl
 | dt kvs=>cases fl
 | ss P w kvs=>cases fl
 | dn fz kvs=>cases fl
 | wd d fs kn=>cases fl
 | lf ls=>cases fl
 | cu k=>cases fl
 | df kvs=>cases fl
 | kf kvs=>cases fl
 | fl kvs=>cases fl
 | ad a x=>cases fl
 | tz kvs x=>cases fl
def zq0 (A:Addr->Prop)(vs:List V):Addr->Prop:=fun b=>A b/\V.ref b∉vs
theorem zeS {A:Addr->Prop}{H:Hp}{all:List V}:∀ {ws:List W} {vs:List V},(∀v∈vs,v∈all)->zmW A H ws vs->zbP (zq0 A all) H ws vs
 | [],vs,_,h=>h
 | w::ws,vs,hs,⟨v,r,e,h1,h2⟩=>by
  subst e;refine⟨v,r,rfl,?_,zeS (by grind) h2⟩;have hv:=hs v aj;have less:yW (zO A H) (zO (zq0 A all) H):=yB fun b z=>z.1
  cases w with
  | d x=>
   cases x with
   | lst l=>obtain⟨ad,xs,rfl,had,hl⟩:=h1;exact⟨ad,xs,rfl,had.hid (fun z=>z.2 hv),hl.stay (zm.same less)⟩
   | dct=>obtain⟨ad,xs,rfl,had,hl⟩:=h1;exact⟨ad,xs,rfl,zp (fun z=>z.2 hv) had,hl⟩
   | non=>exact h1
   | bl c=>exact h1
   | int c=>exact h1
   | str c=>exact h1
   | tup l=>exact Is.stay (zm.same less) h1
  | pen p=>exact h1
  | dk kvs=>obtain⟨ad,xs,rfl,had,hl,hn⟩:=h1;exact⟨ad,xs,rfl,zp (fun z=>z.2 hv) had,hl.stay (zm.same less),hn⟩
  | dt kvs=>obtain⟨ad,xs,rfl,had,hl⟩:=h1;exact⟨ad,xs,rfl,zp (fun z=>z.2 hv) had,hl.stay (zm.same less)⟩
  | dn fz kvs=>obtain⟨ad,xs,rfl,had,h2,h3⟩:=h1;exact⟨ad,xs,rfl,had.imp fun o _ e=>zp (fun z=>z.2 hv) e,h2.stay (zm.same less),h3.stay (zm.same less)⟩
  | wd d fs kn=>obtain⟨ad,xs,rfl,had,hl⟩:=h1;exact⟨ad,xs,rfl,zp (fun z=>z.2 hv) had,hl.stay (zm.same less)⟩
  | cu k=>obtain⟨ad,rfl,had⟩:=h1;exact⟨ad,rfl,k.mv (fun o e _=>zp (fun z=>z.2 hv) e) (zm.same less) had⟩
  | lf ls=>obtain⟨ad,xs,rfl,had,hl⟩:=h1;exact⟨ad,xs,rfl,had.hid (fun z=>z.2 hv),hl.stay (zm.same less)⟩
  | ss P w kvs=>obtain⟨ad,xs,rfl,had,hl⟩:=h1;exact⟨ad,xs,rfl,zp (fun z=>z.2 hv) had,hl.stay (zm.same less)⟩
  | df kvs=>obtain⟨ad,ob,xs,rfl,had,hl⟩:=h1;exact⟨ad,ob,xs,rfl,zp (fun z=>z.2 hv) had,hl.stay (zm.same less)⟩
  | kf kvs=>obtain⟨ad,ob,xs,rfl,had,hl⟩:=h1;exact⟨ad,ob,xs,rfl,zp (fun z=>z.2 hv) had,hl.stay (zm.same less)⟩
  | fl kvs=>obtain⟨ad,ob,xs,rfl,had,hl⟩:=h1;exact⟨ad,ob,xs,rfl,zp (fun z=>z.2 hv) had,hl.stay (zm.same less)⟩
  | ad a x=>exact⟨h1.1,Is.stay (zb7 (zm.same less)) h1.2⟩
  | tz kvs x=>obtain⟨a,b,ob,ks,y,e,z1,z2,z3,z4⟩:=h1;exact⟨a,b,ob,ks,y,e,less _ _ z1,less _ _ z2,z3.stay (zm.same less),z4.stay (zm.same less)⟩
theorem xm.more {A A':Addr->Prop}{n m:Nat}{H H':Hp}(h:xm Pn A n H)(h':xm Pn A' m H')(hA:∀a,A a->A' a\/∃o,H' a=some o/\NP o/\Mt o):xm Pn A m H':=by
 refine⟨?_,Pn.J.grow h'.2 hA⟩;have h:=h.1;have h':=h'.1;split at h
 all_goals simp_all
theorem xm.less {A A':Addr->Prop}{n:Nat}{H:Hp}(h:xm Pn A n H)(s:∀a,A' a->A a):xm Pn A' n H:=by
 refine⟨?_,Pn.J.grow h.2 fun a z=>.inl (s a z)⟩;have h:=h.1;split at h
 ·trivial
 ·exact⟨h.1,fun z=>h.2.1 (s _ z),fun z=>h.2.2 (s _ z)⟩
def zp2 (k:Nat)(fr:Bool)(F:List W->Mo W)(fa:Ev->Mo (List W)):Ev->Mo W:=fun ρ n Q=>fa ρ n fun ws m=>ws.length=k/\F ws m fun w m'=>w.flat fr=true/\Q w m'
theorem zo3 {k:Nat}{F:PN->List W->Mo W}{ta:TA}{fs:Ev->Mo (List W)}(ha:RAB Pn M ta fs):RE Pn M fr (zeH (spV k fr F) [] E0 ta) (zp2 k fr (F Pn) fs):=⟨fun A σ H ρ n Q R E P hf kk=>by refine ha.run A σ H ρ n _ _ E P hf  ?_;rintro ws m vs H1 ⟨hk,r⟩ b g;rw[dM];have al:=(E.stay g.st).al;refine⟨Pn,zq0 A vs,ws,m,_,fun a z=>al a z.1,zeS (fun _ z=>z) b,hk,g.pn.less fun a z=>z.1,r,?_⟩;rintro w m' v H' ⟨fl,h1⟩ h2 h3 h4;refine kk w m' v H' h1 (ziX al h3.st h2 h4 fl) (g.trans ⟨h3.st,g.pn.more h3.pn fun a z=>let ⟨o,o1,o2,o3⟩:=al a z;.inr ⟨o,h3.st _ _ o1 o2,o2,o3⟩⟩) fun z=>?_;subst z;exact (ziV al h3.st h2 (h4 rfl) fl).back g.st⟩
theorem znE {x:Str}{st:Stmt}{ps:List Str}{fA:Addr}{fd:FuncData}{k:Nat}{F:PN->List W->Mo W}{j kk:Nat}{fs:Ev->Mo (List W)}(D:Dfn X.K X.mg x st ps fA fd)(G:FnOk X.prog X.w X.K X.mg X.base CX0 j fA fd ps (spV k fr F))(hr:Room kk X.A)
  (ha:JAB X Pn M (e::es) fs) (hjk:j<=kk:=by decide) (hg:Gl X x:=by rfl) (hdb:(x==("__debug__" : Str))=false:=by decide) (he:starEach (e::es) X.env=(false,eval e X.env)::starEach es X.env:=by rfl) (hpl:(backTo pos (starEach es X.env)).any (·.1)=false:=by rfl) :
  JE X Pn M fr (.Call (.Name x p) (e::es) [] pos) (zp2 k fr (F Pn) fs):=by
 obtain⟨ta,qa,ra⟩:=ha.ex;exact⟨_,zjE D G hr qa hjk hg hdb he hpl,zo3 ra⟩
end
open PySem L2
structure JG (X:Cx)(S M:List Nat)(e:Expr)(mg:W->Ev->(Ev->Prop)->Prop):Prop where
 ex:∃g,QG X e g/\RG S M g mg
structure JGs (X:Cx)(S M:List Nat)(es:List Expr)(mg:List Dt->Ev->(Ev->Prop)->Prop):Prop where
 ex:∃g,QGs X es g/\RGs S M g mg
structure JI (X:Cx)(Pn:PN)(M:List Nat)(ow:Bool)(tg e:Expr)(f:Ev->Mo (List W)):Prop where
 ex:∃wi,QI X tg e wi/\RI Pn M ow wi f
structure JTs (X:Cx)(Pn:PN)(M:List Nat)(es:List Expr)(f:Ev->Mo Bool):Prop where
 ex:∃t,QTs X es t/\RT Pn M t f
section
variable {X:Cx}{Pn:PN}{M S:List Nat}{fr:Bool}{e a b c:Expr}{es:List Expr}{f fa fb fc:Ev->Mo W}{pos p:Pos}
def gN (i:Nat):W->Ev->(Ev->Prop)->Prop:=fun w ρ Q=>Q (ρ.set i (some w))
def gNl:List Dt->Ev->(Ev->Prop)->Prop:=fun ds ρ Q=>ds=[]/\Q ρ
def gCn (g:W->Ev->(Ev->Prop)->Prop)(u:List Dt->Ev->(Ev->Prop)->Prop):List Dt->Ev->(Ev->Prop)->Prop:=fun ds ρ Q=>∃d r,ds=d::r/\g (.d d) ρ fun ρ'=>u r ρ' Q
def gTp (n:Nat)(u:List Dt->Ev->(Ev->Prop)->Prop):W->Ev->(Ev->Prop)->Prop:=fun w ρ Q=>∃ds,w = .d (.tup ds)/\ds.length=n/\u ds ρ Q
theorem EnvR.set {A:Addr->Prop}{σ:St}{H:Hp}{ρ:Ev}(E:EnvR A M σ H ρ){i:Nat}{w:W}{v:V}(hi:i∉M)(h:Val A H w v):EnvR A M (σ.set i (some v)) H (ρ.set i (some w)) where
 len:=by rw[bD,bD];exact E.len
 val:=fun j u e=>by
  by_cases hj:j=i
  ·subst hj
   have hl:j<ρ.length:=by
    have:=(af.mp e).1
    simp_all
   rw[aH hl] at e;cases e;exact⟨v,aH (by rw[E.len];exact hl),fun _=>h,fun z=>absurd z hi⟩
  ·rw[ar (Ne.symm hj)] at e ⊢;exact E.val j u e
 dis:=fun j k u u' ad hj hk hne e1 e2 s1=>by have hj':i≠j:=fun z=>hi (z ▸ hj);have hk':i≠k:=fun z=>hi (z ▸ hk);rw[ar hj'] at e1 s1;rw[ar hk'] at e2 ⊢;exact E.dis j k u u' ad hj hk hne e1 e2 s1
 al:=E.al
theorem zeA {i:Nat}(hi:i∉M)(hs:i∉S):RG S M (uW i) (gN i):=⟨fun A σ H ρ v w Q R E h r k=>k _ _ r (E.set hi h) fun j hj=>⟨ar fun (z:i=j)=>hs (by rw[z];exact hj),ar fun (z:i=j)=>hs (by rw[z];exact hj)⟩⟩
theorem zi {i:Nat}{x:Str}(hN:X.N.Nodup)(hx:X.N[i]?=some x:=by rfl)(hl:Loc X.env.scope x:=by first | exact Or.inl rfl | exact Or.inr rfl)(hi:i∉M:=by decide)(hs:i∉S:=by decide)(hf:X.fn x=true\/X.env.scope.names.lookup x=some .local:=by first | exact .inl rfl | exact .inr rfl | assumption):JG X S M (.Name x pos) (gN i):=⟨_,zhU hN hx hl hf,zeA hi hs⟩
theorem xk:JGs X S M [] gNl:=⟨_,zmo,⟨by
 rintro A σ H ρ vs ds Q R E h ⟨e,r⟩ k;subst e;exact⟨h,k σ ρ r E fun _ _=>⟨rfl,rfl⟩⟩⟩⟩
theorem zq {g:W->Ev->(Ev->Prop)->Prop}{u:List Dt->Ev->(Ev->Prop)->Prop}(h1:JG X S M e g)(h2:JGs X S M es u)(hs:(assignEach (e::es) X.env).map (·.2)=assign e X.env::(assignEach es X.env).map (·.2):=by rfl):JGs X S M (e::es) (gCn g u):=by obtain⟨t1,q1,r1⟩:=h1.ex;obtain⟨t2,q2,r2⟩:=h2.ex;refine⟨_,zjG q1 q2 hs,⟨ ?_⟩⟩;rintro A σ H ρ vs ds Q R E h ⟨d,r,e,hg⟩ k;subst e;obtain⟨v,s,rfl,hv,hr⟩:=h;refine⟨v,s,rfl,?_⟩;refine r1.run A σ H ρ v _ _ _ E (Val.of hv) hg fun σ' ρ' hu E' f1=>?_;exact r2.run A σ' H ρ' s _ _ _ E' hr hu fun σ2 ρ2 hR E2 f2=>k σ2 ρ2 hR E2 fun i hi=>⟨(f2 i hi).1.trans (f1 i hi).1,(f2 i hi).2.trans (f1 i hi).2⟩
theorem uv {k n:Nat}{u:List Dt->Ev->(Ev->Prop)->Prop}(K:PySem.W.Frag)(hK:X.K=K)(hc:X.calm=true)(h:JGs X S M es u)(hn:(assignEach es X.env).length=n:=by rfl)(hst:(assignEach es X.env).findIdx? (·.1)=none:=by rfl):JG X S M (.Tuple es k pos) (gTp n u):=by obtain⟨t1,q1,r1⟩:=h.ex;refine⟨_,zmn K hK hc q1 hn hst,⟨ ?_⟩⟩;rintro A σ H ρ v w Q R E h ⟨ds,e,hl,hu⟩ kk;subst e;obtain⟨ad,xs,rfl,had,hx⟩:=h;exact⟨ad,xs,rfl,.of (zX _ _ had),by rw[hx.length];exact hl,r1.run A σ H ρ xs ds _ _ E hx hu kk⟩
def zp3 (fa:Ev->Mo W):Ev->Mo (List W):=fun ρ n Q=>fa ρ n fun x m=>∃l,x = .d (.lst l)/\Q (l.map W.d) m
def zq7 (fa:Ev->Mo W):Ev->Mo (List W):=fun ρ n Q=>fa ρ n fun x m=>∃l,x = .d (.tup l)/\Q (l.map W.d) m
theorem zee {G G':Hp}{l:List Dt}{xs:List V}{i:Nat}{w:W}(h:IsL G l xs)(e:(l.map W.d)[i]?=some w)(s:zm G G'):∃d x,w = .d d/\xs[i]?=some x/\Is G' d x:=by rw[aA] at e;obtain⟨d,h1,rfl⟩:=ax.mp e;obtain⟨x,h2,h3⟩:=h.getD h1;exact⟨d,x,rfl,h2,h3.stay s⟩
theorem zi5 {K:PySem.W.Frag}{A:Addr->Prop}{H:Hp}{ad:Addr}{xs:List V}{l:List Dt}(h:Rd (zO A H) ad (.lst xs))(hl:IsL (zO A H) l xs):ItV false A H (Itl K ad) (l.map W.d) where
 one:=fun i w A2 H2 e s _ _=>by obtain⟨d,x,rfl,hx,hd⟩:=zee hl e s;have g:=(s.rdl h).sub;refine⟨⟨xs,x,.inl g,hx⟩,?_⟩;rintro y H3 ⟨e3,hy⟩;subst e3;have:=hy xs (.inl g);rw[hx] at this;cases this;exact⟨fun _ _ z=>z,Val.of hd⟩
 stop:=fun A2 H2 s _=>⟨xs,.inl (s.rdl h).sub,by rw[ab,hl.length];exact ai _⟩
theorem zlq {K:PySem.W.Frag}{A:Addr->Prop}{H:Hp}{ad:Addr}{xs:List V}{l:List Dt}(h:zO A H ad=some (.tup xs))(hl:IsL (zO A H) l xs):ItV false A H (Itt K ad) (l.map W.d) where
 one:=fun i w A2 H2 e s _ _=>by obtain⟨d,x,rfl,hx,hd⟩:=zee hl e s;have g:=zX _ _ (s.tup h);refine⟨⟨xs,x,.of g,hx⟩,?_⟩;rintro y H3 ⟨e3,hy⟩;subst e3;have:=hy xs (.of g);rw[hx] at this;cases this;exact⟨fun _ _ z=>z,Val.of hd⟩
 stop:=fun A2 H2 s _=>⟨xs,.of (zX _ _ (s.tup h)),by rw[ab,hl.length];exact ai _⟩
theorem yS {tg:Expr}(K:PySem.W.Frag)(hK:X.K=K)(h:JE X Pn M fr e f):JI X Pn M false tg e (zp3 f):=by obtain⟨te,q,r⟩:=h.ex;refine⟨_,zfn K hK q,⟨fun A σ H ρ n Q R E P hf k=>?_⟩⟩;refine r.run A σ H ρ n _ _ E P hf  ?_;rintro w m v H1 ⟨l,e,r⟩ hv g _;subst e;obtain⟨ad,xs,rfl,had,hl⟩:=hv;exact⟨ad,rfl,⟨xs,.inl had.sub⟩,k _ m _ H1 r (zi5 had hl) g⟩
theorem xW {tg:Expr}(K:PySem.W.Frag)(hK:X.K=K)(h:JE X Pn M fr e f):JI X Pn M false tg e (zq7 f):=by obtain⟨te,q,r⟩:=h.ex;refine⟨_,zmp K hK q,⟨fun A σ H ρ n Q R E P hf k=>?_⟩⟩;refine r.run A σ H ρ n _ _ E P hf  ?_;rintro w m v H1 ⟨l,e,r⟩ hv g _;subst e;obtain⟨ad,xs,rfl,had,hl⟩:=hv;exact⟨ad,rfl,⟨xs,.of (zX _ _ had)⟩,k _ m _ H1 r (zlq had hl) g⟩
theorem zlo {K:PySem.W.Frag}{A:Addr->Prop}{H:Hp}{ad:Addr}{xs:List V}{l:List Dt}(h:Rd H ad (.lst xs))(hl:IsL (zO A H) l xs):ItV true A H (Itl K ad) (l.map W.d) where
 one:=fun i w A2 H2 e s s2 _=>by obtain⟨d,x,rfl,hx,hd⟩:=zee hl e s;have g:=(s2 rfl).rdl h;refine⟨⟨xs,x,.inl g,hx⟩,?_⟩;rintro y H3 ⟨e3,hy⟩;subst e3;have:=hy xs (.inl g);rw[hx] at this;cases this;exact⟨fun _ _ z=>z,Val.of hd⟩
 stop:=fun A2 H2 s s2=>⟨xs,.inl ((s2 rfl).rdl h),by rw[ab,hl.length];exact ai _⟩
theorem znI {tg:Expr}(K:PySem.W.Frag)(hK:X.K=K)(h:JB X Pn M e f):JI X Pn M true tg e (zp3 f):=by obtain⟨te,q,r⟩:=h.ex;refine⟨_,zfn K hK q,⟨fun A σ H ρ n Q R E P hf k=>?_⟩⟩;refine r.run A σ H ρ n _ _ E P hf  ?_;rintro w m v H1 ⟨l,e,r⟩ hv g;subst e;obtain⟨ad,xs,rfl,had,hl⟩:=hv;exact⟨ad,rfl,⟨xs,.inl had⟩,k _ m _ H1 r (zlo had hl) g⟩
def zfU (lo:Int)(n:Nat):List W:=(List.range n).map fun i:Nat=>W.d (.int (lo+i))
theorem zlp {A:Addr->Prop}{H:Hp}{lo:Int}{n:Nat}:ItV false A H (Itr lo n) (zfU lo n) where
 one:=fun i w A2 H2 e s _ _=>by unfold zfU at e;rw[aA] at e;obtain⟨j,h1,rfl⟩:=ax.mp e;obtain⟨hi,h2⟩:=af.mp h1;rw[bZ] at h2;subst h2;rw[aE] at hi;refine⟨hi,?_⟩;rintro y H3 ⟨e3,hy⟩;subst e3 hy;exact⟨fun _ _ z=>z,Val.of rfl⟩
 stop:=fun A2 H2 s _=>by
  show n<=(zfU lo n).length;unfold zfU
  simp_all
def zq6 (fa:Ev->Mo (List W)):Ev->Mo (List W):=fun ρ n Q=>fa ρ n fun ws m=>∃j:Int,ws=[.d (.int j)]/\j<=1000000/\-1000000<=j/\Q (zfU 0 j.toNat) m
theorem yq {tg:Expr}{fs:Ev->Mo (List W)}(hg:Gl X "range")(hm:X.mg "range" = none)(ha:JAB X Pn M [a] fs)(hs:starEach [a] X.env=[(false,eval a X.env)]:=by rfl):JI X Pn M false tg (.Call (.Name "range" p) [a] [] pos) (zq6 fs):=by obtain⟨te,q,r⟩:=ha.ex;refine⟨_,zhW hg hm q hs,⟨fun A σ H ρ n Q R E P hf k=>?_⟩⟩;refine r.run A σ H ρ n _ _ E P hf  ?_;rintro ws m vs H1 ⟨j,e,j1,j2,r⟩ hv g;subst e;obtain⟨v,rfl,bb⟩:=zai hv;obtain rfl:=yI bb;exact⟨j,rfl,by lia,by lia,k _ m _ H1 r zlp g⟩
def enW:Nat->List Dt->List W
 | _,[]=>[]
 | k,x::r=>.d (.tup [.int k,x])::enW (k+1) r
theorem zd3:∀ (l:List Dt) (k i:Nat),(enW k l)[i]?=(l[i]?).map fun x=>W.d (.tup [.int ((k+i:Nat):Int),x])
 | [],_,_=>by simp[enW]
 | x::r,k,0=>by simp[enW]
 | x::r,k,i+1=>by have:=zd3 r (k+1) i;simp only[enW,dh,this];rw[show k+1+i=k+(i+1) by lia]
theorem zgI:∀ (l:List Dt) (k:Nat),(enW k l).length=l.length
 | [],_=>rfl
 | x::r,k=>by rw[enW,a8,a8,zgI r]
def ziW:List Dt->List Dt->List W
 | x::r,y::s=>.d (.tup [x,y])::ziW r s
 | _,_=>[]
def uK (ρ:Ev)(cix:List (Option Nat)):Ev:=cix.map fun o=>match o with
 | none=>none
 | some i=>(ρ[i]?).join
def z0 (M:List Nat)(cix:List (Option Nat)):List Nat:=(List.range cix.length).filter fun k=>match cix[k]? with
 | some (some i)=>M.contains i
 | _=>false
theorem zaU {cix:List (Option Nat)}{k:Nat}:k∈z0 M cix↔∃i,cix[k]?=some (some i)/\i∈M:=by
 unfold z0;rw[aT,bf];constructor
 ·rintro⟨h1,h2⟩;rw[aq h1] at h2 ⊢
  cases e:cix[k] with
  | none=>rw[e] at h2;cases h2
  | some i=>rw[e] at h2;exact⟨i,rfl,by simpa using h2⟩
 ·rintro⟨i,h1,h2⟩;exact⟨(af.mp h1).1,by simp_all⟩
theorem zak {α:Type}{l:List (Option α)}{cix:List (Option Nat)}{k:Nat}{x:α}:(cix.map fun o=>match o with | none=>none | some i=>(l[i]?).join)[k]?=some (some x)↔∃i,cix[k]?=some (some i)/\l[i]?=some (some x):=by
 rw[aA]
 cases e:cix[k]? with
 | none=>simp
 | some o=>
  cases o with
  | none=>simp
  | some i=>
   simp only[Option.map_some,Option.some.injEq];constructor
   ·intro h;refine⟨i,rfl,?_⟩
    cases q:l[i]? with
    | none=>rw[q] at h;cases h
    | some z=>rw[q] at h;cases z with
     | none=>cases h
     | some y=>cases h;rfl
   ·simp_all
theorem EnvR.cap {A:Addr->Prop}{σ:St}{H:Hp}{ρ:Ev}(E:EnvR A M σ H ρ){cix:List (Option Nat)}(hn:(cix.filterMap id).Nodup):EnvR A (z0 M cix) (xy σ cix) H (uK ρ cix) where
 len:=by unfold xy uK;rw[ab,ab]
 val:=fun k w e=>by
  obtain⟨i,h1,h2⟩:=zak.mp e;obtain⟨v,s1,s2,s3⟩:=E.val i w h2;refine⟨v,zak.mpr ⟨i,h1,s1⟩,fun z=>s2 fun y=>z (zaU.mpr ⟨i,h1,y⟩),fun z=>?_⟩;obtain⟨j,h3,h4⟩:=zaU.mp z
  simp_all
 dis:=fun k k' w u ad hk hk' hne e1 e2 s1 s2=>by
  obtain⟨i,h1,h2⟩:=zak.mp e1;obtain⟨i',h1',h2'⟩:=zak.mp e2;obtain⟨j,h3,h4⟩:=zak.mp s1;obtain⟨j',h3',h4'⟩:=zak.mp s2;rw[h1] at h3;cases h3;rw[h1'] at h3';cases h3';obtain⟨m,m1,m2⟩:=zaU.mp hk;rw[h1] at m1;cases m1;obtain⟨m',m1',m2'⟩:=zaU.mp hk';rw[h1'] at m1';cases m1';refine E.dis _ _ w u ad m2 m2' (fun z=>?_) h2 h2' h4 h4';subst z
  have key:∀ (l:List (Option Nat)) (a b:Nat) (x:Nat),(l.filterMap id).Nodup->l[a]?=some (some x)->l[b]?=some (some x)->a=b:=by
   intro l
   induction l with
   | nil=>intro a b x _ h;simp at h
   | cons o l ih=>
    intro a b x hn ha hb;have mem:∀ (l:List (Option Nat)) (a:Nat),l[a]?=some (some x)->x∈l.filterMap id:=fun l a h=>cz.mpr ⟨some x,aw h,rfl⟩
    cases o with
    | none=>
     have hn':(l.filterMap id).Nodup:=by simpa using hn
     cases a with
     | zero=>simp at ha
     | succ a=>
      cases b with
      | zero=>simp at hb
      | succ b=>rw[ih a b x hn' (by simpa using ha) (by simpa using hb)]
    | some y=>
     have hn2:y∉l.filterMap id/\(l.filterMap id).Nodup:=by simp_all
     cases a with
     | zero=>
      have ha':y=x:=by simpa using ha
      subst ha'
      cases b with
      | zero=>rfl
      | succ b=>exact absurd (mem l b (by simpa using hb)) hn2.1
     | succ a=>
      cases b with
      | zero=>
       have hb':y=x:=by simpa using hb
       subst hb';exact absurd (mem l a (by simpa using ha)) hn2.1
      | succ b=>rw[ih a b x hn2.2 (by simpa using ha) (by simpa using hb)]
  exact hne (key cix k k' _ hn h1 h1')
 al:=E.al
theorem EnvR.more {A:Addr->Prop}{σ:St}{H H':Hp}{ρ:Ev}(E:EnvR A M σ H ρ){p:Addr}{o:HO}(s:zm H H')(n:Fr H p)(g:H' p=some o)(np:NP o)(nt:Mt o):EnvR (fun b=>A b\/b=p) M σ H' ρ where
 len:=E.len
 val:=fun i w e=>by obtain⟨v,h1,h2,h3⟩:=E.val i w e;refine⟨v,h1,fun z=>WAt.up (yp s n) (yp s n) (h2 z),fun z=>?_⟩;obtain⟨a,e,h4,h5,h6⟩:=h3 z;exact⟨a,e,.inl h4,WAt.up s (yp s n) h5,h6⟩
 dis:=E.dis
 al:=fun a h=>by
  rcases h with h | h
  ·obtain⟨o,h1,h2,h3⟩:=E.al a h;exact⟨o,s _ _ h1 h2,h2,h3⟩
  ·subst h;exact⟨o,g,np,nt⟩
theorem EnvR.upd {A:Addr->Prop}{σ:St}{H:Hp}{ρ:Ev}(E:EnvR A M σ H ρ){p:Addr}{o:HO}(hp:A p)(hn:∀i w,i∈M->ρ[i]?=some (some w)->σ[i]?≠some (some (.ref p)))(np:NP o)(nt:Mt o):EnvR A M σ (L2.upd H p o) ρ where
 len:=E.len
 val:=fun i w e=>by
  obtain⟨v,h1,h2,h3⟩:=E.val i w e;refine⟨v,h1,fun z=>?_,fun z=>?_⟩
  ·show WAt _ _ _ _;rw[zF hp];exact h2 z
  ·obtain⟨a,e',h4,h5,h6⟩:=h3 z;have hne:a≠p:=fun q=>hn i w z e (by rw[h1,e',q]);refine⟨a,e',h4,?_,h6⟩;show WAt _ _ _ _;rw[zF hp]
   cases w with
   | d x=>
    cases x with
    | lst l=>obtain⟨a2,xs,e2,g1,g2⟩:=h5;rw[e'] at e2;cases e2;exact⟨a,xs,e',by unfold Rd;rw[zc hne];exact g1,g2⟩
    | dct=>obtain⟨a2,xs,e2,g1,g2⟩:=h5;rw[e'] at e2;cases e2;exact⟨a,xs,e',by rw[zc hne];exact g1,g2⟩
    | _=>cases h6
   | pen p=>cases h6
   | dk k=>obtain⟨a2,xs,e2,g1,g2⟩:=h5;rw[e'] at e2;cases e2;exact⟨a,xs,e',by rw[zc hne];exact g1,g2⟩
   | dt k=>obtain⟨a2,xs,e2,g1,g2⟩:=h5;rw[e'] at e2;cases e2;exact⟨a,xs,e',by rw[zc hne];exact g1,g2⟩
   | dn fz k=>obtain⟨a2,xs,e2,g1,g2⟩:=h5;rw[e'] at e2;cases e2;exact⟨a,xs,e',g1.imp fun o _ e=>by rw[zc hne];exact e,g2⟩
   | wd d fs kn=>cases h6
   | lf ls=>cases h6
   | cu k=>cases h6
   | ss P w k=>obtain⟨a2,xs,e2,g1,g2⟩:=h5;rw[e'] at e2;cases e2;exact⟨a,xs,e',by rw[zc hne];exact g1,g2⟩
   | df k=>obtain⟨a2,ob,xs,e2,g1,g2⟩:=h5;rw[e'] at e2;cases e2;exact⟨a,ob,xs,e',by simp_all,g2⟩
   | kf k=>obtain⟨a2,ob,xs,e2,g1,g2⟩:=h5;rw[e'] at e2;cases e2;exact⟨a,ob,xs,e',by simp_all,g2⟩
   | ad a x=>cases h6
   | tz kvs x=>cases h6
   | fl k=>obtain⟨a2,ob,xs,e2,g1,g2⟩:=h5;rw[e'] at e2;cases e2;exact⟨a,ob,xs,e',by simp_all,g2⟩
 dis:=E.dis
 al:=fun a h=>by
  by_cases ha:a=p
  ·subst ha;exact⟨o,zg,np,nt⟩
  ·rw[zc ha];exact E.al a h
theorem xm.upd {A:Addr->Prop}{n:Nat}{H:Hp}{p:Addr}{o:HO}(h:xm Pn A n H)(hp:A p):xm Pn A n (L2.upd H p o):=by
 refine⟨?_,Pn.J.upd h.2 hp⟩;have h:=h.1;split at h
 ·trivial
 ·refine⟨?_,h.2⟩;rename_i q c ns _;obtain⟨h1,h2,h3⟩:=h;have e1:c≠p:=fun z=>h2 (z ▸ hp);have e2:q≠p:=fun z=>h3 (z ▸ hp);obtain⟨a,l,g1,g2,g3,g4⟩:=h1.ob;exact⟨⟨a,l,by rw[zc e2];exact g1,g2,g3,g4⟩,let ⟨ob,e⟩:=h1.ls;⟨ob,by rw[zc e1];exact e⟩,h1.len⟩
end
open PySem L2
structure JS (X:Cx)(Pn:PN)(S M:List Nat)(fr:Bool)(st:Stmt)(fs:Ms):Prop where
 ex:∃ts,QS X st ts/\RS Pn S M fr ts fs
structure JSs (X:Cx)(Pn:PN)(S M:List Nat)(fr:Bool)(st:List Stmt)(fs:Ms):Prop where
 ex:∃ts,QSs X st ts/\RS Pn S M fr ts fs
section
variable {X:Cx}{Pn:PN}{M S:List Nat}{fr fr':Bool}{e a b c:Expr}{es:List Expr}{f fa fb fc:Ev->Mo W}{pos p:Pos}
theorem xm.grow' {A:Addr->Prop}{n m:Nat}{H H':Hp}{q:Addr}{o:HO}(h:xm Pn A n H)(h':xm Pn A m H')(hq:Fr H q)(g:H' q=some o)(np:NP o)(mt:Mt o):xm Pn (fun b=>A b\/b=q) m H':=by
 refine⟨?_,Pn.J.grow h'.2 fun a z=>z.imp_right fun e=>⟨o,by rw[e];exact g,np,mt⟩⟩;have h:=h.1;have h':=h'.1;revert h h'
 cases Pn.pn with
 | none=>exact fun _ _=>trivial
 | some x=>
  obtain⟨p,c,ns⟩:=x;intro h h';refine⟨h'.1,fun z=>z.elim h'.2.1 fun z=>?_,fun z=>z.elim h'.2.2 fun z=>?_⟩
  ·subst z;obtain⟨ob,e⟩:=h.1.ls;exact hq _ e (fun _ z=>by cases z)
  ·subst z;obtain⟨a,l,e,_⟩:=h'.1.ob;rw[e] at g;cases g;have:=np _ rfl;rw[zl1] at this;cases this
theorem ziw {scope:Scope}{N:List Str}{fr:Bool}(h:∀C s H ex,JE (zl X scope N C s H ex) Pn M fr e f):∃te,(∀C s H ex,QE (zl X scope N C s H ex) e te)/\RE Pn M fr te f:=
 ⟨fun σ H Q=>∀C s H0 ex,(h C s H0 ex).ex.choose σ H Q,fun C s H0 ex=>⟨fun pins s' σ H Q I z=>(h C s H0 ex).ex.choose_spec.1.run pins s' σ H Q I (z C s H0 ex)⟩,
  ⟨fun A σ H ρ n Q R E P hf k C s H0 ex=>(h C s H0 ex).ex.choose_spec.2.run A σ H ρ n Q R E P hf k⟩⟩
theorem zeM {scope:Scope}{N:List Str}{ft:Ev->Mo Bool}(h:∀C s H ex,JTs (zl X scope N C s H ex) Pn M es ft):∃te,(∀C s H ex,QTs (zl X scope N C s H ex) es te)/\RT Pn M te ft:=
 ⟨fun σ H Q=>∀C s H0 ex,(h C s H0 ex).ex.choose σ H Q,fun C s H0 ex=>⟨fun pins s' σ H Q I z=>(h C s H0 ex).ex.choose_spec.1.run pins s' σ H Q I (z C s H0 ex)⟩,
  ⟨fun A σ H ρ n Q R E P hf k C s H0 ex=>(h C s H0 ex).ex.choose_spec.2.run A σ H ρ n Q R E P hf k⟩⟩
theorem zeL {scope:Scope}{N:List Str}{mg:W->Ev->(Ev->Prop)->Prop}(h:∀C s H ex,JG (zl X scope N C s H ex) S M e mg):∃g,(∀C s H ex,QG (zl X scope N C s H ex) e g)/\RG S M g mg:=
 ⟨fun v σ H Q=>∀C s H0 ex,(h C s H0 ex).ex.choose v σ H Q,fun C s H0 ex=>⟨fun pins s' σ H v u Q I rv z=>(h C s H0 ex).ex.choose_spec.1.run pins s' σ H v u Q I rv (z C s H0 ex)⟩,
  ⟨fun A σ H ρ v w Q R E hv hf k C s H0 ex=>(h C s H0 ex).ex.choose_spec.2.run A σ H ρ v w Q R E hv hf k⟩⟩
def zdW (mg:W->Ev->(Ev->Prop)->Prop)(ft:Ev->Mo Bool)(fe:Ev->Mo W)(ρ0:Ev)(Q:W->Nat->Prop):List W->Nat->Prop:=fun l n1=>l.length<=lim/\∃I:Nat->Ev->Nat->List Dt->Prop,I 0 ρ0 n1 []/\
 (∀i w ρ' n' acc,l[i]?=some w->I i ρ' n' acc->mg w ρ' fun ρ1=>ft ρ1 n' fun b n2=>if b=true then fe ρ1 n2 fun x n3=>∃d,x = .d d/\I (i+1) ρ1 n3 (acc++[d]) else I (i+1) ρ1 n2 acc)/\
 ∀ ρ' n' acc,I l.length ρ' n' acc->Q (.d (.lst acc)) n'
@[reducible] def zjh (fi:Ev->Mo (List W)) (mg:W->Ev->(Ev->Prop)->Prop) (ft:Ev->Mo Bool) (fe:Ev->Mo W) (cix:List (Option Nat)):Ev->Mo W:=fun ρ n Q=>fi ρ n (zdW mg ft fe (uK ρ cix) Q)
theorem zey {wi:TI}{g:TG}{ti:TT}{te:TE}{cix:List (Option Nat)}{fi:Ev->Mo (List W)}{mg:W->Ev->(Ev->Prop)->Prop}{ft:Ev->Mo Bool}{fe:Ev->Mo W}{ow:Bool}(hn:(cix.filterMap id).Nodup)
  (hi:RI Pn M ow wi fi) (hg:RG (z0 M cix) (z0 M cix) g mg) (ht:RT Pn (z0 M cix) ti ft) (he:RE Pn (z0 M cix) fr' te fe):RE Pn M true (zfx wi g ti te cix) (zjh fi mg ft fe cix):=⟨fun A σ H ρ n Q R E P hf k=>by
 refine hi.run A σ H ρ n _ _ E P hf fun l m J H1 ⟨hz,I,i0,it,ie⟩ iv g1=>fun acc hacc=>?_;have E1:=E.stay g1.st;have E2:=(E1.cap hn).more (zm.upd (o:=.lst []) hacc) (Fr.of hacc) zg NP.lst rfl;have P2:xm Pn (fun b=>A b\/b=acc) m (L2.upd H1 acc (.lst [])):=g1.pn.grow' (g1.pn.same (yW.upd hacc)) (Fr.of hacc) zg NP.lst rfl
 have nacc:∀k w,k∈z0 M cix->(uK ρ cix)[k]?=some (some w)->(xy σ cix)[k]?≠some (some (.ref acc)):=fun k w hk hw z=>by obtain⟨v,s1,_,s3⟩:=(E1.cap hn).val k w hw;obtain⟨a,e,hA,_⟩:=s3 hk;rw[z] at s1;cases s1;cases e;exact E1.new hacc hA
 have key:∀ σ' ρ' H',EnvR (fun b=>A b\/b=acc) (z0 M cix) σ' H' ρ'->(∀k∈z0 M cix,σ'[k]?=(xy σ cix)[k]?/\ρ'[k]?=(uK ρ cix)[k]?)->∀k w,k∈z0 M cix->ρ'[k]?=some (some w)->σ'[k]?≠some (some (.ref acc)):=fun σ' ρ' H' E' hfx k w hk hw z=>by simp_all
 refine⟨fun i mm σ' H'=>mm=l.length - i/\i<=l.length/\∃ ρ' n' accD xs,EnvR (fun b=>A b\/b=acc) (z0 M cix) σ' H' ρ'/\xm Pn (fun b=>A b\/b=acc) n' H'/\I i ρ' n' accD/\H' acc=some (.lst xs)/\IsL (zO (fun b=>A b\/b=acc) H') accD xs/\accD.length<=i/\zm (zO A H1) (zO (fun b=>A b\/b=acc) H')/\zm H1 H'/\(∀k∈z0 M cix,σ'[k]?=(xy σ cix)[k]?/\ρ'[k]?=(uK ρ cix)[k]?),
  ⟨l.length,by simp,aL _,_,m,[],[],E2,P2,i0,zg,rfl,ai _,yp (zm.upd hacc) (Fr.of hacc),zm.upd hacc,fun k hk=>⟨rfl,rfl⟩⟩,?_⟩
 rintro i mm σ' H' ⟨rfl,hil,ρ',n',accD,xs,E',P',hI,hac,hxs,hal,st,s1,hfx⟩;by_cases hlt:i<l.length
 ·right;have hget:l[i]?=some l[i]:=aq hlt;obtain⟨go,yl⟩:=iv.one i l[i] _ H' hget st (fun _=>s1) fun p hp=>E'.new hp
  refine⟨go,fun σ2 H2=>∃ ρ' n' accD xs,EnvR (fun b=>A b\/b=acc) (z0 M cix) σ2 H2 ρ'/\xm Pn (fun b=>A b\/b=acc) n' H2/\I (i+1) ρ' n' accD/\H2 acc=some (.lst xs)/\IsL (zO (fun b=>A b\/b=acc) H2) accD xs/\accD.length<=i+1/\zm (zO A H1) (zO (fun b=>A b\/b=acc) H2)/\zm H1 H2/\(∀k∈z0 M cix,σ2[k]?=(xy σ cix)[k]?/\ρ'[k]?=(uK ρ cix)[k]?),
   fun σ2 H2 h=>⟨l.length - (i+1),by lia,rfl,hlt,h⟩,fun x H2 hy=>?_⟩
  obtain⟨S2,V2⟩:=yl x H2 hy;refine hg.run _ σ' H2 ρ' x l[i] _ _ (E'.stay (zm.same S2)) V2 (it i l[i] ρ' n' accD hget hI) fun σ3 ρ3 r3 E3 f3=>?_;have hfx3:∀k∈z0 M cix,σ3[k]?=(xy σ cix)[k]?/\ρ3[k]?=(uK ρ cix)[k]?:=fun k hk=>⟨(f3 k hk).1.trans (hfx k hk).1,(f3 k hk).2.trans (hfx k hk).2⟩;refine ht.run _ σ3 H2 ρ3 n' _ _ E3 (P'.same S2) r3 fun b m3 H4 r4 g4=>?_;have s24:=(zm.same S2).trans g4.st
  cases b with
  | false=>
   rw[if_neg (by decide)] at r4 ⊢;exact⟨ρ3,m3,accD,xs,E3.stay g4.st,g4.pn,r4,s24.lst hac,hxs.stay (zw s24),by lia,st.trans (zw s24),s1.trans s24,hfx3⟩
  | true=>
   rw[if_pos rfl] at r4 ⊢;refine he.run _ σ3 H4 ρ3 m3 _ _ (E3.stay g4.st) g4.pn r4  ?_;rintro w5 m5 v5 H5 ⟨d,e5,r5⟩ V5 g5 _;subst e5;have s25:=s24.trans g5.st;have E5:=(E3.stay g4.st).stay g5.st;have hac5:=s25.lst hac;refine⟨xs,hac5,zfb (by rw[hxs.length];lia),ρ3,m5,accD++[d],xs++[v5],E5.upd (.inr rfl) (key σ3 ρ3 H5 E5 hfx3) NP.lst rfl,g5.pn.upd (.inr rfl),r5,zg,?_,by simp_all,?_,?_,hfx3⟩
   ·rw[zF (.inr rfl)];exact (hxs.stay (zw s25)).append (IsL.one V5.is)
   ·rw[zF (.inr rfl)];exact st.trans (zw s25)
   ·exact fun b o e nn=>by rw[zc (zb e hacc)];exact s1.trans s25 b o e nn
 ·left;have hie:i=l.length:=by lia
  subst hie;refine⟨iv.stop _ H' st (fun _=>s1),k _ n' _ H' (ie ρ' n' accD hI) (Val.of ⟨acc,xs,rfl,.inl (zp (E1.new hacc) hac),hxs.stay (zm.same (yB fun b z=>.inl z))⟩) (g1.trans ⟨s1,P'.less fun a z=>.inl z⟩) fun _=>⟨acc,rfl,(Fr.of hacc).back g1.st,⟨_,hac,rfl⟩,acc,xs,rfl,.inl hac,hxs⟩⟩⟩
@[reducible] def zrd:Ev->Mo Bool:=fun _ n Q=>Q true n
theorem yx:JTs X Pn M [] zrd:=⟨_,zh0,⟨fun A σ H ρ n Q R E P hf k=>k true n H hf (Go.refl P)⟩⟩
theorem zct {ft:Ev->Mo Bool}(h:JT X Pn M c ft):JTs X Pn M [c] ft:=let ⟨t,h1,h2⟩:=h.ex;⟨t,zms h1,h2⟩
theorem xV {elt tg iter:Expr}{ifs:List Expr}{scope:Scope}{N:List Str}{cix:List (Option Nat)}{fi:Ev->Mo (List W)}{mg:W->Ev->(Ev->Prop)->Prop}{ft:Ev->Mo Bool}{fe:Ev->Mo W}{ow:Bool}(hc:X.calm=true)(cc:CompOk X scope N cix)
  (hi:JI X Pn M ow tg iter fi) (hg:∀C s H ex,JG (zl X scope N C s H ex) (z0 M cix) (z0 M cix) tg mg) (ht:∀C s H ex,JTs (zl X scope N C s H ex) Pn (z0 M cix) ifs ft) (he:∀C s H ex,JE (zl X scope N C s H ex) Pn (z0 M cix) fr' elt fe)
  (hn:(cix.filterMap id).Nodup:=by decide) (hs:∀x,foldedSetIterable iter X.env x=pure x:=by intro _;rfl):JE X Pn M true (.ListComp elt [⟨tg,iter,ifs,0⟩] scope pos) (zjh fi mg ft fe cix):=by
 obtain⟨ti,qi,ri⟩:=hi.ex;obtain⟨g,qg,rg⟩:=zeL hg;obtain⟨tt,qt,rt⟩:=zeM ht;obtain⟨te,qe,re⟩:=ziw he;exact⟨_,zfm hc cc qi qg qt qe hs,zey hn ri rg rt re⟩
theorem ze8 {elt tg iter:Expr}{ifs:List Expr}{scope:Scope}{N:List Str}{cix:List (Option Nat)}{fi:Ev->Mo (List W)}{mg:W->Ev->(Ev->Prop)->Prop}{ft:Ev->Mo Bool}{fe:Ev->Mo W}{ow:Bool}{ix:Nat}{nx:Str}{px spos:Pos}(hNd:X.N.Nodup)(hix:X.N[ix]?=some nx)(hlx:X.env.scope.names.lookup nx=some .local)(hc:X.calm=true)(cc:CompOk X scope N cix)
  (hi:JI X Pn M ow tg iter fi) (hg:∀C s H ex,JG (zl X scope N C s H ex) (z0 M cix) (z0 M cix) tg mg) (ht:∀C s H ex,JTs (zl X scope N C s H ex) Pn (z0 M cix) ifs ft) (he:∀C s H ex,JE (zl X scope N C s H ex) Pn (z0 M cix) fr' elt fe)
  (hn:(cix.filterMap id).Nodup:=by decide) (hsw:swapsWithSole [.Name nx px] (.ListComp elt [⟨tg,iter,ifs,0⟩] scope pos) spos.line X.env=pure true:=by rfl)
  (hs:∀x,foldedSetIterable iter X.env x=pure x:=by intro _;rfl)
  (h1a:(assignEach [.Name nx px] X.env).map (·.2)=[assign (.Name nx px) X.env]:=by rfl):∃te,QS X (.Assign [.Name nx px] (.ListComp elt [⟨tg,iter,ifs,0⟩] scope pos) spos) (zfw te (uW ix))/\RE Pn M true te (zjh fi mg ft fe cix):=by
 obtain⟨ti,qi,ri⟩:=hi.ex;obtain⟨g,qg,rg⟩:=zeL hg;obtain⟨tt,qt,rt⟩:=zeM ht;obtain⟨te,qe,re⟩:=ziw he;exact⟨_,zmr hNd hix hlx hc cc qi qg qt qe hsw hs h1a,zey hn ri rg rt re⟩
theorem At3.step {B:Bs}{A:Addr->Prop}{σ:St}{H H':Hp}{ρ:Ev}{n m:Nat}(h:At3 Pn B S M A σ H ρ n)(g:Go Pn A H m H'):At3 Pn B S M A σ H' ρ m where
 env:=h.env.stay g.st
 frm:=⟨h.frm.sub,h.frm.new,fun b o e n c=>g.st b o (h.frm.st b o e n c) n,h.frm.al,h.frm.cn,fun a z=>let ⟨o,e,n⟩:=h.frm.cs a z;⟨o,g.st a o e n,n⟩⟩
 pn:=g.pn
 prot:=h.prot.trans (zw g.st)
 fix:=h.fix
 mine:=h.mine
@[reducible] def mRet (f:Ev->Mo W):Ms:=fun ρ n k=>f ρ n k.rt
theorem zpb {te:TE}(h:RE Pn M fr te f):RS Pn S M fr (zqb te) (mRet f):=⟨fun B A σ H ρ n k D a kk hf=>by
 refine h.run A σ H ρ n _ _ a.env a.pn hf fun w m v H' r hv g hr=>?_;have a':=a.step g
 exact kk.rt w m v H' (WAt.up (zm.same (yB a.frm.sub)) (zm.same (yB a.frm.sub)) hv) a'.frm.st (g.pn.less a.frm.sub) (fun z=>by obtain⟨b,e,f1,f2⟩:=hr z;exact FrV.less ⟨b,e,a.frm.back f1 (a.env.newF f1),f2⟩ a.frm.sub) r⟩
theorem yi (h:JE X Pn M fr e f):JS X Pn S M fr (.Return (some e) pos) (mRet f):=let ⟨te,q,r⟩:=h.ex;⟨_,zaD q,zpb r⟩
def zlE (i:Nat):Ms:=fun ρ n k=>∃w,ρ[i]?=some (some w)/\k.rt w n
theorem zmD {i:Nat}(hi:i∈M):RS Pn S M fr (zqb (zkG i)) (zlE i):=⟨by
 rintro B A σ H ρ n k D a kk ⟨w,e,r⟩;obtain⟨v,s1,_,s3⟩:=a.env.val i w e;obtain⟨ad,rfl,hA,hb,hm⟩:=s3 hi;have hF:=a.mine i w ad hi e s1
 have hn:¬ B.A0 ad:=fun z=>by
  rcases hF with hF | hF
  ·obtain⟨o,o1,o2,_⟩:=a.frm.al ad z;exact hF o o1 o2
  ·exact a.frm.cn ad hF z
 have less:yW (zO A H) (zO B.A0 H):=yB a.frm.sub;have less2:yW (zO A H) (zO (fun b=>B.A0 b\/b=ad) H):=yB fun b z=>z.elim (a.frm.sub b) fun z=>z ▸ hA;refine⟨.ref ad,s1,kk.rt w n (.ref ad) H ?_ a.frm.st (a.pn.less a.frm.sub) (fun z=>⟨ad,rfl,hF.resolve_right (kk.fc ad),(let ⟨o,o1,_,o3⟩:=a.env.al ad hA;⟨o,o1,o3⟩),WAt.up (zm.refl _) (zm.same less2) hb⟩) r⟩
 cases w with
 | d x=>
  cases x with
  | lst l=>obtain⟨a2,xs,e2,g1,g2⟩:=hb;cases e2;exact⟨ad,xs,rfl,g1.hid hn,g2.stay (zm.same less)⟩
  | dct=>obtain⟨a2,xs,e2,g1,g2⟩:=hb;cases e2;exact⟨ad,xs,rfl,zp hn g1,g2⟩
  | _=>cases hm
 | pen p=>cases hm
 | dk kvs=>obtain⟨a2,xs,e2,g1,g2,g3⟩:=hb;cases e2;exact⟨ad,xs,rfl,zp hn g1,g2.stay (zm.same less),g3⟩
 | dt kvs=>obtain⟨a2,xs,e2,g1,g2⟩:=hb;cases e2;exact⟨ad,xs,rfl,zp hn g1,g2.stay (zm.same less)⟩
 | dn fz kvs=>obtain⟨a2,xs,e2,g1,g2,g3⟩:=hb;cases e2;exact⟨ad,xs,rfl,g1.imp fun o _ e=>zp hn e,g2.stay (zm.same less),g3.stay (zm.same less)⟩
 | wd d fs kn=>cases hm
 | lf ls=>cases hm
 | cu k=>cases hm
 | ss P w kvs=>obtain⟨a2,xs,e2,g1,g2⟩:=hb;cases e2;exact⟨ad,xs,rfl,zp hn g1,g2.stay (zm.same less)⟩
 | kf kvs=>obtain⟨a2,ob,xs,e2,g1,g2⟩:=hb;cases e2;exact⟨ad,ob,xs,rfl,zp hn g1,g2.stay (zm.same less)⟩
 | ad a x=>cases hm
 | tz kvs x=>cases hm
 | fl kvs=>obtain⟨a2,ob,xs,e2,g1,g2⟩:=hb;cases e2;exact⟨ad,ob,xs,rfl,zp hn g1,g2.stay (zm.same less)⟩
 | df kvs=>obtain⟨a2,ob,xs,e2,g1,g2⟩:=hb;cases e2;exact⟨ad,ob,xs,rfl,zp hn g1,g2.stay (zm.same less)⟩⟩
theorem zbj (i:Nat){x:Str}(hi:i∈M:=by decide)(hN:X.N[i]?=some x:=by rfl)(hv:Vis X.env.scope x:=by first | exact Or.inl rfl | exact Or.inr (Or.inl rfl) | exact Or.inr (Or.inr rfl))(hd:(x==("__debug__" : Str))=false:=by decide)
  (hcd:(x==("__classdict__" : Str))=false:=by decide) {pos':Pos}:JS X Pn S M fr (.Return (some (.Name x pos)) pos') (zlE i):=⟨_,zaD (qv i hN hv hd hcd),zmD hi⟩
@[reducible] def zlA (f:Ev->Mo W) (mg:W->Ev->(Ev->Prop)->Prop):Ms:=fun ρ n k=>f ρ n fun w m=>mg w ρ fun ρ'=>k.nx ρ' m
theorem EnvR.mineG {B:Bs}{A:Addr->Prop}{σ σ':St}{H:Hp}{ρ ρ':Ev}{n:Nat}(a:At3 Pn B S M A σ H ρ n)(E:EnvR A M σ' H ρ')(f:∀i∈S++M,σ'[i]?=σ[i]?/\ρ'[i]?=ρ[i]?):At3 Pn B S M A σ' H ρ' n where
 env:=E
 frm:=a.frm
 pn:=a.pn
 prot:=a.prot
 fix:=⟨fun i hi=>(f i (aN.mpr (.inl hi))).1.trans (a.fix.1 i hi),a.fix.2⟩
 mine:=fun i w ad hi e s=>by obtain⟨f1,f2⟩:=f i (aN.mpr (.inr hi));rw[f1] at s;rw[f2] at e;exact a.mine i w ad hi e s
theorem zh9 {te:TE}{g:TG}{mg:W->Ev->(Ev->Prop)->Prop}(h:RE Pn M fr' te f)(hg:RG (S++M) M g mg):RS Pn S M fr (zfw te g) (zlA f mg):=⟨fun B A σ H ρ n k D a kk hf=>by refine h.run A σ H ρ n _ _ a.env a.pn hf fun w m v H' r hv g' _=>?_;have a':=a.step g';exact hg.run A σ H' ρ v w _ _ a'.env hv r fun σ2 ρ2 r2 E2 f2=>kk.nx A σ2 H' ρ2 m (EnvR.mineG a' E2 f2) r2⟩
theorem yj {i:Nat}{x:Str}{pos':Pos}(hN:X.N.Nodup)(he:JE X Pn M fr' e f)(hi:X.N[i]?=some x:=by rfl)(hx:Loc X.env.scope x:=by first | exact Or.inl rfl | exact Or.inr rfl)(hiM:i∉M:=by decide)(hiS:i∉S++M:=by decide)(hs:swapsWith e (some (.Name x pos')) pos.line X.env=pure false:=by rfl)(hf:X.fn x=true\/X.env.scope.names.lookup x=some .local:=by first | exact .inl rfl | exact .inr rfl | assumption) :
  JS X Pn S M fr (.Assign [.Name x pos'] e pos) (zlA f (gN i)):=let ⟨te,q,r⟩:=he.ex;⟨_,xI hN hi hx q hs hf,zh9 r (zeA hiM hiS)⟩
theorem zg8 {i:Nat}{st:Stmt}(h:∃te,QS X st (zfw te (uW i))/\RE Pn M true te f)(hiM:i∉M:=by decide)(hiS:i∉S++M:=by decide):JS X Pn S M fr st (zlA f (gN i)):=let ⟨te,q,r⟩:=h;⟨_,q,zh9 r (zeA hiM hiS)⟩
theorem znJ {tg:Expr}{mg:W->Ev->(Ev->Prop)->Prop}(he:JE X Pn M fr' e f)(hg:JG X (S++M) M tg mg)(hs:swapsWithSole [tg] e pos.line X.env=pure false:=by rfl)(hw:swappedStores [tg] e X.env=pure none:=by rfl)
  (h1:(assignEach [tg] X.env).map (·.2)=[assign tg X.env]:=by rfl):JS X Pn S M fr (.Assign [tg] e pos) (zlA f mg):=let ⟨te,q,r⟩:=he.ex;let ⟨g,q2,r2⟩:=hg.ex;⟨_,zoQ q q2 hs hw h1,zh9 r r2⟩
def znT (i:Nat)(f:Ev->Mo W):Ms:=fun ρ n k=>f ρ n fun w m=>w.mut=true/\k.nx (ρ.set i (some w)) m
theorem zlH {T G:Hp}{w:W}{v:V}(h:WAt T G w v)(hm:w.mut=true)(hk:∀a o,v = .ref a->T a=some o->Mt o):∃a o,v = .ref a/\T a=some o/\NP o/\Mt o:=by
 cases w with
 | d x=>
  cases x with
  | lst l=>
   obtain⟨a,xs,e,g1,_⟩:=h;rcases g1 with g1 | ⟨o,g1⟩
   ·exact⟨a,_,e,g1,NP.lst,rfl⟩
   ·cases hk a _ e g1
  | dct=>obtain⟨a,xs,e,g1,g2⟩:=h;exact⟨a,_,e,g1,fun k z=>by cases z;subst g2;rfl,rfl⟩
  | _=>cases hm
 | pen p=>cases hm
 | dk kvs=>obtain⟨a,xs,e,g1,_,g3⟩:=h;exact⟨a,_,e,g1,fun k z=>by cases z;exact g3,rfl⟩
 | dt kvs=>obtain⟨a,xs,e,g1,_⟩:=h;exact⟨a,_,e,g1,(fun k z=>by cases z),rfl⟩
 | ss P w kvs=>obtain⟨a,xs,e,g1,_⟩:=h;exact⟨a,_,e,g1,zfe,rfl⟩
 | dn fz kvs=>
  obtain⟨a,ks,e,g1,_⟩:=h;rcases g1.rd with g1 | ⟨o,g1⟩
  ·exact⟨a,_,e,g1,znX,rfl⟩
  ·cases hk a _ e g1
 | wd d fs kn=>cases hm
 | lf ls=>cases hm
 | cu k=>cases hm
 | df kvs=>cases hm
 | kf kvs=>cases hm
 | ad a x=>cases hm
 | tz kvs x=>cases hm
 | fl kvs=>cases hm
theorem zkz {te:TE}{i:Nat}(h:RE Pn M true te f)(hi:i∈M)(hs:i∉S):RS Pn S M fr (zfw te (uW i)) (znT i f):=⟨fun B A σ H ρ n k D a kk hf=>by
 refine h.run A σ H ρ n _ _ a.env a.pn hf  ?_;rintro w m v H' ⟨hm,r⟩ hv g' hfr;obtain⟨ad,rfl,hF,⟨o',ho',nt'⟩,hb⟩:=hfr rfl;obtain⟨a2,o,e2,ho,np,nt⟩:=zlH hb hm fun b u e z=>by cases e;rw[ho'] at z;cases z;exact nt'
 cases e2;have E1:=a.env.more g'.st hF ho np nt;have hnA:¬ A ad:=a.env.newF hF;refine kk.nx (fun b=>A b\/b=ad) _ H' _ m ⟨⟨?_,?_,?_,E1.al⟩,⟨fun b z=>.inl (a.frm.sub b z),fun b z=>?_,fun b o e n c=>g'.st b o (a.frm.st b o e n c) n,a.frm.al,a.frm.cn,fun b z=>let ⟨o,e,n⟩:=a.frm.cs b z;⟨o,g'.st b o e n,n⟩⟩,a.pn.grow' g'.pn hF ho np nt,a.prot.trans (yp g'.st hF),⟨fun j hj=>?_,a.fix.2⟩,fun j u b hj e s=>?_⟩ r
 ·rw[bD,bD];exact a.env.len
 ·intro j u e;by_cases hj:j=i
  ·subst hj
   have hl:j<ρ.length:=by
    have:=(af.mp e).1
    simp_all
   rw[aH hl] at e;cases e;exact⟨.ref ad,aH (by rw[a.env.len];exact hl),fun z=>absurd hi z,fun _=>⟨ad,rfl,.inr rfl,hb,hm⟩⟩
  ·rw[ar (Ne.symm hj)] at e ⊢;exact E1.val j u e
 ·intro j l u u' b hj hl hne e1 e2 s1 s2
  have own:∀q u,q∈M->q≠i->ρ[q]?=some (some u)->σ[q]?≠some (some (.ref ad)):=fun q u hq hqi eq sq=>by
   obtain⟨v,s,_,s3⟩:=a.env.val q u eq;obtain⟨c,ec,hc,_⟩:=s3 hq
   simp_all
  have len:∀q (u:W),(ρ.set i (some w))[q]?=some (some u)->q<σ.length:=fun q u e=>by have:=(af.mp e).1;rw[bD] at this;rw[a.env.len];exact this
  by_cases hji:j=i
  ·subst hji;rw[aH (len _ _ e1)] at s1;cases s1;rw[ar hne] at e2 s2;exact own l u' hl (Ne.symm hne) e2 s2
  ·rw[ar (Ne.symm hji)] at e1 s1;by_cases hli:l=i
   ·simp_all
   ·rw[ar (Ne.symm hli)] at e2 s2;exact a.env.dis j l u u' b hj hl hne e1 e2 s1 s2
 ·rcases z with z | z
  ·exact a.frm.new b z
  ·subst z;exact .inr (.inl (a.frm.back hF hnA))
 ·rw[ar fun (z:i=j)=>hs (by rw[z];exact hj)];exact a.fix.1 j hj
 ·by_cases hji:j=i
  ·subst hji
   have hl:j<σ.length:=by
    have:=(af.mp s).1
    simp_all
   rw[aH hl] at s;cases s;exact .inl (a.frm.back hF hnA)
  ·rw[ar (Ne.symm hji)] at e s;exact a.mine j u b hj e s⟩
theorem uw {i:Nat}{x:Str}{pos':Pos}(hN:X.N.Nodup)(he:JE X Pn M true e f)(hi:X.N[i]?=some x:=by rfl)(hx:Loc X.env.scope x:=by first | exact Or.inl rfl | exact Or.inr rfl)(hiM:i∈M:=by decide)(hiS:i∉S:=by decide)(hs:swapsWith e (some (.Name x pos')) pos.line X.env=pure false:=by rfl)(hf:X.fn x=true\/X.env.scope.names.lookup x=some .local:=by first | exact .inl rfl | exact .inr rfl | assumption) :
  JS X Pn S M fr (.Assign [.Name x pos'] e pos) (znT i f):=let ⟨te,q,r⟩:=he.ex;⟨_,xI hN hi hx q hs hf,zkz r hiM hiS⟩
theorem zlv {i:Nat}{st:Stmt}(h:∃te,QS X st (zfw te (uW i))/\RE Pn M true te f)(hiM:i∈M:=by decide)(hiS:i∉S:=by decide):JS X Pn S M fr st (znT i f):=let ⟨te,q,r⟩:=h;⟨_,q,zkz r hiM hiS⟩
end
open PySem PySem.Spec L2
section
variable {X:Cx}{Pn:PN}{M S:List Nat}{fr fr':Bool}{e a b c:Expr}{es:List Expr}{f fa fb fc:Ev->Mo W}{pos p:Pos}{st:Stmt}{sts:List Stmt}{fs gs:Ms}
@[reducible] def mNx:Ms:=fun ρ n k=>k.nx ρ n
structure blk (g:Ms)(ρ:Ev)(n:Nat)(k:Kt):Prop where
 go:g ρ n k
theorem znd {g:Ms}{ρ:Ev}{n:Nat}{k:Kt}(h:g ρ n k):blk g ρ n k:=⟨h⟩
@[reducible] def mSeq (f g:Ms):Ms:=fun ρ n k=>f ρ n { k with nx:=fun ρ' n'=>blk g ρ' n' k }
def zq5 (t:Ev->Mo Bool)(f g:Ms):Ms:=fun ρ n k=>t ρ n fun c m=>if c=true then blk f ρ m k else blk g ρ m k
theorem yT:JSs X Pn S M fr [] mNx:=⟨_,zcM,⟨fun B A σ H ρ n k D a kk hf=>kk.nx A σ H ρ n a hf⟩⟩
theorem zpc {t u:TS}(h1:RS Pn S M fr t fs)(h2:RS Pn S M fr u gs):RS Pn S M fr (zrP t u) (mSeq fs gs):=⟨fun B A σ H ρ n k D a kk hf=>
 h1.run B A σ H ρ n { k with nx:=fun ρ' n'=>blk gs ρ' n' k } _ a ⟨fun A' σ' H' ρ' n' a' r=>h2.run B A' σ' H' ρ' n' k D a' kk r.go,kk.bk,kk.ct,kk.fc,kk.rt⟩ hf⟩
theorem ze (h1:JS X Pn S M fr st fs)(h2:JSs X Pn S M fr sts gs):JSs X Pn S M fr (st::sts) (mSeq fs gs):=let ⟨t,q,r⟩:=h1.ex;let ⟨u,q2,r2⟩:=h2.ex;⟨_,zR q q2,zpc r r2⟩
theorem zk (h1:JS X Pn S M fr st fs):JSs X Pn S M fr [st] fs:=let ⟨t,q,r⟩:=h1.ex;⟨_,xC q,r⟩
theorem zan {body other:List Stmt}{t:Ev->Mo Bool}(hc:JT X Pn M c t)(ha:JSs X Pn S M fr body fs)(hb:JSs X Pn S M fr other gs):JS X Pn S M fr (.If c body other pos) (zq5 t fs gs):=by
 obtain⟨tc,qc,rc⟩:=hc.ex;obtain⟨ta,qa,ra⟩:=ha.ex;obtain⟨tb,qb,rb⟩:=hb.ex;refine⟨_,zjI qc qa qb,⟨fun B A σ H ρ n k D a kk hf=>?_⟩⟩;refine rc.run A σ H ρ n _ _ a.env a.pn hf fun c m H1 r g=>?_
 cases c with
 | true=>rw[if_pos rfl] at r ⊢;exact ra.run B A σ H1 ρ m k D (a.step g) kk r.go
 | false=>rw[if_neg (by decide)] at r ⊢;exact rb.run B A σ H1 ρ m k D (a.step g) kk r.go
@[reducible] def mDrop (f:Ev->Mo W):Ms:=fun ρ n k=>f ρ n fun _ m=>k.nx ρ m
theorem At3.wr {B:Bs}{A:Addr->Prop}{σ:St}{H:Hp}{ρ:Ev}{n:Nat}(h:At3 Pn B S M A σ H ρ n){i:Nat}{w:W}{ad:Addr}{xs:List V}{l:List Dt}(hi:i∈M)(e:ρ[i]?=some (some w))(s:σ[i]?=some (some (.ref ad)))(hl:IsL (zO A H) l xs):At3 Pn B S M A σ (L2.upd H ad (.lst xs)) (ρ.set i (some (.d (.lst l)))) n:=by
 obtain⟨v,s1,_,s3⟩:=h.env.val i w e;rw[s] at s1;cases s1;obtain⟨a2,e2,hA,_,_⟩:=s3 hi;cases e2;have hlen:i<ρ.length:=(af.mp e).1
 have hE:EnvR A M σ (L2.upd H ad (.lst xs)) (ρ.set i (some (.d (.lst l)))):=by
  refine⟨by rw[bD];exact h.env.len,fun j u ej=>?_,fun j q u u' b hj hq hne e1 e2=>?_,fun b hb=>?_⟩
  ·by_cases hj:j=i
   ·subst hj;rw[aH hlen] at ej;cases ej;exact⟨.ref ad,s,fun z=>absurd hi z,fun _=>⟨ad,rfl,hA,⟨ad,xs,rfl,.inl zg,by rw[zF hA];exact hl⟩,rfl⟩⟩
   ·rw[ar (Ne.symm hj)] at ej;obtain⟨v,t1,t2,t3⟩:=h.env.val j u ej;refine⟨v,t1,fun z=>?_,fun z=>?_⟩
    ·show WAt _ _ _ _;rw[zF hA];exact t2 z
    ·obtain⟨b,rfl,hb,hbb,hm⟩:=t3 z;have hne:b≠ad:=fun q=>h.env.dis i j w u ad hi z (Ne.symm hj) e ej s (by rw[t1,q]);refine⟨b,rfl,hb,?_,hm⟩;show WAt _ _ _ _;rw[zF hA]
     cases u with
     | d x=>
      cases x with
      | lst l=>obtain⟨a2,xs,e2,g1,g2⟩:=hbb;cases e2;exact⟨b,xs,rfl,by unfold Rd;rw[zc hne];exact g1,g2⟩
      | dct=>obtain⟨a2,xs,e2,g1,g2⟩:=hbb;cases e2;exact⟨b,xs,rfl,by rw[zc hne];exact g1,g2⟩
      | _=>cases hm
     | pen p=>cases hm
     | dk k=>obtain⟨a2,xs,e2,g1,g2⟩:=hbb;cases e2;exact⟨b,xs,rfl,by rw[zc hne];exact g1,g2⟩
     | dt k=>obtain⟨a2,xs,e2,g1,g2⟩:=hbb;cases e2;exact⟨b,xs,rfl,by rw[zc hne];exact g1,g2⟩
     | dn fz k=>obtain⟨a2,xs,e2,g1,g2⟩:=hbb;cases e2;exact⟨b,xs,rfl,g1.imp fun o _ e=>by rw[zc hne];exact e,g2⟩
     | wd d fs kn=>cases hm
     | lf ls=>cases hm
     | cu k=>cases hm
     | ss P w k=>obtain⟨a2,xs,e2,g1,g2⟩:=hbb;cases e2;exact⟨b,xs,rfl,by rw[zc hne];exact g1,g2⟩
     | df k=>obtain⟨a2,ob,xs,e2,g1,g2⟩:=hbb;cases e2;exact⟨b,ob,xs,rfl,by simp_all,g2⟩
     | kf k=>obtain⟨a2,ob,xs,e2,g1,g2⟩:=hbb;cases e2;exact⟨b,ob,xs,rfl,by simp_all,g2⟩
     | ad a x=>cases hm
     | tz kvs x=>cases hm
     | fl k=>obtain⟨a2,ob,xs,e2,g1,g2⟩:=hbb;cases e2;exact⟨b,ob,xs,rfl,by simp_all,g2⟩
  ·have get:∀q (u:W),(ρ.set i (some (.d (.lst l))))[q]?=some (some u)->∃u',ρ[q]?=some (some u'):=fun q u z=>by
    by_cases hq:q=i
    ·subst hq;exact⟨w,e⟩
    ·rw[ar (Ne.symm hq)] at z;exact⟨u,z⟩
   obtain⟨v1,f1⟩:=get j u e1;obtain⟨v2,f2⟩:=get q u' e2;exact h.env.dis j q v1 v2 b hj hq hne f1 f2
  ·by_cases hb':b=ad
   ·subst hb';exact⟨_,zg,NP.lst,rfl⟩
   ·rw[zc hb'];exact h.env.al b hb
 refine⟨hE,⟨h.frm.sub,h.frm.new,fun b o eb nn nc=>?_,h.frm.al,h.frm.cn,fun b z=>(by
  by_cases hb':b=ad
  ·subst hb';exact⟨_,zg,NP.lst⟩
  ·rw[zc hb'];exact h.frm.cs b z)⟩,h.pn.upd hA,by rw[zF hA];exact h.prot,h.fix,fun j u b hj ej sj=>?_⟩
 ·have hne:b≠ad:=fun q=>by
   subst q;rcases h.mine i w b hi e s with z | z
   ·exact z o eb nn
   ·exact nc z
  rw[zc hne];exact h.frm.st b o eb nn nc
 ·by_cases hj':j=i
  ·subst hj';exact h.mine j w b hj e sj
  ·rw[ar (Ne.symm hj')] at ej;exact h.mine j u b hj ej sj
def zp1 (i:Nat)(f:Ev->Mo W):Ms:=fun ρ n k=>(∃l,ρ[i]?=some (some (.d (.lst l))))/\f ρ n fun w m=>∃l d,ρ[i]?=some (some (.d (.lst l)))/\w = .d d/\l.length<lim/\k.nx (ρ.set i (some (.d (.lst (l++[d]))))) m
theorem zo9 {K:PySem.W.Frag}{te:TE}{i:Nat}(h:RE Pn M fr' te f)(hi:i∈M):RS Pn S M fr (zmM (tBM K "list" zev (zkG i) (zcU te zkF))) (zp1 i f):=⟨by
 rintro B A σ H ρ n k D a kk ⟨⟨l0,e0⟩,hf⟩;obtain⟨v,s1,_,s3⟩:=a.env.val i _ e0;obtain⟨ad,rfl,hA,hb,_⟩:=s3 hi;obtain⟨a2,xs0,e2,g0,_⟩:=hb;cases e2;refine⟨.ref ad,s1,.inl ⟨rfl,_,.inl g0⟩,?_⟩;refine h.run A σ H ρ n _ _ a.env a.pn hf  ?_;rintro w m v H' ⟨l,d,e,ed,hz,r⟩ hv g _;subst ed;have a':=a.step g;obtain⟨v2,t1,_,t3⟩:=a'.env.val i _ e;rw[s1] at t1;cases t1;obtain⟨a3,e3,hA3,hb3,_⟩:=t3 hi;cases e3;obtain⟨a4,xs,e4,g4,hl⟩:=hb3;cases e4;exact⟨ad,xs,v,rfl,rfl,g4.own a'.env.al hA,zfb (by rw[hl.length];exact cS hz),kk.nx A σ _ _ m (a'.wr hi e s1 (hl.append (IsL.one hv.is))) r⟩⟩
theorem zdc (i:Nat){x:Str}{ap cp sp np:Pos}(he:JE X Pn M fr' e f)(hi:i∈M:=by decide)(hN:X.N[i]?=some x:=by rfl)(hv:Vis X.env.scope x:=by first | exact Or.inl rfl | exact Or.inr (Or.inl rfl) | exact Or.inr (Or.inr rfl))(hd:(x==("__debug__" : Str))=false:=by decide)
  (hcd:(x==("__classdict__" : Str))=false:=by decide) (hs1:starEach (e::[]) X.env=(false,eval e X.env)::starEach [] X.env:=by rfl) (hs:swapsWith (.Call (.Attribute (.Name x np) "append" ap) [e] [] cp) none sp.line X.env=pure false:=by rfl) (hbase:attributeBase (.Name x np) "append" X.env (eval (.Name x np) X.env)=eval (.Name x np) X.env:=by rfl) (hline:(ap.endLine==cp.line)=true:=by rfl)
  (hfew:((backTo cp (starEach [e] X.env)).all (fun x=>!x.1)&&(backToKw cp (keywordEach [] X.env)).all (fun x=>x.1.isSome)&&decide (([e]:List Expr).length+([]:List Keyword).length+(if ([]:List Keyword).isEmpty then 0 else 1)<30))=true:=by rfl) (hplain:(backTo cp (starEach [] X.env)).any (·.1)=false:=by rfl) :
  JS X Pn S M fr (.Expr (.Call (.Attribute (.Name x np) "append" ap) [e] [] cp) sp) (zp1 i f):=by
 obtain⟨te,q,r⟩:=he.ex;exact⟨_,zhZ (zoJ (qv i hN hv hd hcd) (zE q yA hs1) hbase hfew hline hs1 hplain) hs,zo9 r hi⟩
def zlf (mg:W->Ev->(Ev->Prop)->Prop)(fb:Ms)(ρ:Ev)(k:Kt):List W->Nat->Prop:=fun l n1=>∃I:Nat->Ev->Nat->Prop,I 0 ρ n1/\
 (∀i w ρ' n',l[i]?=some w->I i ρ' n'->mg w ρ' fun ρ1=>fb ρ1 n' { k with nx:=I (i+1),ct:=I (i+1),bk:=k.nx })/\∀ ρ' n',I l.length ρ' n'->k.nx ρ' n'
@[reducible] def mFor (fi:Ev->Mo (List W)) (mg:W->Ev->(Ev->Prop)->Prop) (fb:Ms):Ms:=fun ρ n k=>fi ρ n (zlf mg fb ρ k)
theorem ziY {B:Bs}{A:Addr->Prop}{σ:St}{H1:Hp}{ρ:Ev}{m:Nat}{k:Kt}{D:Ends}{J:It}{l:List W}{g:TG}{tb:TS}{mg:W->Ev->(Ev->Prop)->Prop}{fb:Ms}(hg:RG (S++M) M g mg)(hb:RS Pn S M fr tb fb)(hS:9999∉S)(a1:At3 Pn B S M A σ H1 ρ m)(kk:KOk Pn B S M fr k D)(iv:ItV false A H1 J l)(hf:zlf mg fb ρ k l m) :
  ∃W:Nat->Nat->St->Hp->Prop,(∃m,W 0 m σ H1)/\∀i m σ H,W i m σ H->(J.stop i H/\D.nx σ H)\/(J.go i H/\∃N:St->Hp->Prop,(∀ σ' H',N σ' H'->∃m',m'<m/\W (i+1) m' σ' H')/\∀x H',J.yld i H x H'->g x σ H' fun σ2 H2=>tb { D with nx:=N,ct:=N,bk:=D.nx } σ2 H2):=by
 obtain⟨I,i0,it,ie⟩:=hf;have out:∀ {A':Addr->Prop} {σ':St} {H':Hp} {ρ':Ev} {n':Nat},At3 Pn { B with G0:=zO A H1 } S M A' σ' H' ρ' n'->At3 Pn B S M A' σ' H' ρ' n':=fun {A' σ' H' ρ' n'} q=>⟨q.env,q.frm,q.pn,a1.prot.trans q.prot,⟨q.fix.1,a1.fix.2⟩,q.mine⟩;refine⟨fun i mm σ' H'=>mm=l.length - i/\i<=l.length/\∃A' ρ' n',At3 Pn { B with G0:=zO A H1 } S M A' σ' H' ρ' n'/\I i ρ' n',⟨l.length,by simp,aL _,A,ρ,m,⟨a1.env,a1.frm,a1.pn,zm.refl _,⟨a1.fix.1,fun z=>absurd z hS⟩,a1.mine⟩,i0⟩,?_⟩;rintro i mm σ' H' ⟨rfl,hil,A',ρ',n',a',hI⟩;by_cases hlt:i<l.length
 ·right;have hget:l[i]?=some l[i]:=aq hlt;obtain⟨go,yl⟩:=iv.one i l[i] A' H' hget a'.prot (fun z=>by cases z) fun p hp=>a'.env.new hp;refine⟨go,fun σ2 H2=>∃A' ρ' n',At3 Pn { B with G0:=zO A H1 } S M A' σ2 H2 ρ' n'/\I (i+1) ρ' n',fun σ2 H2 h=>⟨l.length - (i+1),by lia,rfl,hlt,h⟩,fun x H2 hy=>?_⟩;obtain⟨S2,V2⟩:=yl x H2 hy;have a2:=a'.step (Go.same a'.pn S2);refine hg.run A' σ' H2 ρ' x l[i] _ _ a2.env V2 (it i l[i] ρ' n' hget hI) fun σ3 ρ3 r3 E3 f3=>?_;refine hb.run { B with G0:=zO A H1 } A' σ3 H2 ρ3 n' _ _ (EnvR.mineG a2 E3 f3) ⟨?_,?_,?_,kk.fc,?_⟩ r3
  ·exact fun A4 σ4 H4 ρ4 n4 a4 r4=>⟨A4,ρ4,n4,a4,r4⟩
  ·exact fun A4 σ4 H4 ρ4 n4 a4 r4=>kk.nx A4 σ4 H4 ρ4 n4 (out a4) r4
  ·exact fun A4 σ4 H4 ρ4 n4 a4 r4=>⟨A4,ρ4,n4,a4,r4⟩
  ·exact kk.rt
 ·left;have hie:i=l.length:=by lia
  subst hie;exact⟨iv.stop A' H' a'.prot (fun z=>by cases z),kk.nx A' σ' H' ρ' n' (out a') (ie ρ' n' hI)⟩
theorem zpa {wi:TI}{g:TG}{tb:TS}{fi:Ev->Mo (List W)}{mg:W->Ev->(Ev->Prop)->Prop}{fb:Ms}(hi:RI Pn M false wi fi)(hg:RG (S++M) M g mg)(hb:RS Pn S M fr tb fb)(hS:9999∉S):RS Pn S M fr (zrN wi g tb) (mFor fi mg fb):=⟨fun B A σ H ρ n k D a kk hf=>hi.run A σ H ρ n _ _ a.env a.pn hf fun l m J H1 hl iv g1=>ziY hg hb hS (a.step g1) kk iv hl⟩
theorem yU {tg iter:Expr}{body:List Stmt}{fi:Ev->Mo (List W)}{mg:W->Ev->(Ev->Prop)->Prop}{fb:Ms}(hp:PassesOwn (model X.prog X.w) X.A X.env X.xe)(hc:X.calm=true)(hi:JI X Pn M false tg iter fi)(hg:JG X (S++M) M tg mg)(hb:JSs X Pn S M fr body fb)(hs:∀x,foldedSetIterable iter X.env x=pure x:=by intro _;rfl)(hS:9999∉S:=by decide) :
  JS X Pn S M fr (.For tg iter body [] pos) (mFor fi mg fb):=by
 obtain⟨ti,qi,ri⟩:=hi.ex;obtain⟨tg',qg,rg⟩:=hg.ex;obtain⟨tb,qb,rb⟩:=hb.ex;exact⟨_,zoR hp hc qi qg qb hs,zpa ri rg rb hS⟩
def zaf (N:List Str)(ws:List W):Ev:=ws.map some++List.replicate (N.length - ws.length) none
theorem zbP.get {A:Addr->Prop}{H:Hp}:∀ {ws:List W} {vs:List V} {i:Nat} {w:W},zbP A H ws vs->ws[i]?=some w->∃v,vs[i]?=some v/\Val A H w v
 | [],_,_,_,_,e=>by simp at e
 | x::ws,vs,0,w,⟨v,r,e1,h1,_⟩,e=>by simp_all
 | x::ws,vs,i+1,w,⟨v,r,e1,_,h2⟩,e=>by
  subst e1;obtain⟨u,h3,h4⟩:=zbP.get (i:=i) h2 (by simpa using e)
  simp_all
theorem zgK {A:Addr->Prop}{H:Hp}{N:List Str}{ws:List W}{vs:List V}(al:Al A H)(h:zbP A H ws vs)(hM:∀i∈M,ws.length<=i):EnvR A M (L2.xF N vs) H (zaf N ws) where
 len:=by unfold L2.xF zaf;rw[aD,aD,ab,ab,List.length_replicate,List.length_replicate,h.len]
 val:=fun i w e=>by
  unfold zaf at e
  have hi:i<ws.length:=by
   apply b8;intro z;rw[bg (by simp_all)] at e;obtain⟨_,q⟩:=af.mp e
   simp_all
  rw[bq (by simp_all),aA] at e;obtain⟨w',e1,e2⟩:=ax.mp e;cases e2;obtain⟨v,h1,h2⟩:=h.get e1;refine⟨v,?_,fun _=>h2,fun z=>absurd (hM i z) (by lia)⟩;unfold L2.xF;have hi':i<vs.length:=by rw[h.len];exact hi
  rw[bq (by simp_all),aA,h1];rfl
 dis:=fun i j w u ad hi hj hne e1=>by
  unfold zaf at e1;have:=hM i hi;rw[bg (by simp_all)] at e1;obtain⟨_,q⟩:=af.mp e1
  simp_all
 al:=al
theorem zn0 {P:Program}{w:World}{K:PySem.W.Frag}{mg:Str->Option Value}{base:Heap}{qual:Str}{st:Stmt}{f:Addr}{fd:FuncData}{N ps:List Str}{k m:Nat}{F:PN->List W->Mo W}(M:List Nat)(okq:(∀vs H Q E,spV m fr F vs H Q E->vs.length=ps.length)->(∀ (cdv:Value) (A:Around) (outer:List Env) (s:Shared) (H:Hp) (vs:List V) (Q:VK) (E:XK),Room k (A.deeper (PyProof.Rows.envOfC qual (zd st) s.heap.objs.size f cdv))->spV m fr F vs H Q E->
   ∃t,QSs (zdO CX0 P w K mg base N qual (zd st) f cdv A outer s H E).nox (ym st) t/\t { nx:=fun _ H'=>Q .non H',rt:=Q } (L2.xF N vs) H)->FnOk P w K mg base CX0 (k+1) f fd ps (spV m fr F)) (hm:m=ps.length) (hM:∀i∈M,m<=i)
  (hbody:∀ (cdv:Value) (A:Around) (outer:List Env) (s:Shared) (H:Hp) (E:XK) (Pn:PN),Room k (A.deeper (PyProof.Rows.envOfC qual (zd st) s.heap.objs.size f cdv))->
   ∃fs,JSs (zdO CX0 P w K mg base N qual (zd st) f cdv A outer s H E).nox Pn [] M fr (ym st) fs/\∀ws n R,ws.length=m->F Pn ws n R->fs (zaf N ws) n { nx:=fun _ n'=>fr=false/\R (.d .non) n',rt:=R }):FnOk P w K mg base CX0 (k+1) f fd ps (spV m fr F):=by
 refine okq (fun vs H Q E h=>?_) (fun cdv A outer s H vs Q E hr h=>?_)
 ·obtain⟨Pn,A,ws,n,R,_,hv,hl,_⟩:=h;rw[hv.len,hl,hm]
 ·obtain⟨Pn,A3,ws,n,R,al,hv,hl,hp,hF,q⟩:=h;obtain⟨fs,⟨t,qs,rs⟩,hfs⟩:=hbody cdv A outer s H E Pn hr;refine⟨t,qs,rs.run { A0:=A3,H0:=H,G0:=zO A3 H,σ0:=L2.xF N vs } A3 (L2.xF N vs) H (zaf N ws) n _ _ ⟨zgK al hv (fun i hi=>by simp_all),⟨fun _ z=>z,fun _ z=>.inl z,.of (zm.refl _),al,fun _ z=>z.elim,fun _ z=>z.elim⟩,hp,zm.refl _,⟨fun i hi=>rfl,fun z=>by cases z⟩,fun i w a hi e=>?_⟩ ⟨?_,?_,?_,fun _ z=>z,?_⟩ (hfs ws n R hl hF)⟩
  ·exact absurd e (by unfold zaf;have:=hM i hi;rw[bg (by simp_all)];intro z;obtain⟨_,q⟩:=af.mp z;rw[List.getElem_replicate] at q;cases q)
  ·intro A' σ' H' ρ' n' a' ⟨hfr,r⟩;exact q _ n' .non H' r (Val.of (show Is _ .non .non from rfl)) ⟨a'.frm.st.stay,a'.pn.less a'.frm.sub⟩ fun z=>by rw[hfr] at z;cases z
  ·simp_all
  ·simp_all
  ·intro w n' v H' hv' st pn hfr r;exact q w n' v H' r hv' ⟨st.stay,pn⟩ hfr
end
open PySem PySem.Spec L2
section
variable {X:Cx}{Pn:PN}{M S:List Nat}{fr fr':Bool}{e a b c:Expr}{es:List Expr}{f fa fb fc:Ev->Mo W}{pos p p2:Pos}
def zm0 (B:Dt->Bool)(f:Ev->Mo W):Ev->Mo W:=fun ρ n Q=>f ρ n fun w m=>∃d,w = .d d/\Q (.d (.bl (B d))) m
theorem zh6 {K:PySem.W.Frag}{T:String}{B:Dt->Bool}{te:TE}(hk:∀d:Dt,PySem.W.kitOne K (.type d.ty) (.type T)=some (B d))(h:RB Pn M te f):RE Pn M false (tCB (fun xs H Q=>∃x T t b,xs=[x,.ty T]/\TyOf K H x t/\PySem.W.kitOne K t (.type T)=some b/\Q (.bl b) H) (zcU te (zcU (tC (.ty T)) zkF))) (zm0 B f):=⟨fun A σ H ρ n Q R E P hf k=>by refine h.run A σ H ρ n _ _ E P hf  ?_;rintro w m v H' ⟨d,e,r⟩ bb g;subst e;exact⟨v,T,_,_,rfl,bb.is.ty,hk d,k _ m _ H' r (Val.of rfl) g fun z=>by cases z⟩⟩
@[reducible] def isStr:Dt->Bool
 | .str _=>true
 | _=>false
@[reducible] def isDct:Dt->Bool
 | .dct=>true
 | _=>false
theorem znF {T:String}{x:Str}{B:Dt->Bool}(hk:∀d:Dt,PySem.W.kitOne X.K (.type d.ty) (.type T)=some (B d))(hv:bootBuiltins x=some (.type T))(hg2:Gl X x)(hn:x ≠ "__name__")(hd:(x==("__debug__" : Str))=false)(hg:Gl X "isinstance")(hm:X.mg "isinstance" = none)(hm2:X.mg x=none)(h:JB X Pn M e f)
  (hs1:starEach (e::[.Name x p2]) X.env=(false,eval e X.env)::starEach [.Name x p2] X.env) (hs2:starEach (.Name x p2::[]) X.env=(false,eval (.Name x p2) X.env)::starEach [] X.env) (hpl:(backTo pos (starEach [.Name x p2] X.env)).any (·.1)=false):JE X Pn M false (.Call (.Name "isinstance" p) [e,.Name x p2] [] pos) (zm0 B f):=by
 obtain⟨te,q,r⟩:=h.ex;exact⟨_,yg za6 hg hm cB (zE q (zE (zeu (v:=.ty T) hg2 hm2 hv rfl hn hd) yA hs2) hs1) (by decide) (by decide) hs1 hpl,zh6 hk r⟩
theorem zbU (hg:Gl X "isinstance")(hm:X.mg "isinstance" = none)(hm2:X.mg "tuple" = none)(h:JB X Pn M e f)(hg2:Gl X "tuple" := by rfl)(hs1:starEach (e::[.Name "tuple" p2]) X.env=(false,eval e X.env)::starEach [.Name "tuple" p2] X.env:=by rfl)(hs2:starEach (.Name "tuple" p2::[]) X.env=(false,eval (.Name "tuple" p2) X.env)::starEach [] X.env:=by rfl)(hpl:(backTo pos (starEach [.Name "tuple" p2] X.env)).any (·.1)=false:=by rfl) :
  JE X Pn M false (.Call (.Name "isinstance" p) [e,.Name "tuple" p2] [] pos) (zm0 Dt.isTup f):=znF (zlz _) bE hg2 (by decide) (by decide) hg hm hm2 h hs1 hs2 hpl
theorem xA (hg:Gl X "isinstance")(hm:X.mg "isinstance" = none)(hm2:X.mg "list" = none)(h:JB X Pn M e f)(hg2:Gl X "list" := by rfl)(hs1:starEach (e::[.Name "list" p2]) X.env=(false,eval e X.env)::starEach [.Name "list" p2] X.env:=by rfl)(hs2:starEach (.Name "list" p2::[]) X.env=(false,eval (.Name "list" p2) X.env)::starEach [] X.env:=by rfl)(hpl:(backTo pos (starEach [.Name "list" p2] X.env)).any (·.1)=false:=by rfl) :
  JE X Pn M false (.Call (.Name "isinstance" p) [e,.Name "list" p2] [] pos) (zm0 Dt.isLst f):=znF (zly _) bF hg2 (by decide) (by decide) hg hm hm2 h hs1 hs2 hpl
def zf7 (n:Nat):List Dt:=(List.range n).map fun i:Nat=>Dt.int i
theorem zg1 {G:Hp}(n:Nat):IsL G (zf7 n) ((List.range n).map fun i:Nat=>V.int i):=by
 have e1:zf7 n=(((List.range n).map fun i:Nat=>(i:Int))).map Dt.int:=by unfold zf7;rw[az];rfl
 have e2:((List.range n).map fun i:Nat=>V.int i)=(((List.range n).map fun i:Nat=>(i:Int))).map V.int:=by rw[az];rfl
 rw[e1,e2];exact IsL.ints
def zcy (fa:Ev->Mo (List W)):Ev->Mo W:=fun ρ n Q=>fa ρ n fun ws m=>∃j:Nat,ws=[.d (.int (j:Int))]/\j<=1000/\Q (.d (.lst (zf7 j))) m
theorem zdb {q:Pos}{pr:Pos}{fs:Ev->Mo (List W)}(hm:X.mg "list" = none)(hm2:X.mg "range" = none)(ha:JAB X Pn M [a] fs)(hc:X.calm=true:=by rfl)(hg:Gl X "list" := by rfl)(hg2:Gl X "range" := by rfl)(hs:starEach (a::[]) X.env=(false,eval a X.env)::starEach [] X.env:=by rfl)(hs2:starEach (.Call (.Name "range" pr) [a] [] q::[]) X.env=(false,eval (.Call (.Name "range" pr) [a] [] q) X.env)::starEach [] X.env:=by rfl)
  (hp1:(backTo q (starEach [] X.env)).any (·.1)=false:=by rfl) (hp2:(backTo pos (starEach [] X.env)).any (·.1)=false:=by rfl):JE X Pn M true (.Call (.Name "list" p) [.Call (.Name "range" pr) [a] [] q] [] pos) (zcy fs):=by
 obtain⟨ta,qa,ra⟩:=ha.ex;refine⟨_,zab (zdX hc) hg hm bF (zE (zab ziJ hg2 hm2 PyProof.Rows.boot_range qa (by decide) (by decide) hs hp1) yA hs2) (by decide) (by decide) hs2 hp2,⟨fun A σ H ρ n Q R E P hf k=>?_⟩⟩;refine ra.run A σ H ρ n _ _ E P hf  ?_;rintro ws m vs H1 ⟨j,e,hj,r⟩ bb g;subst e;obtain⟨v,rfl,b1⟩:=zai bb;obtain rfl:=yI b1;refine⟨_,rfl,fun p1 H2 np g2 S2=>⟨p1,j,rfl,g2,hj,fun p3 H3 np3 g3 S3=>?_⟩⟩;have g12:=g.trans (Go.same g.pn S2);exact k _ m _ H3 r (xG (H:=H2) (zg1 j) (zm.same S3) ((E.stay g12.st).new np3) g3) (g12.trans (Go.same g12.pn S3)) fun _=>(xU (H:=H2) (zg1 j) S3 np3 g3).back g12.st
@[reducible] def truD:W->Option Bool
 | .d (.lst l)=>some (!l.isEmpty)
 | .d (.tup l)=>some (!l.isEmpty)
 | .d (.bl b)=>some b
 | .d (.int i)=>some (i != 0)
 | .d .non=>some false
 | _=>none
def zdl (F G:W->W->Mo W)(fa fb fc:Ev->Mo W):Ev->Mo W:=fun ρ n Q=>fa ρ n fun x n1=>fb ρ n1 fun y n2=>F x y n2 fun z n3=>∃k,z = .d (.bl k)/\if k=true then fc ρ n3 fun u n4=>G y u n4 Q else Q (.d (.bl false)) n3
theorem zjN {r r':R2}{F G:W->W->Mo W}{ta tb tc:TE}(hr:F2 Pn false r F)(hr':F2 Pn false r' G)(ha:RB Pn M ta fa)(hb:RB Pn M tb fb)(hc:RB Pn M tc fc):RE Pn M false (zio r r' ta tb tc) (zdl F G fa fb fc):=⟨fun A σ H ρ n Q R E P hf k=>by
 refine ha.run A σ H ρ n _ _ E P hf fun x n1 v1 H1 r1 b1 g1=>?_;refine hb.run A σ H1 ρ n1 _ _ (E.stay g1.st) g1.pn r1 fun y n2 v2 H2 r2 b2 g2=>?_;have g:=g1.trans g2;refine hr.run A H2 v1 v2 x y n2 _ _ (E.stay g.st).al (b1.stay g2.st) b2 g2.pn r2  ?_;rintro w m v H' ⟨c,e,h1⟩ h2 h3 h4;subst e;have hv:v = .bl c:=h2;refine⟨c,hv,?_⟩;have g3:=g.trans h3
 cases c with
 | false=>rw[if_neg (by decide)] at h1 ⊢;exact k _ m _ H' h1 (Val.of rfl) g3 fun z=>by cases z
 | true=>
  rw[if_pos rfl] at h1 ⊢;refine hc.run A σ H' ρ m _ _ (E.stay g3.st) g3.pn h1 fun u n4 v4 H4 r4 b4 g4=>?_;exact hr'.run A H4 v2 v4 y u n4 _ _ (E.stay (g3.trans g4).st).al (b2.stay (h3.trans g4).st) b4 g4.pn r4 fun w5 m5 v5 H5 a1 a2 a3 a4=>k w5 m5 v5 H5 a1 a2 ((g3.trans g4).trans a3) fun z=>by cases z⟩
theorem ze9 {op op':CmpOp}{r r':R2}{F G:W->W->Mo W}(ho:OpQ X (compareOp op) r)(ho':OpQ X (compareOp op') r')(hr:F2 Pn false r F)(hr':F2 Pn false r' G)(ha:JB X Pn M a fa)(hb:JB X Pn M b fb)(hc:JB X Pn M c fc)(hm:lastMarks [op,op'] [b,c]=false:=by with_unfolding_all rfl):JT X Pn M (.Compare a [op,op'] [b,c] pos) (zlF (zdl F G fa fb fc)):=by obtain⟨ta,qa,ra⟩:=ha.ex;obtain⟨tb,qb,rb⟩:=hb.ex;obtain⟨tc,qc,rc⟩:=hc.ex;exact⟨_,zjK ho ho' qa qb qc hm,zia (zjN hr hr' ra rb rc).rb⟩
theorem At3.own {B:Bs}{A:Addr->Prop}{σ:St}{H:Hp}{ρ:Ev}{n:Nat}(h:At3 Pn B S M A σ H ρ n){i:Nat}{l:List Dt}(hi:i∈M)(e:ρ[i]?=some (some (.d (.lst l)))):∃ad xs,σ[i]?=some (some (.ref ad))/\A ad/\H ad=some (.lst xs)/\IsL (zO A H) l xs:=by obtain⟨v,s1,_,s3⟩:=h.env.val i _ e;obtain⟨ad,rfl,hA,hb,_⟩:=s3 hi;obtain⟨a2,xs,e2,g0,hl⟩:=hb;cases e2;exact⟨ad,xs,s1,hA,g0.own h.env.al hA,hl⟩
end
open PySem PySem.Spec L2
section
variable {A:Addr->Prop}{H:Hp}
theorem zpN {w:W}{vs:List V}(h:zbP A H [w] vs):∃v,vs=[v]/\Val A H w v:=by obtain⟨v,r,e,h1,h2⟩:=h;cases h2;exact⟨v,e,h1⟩
theorem zpO {w u:W}{vs:List V}(h:zbP A H [w,u] vs):∃v y,vs=[v,y]/\Val A H w v/\Val A H u y:=by obtain⟨v,r,e,h1,h2⟩:=h;obtain⟨y,rfl,h3⟩:=zpN h2;exact⟨v,y,e,h1,h3⟩
theorem zpP {st:List Int}{v:V}(h:Val A H (.d (stD st)) v):∃a,v = .ref a/\H a=some (.tup (st.map V.int)):=by obtain⟨a,xs,e,h1,h2⟩:=h;obtain rfl:=h2.of_ints;exact⟨a,e,zX _ _ h1⟩
end
structure RoomOk (rm:List Int):Prop where
 ne:rm≠[]
 few:rm.length<=8
 box:∀r∈rm,2<=r/\r<=4
abbrev FV:=PN->List W->Mo W
def zpS (k:Nat)(fr:Bool)(F:FV)(sp:Sp):Prop:=∀vs H Q E,spV k fr F vs H Q E->sp vs H Q E
theorem FnOk.lift {P:Program}{w:World}{K:PySem.W.Frag}{mg:Str->Option Value}{base:Heap}{CX:CXT}{j k:Nat}{f:Addr}{fd:FuncData}{ps:List Str}{sp:Sp}{fr:Bool}{F:FV}(h:FnOk P w K mg base CX j f fd ps sp)(l:zpS k fr F sp):FnOk P w K mg base CX j f fd ps (spV k fr F):=h.imp l
def zf9:FV:=fun Pn ws n R=>∃p c ns zC,Pn=⟨some (p,c,ns),J0⟩/\ws=[.pen p,.d (.int zC)]/\n<=1000000/\1<=zC/\zC<1073741824/\∀r,0<=r->r<zC->R (.d (.int r)) (n+1)
theorem zhj:zpS 2 false zf9 zik:=by rintro vs H Q E ⟨Pn,A,ws,n,R,al,hv,hl,hp,⟨p,c,ns,zC,rfl,rfl,h1,h2,h3,h4⟩,q⟩;obtain⟨v,y,rfl,b1,b2⟩:=zpO hv;have e1:v = .ref p:=b1;have e2:y = .int zC:=b2;subst e1 e2;exact⟨p,c,ns,n,zC,rfl,hp.1.1,h1,h2,h3,fun r H' r0 r1 P' S'=>q _ (n+1) _ H' (h4 r r0 r1) (Val.of rfl) ⟨S',⟨P',hp.1.2⟩,trivial⟩ fun z=>by cases z⟩
@[reducible] def zpR:FV:=fun Pn ws n R=>∃p c ns most,Pn=⟨some (p,c,ns),J0⟩/\ws=[.pen p,.d (.int most)]/\n+20<=1000000/\4<=most/\most<=256/\∀rm,RoomOk rm->zjz rm<=most->R (.d (stD rm)) (n+10)
@[reducible] def zj3:FV:=fun Pn ws n R=>∃p c ns rm,Pn=⟨some (p,c,ns),J0⟩/\ws=[.pen p,.d (stD rm)]/\n+20<=1000000/\RoomOk rm/\∀st,st.length=rm.length->(∀b:Int,0<=b->b<rm.length->0<=zC st b/\zC st b<zC rm b)->R (.d (stD st)) (n+10)
@[reducible] def uC (g:List (Int×Int)):Dt:=.tup (g.map yD)
@[reducible] def zm5:FV:=fun Pn ws n R=>∃p c ns rm apart,Pn=⟨some (p,c,ns),J0⟩/\ws=[.pen p,.d (stD rm),.d (.int apart)]/\n+40<=1000000/\RoomOk rm/\∀g,Giv rm g->(∀q∈g,q.1≠apart)->g.length<=8->R (.d (uC g)) (n+30)
@[reducible] def zgb:FV:=fun _ ws n R=>∃d,ws=[.d d]/\R (.d (.bl d.isWhole)) n
theorem zfM:zpS 1 false zgb zim:=by rintro vs H Q E ⟨Pn,A,ws,n,R,al,hv,hl,hp,⟨d,rfl,h4⟩,q⟩;obtain⟨v,rfl,b1⟩:=zpN hv;exact⟨v,d,rfl,b1.bor.is,q _ n _ H h4 (Val.of rfl) (Go.refl hp) fun z=>by cases z⟩
@[reducible] def zqe:FV:=fun _ ws n R=>∃a b,ws=[.d (.bl a),.d (.bl b)]/\R (.d (.bl (a==b))) n
@[reducible] def F_prod:FV:=fun _ ws n R=>∃ns:List Int,ws=[.d (stD ns)]/\(∀n∈ns,2<=n/\n<=4)/\R (.d (.int (zjz ns))) n
@[reducible] def zqd:FV:=fun _ ws n R=>∃st g,ws=[.d (stD st),.d (uC g)]/\(∀q∈g,0<=q.1/\q.1<st.length)/\R (.d (.bl (y0 st g))) n
@[reducible] def zfY (sts:List (List Int)):Dt:=.lst (sts.map stD)
@[reducible] def F_all:FV:=fun _ ws n R=>∃rm,ws=[.d (stD rm)]/\RoomOk rm/\zjz rm<=256/\R (.d (zfY (zqk (rm.map zv)))) n
@[reducible] def lsD (c:List Int):Dt:=.lst (c.map .int)
@[reducible] def zmY:FV:=fun _ ws n R=>∃cs:List (List Int),ws=[.d (.lst (cs.map lsD))]/\cs.length<=8/\(∀c∈cs,c.length<=4)/\R (.d (zfY (zqk cs))) n
theorem zri {P:Program}{w:World}{K:PySem.W.Frag}{mg:Str->Option Value}{base:Heap}{x qual:Str}{st:Stmt}{f:Addr}{fd:FuncData}{N ps:List Str}{k r:Nat}{S:List Nat}(M:List Nat)(Fu:Fun K x qual st f fd)(Sc:FnScope N ps (zd st))(hps:ps.length=1)(hN:N.length=r+2)(hM:∀i∈M,2<=i)
  (hbody:∀ (cdv:Value) (A:Around) (outer:List Env) (s:Shared) (H:Hp) (E:XK) (Pn:PN),Room k (A.deeper (PyProof.Rows.envOfC qual (zd st) s.heap.objs.size f cdv))->
   ∃s1 yn fs,ym st=s1::yn/\QS (zdO CX0 P w K mg base N qual (zd st) f cdv A outer s H E).nox s1 (zfw (zeH (zjV K) [] E0 (zcU (zkG 0) zkF)) (uW 1))/\
    JSs (zdO CX0 P w K mg base N qual (zd st) f cdv A outer s H E).nox Pn S M false yn fs/\∀p c ns,Pn=⟨some (p,c,ns),J0⟩->fs (none::some (.pen p)::List.replicate r none) 0 { nx:=fun _ _=>False,rt:=fun w _=>w = .d (.bl true) }):FnOk P w K mg base CX0 (k+1) f fd ps (zil K):=by
 refine Fun.okQ Fu Sc (fun vs H Q E h=>?_) (fun cdv A outer s H vs Q E hr h=>?_)
 ·obtain⟨a,ns,rfl,_⟩:=h;exact hps.symm
 ·obtain⟨a,ns,rfl,hS,hl,q⟩:=h;have ctx:=fun (Pn:PN)=>hbody cdv A outer s H E Pn hr
  have hN1:L2.xF N [.ref a]=some (.ref a)::none::List.replicate r none:=by unfold L2.xF;rw[hN];rfl
  have hd:∃s1 yn,ym st=s1::yn:=let ⟨s1,yn,_,e,_⟩:=ctx ⟨none,J0⟩;⟨s1,yn,e⟩;obtain⟨s1,yn,e0⟩:=hd;rw[e0]
  have c2:∀Pn,∃fs,JSs (zdO CX0 P w K mg base N qual (zd st) f cdv A outer s H E).nox Pn S M false yn fs/\∀p c ns,Pn=⟨some (p,c,ns),J0⟩->fs (none::some (.pen p)::List.replicate r none) 0 { nx:=fun _ _=>False,rt:=fun w _=>w = .d (.bl true) }:=fun Pn=>by obtain⟨s1',rest',fs,e,_,h1,h2⟩:=ctx Pn;rw[e0] at e;cases e;exact⟨fs,h1,h2⟩
  have q1:QS (zdO CX0 P w K mg base N qual (zd st) f cdv A outer s H E).nox s1 (zfw (zeH (zjV K) [] E0 (zcU (zkG 0) zkF)) (uW 1)):=by
   obtain⟨s1',rest',fs,e,h0,_⟩:=ctx ⟨none,J0⟩
   simp_all
  refine⟨_,zR q1 (u:=fun D σ H=>∃Pn,(c2 Pn).choose_spec.1.ex.choose D σ H) ⟨fun pins s' σ H D I ⟨Pn,z⟩=>(c2 Pn).choose_spec.1.ex.choose_spec.1.run pins s' σ H D I z⟩,?_⟩;refine⟨.ref a,by rw[hN1];rfl,a,ns,rfl,hS,hl,fun p c H1 P1 S1=>⟨⟨some (p,c,ns),J0⟩,?_⟩⟩;have hs:=(c2 ⟨some (p,c,ns),J0⟩).choose_spec.2 p c ns rfl;have e1:(L2.xF N [.ref a]).set 1 (some (.ref p))=some (.ref a)::some (.ref p)::List.replicate r none:=by rw[hN1];rfl
  rw[e1]
  have hnone:∀i (u:W),(none::some (.pen p)::List.replicate r none:Ev)[i]?=some (some u)->i=1/\u = .pen p:=fun i u e=>by
   match i,e with
   | 0,e=>simp at e
   | 1,e=>exact⟨rfl,by simpa using e.symm⟩
   | i+2,e=>
    simp only[dh] at e;obtain⟨_,q⟩:=af.mp e
    simp_all
  refine (c2 ⟨some (p,c,ns),J0⟩).choose_spec.1.ex.choose_spec.2.run { A0:=fun _=>False,H0:=fun _=>none,G0:=fun _=>none,σ0:=some (.ref a)::some (.ref p)::List.replicate r none } (fun _=>False) _ H1 _ 0 _ _ ⟨⟨?_,?_,?_,fun _ z=>z.elim⟩,⟨fun _ z=>z,fun _ z=>z.elim,(fun b o (z:(none:Option HO)=some o)=>nomatch z),fun _ z=>z.elim,fun _ z=>z.elim,fun _ z=>z.elim⟩,⟨⟨P1,fun z=>z,fun z=>z⟩,trivial⟩,(fun b o (z:(none:Option HO)=some o)=>nomatch z),⟨fun i hi=>rfl,fun _=>⟨fun b xs (z:(none:Option HO)=some (.lst xs))=>(nomatch z),fun b xs (z:(none:Option HO)=some (.lst xs))=>(nomatch z)⟩⟩,?_⟩ ⟨?_,?_,?_,fun _ z=>z,?_⟩ hs
  ·simp
  ·intro i u e;obtain⟨rfl,rfl⟩:=hnone i u e;exact⟨.ref p,rfl,fun _=>rfl,fun z=>absurd (hM 1 z) (by lia)⟩
  ·intro i j u u' b hi hj hne e1;obtain⟨rfl,rfl⟩:=hnone i u e1;exact absurd (hM 1 hi) (by lia)
  ·intro i u b hi e;obtain⟨rfl,rfl⟩:=hnone i u e;exact absurd (hM 1 hi) (by lia)
  ·intro _ _ _ _ _ _ z;exact z.elim
  ·intro _ _ _ _ _ _ z;exact z.elim
  ·intro _ _ _ _ _ _ z;exact z.elim
  ·intro w n' v H' hv st pn _ r;have r':w = .d (.bl true):=r;subst r';have:v = .bl true:=hv;subst this;exact q H'
open PySem PySem.Spec L2
theorem zgs {α:Type}{l:List W}{ρ0:Ev}{n:Nat}{mg:W->Ev->(Ev->Prop)->Prop}{ft:Ev->Mo Bool}{fe:Ev->Mo W}{Q:W->Nat->Prop}(xs:List α)(toW:α->W)(hl:l=xs.map toW)(J:Ev->Prop)(P:α->Bool)(E:α->Dt)(hlim:xs.length<=lim)(j0:J ρ0)
  (h:∀a∈xs,∀ ρ',J ρ'->∀C:Ev->Nat->Option Dt->Prop,(∀ ρ1,J ρ1->C ρ1 n (if P a then some (E a) else none))->mg (toW a) ρ' fun ρ1=>ft ρ1 n fun b n2=>if b=true then fe ρ1 n2 fun x n3=>∃d,x = .d d/\C ρ1 n3 (some d) else C ρ1 n2 none)
  (fin:Q (.d (.lst ((xs.filter P).map E))) n):zdW mg ft fe ρ0 Q l n:=by
 subst hl;refine⟨by simp_all,fun i ρ' n' acc=>J ρ'/\n'=n/\acc=((xs.take i).filter P).map E,⟨j0,rfl,by simp⟩,?_,?_⟩
 ·rintro i w ρ' n' acc hw ⟨hj,rfl,rfl⟩;rw[aA] at hw;obtain⟨a,ha,rfl⟩:=ax.mp hw
  have:=h a (aw ha) ρ' hj (fun ρ1 n3 o=>match o with
   | some d=>J ρ1/\n3=n'/\((xs.take i).filter P).map E++[d]=((xs.take (i+1)).filter P).map E
   | none=>J ρ1/\n3=n'/\((xs.take i).filter P).map E=((xs.take (i+1)).filter P).map E) (fun ρ1 hj1=>by
    rw[zn ha,dX,aM];by_cases hp:P a=true
    ·simp_all
    ·rw[if_neg hp];exact⟨hj1,rfl,by simp[hp]⟩)
  exact this
 ·grind
theorem ziI {α:Type}{l:List W}{ρ0:Ev}{n:Nat}{mg:W->Ev->(Ev->Prop)->Prop}{fe:Ev->Mo W}{Q:W->Nat->Prop}(xs:List α)(toW:α->W)(hl:l=xs.map toW)(J:Ev->Prop)(E:α->Dt)(hlim:xs.length<=lim)(j0:J ρ0)
  (h:∀a∈xs,∀ ρ',J ρ'->∀C:Ev->Nat->Dt->Prop,(∀ ρ1,J ρ1->C ρ1 n (E a))->mg (toW a) ρ' fun ρ1=>fe ρ1 n fun x n3=>∃d,x = .d d/\C ρ1 n3 d)
  (fin:Q (.d (.lst (xs.map E))) n):zdW mg zrd fe ρ0 Q l n:=by
 subst hl;refine⟨by simp_all,fun i ρ' n' acc=>J ρ'/\n'=n/\acc=(xs.take i).map E,⟨j0,rfl,by simp⟩,?_,?_⟩
 ·rintro i w ρ' n' acc hw ⟨hj,rfl,rfl⟩;rw[aA] at hw;obtain⟨a,ha,rfl⟩:=ax.mp hw;exact h a (aw ha) ρ' hj (fun ρ1 n3 d=>J ρ1/\n3=n'/\(xs.take i).map E++[d]=(xs.take (i+1)).map E) fun ρ1 hj1=>⟨hj1,rfl,by rw[zn ha,aM];rfl⟩
 ·grind
theorem zlg {r:Nat}{ρ:Ev}{n:Nat}{mg:W->Ev->(Ev->Prop)->Prop}{fb:Ms}{k:Kt}(I:Nat->Ev->Nat->Prop)(h0:I 0 ρ n)
  (h:∀i ρ' n',i<r->I i ρ' n'->mg (.d (.int (i:Int))) ρ' fun ρ1=>fb ρ1 n' { k with nx:=I (i+1),ct:=I (i+1),bk:=k.nx }) (hd:∀ ρ' n',I r ρ' n'->k.nx ρ' n'):zlf mg fb ρ k (zfU 0 r) n:=by
 refine⟨I,h0,fun i w ρ' n' hw hI=>?_,fun ρ' n' hI=>hd ρ' n' ?_⟩
 ·unfold zfU at hw;rw[aA] at hw;obtain⟨j,h1,rfl⟩:=ax.mp hw;obtain⟨hi,h2⟩:=af.mp h1;rw[bZ] at h2
  simp_all
 ·unfold zfU at hI
  simp_all
theorem zgQ {α:Type}{l:List W}{ρ:Ev}{n:Nat}{mg:W->Ev->(Ev->Prop)->Prop}{fb:Ms}{k:Kt}(xs:List α)(toW:α->W)(hl:l=xs.map toW)(I:Nat->Ev->Nat->Prop)(h0:I 0 ρ n)
  (h:∀i a ρ' n',xs[i]?=some a->I i ρ' n'->mg (toW a) ρ' fun ρ1=>fb ρ1 n' { k with nx:=I (i+1),ct:=I (i+1),bk:=k.nx }) (hd:∀ ρ' n',I xs.length ρ' n'->k.nx ρ' n'):zlf mg fb ρ k l n:=by
 subst hl;refine⟨I,h0,fun i w ρ' n' hw hI=>?_,fun ρ' n' hI=>hd ρ' n' (by simp_all)⟩;rw[aA] at hw;obtain⟨a,ha,rfl⟩:=ax.mp hw;exact h i a ρ' n' ha hI
theorem ze3 {r:Nat}{ρ:Ev}{n:Nat}{mg:W->Ev->(Ev->Prop)->Prop}{fb:Ms}{k:Kt}(I:Nat->Ev->Nat->Prop)(h0:I 0 ρ n)
  (h:∀i ρ' n',i<r->I i ρ' n'->∀ (C B:Ev->Nat->Prop) (E:W->Nat->Prop),(∀ {ρ m},I (i+1) ρ m->C ρ m)->(∀ {ρ m},k.nx ρ m->B ρ m)->(∀ {w m},k.rt w m->E w m)->mg (.d (.int (i:Int))) ρ' fun ρ1=>fb ρ1 n' { rt:=E,nx:=C,ct:=C,bk:=B }) (hd:∀ ρ' n',I r ρ' n'->k.nx ρ' n'):zlf mg fb ρ k (zfU 0 r) n:=
 zlg I h0 (fun i ρ' n' hi hI=>h i ρ' n' hi hI (I (i+1)) k.nx k.rt (fun z=>z) (fun z=>z) fun z=>z) hd
theorem yf {α:Type}{l:List W}{ρ:Ev}{n:Nat}{mg:W->Ev->(Ev->Prop)->Prop}{fb:Ms}{k:Kt}(xs:List α)(toW:α->W)(hl:l=xs.map toW)(I:Nat->Ev->Nat->Prop)(h0:I 0 ρ n)
  (h:∀i a ρ' n',xs[i]?=some a->I i ρ' n'->∀ (C B:Ev->Nat->Prop) (E:W->Nat->Prop),(∀ {ρ m},I (i+1) ρ m->C ρ m)->(∀ {ρ m},k.nx ρ m->B ρ m)->(∀ {w m},k.rt w m->E w m)->mg (toW a) ρ' fun ρ1=>fb ρ1 n' { rt:=E,nx:=C,ct:=C,bk:=B }) (hd:∀ ρ' n',I xs.length ρ' n'->k.nx ρ' n'):zlf mg fb ρ k l n:=
 zgQ xs toW hl I h0 (fun i a ρ' n' ha hI=>h i a ρ' n' ha hI (I (i+1)) k.nx k.rt (fun z=>z) (fun z=>z) fun z=>z) hd
theorem ziG {α:Type}{l:List W}{ρ0:Ev}{n:Nat}{mg:W->Ev->(Ev->Prop)->Prop}{ft:Ev->Mo Bool}{fe:Ev->Mo W}{Q:W->Nat->Prop}(xs:List α)(toW:α->W)(hl:l=xs.map toW)(hlim:xs.length<=lim)(I:Nat->Ev->Nat->List Dt->Prop)(h0:I 0 ρ0 n [])
  (h:∀i a ρ' n' acc,xs[i]?=some a->I i ρ' n' acc->∀C:Ev->Nat->List Dt->Prop,(∀ {ρ m l},I (i+1) ρ m l->C ρ m l)->mg (toW a) ρ' fun ρ1=>ft ρ1 n' fun b n2=>if b=true then fe ρ1 n2 fun x n3=>∃d,x = .d d/\C ρ1 n3 (acc++[d]) else C ρ1 n2 acc)
  (fin:∀ ρ' n' acc,I xs.length ρ' n' acc->Q (.d (.lst acc)) n'):zdW mg ft fe ρ0 Q l n:=by
 subst hl;refine⟨by simp_all,I,h0,fun i w ρ' n' acc hw hI=>?_,fun ρ' n' acc hI=>fin ρ' n' acc (by simp_all)⟩;rw[aA] at hw;obtain⟨a,ha,rfl⟩:=ax.mp hw;exact h i a ρ' n' acc ha hI (I (i+1)) fun z=>z
theorem zj4 {α:Type}{l:List α}{i:Nat}{x:α}(h:l[i]?=some x):atI l (i:Int)=some x:=by
 have:=(af.mp h).1;unfold atI ixN
 simp_all
theorem znb {α:Type}{l:List α}{i:Int}(h0:0<=i)(h1:i<l.length):∃d,atI l i=some d/\d∈l:=by
 obtain⟨j,rfl⟩:∃j:Nat,i=j:=⟨i.toNat,by lia⟩;have hj:j<l.length:=by lia
 exact⟨l[j],zj4 (aq hj),cw hj⟩
theorem zkM {st:List Int}{b:Int}(h0:0<=b)(h1:b<st.length):atI (st.map Dt.int) b=some (.int (zC st b)):=by
 obtain⟨j,rfl⟩:∃j:Nat,b=j:=⟨b.toNat,by lia⟩;have hj:j<st.length:=by lia
 refine zj4 ?_;rw[aA,aq hj,uj];simp[hj]
open PySem L2
def gw (g:List (Int×Int))(i:Nat):Option Int:=(g.find? fun q=>decide (q.1=(i:Int))).map (·.2)
theorem zk3 (rm:List Int):enW 0 (rm.map Dt.int)=(List.range rm.length).map fun i:Nat=>W.d (.tup [.int (i:Int),.int (rm.getD i 0)]):=by
 apply List.ext_getElem?;intro i;rw[zd3,aA,aA];by_cases h:i<rm.length
 all_goals simp_all
def cho (rm:List Int)(g:List (Int×Int))(i:Nat):List Int:=match gw g i with
 | some w=>[w]
 | none=>zv (rm.getD i 0)
def chs (rm:List Int)(g:List (Int×Int)):List (List Int):=(List.range rm.length).map (cho rm g)
def zqZ (rm:List Int)(g:List (Int×Int)):List (List Int):=zqk (chs rm g)
section
variable {X:Cx}{Pn:PN}{M S:List Nat}{fr fr':Bool}{e a b c:Expr}{es:List Expr}{f fa fb fc:Ev->Mo W}{pos p p2:Pos}
def zlB (fa:Ev->Mo (List W)):Ev->Mo (List W):=fun ρ n Q=>fa ρ n fun ws m=>∃l,ws=[.d (.lst l)]/\Q (enW 0 l) m
theorem zg6 {K:PySem.W.Frag}{A:Addr->Prop}{H:Hp}{ad:Addr}{xs:List V}{l:List Dt}(h:Rd (zO A H) ad (.lst xs))(hl:IsL (zO A H) l xs):ItV false A H (Iel K ad) (enW 0 l) where
 one:=fun i w A2 H2 e s _ hA=>by rw[zd3] at e;obtain⟨d,h1,rfl⟩:=ax.mp e;obtain⟨x,hx,hd⟩:=hl.getD h1;have g:=(s.rdl h).sub;refine⟨⟨xs,x,.inl g,hx⟩,?_⟩;rintro y H3 ⟨T,z,e1,hT,e3,hy⟩;subst e1 e3;have:=hy xs (.inl g);rw[hx] at this;cases this;have S:=yW.upd (o:=.tup [.int i,x]) hT;refine⟨S,Val.of ⟨T,_,rfl,zp (hA T hT) zg,_,_,rfl,?_,_,_,rfl,(hd.stay s).stay (zm.same (zc8 S)),rfl⟩⟩;show V.int (i:Int)=V.int ((0+i:Nat):Int);rw[Nat.zero_add]
 stop:=fun A2 H2 s _=>⟨xs,.inl (s.rdl h).sub,by rw[zgI,hl.length];exact ai _⟩
theorem zi9 {elts:List Expr}{x1}{tpos:Pos}{fs:Ev->Mo (List W)}(hg:Gl X "enumerate")(hm:X.mg "enumerate" = none)(ha:JA X Pn M [a] fs)(hs:starEach [a] X.env=[(false,eval a X.env)]:=by rfl):JI X Pn M false (.Tuple elts x1 tpos) (.Call (.Name "enumerate" p) [a] [] pos) (zlB fs):=by obtain⟨te,q,r⟩:=ha.ex;refine⟨_,zjH hg hm q hs,⟨fun A σ H ρ n Q R E P hf k=>?_⟩⟩;refine r.run A σ H ρ n _ _ E P hf  ?_;rintro ws m vs H1 ⟨l,e,r⟩ hv g;subst e;obtain⟨v,s,rfl,⟨ad,xs,rfl,had,hl⟩,hs⟩:=hv;cases hs;exact⟨ad,rfl,⟨xs,.inl had.sub⟩,k _ m _ H1 r (zg6 had hl) g⟩
def zq4 (i:Nat)(f:Ev->Mo W):Ms:=fun ρ n k=>(∃l,ρ[i]?=some (some (.d (.lst l))))/\f ρ n fun w m=>∃l l2,ρ[i]?=some (some (.d (.lst l)))/\w = .d (.lst l2)/\l.length+l2.length<=lim/\k.nx (ρ.set i (some (.d (.lst (l++l2))))) m
theorem zkl (i:Nat){x:Str}{ap cp sp np:Pos}(he:JE X Pn M fr' e f)(hi:i∈M:=by decide)(hN:X.N[i]?=some x:=by rfl)(hv:Vis X.env.scope x:=by first | exact Or.inl rfl | exact Or.inr (Or.inl rfl) | exact Or.inr (Or.inr rfl))(hd:(x==("__debug__" : Str))=false:=by decide)
  (hcd:(x==("__classdict__" : Str))=false:=by decide) (hs1:starEach (e::[]) X.env=(false,eval e X.env)::starEach [] X.env:=by rfl) (hs:swapsWith (.Call (.Attribute (.Name x np) "extend" ap) [e] [] cp) none sp.line X.env=pure false:=by rfl) (hbase:attributeBase (.Name x np) "extend" X.env (eval (.Name x np) X.env)=eval (.Name x np) X.env:=by rfl) (hline:(ap.endLine==cp.line)=true:=by rfl)
  (hfew:((backTo cp (starEach [e] X.env)).all (fun x=>!x.1)&&(backToKw cp (keywordEach [] X.env)).all (fun x=>x.1.isSome)&&decide (([e]:List Expr).length+([]:List Keyword).length+(if ([]:List Keyword).isEmpty then 0 else 1)<30))=true:=by rfl) (hplain:(backTo cp (starEach [] X.env)).any (·.1)=false:=by rfl) :
  JS X Pn S M fr (.Expr (.Call (.Attribute (.Name x np) "extend" ap) [e] [] cp) sp) (zq4 i f):=by
 obtain⟨te,q,r⟩:=he.ex;refine⟨_,zhZ (zku c8 PySem.F.slot_list_extend PySem.F.type_list_extend zhz (qv i hN hv hd hcd) (zE q yA hs1) hbase hfew hline hs1 hplain) hs,⟨ ?_⟩⟩;rintro B A σ H ρ n k D a kk ⟨⟨l0,e0⟩,hf⟩;obtain⟨ad,xs0,s1,hA,g0,_⟩:=a.own hi e0;refine⟨.ref ad,s1,.inl ⟨rfl,_,SqL.of g0⟩,?_⟩;refine r.run A σ H ρ n _ _ a.env a.pn hf  ?_;rintro w m v H' ⟨l,l2,e,ed,hz,r⟩ hv g _;subst ed;have a':=a.step g;obtain⟨ad2,xs,s2,_,g4,hl⟩:=a'.own hi e;rw[s1] at s2;cases s2;obtain⟨b2,ys,rfl,hb2,hl2⟩:=hv;exact⟨ad,b2,xs,ys,rfl,rfl,g4,hb2.sub,zb3 (by rw[hl.length,hl2.length];exact hz),kk.nx A σ _ _ m (a'.wr hi e s1 (hl.append hl2)) r⟩
def insD {α:Type}(l:List α)(k:Nat)(x:α):List α:=l.take k++x::l.drop k
theorem zpi {n:Nat}{j:Int}(h0:0<=j)(h1:j<n):seqIndex? j n=some j.toNat:=(zg7 (by unfold ixN;rw[if_pos h0,if_pos h1])).1
def zk9:List W->Mo W:=fun ws n Q=>(∃i,ws=[.d (.int i)]/\Q (.d (.int i)) n)\/∃b,ws=[.d (.bl b)]/\Q (.d (.int (if b then 1 else 0))) n
theorem zpK:FL Pn false (fun xs H Q=>(∃i,xs=[.int i]/\Q (.int i) H)\/∃k,xs=[.bl k]/\Q (.int (if k then 1 else 0)) H) zk9:=⟨fun A H xs ws n Q R al b P h k=>by
 rcases h with ⟨i,e,h⟩ | ⟨i,e,h⟩
 ·subst e;obtain⟨v,rfl,bb⟩:=zai b;exact .inl ⟨i,by rw[yI bb],k _ n _ H h (Val.of rfl) (Go.refl P) fun z=>by cases z⟩
 ·subst e;obtain⟨v,rfl,bb⟩:=zai b;exact .inr ⟨i,by rw[zgk bb],k _ n _ H h (Val.of rfl) (Go.refl P) fun z=>by cases z⟩⟩
def zgM:List W->Mo W:=fun ws n Q=>∃ns:List Int,ws=[.d (.lst (ns.map .int))]/\ns.length<64/\∀ns':List Int,ns'.Perm ns->ns'.Pairwise (·<=·)->Q (.d (.lst (ns'.map .int))) n
theorem zmS:FL Pn true zh3 zgM:=⟨by
 rintro A H xs ws n Q R al b P ⟨ns,e,h64,h⟩ k;subst e;obtain⟨v,rfl,bb⟩:=zai b;obtain⟨a,ys,rfl,ha,hl⟩:=yZ bb;obtain rfl:=hl.of_ints;exact⟨a,ns,rfl,ha,h64,fun ns' hp hs p H' np g S=>k _ n _ H' (h ns' hp hs) (xG (H:=H) IsL.ints (zm.same S) (al.new np) g) (Go.same P S) fun z=>xU (H:=H) IsL.ints S np g⟩⟩
def zgO:List W->Mo W:=fun ws n Q=>∃ (sts:List (List Int)) (m:Nat),ws=[.d (.lst (sts.map stD))]/\sts.length<64/\1<=m/\(∀st∈sts,st.length=m)/\sts.Nodup/\∀sts':List (List Int),sts'.Perm sts->(sts'.Pairwise fun a b=>HT.lexLt a b=true)->Q (.d (zfY sts')) n
theorem zmT:FL Pn true zmw zgO:=⟨by
 rintro A H xs ws n Q R al b P ⟨sts,m,e,h64,h1,hm,hnd,h⟩ k;subst e;obtain⟨v,rfl,bb⟩:=zai b;obtain⟨a,ys,rfl,ha,hl⟩:=yZ bb;refine⟨a,ys,sts,m,rfl,ha,hl.stay (zm.same zX),h64,h1,hm,hnd,fun ys' sts' hy hp hs p H' np g S=>?_⟩;have hy':IsL (zO A H) (sts'.map stD) ys':=uD al.noT (zaV sts') hy;exact k _ n _ H' (h sts' hp hs) (xG hy' (zm.same S) (al.new np) g) (Go.same P S) fun z=>xU hy' S np g⟩
def zhQ {κ:Type}[DecidableEq κ](kvs:List (κ×Dt))(k:κ)(d:Dt):List (κ×Dt):=
 if (kvs.any fun kv=>decide (kv.1=k))=true then kvs.map (fun kv=>if kv.1=k then (kv.1,d) else kv) else kvs++[(k,d)]
theorem xQ.any {κ:Type}[DecidableEq κ]{G:Hp}{k:κ}:∀ {kvs:List (κ×Dt)} {ks:List (κ×V)},xQ G kvs ks->(ks.any fun kv=>decide (kv.1=k))=kvs.any fun kv=>decide (kv.1=k)
 | [],_,h=>by cases h;rfl
 | q::r,ks,⟨v,s,e,h1,h2⟩=>by subst e;rw[cj,cj,xQ.any h2]
theorem xQ.map1 {κ:Type}[DecidableEq κ]{G:Hp}{k:κ}{d:Dt}{x:V}(hd:Is G d x):∀ {kvs:List (κ×Dt)} {ks:List (κ×V)},xQ G kvs ks->xQ G (kvs.map fun kv=>if kv.1=k then (kv.1,d) else kv) (ks.map fun kv=>if kv.1=k then (kv.1,x) else kv)
 | [],_,h=>by cases h;rfl
 | q::r,ks,⟨v,s,e,h1,h2⟩=>by
  subst e;rw[av,av];by_cases hq:q.1=k
  ·rw[if_pos hq,if_pos hq];exact⟨x,_,rfl,hd,xQ.map1 hd h2⟩
  ·rw[if_neg hq,if_neg hq];exact⟨v,_,rfl,h1,xQ.map1 hd h2⟩
theorem xQ.snoc {κ:Type}{G:Hp}{k:κ}{d:Dt}{x:V}(hd:Is G d x):∀ {kvs:List (κ×Dt)} {ks:List (κ×V)},xQ G kvs ks->xQ G (kvs++[(k,d)]) (ks++[(k,x)])
 | [],_,h=>by cases h;exact⟨x,[],rfl,hd,rfl⟩
 | q::r,ks,⟨v,s,e,h1,h2⟩=>by subst e;exact⟨v,_,rfl,h1,xQ.snoc hd h2⟩
theorem xQ.put {κ:Type}[DecidableEq κ]{G:Hp}{k:κ}{d:Dt}{x:V}{kvs:List (κ×Dt)}{ks:List (κ×V)}(h:xQ G kvs ks)(hd:Is G d x):xQ G (zhQ kvs k d) (zaL ks k x):=by
 unfold zhQ zaL;rw[h.any];split
 ·exact h.map1 hd
 ·exact h.snoc hd
theorem xQ.len {κ:Type}{G:Hp}:∀ {kvs:List (κ×Dt)} {ks:List (κ×V)},xQ G kvs ks->ks.length=kvs.length
 | [],_,h=>by cases h;rfl
 | q::r,ks,⟨v,s,e,h1,h2⟩=>by subst e;rw[a8,a8,xQ.len h2]
theorem At3.wrX {B:Bs}{A:Addr->Prop}{σ:St}{H:Hp}{ρ:Ev}{n:Nat}(h:At3 Pn B S M A σ H ρ n){i:Nat}{w w':W}{ad:Addr}{o:HO}(hi:i∈M)(e:ρ[i]?=some (some w))(s:σ[i]?=some (some (.ref ad)))(hw:WAt (L2.upd H ad o) (zO A H) w' (.ref ad))(hm':w'.mut=true)(np:NP o)(nt:Mt o):At3 Pn B S M A σ (L2.upd H ad o) (ρ.set i (some w')) n:=by
 obtain⟨v,s1,_,s3⟩:=h.env.val i w e;rw[s] at s1;cases s1;obtain⟨a2,e2,hA,_,_⟩:=s3 hi;cases e2;have hlen:i<ρ.length:=(af.mp e).1
 have hE:EnvR A M σ (L2.upd H ad o) (ρ.set i (some w')):=by
  refine⟨by rw[bD];exact h.env.len,fun j u ej=>?_,fun j q u u' b hj hq hne e1 e2=>?_,fun b hb=>?_⟩
  ·by_cases hj:j=i
   ·subst hj;rw[aH hlen] at ej;cases ej;exact⟨.ref ad,s,fun z=>absurd hi z,fun _=>⟨ad,rfl,hA,by show WAt _ _ _ _;rw[zF hA];exact hw,hm'⟩⟩
   ·rw[ar (Ne.symm hj)] at ej;obtain⟨v,t1,t2,t3⟩:=h.env.val j u ej;refine⟨v,t1,fun z=>?_,fun z=>?_⟩
    ·show WAt _ _ _ _;rw[zF hA];exact t2 z
    ·obtain⟨b,rfl,hb,hbb,hm⟩:=t3 z;have hne:b≠ad:=fun q=>h.env.dis i j w u ad hi z (Ne.symm hj) e ej s (by rw[t1,q]);refine⟨b,rfl,hb,?_,hm⟩;show WAt _ _ _ _;rw[zF hA]
     cases u with
     | d x=>
      cases x with
      | lst l=>obtain⟨a2,xs,e2,g1,g2⟩:=hbb;cases e2;exact⟨b,xs,rfl,by unfold Rd;rw[zc hne];exact g1,g2⟩
      | dct=>obtain⟨a2,xs,e2,g1,g2⟩:=hbb;cases e2;exact⟨b,xs,rfl,by rw[zc hne];exact g1,g2⟩
      | _=>cases hm
     | pen p=>cases hm
     | dk k=>obtain⟨a2,xs,e2,g1,g2⟩:=hbb;cases e2;exact⟨b,xs,rfl,by rw[zc hne];exact g1,g2⟩
     | dt k=>obtain⟨a2,xs,e2,g1,g2⟩:=hbb;cases e2;exact⟨b,xs,rfl,by rw[zc hne];exact g1,g2⟩
     | dn fz k=>obtain⟨a2,xs,e2,g1,g2⟩:=hbb;cases e2;exact⟨b,xs,rfl,g1.imp fun o _ e=>by rw[zc hne];exact e,g2⟩
     | wd d fs kn=>cases hm
     | lf ls=>cases hm
     | cu k=>cases hm
     | ss P w k=>obtain⟨a2,xs,e2,g1,g2⟩:=hbb;cases e2;exact⟨b,xs,rfl,by rw[zc hne];exact g1,g2⟩
     | df k=>obtain⟨a2,ob,xs,e2,g1,g2⟩:=hbb;cases e2;exact⟨b,ob,xs,rfl,by simp_all,g2⟩
     | kf k=>obtain⟨a2,ob,xs,e2,g1,g2⟩:=hbb;cases e2;exact⟨b,ob,xs,rfl,by simp_all,g2⟩
     | ad a x=>cases hm
     | tz kvs x=>cases hm
     | fl k=>obtain⟨a2,ob,xs,e2,g1,g2⟩:=hbb;cases e2;exact⟨b,ob,xs,rfl,by simp_all,g2⟩
  ·have get:∀q (u:W),(ρ.set i (some w'))[q]?=some (some u)->∃u',ρ[q]?=some (some u'):=fun q u z=>by
    by_cases hq:q=i
    ·subst hq;exact⟨w,e⟩
    ·rw[ar (Ne.symm hq)] at z;exact⟨u,z⟩
   obtain⟨v1,f1⟩:=get j u e1;obtain⟨v2,f2⟩:=get q u' e2;exact h.env.dis j q v1 v2 b hj hq hne f1 f2
  ·by_cases hb':b=ad
   ·subst hb';exact⟨_,zg,np,nt⟩
   ·rw[zc hb'];exact h.env.al b hb
 refine⟨hE,⟨h.frm.sub,h.frm.new,fun b o eb nn nc=>?_,h.frm.al,h.frm.cn,fun b z=>(by
  by_cases hb':b=ad
  ·subst hb';exact⟨_,zg,np⟩
  ·rw[zc hb'];exact h.frm.cs b z)⟩,h.pn.upd hA,by rw[zF hA];exact h.prot,h.fix,fun j u b hj ej sj=>?_⟩
 ·have hne:b≠ad:=fun q=>by
   subst q;rcases h.mine i w b hi e s with z | z
   ·exact z o eb nn
   ·exact nc z
  rw[zc hne];exact h.frm.st b o eb nn nc
 ·by_cases hj':j=i
  ·subst hj';exact h.mine j w b hj e sj
  ·rw[ar (Ne.symm hj')] at ej;exact h.mine j u b hj ej sj
end
open PySem PySem.Spec L2
theorem zhx {a c:Int}{n:Nat}(h0:0<=a)(h1:a<=n)(h2:n<=1000000)(c0:0<=c)(c1:c<2147483549):0<=(c+70009) * (2 * a+1)+6133 * a * a+577 * a/\(c+70009) * (2 * a+1)+6133 * a * a+577 * a<=11000000000000000:=by
 have e1:(c+70009) * (2 * a+1)<=2147553558 * 2000001:=Int.mul_le_mul (by lia) (by lia) (by lia) (by lia);have e2:0<=(c+70009) * (2 * a+1):=Int.mul_nonneg (by lia) (by lia);have e3:a * a<=1000000 * 1000000:=Int.mul_le_mul (by lia) (by lia) (by lia) (by lia);have e4:0<=a * a:=Int.mul_nonneg h0 h0
 grind
theorem zmk {X:Cx}(K:PySem.W.Frag)(hK:X.K=K){o e:Expr}{es:List Expr}{to:TE}{t:TA}{apos cpos:Pos}(ho:QE X o to)(ha:QA X (e::es) t)
  (hbase:attributeBase o "pop" X.env (eval o X.env)=eval o X.env:=by rfl)
  (hfew:((backTo cpos (starEach (e::es) X.env)).all (fun x=>!x.1)&&(backToKw cpos (keywordEach [] X.env)).all (fun x=>x.1.isSome)
   && decide ((e::es).length+([]:List Keyword).length+(if ([]:List Keyword).isEmpty then 0 else 1)<30))=true:=by rfl)
  (hline:(apos.endLine==cpos.line)=true:=by rfl) (hs:starEach (e::es) X.env=(false,eval e X.env)::starEach es X.env:=by rfl) (hplain:(backTo cpos (starEach es X.env)).any (·.1)=false:=by rfl) :
  QE X (.Call (.Attribute o "pop" apos) (e::es) [] cpos) (tBM K "list" zkx to t):=by
 subst hK;exact zku c8 PySem.F.slot_list_pop PySem.F.type_list_pop zjk ho ha hbase hfew hline hs hplain
def zkC:Sp:=fun vs H Q E=>∃ (p c a:Addr) (ns:List Int) (n:Nat) (xs:List V),vs=[.ref p,.ref a]/\Pen H p c ns n/\n+xs.length<=1000000/\xs.length<=100000/\Rd H a (.lst xs)/\
 ∀b ys H',H b=none->H' b=some (.lst ys)->ys.Perm xs->Pen H' p c ns (n+xs.length)->zm H H'->Q (.ref b) H'
theorem zi3 {G:Hp}{xs ys:List V}(h:ys.Perm xs):∀ {l:List Dt},IsL G l xs->∃l':List Dt,l'.Perm l/\IsL G l' ys:=by
 induction h with
 | nil=>intro l h;exact⟨l,.refl _,h⟩
 | cons x _ ih=>
  intro l h
  match l,h with
  | [],h=>exact absurd h (by intro z;cases z)
  | d::ds,⟨x',r,e,h1,h2⟩=>
   cases e;obtain⟨l',p,h3⟩:=ih h2;exact⟨d::l',p.cons d,x,_,rfl,h1,h3⟩
 | swap x y s=>
  intro l h
  match l,h with
  | [],h=>exact absurd h (by intro z;cases z)
  | [_],⟨_,_,e,_,h2⟩=>cases e;exact absurd h2 (by intro z;cases z)
  | d::e::ds,⟨_,_,q,h1,_,_,q2,h3,h4⟩=>
   cases q;cases q2;exact⟨e::d::ds,.swap _ _ _,_,_,rfl,h3,_,_,rfl,h1,h4⟩
 | trans _ _ ih1 ih2=>
  intro l h;obtain⟨l1,p1,h1⟩:=ih2 h;obtain⟨l2,p2,h2⟩:=ih1 h1;exact⟨l2,p2.trans p1,h2⟩
def zga:FV:=fun Pn ws n R=>∃p c ns l,Pn=⟨some (p,c,ns),J0⟩/\ws=[.pen p,.d (.lst l)]/\n+l.length<=1000000/\l.length<=100000/\∀l':List Dt,l'.Perm l->R (.d (.lst l')) (n+l.length)
theorem zhk:zpS 2 true zga zkC:=by rintro vs H Q E ⟨Pn,A,ws,n,R,al,hv,hl,hp,⟨p,c,ns,l,rfl,rfl,h1,h2,h4⟩,q⟩;obtain⟨v,y,rfl,b1,b2⟩:=zpO hv;have e1:v = .ref p:=b1;subst e1;obtain⟨a,xs,rfl,ha,hx⟩:=b2;have hlen:=hx.length;refine⟨p,c,a,ns,n,xs,rfl,hp.1.1,by lia,by lia,ha.sub,fun b ys H' hb hb' hperm P' S'=>?_⟩;obtain⟨l',pl,hl'⟩:=zi3 hperm hx;refine q _ _ _ H' (h4 l' pl) (xG hl' S' (al.new hb) hb') ⟨S',⟨by simp_all,hp.1.2⟩,trivial⟩ fun _=>⟨b,rfl,.of hb,⟨_,hb',rfl⟩,b,ys,rfl,.inl hb',hl'.stay (yp S' (.of hb))⟩
theorem zeR {α:Type}:∀ {l:List α} {k:Nat} (h:k<l.length),(l[k]::l.eraseIdx k).Perm l
 | [],_,h=>absurd h (by simp)
 | x::l,0,_=>.refl _
 | x::l,k+1,h=>by have:=zeR (l:=l) (k:=k) (by simpa using h);simp only[List.getElem_cons_succ,List.eraseIdx_cons_succ];exact (List.Perm.swap x _ _).trans (this.cons x)
theorem zfG {xs ys zs:List V}{k:Nat}(hk:k<zs.length)(h:(ys++zs).Perm xs):(ys++[zs[k]]++zs.eraseIdx k).Perm xs:=by refine .trans ?_ h;rw[bR];exact (zeR hk).append_left ys
section
variable {X:Cx}{Pn:PN}{M S:List Nat}{fr fr':Bool}{e a b c:Expr}{es:List Expr}{f fa fb fc:Ev->Mo W}{pos p:Pos}
theorem xQ.keys {κ:Type}{G:Hp}:∀ {kvs:List (κ×Dt)} {ks:List (κ×V)},xQ G kvs ks->ks.map (·.1)=kvs.map (·.1)
 | [],_,h=>by cases h;rfl
 | q::r,_,⟨v,s,e,_,h⟩=>by subst e;rw[av,av,xQ.keys h]
theorem WAt.mv {T T' G G':Hp}{w:W}{ad:Addr}(t:∀o,T ad=some o->T' ad=some o)(g:yW G G')(m:w.mut=true)(h:WAt T G w (.ref ad)):WAt T' G' w (.ref ad):=by
 cases w with
 | d x=>
  cases x with
  | lst l=>obtain⟨a2,xs,e2,g1,g2⟩:=h;cases e2;exact⟨ad,xs,rfl,g1.imp (t _) fun⟨o,g1⟩=>⟨o,t _ g1⟩,g2.stay (zm.same g)⟩
  | dct=>obtain⟨a2,xs,e2,g1,g2⟩:=h;cases e2;exact⟨ad,xs,rfl,t _ g1,g2⟩
  | _=>cases m
 | pen p=>cases m
 | dk k=>obtain⟨a2,xs,e2,g1,g2,g3⟩:=h;cases e2;exact⟨ad,xs,rfl,t _ g1,g2.stay (zm.same g),g3⟩
 | dt k=>obtain⟨a2,xs,e2,g1,g2⟩:=h;cases e2;exact⟨ad,xs,rfl,t _ g1,g2.stay (zm.same g)⟩
 | dn fz k=>obtain⟨a2,xs,e2,g1,g2,g3⟩:=h;cases e2;exact⟨ad,xs,rfl,g1.imp fun o _ e=>t _ e,g2.stay (zm.same g),g3.stay (zm.same g)⟩
 | wd d fs kn=>cases m
 | lf ls=>cases m
 | cu k=>cases m
 | ss P w k=>obtain⟨a2,xs,e2,g1,g2⟩:=h;cases e2;exact⟨ad,xs,rfl,t _ g1,g2.stay (zm.same g)⟩
 | df k=>obtain⟨a2,ob,xs,e2,g1,g2⟩:=h;cases e2;exact⟨ad,ob,xs,rfl,t _ g1,g2.stay (zm.same g)⟩
 | kf k=>obtain⟨a2,ob,xs,e2,g1,g2⟩:=h;cases e2;exact⟨ad,ob,xs,rfl,t _ g1,g2.stay (zm.same g)⟩
 | ad a x=>cases m
 | tz kvs x=>cases m
 | fl k=>obtain⟨a2,ob,xs,e2,g1,g2⟩:=h;cases e2;exact⟨ad,ob,xs,rfl,t _ g1,g2.stay (zm.same g)⟩
def znS (i j:Nat):Ms:=fun ρ n k=>∃w,ρ[j]?=some (some w)/\k.nx ((ρ.set j none).set i (some w)) n
end
open PySem PySem.Spec L2
end L3
namespace L3
open PySem PySem.Spec L2
structure StOk (rm st:List Int):Prop where
 len:st.length=rm.length
 box:∀b:Int,0<=b->b<rm.length->0<=zC st b/\zC st b<zC rm b
def zql (rm:List Int)(bk:List Wi)(g:List (Int×Int)):List (List Int):=(zqZ rm g).filter fun st=>decide (zam bk st (g.map (·.1))=[])
@[reducible] def zaJ (bk:List Wi):Dt:=.tup (bk.map uJ)
def zaO (rm:List Int)(bk:List Wi):Prop:=∀x∈bk,WishOk rm x
@[reducible] def F_bett:FV:=fun _ ws n R=>∃rm bk st hs,ws=[.d (stD rm),.d (zaJ bk),.d (stD st),.d (stD hs)]/\RoomOk rm/\zaO rm bk/\st.length=rm.length/\R (.d (zfY (zj6 bk st hs))) n
@[reducible] def zpQ:FV:=fun _ ws n R=>∃rm bk g,ws=[.d (stD rm),.d (zaJ bk),.d (uC g)]/\RoomOk rm/\zaO rm bk/\Giv rm g/\R (.d (zfY (zql rm bk g))) n
theorem um (r:Nat):zfU 0 r=(List.range r).map fun k:Nat=>W.d (.int (k:Int)):=by
 unfold zfU
 simp_all
theorem zna {L:List Dt}{a:Int}{G:Dt->Prop}(h0:0<=a)(h1:a<L.length)(h:∀x∈L,G x):∃x,atI L a=some x/\G x:=by obtain⟨d,h2,h3⟩:=znb h0 h1;exact⟨d,h2,h d h3⟩
theorem xh {α β:Type}(f:α->β)(l:List α)(lo hi:Option Int):xp (l.map f) lo hi=(xp l lo hi).map f:=by
 unfold xp
 simp_all
theorem zkW {α:Type}{l:List α}{lo hi:Option Int}{x:α}(h:x∈xp l lo hi):x∈l:=List.mem_of_mem_drop (aY h)
theorem xg {α:Type}(l:List α)(lo hi:Option Int):(xp l lo hi).length<=l.length:=by unfold xp;rw[aQ,eD];lia
theorem znl {st:List Int}{b w:Int}(h0:0<=b):xp st none (some b)++[w]++xp st (some (b+1)) none=chg st b w:=by
 have h:=zkQ st (w:=w) h0;have e1:zbR (st.map V.int) none (some b)=(xp st none (some b)).map V.int:=by rw[<- xh];rfl
 have e2:zbR (st.map V.int) (some (b+1)) none=(xp st (some (b+1)) none).map V.int:=by rw[<- xh];rfl
 rw[e1,e2] at h;have e3:(xp st none (some b)).map V.int++[V.int w]++(xp st (some (b+1)) none).map V.int=(xp st none (some b)++[w]++xp st (some (b+1)) none).map V.int:=by rw[aM,aM];rfl
 rw[e3] at h;exact List.map_inj_right (by grind) |>.mp h
theorem zaO.cut {rm:List Int}{bk:List Wi}(h:zaO rm bk)(lo hi:Option Int):zaO rm (xp bk lo hi):=fun x hx=>h x (zkW hx)
theorem zaO.app {rm:List Int}{bk bk':List Wi}(h:zaO rm bk)(h':zaO rm bk'):zaO rm (bk++bk'):=fun x hx=>(aN.mp hx).elim (h x) (h' x)
theorem uU {α:Type}(l:List α)(k:Nat):xp l none (some (k:Int))=l.take k:=by
 unfold xp;rw[HT.sIx_none,HT.sIx_nat,dZ,eL]
 grind
theorem zb0 (bk:List Wi)(x:Wi)(st hs:List Int):zam (bk++[x]) st hs=zam bk st hs++(if (zbT st x&&!hs.contains x.b)=true then [chg st x.b x.r] else []):=by
 unfold zam
 grind
theorem ui {ns:List Int}:(Dt.lst (ns.map .int)).eqOk:=zba (ns:=ns)
theorem zkP {st:List Int}{b x:Int}{n:Nat}{Q:W->Nat->Prop}(b0:0<=b)(hz:st.length<=1000)(h:Q (.d (stD (chg st b x))) n):zd4 (.d (.tup (xp (st.map Dt.int) none (some b)))) (.d (.tup [.int x])) n fun w m=>zd4 w (.d (.tup (xp (st.map Dt.int) (some (b+1)) none))) m Q:=by
 have c1:=xg st none (some b);have c2:=xg st (some (b+1)) none;rw[xh,xh];refine⟨_,_,rfl,rfl,by rw[ab];exact ao (by simp;lia:_<=1001) (by decide),_,_,rfl,rfl,by rw[aD,ab,ab];exact ao (by simp;lia:_<=2001) (by decide),?_⟩
 have e:(xp st none (some b)).map Dt.int++[Dt.int x]++(xp st (some (b+1)) none).map Dt.int=(chg st b x).map Dt.int:=by rw[<- znl b0,aM,aM];rfl
 rw[e];exact h
section
variable {X:Cx}{Pn:PN}{M S:List Nat}{fr fr':Bool}{e a b c:Expr}{es:List Expr}{f fa fb fc:Ev->Mo W}{pos p:Pos}
end
end L3
namespace L2
open PySem PySem.Spec PyProof.Rows
section
variable {prog:Program}{w:World}{A:Around}{E:Value->Shared->Prop}{R:Result->Shared->Prop}{s:Shared}
end
section
variable {X:Cx}{pins:List (Addr×Obj)}{σ:St}{H:Hp}{s:Shared}{a:Addr}{y v:V}{u r:Value}{o:Option V}{A:Around}{E:Value->Shared->Prop}
end
section
variable {X:Cx}{Fam:Cx->Prop}{scope:Scope}{N:List Str}{cix:List (Option Nat)}{z:Str}{use:Option (Value->Sem Unit)}{Qp:Value->Shared->Prop}{elt ke ve tg iter tg2 iter2:Expr}{ifs ifs2:List Expr}{pos ipos spos px:Pos}{wi wi2:TI}{g g2:TG}{ti ti2:TT}{te tk tv:TE}{pins:List (Addr×Obj)}{σ:St}{H:Hp}{s:Shared}{Q:VK}{o0:HO}
end
section
variable {X:Cx}{pins:List (Addr×Obj)}{σ:St}{H:Hp}{A:Around}
end
end L2
namespace L3
open PySem PySem.Spec L2
section
variable {X:Cx}{Pn:PN}{M S:List Nat}{fr fr':Bool}{e a b c:Expr}{es:List Expr}{f fa fb fc:Ev->Mo W}{pos p:Pos}
def zns (mg:W->Ev->(Ev->Prop)->Prop)(ft:Ev->Mo Bool)(fk fv:Ev->Mo W)(ρ0:Ev)(Q:W->Nat->Prop):List W->Nat->Prop:=fun l n1=>l.length<=lim/\∃I:Nat->Ev->Nat->List (List Int×Dt)->Prop,I 0 ρ0 n1 []/\
 (∀i w ρ' n' acc,l[i]?=some w->I i ρ' n' acc->mg w ρ' fun ρ1=>ft ρ1 n' fun b n2=>if b=true then fk ρ1 n2 fun y n3=>fv ρ1 n3 fun x n4=>∃st d,y = .d (stD st)/\x = .d d/\I (i+1) ρ1 n4 (zhQ acc st d) else I (i+1) ρ1 n2 acc)/\
 ∀ ρ' n' acc,I l.length ρ' n' acc->Q (.dt acc) n'
@[reducible] def zq3 (fi:Ev->Mo (List W)) (mg:W->Ev->(Ev->Prop)->Prop) (ft:Ev->Mo Bool) (fk fv:Ev->Mo W) (cix:List (Option Nat)):Ev->Mo W:=fun ρ n Q=>fi ρ n (zns mg ft fk fv (uK ρ cix) Q)
def znr (mg:W->Ev->(Ev->Prop)->Prop)(ft:Ev->Mo Bool)(fk fv:Ev->Mo W)(ρ0:Ev)(Q:W->Nat->Prop):List W->Nat->Prop:=fun l n1=>l.length<=lim/\∃I:Nat->Ev->Nat->List (Key×Dt)->Prop,I 0 ρ0 n1 []/\
 (∀i w ρ' n' acc,l[i]?=some w->I i ρ' n' acc->mg w ρ' fun ρ1=>ft ρ1 n' fun b n2=>if b=true then fk ρ1 n2 fun y n3=>fv ρ1 n3 fun x n4=>∃ (j:Int) (d:Dt),y = .d (.int j)/\x = .d d/\I (i+1) ρ1 n4 (zhQ acc (Sum.inl j) d) else I (i+1) ρ1 n2 acc)/\
 ∀ ρ' n' acc,I l.length ρ' n' acc->Q (.dk acc) n'
@[reducible] def zq2 (fi:Ev->Mo (List W)) (mg:W->Ev->(Ev->Prop)->Prop) (ft:Ev->Mo Bool) (fk fv:Ev->Mo W) (cix:List (Option Nat)):Ev->Mo W:=fun ρ n Q=>fi ρ n (znr mg ft fk fv (uK ρ cix) Q)
end
open PySem PySem.Spec L2
@[reducible] def onI (w:W) (P:Int->Prop):Prop:=match w with | .d (.int i)=>P i | _=>False
@[reducible] def onB (w:W) (P:Bool->Prop):Prop:=match w with | .d (.bl i)=>P i | _=>False
@[reducible] def onT (w:W) (P:List Dt->Prop):Prop:=match w with | .d (.tup i)=>P i | _=>False
@[reducible] def onL (w:W) (P:List Dt->Prop):Prop:=match w with | .d (.lst i)=>P i | _=>False
@[reducible] def onS (w:W) (P:List Dt->Prop):Prop:=match w with | .d (.lst i)=>P i | .d (.tup i)=>P i | _=>False
@[reducible] def onD (w:W) (P:Dt->Prop):Prop:=match w with | .d i=>P i | _=>False
@[reducible] def onK (w:W) (P:List (Key×Dt)->Prop):Prop:=match w with | .dk i=>P i | _=>False
@[reducible] def onE (w:W) (P:List (List Int×Dt)->Prop):Prop:=match w with | .dt i=>P i | _=>False
@[reducible] def onO {α:Type} (o:Option α) (P:α->Prop):Prop:=match o with | some i=>P i | none=>False
@[reducible] def onC (c:Bool) (A B:Prop):Prop:=match c with | true=>A | false=>B
@[reducible] def on1 (l:List W) (P:W->Prop):Prop:=match l with | [a]=>P a | _=>False
@[reducible] def on2 (l:List W) (P:W->W->Prop):Prop:=match l with | [a,b]=>P a b | _=>False
@[reducible] def onV:Ev->Nat->(W->Prop)->Prop
 | [],_,_=>False
 | a::_,0,P=>onO a P
 | _::r,i+1,P=>onV r i P
@[reducible] def onP:Ev->Nat->W->(Ev->Prop)->Prop
 | [],_,_,Q=>Q []
 | _::r,0,w,Q=>Q (some w::r)
 | a::r,i+1,w,Q=>onP r i w fun r'=>Q (a::r')
@[reducible] def onN:Ev->Nat->(Ev->Prop)->Prop
 | [],_,Q=>Q []
 | _::r,0,Q=>Q (none::r)
 | a::r,i+1,Q=>onN r i fun r'=>Q (a::r')
@[reducible] def zbt {α:Type}:Nat->List α->Prop->Prop
 | 0,[],P=>P
 | k+1,_::r,P=>zbt k r P
 | _,_,_=>False
theorem x5 {w:W}{P:Int->Prop}:onI w P = ∃i,w = .d (.int i)/\P i:=propext ⟨fun h=>by rcases w with (x|x|x|x|_|_) <;> first | exact False.elim h | (cases x <;> first | exact False.elim h | exact⟨_,rfl,h⟩),by simp_all⟩
theorem zfg {w:W}{P:Bool->Prop}:onB w P = ∃i,w = .d (.bl i)/\P i:=propext ⟨fun h=>by rcases w with (x|x|x|x|_|_) <;> first | exact False.elim h | (cases x <;> first | exact False.elim h | exact⟨_,rfl,h⟩),by rintro⟨i,e,h⟩;subst e;exact h⟩
theorem zbv {w:W}{P:List Dt->Prop}:onT w P = ∃i,w = .d (.tup i)/\P i:=propext ⟨fun h=>by rcases w with (x|x|x|x|_|_) <;> first | exact False.elim h | (cases x <;> first | exact False.elim h | exact⟨_,rfl,h⟩),by simp_all⟩
theorem x6 {w:W}{P:List Dt->Prop}:onL w P = ∃i,w = .d (.lst i)/\P i:=propext ⟨fun h=>by rcases w with (x|x|x|x|_|_) <;> first | exact False.elim h | (cases x <;> first | exact False.elim h | exact⟨_,rfl,h⟩),by simp_all⟩
theorem zkr {w:W}{P:List Dt->Prop}:onS w P = ∃i,(w = .d (.lst i)\/w = .d (.tup i))/\P i:=propext ⟨fun h=>by rcases w with (x|x|x|x|_|_) <;> first | exact False.elim h | (cases x <;> first | exact False.elim h | exact⟨_,.inl rfl,h⟩ | exact⟨_,.inr rfl,h⟩),by rintro⟨i,e,h⟩;rcases e with e | e <;> subst e <;> exact h⟩
theorem xH {w:W}{P:Dt->Prop}:onD w P = ∃i,w = .d i/\P i:=propext ⟨fun h=>by cases w <;> first | exact False.elim h | exact⟨_,rfl,h⟩,by simp_all⟩
theorem zhF {w:W}{P:List (Key×Dt)->Prop}:onK w P = ∃i,w = .dk i/\P i:=propext ⟨fun h=>by cases w <;> first | exact False.elim h | exact⟨_,rfl,h⟩,by simp_all⟩
theorem zdx {α:Type}{w:Option α}{P:α->Prop}:onO w P = ∃i,w=some i/\P i:=propext ⟨fun h=>by cases w <;> first | exact False.elim h | exact⟨_,rfl,h⟩,by simp_all⟩
theorem zbs {c:Bool}{A B:Prop}:onC c A B=if c=true then A else B:=by cases c <;> simp[onC]
theorem ux {l:List W}{P:W->Prop}:on1 l P = ∃a,l=[a]/\P a:=propext ⟨fun h=>by rcases l with (_|⟨a,_|⟨b,l⟩⟩) <;> first | exact False.elim h | exact⟨_,rfl,h⟩,by simp_all⟩
theorem u7:∀ {ρ:Ev} {i:Nat} {P:W->Prop},onV ρ i P = ∃w,ρ[i]?=some (some w)/\P w
 | [],i,P=>by simp[onV]
 | some w::r,0,P=>by simp[onV]
 | none::r,0,P=>by simp[onV]
 | some w::r,i+1,P=>by simpa [onV] using u7 (ρ:=r) (i:=i) (P:=P)
 | none::r,i+1,P=>by simpa [onV] using u7 (ρ:=r) (i:=i) (P:=P)
theorem zbu:∀ {ρ:Ev} {i:Nat} {w:W} {Q:Ev->Prop},onP ρ i w Q=Q (ρ.set i (some w))
 | [],i,w,Q=>rfl
 | a::r,0,w,Q=>rfl
 | a::r,i+1,w,Q=>by rw[onP,zbu];rfl
theorem zkq:∀ {ρ:Ev} {i:Nat} {Q:Ev->Prop},onN ρ i Q=Q (ρ.set i none)
 | [],i,Q=>rfl
 | a::r,0,Q=>rfl
 | a::r,i+1,Q=>by rw[onN,zkq];rfl
theorem zaW {α:Type}:∀ {k:Nat} {l:List α} {P:Prop},zbt k l P=(l.length=k/\P)
 | 0,[],P=>by simp[zbt]
 | 0,a::r,P=>by simp[zbt]
 | k+1,[],P=>by simp[zbt]
 | k+1,a::r,P=>by simp[zbt,zaW (l:=r)]
theorem zas {P:Prop}[Decidable P]{A B:Prop}(h1:P->A)(h2:¬ P->B):onC (decide P) A B:=by
 by_cases h:P
 all_goals simp_all
theorem zrk {P:Prop}[Decidable P]{A B:Prop}(h1:¬ P->A)(h2:P->B):onC (!decide P) A B:=by
 by_cases h:P
 all_goals simp_all
theorem zn4 {c:Bool}{A B:Prop}(h1:c=true->A)(h2:c=false->B):onC c A B:=by
 cases c
 ·exact h2 rfl
 ·exact h1 rfl
theorem zrl {c:Bool}{A B:Prop}(h:c=true)(h1:A):onC c A B:=by subst h;exact h1
theorem zrj {c:Bool}{A B:Prop}(h:c=false)(h1:B):onC c A B:=by subst h;exact h1
theorem zn5 {α:Type}{o:Option α}{a:α}{P:α->Prop}(e:o=some a)(h:P a):onO o P:=by subst e;exact h
theorem onA {st:List Int}{b:Int}{P:Dt->Prop}(h0:0<=b)(h1:b<st.length)(h:P (.int (zC st b))):onO (atI (st.map Dt.int) b) P:=zn5 (zkM h0 h1) h
theorem zn3 {L:List Dt}{a:Int}{P:Dt->Prop}(h0:0<=a)(h1:a<L.length)(h:∀x∈L,P x):onO (atI L a) P:=by obtain⟨x,e,hx⟩:=zna h0 h1 h;exact zn5 e hx
section
variable {X:Cx}{Pn:PN}{M S:List Nat}{fr fr':Bool}{e a b c:Expr}{es:List Expr}{f fa fb fc g:Ev->Mo W}{pos p:Pos}{t u:Ev->Mo Bool}{fs gs:Ev->Mo (List W)}
theorem wE (h:f=g)(j:JE X Pn M fr e f):JE X Pn M fr e g:=h ▸ j
theorem wB (h:f=g)(j:JB X Pn M e f):JB X Pn M e g:=h ▸ j
theorem wT (h:t=u)(j:JT X Pn M e t):JT X Pn M e u:=h ▸ j
theorem wW (h:t=u)(j:JW X Pn M e t):JW X Pn M e u:=h ▸ j
theorem wO {f g:Ev->Mo (Option Int)}{e:Option Expr}(h:f=g)(j:JO X Pn M e f):JO X Pn M e g:=h ▸ j
theorem wG {f g:W->Ev->(Ev->Prop)->Prop}(h:f=g)(j:JG X S M e f):JG X S M e g:=h ▸ j
theorem wH {f g:List Dt->Ev->(Ev->Prop)->Prop}(h:f=g)(j:JGs X S M es f):JGs X S M es g:=h ▸ j
theorem wI {tg:Expr}{ow:Bool}(h:fs=gs)(j:JI X Pn M ow tg e fs):JI X Pn M ow tg e gs:=h ▸ j
theorem wS {s:Stmt}{f g:Ms}(h:f=g)(j:JS X Pn S M fr s f):JS X Pn S M fr s g:=h ▸ j
@[reducible] def zqF (i:Nat):Ev->Mo W:=fun ρ n Q=>onV ρ i fun w=>Q w n
theorem zhv {i:Nat}:znV i=zqF i:=by funext ρ n Q;exact u7.symm
theorem kv (i:Nat){x:Str}(hi:i∉M:=by decide)(hN:X.N[i]?=some x:=by rfl)(hv:Vis X.env.scope x:=by first | exact Or.inl rfl | exact Or.inr (Or.inl rfl) | exact Or.inr (Or.inr rfl))(hd:(x==("__debug__" : Str))=false:=by decide)
  (hcd:(x==("__classdict__" : Str))=false:=by decide):JE X Pn M false (.Name x pos) (zqF i):=wE zhv (zqW i hi hN hv hd hcd)
theorem kb (i:Nat){x:Str}(hN:X.N[i]?=some x:=by rfl)(hv:Vis X.env.scope x:=by first | exact Or.inl rfl | exact Or.inr (Or.inl rfl) | exact Or.inr (Or.inr rfl))(hd:(x==("__debug__" : Str))=false:=by decide)
  (hcd:(x==("__classdict__" : Str))=false:=by decide):JB X Pn M (.Name x pos) (zqF i):=wB zhv (zqU i hN hv hd hcd)
@[reducible] def zqE (fa:Ev->Mo W):Ev->Mo Bool:=fun ρ n Q=>fa ρ n fun x m=>onB x fun c=>Q c m
theorem zD:zlF fa=zqE fa:=by funext ρ n Q;simp only[zlF,zqE,zfg]
@[reducible] def dAnd (t u:Ev->Mo Bool):Ev->Mo Bool:=fun ρ n Q=>t ρ n fun c m=>onC c (u ρ m Q) (Q false m)
theorem zeg:zp0 t u=dAnd t u:=by funext ρ n Q;simp only[zp0,dAnd,zbs]
@[reducible] def dOr (t u:Ev->Mo Bool):Ev->Mo Bool:=fun ρ n Q=>t ρ n fun c m=>onC c (Q true m) (u ρ m Q)
theorem zb5:mOr t u=dOr t u:=by funext ρ n Q;simp only[mOr,dOr,zbs]
@[reducible] def dNot (t:Ev->Mo Bool):Ev->Mo Bool:=fun ρ n Q=>t ρ n fun c m=>onC c (Q false m) (Q true m)
theorem x3:zq9 t=dNot t:=by funext ρ n Q;simp only[zq9,dNot];congr 1;funext c m;cases c <;> rfl
@[reducible] def dAndV (fa fb:Ev->Mo W):Ev->Mo W:=fun ρ n Q=>fa ρ n fun x m=>onB x fun c=>onC c (fb ρ m Q) (Q (.d (.bl false)) m)
@[reducible] def dOrV (fa fb:Ev->Mo W):Ev->Mo W:=fun ρ n Q=>fa ρ n fun x m=>onB x fun c=>onC c (Q (.d (.bl true)) m) (fb ρ m Q)
@[reducible] def dNotV (fa:Ev->Mo W):Ev->Mo W:=fun ρ n Q=>fa ρ n fun x m=>onB x fun c=>Q (.d (.bl (!c))) m
@[reducible] def dIf (t:Ev->Mo Bool) (fa fb:Ev->Mo W):Ev->Mo W:=fun ρ n Q=>t ρ n fun c m=>onC c (fa ρ m Q) (fb ρ m Q)
@[reducible] def dI (C:Int->Int->Prop) (g:Int->Int->Dt):W->W->Mo W:=fun x y n Q=>onI x fun i=>onI y fun j=>C i j/\Q (.d (g i j)) n
theorem zk7 {C:Int->Int->Prop}{g:Int->Int->Dt}:fI C g=dI C g:=by funext x y n Q;simp only[dI,x5];exact propext ⟨by rintro⟨i,j,e1,e2,h⟩;exact⟨i,e1,j,e2,h⟩,by rintro⟨i,e1,j,e2,h⟩;exact⟨i,j,e1,e2,h⟩⟩
@[reducible] def dI0 (g:Int->Int->Dt):W->W->Mo W:=fun x y n Q=>onI x fun i=>onI y fun j=>Q (.d (g i j)) n
theorem ze1 {g:Int->Int->Dt}:fI0 g=dI0 g:=by funext x y n Q;simp only[dI0,x5];exact propext ⟨by rintro⟨i,j,e1,e2,h⟩;exact⟨i,e1,j,e2,h⟩,by rintro⟨i,e1,j,e2,h⟩;exact⟨i,j,e1,e2,h⟩⟩
theorem zag:F2 Pn false (rI0 fun i j=>.int (i+j)) (dI0 fun i j=>.int (i+j)):=ze1 ▸ zrV
theorem zpB:F2 Pn false (rI0 fun i j=>.int (i - j)) (dI0 fun i j=>.int (i - j)):=ze1 ▸ zr6
theorem zpz:F2 Pn false (rI zj2 fun i j=>.int (i * j)) (dI zj2 fun i j=>.int (i * j)):=zk7 ▸ zr3
theorem zrT:F2 Pn false (rI (fun _ j=>0<j) fun i j=>.int (i % j)) (dI (fun _ j=>0<j) fun i j=>.int (i % j)):=zk7 ▸ zr2
theorem zrU:F2 Pn false (rI zmX fun i j=>.int (i ^ j.toNat)) (dI zmX fun i j=>.int (i ^ j.toNat)):=zk7 ▸ zr5
theorem u_lt:F2 Pn false (rI0 fun i j=>.bl (decide (i<j))) (dI0 fun i j=>.bl (decide (i<j))):=ze1 ▸ v_lt
theorem zm3:F2 Pn false (rI0 fun i j=>.bl (decide (i<=j))) (dI0 fun i j=>.bl (decide (i<=j))):=ze1 ▸ v_le
@[reducible] def dNeg:W->Mo W:=fun x n Q=>onI x fun i=>Q (.d (.int (-i))) n
@[reducible] def dEq:W->W->Mo W:=fun x y n Q=>onD x fun a=>onD y fun b=>onO (sEq a b) fun r=>Q (.d (.bl r)) n
theorem znw:fEq=dEq:=by
 funext x y n Q;simp only[fEq,dEq,xH,zdx]
 simp_all
@[reducible] def dNe:W->W->Mo W:=fun x y n Q=>onD x fun a=>onD y fun b=>onO (sEq a b) fun r=>Q (.d (.bl (!r))) n
theorem zny:fNe=dNe:=by
 funext x y n Q;simp only[fNe,dNe,xH,zdx]
 simp_all
theorem zkI:F2 Pn false rEq dEq:=znw ▸ v_eq
theorem u_ne:F2 Pn false rNe dNe:=zny ▸ v_ne
@[reducible] def zqp:W->W->Mo W:=fun x y n Q=>onD x fun a=>onD y fun b=>a.eqOk/\b.eqOk/\∀r:Bool,(r=true↔a=b)->Q (.d (.bl r)) n
@[reducible] def zqy:W->W->Mo W:=fun x y n Q=>onD x fun a=>onD y fun b=>a.eqOk/\b.eqOk/\∀r:Bool,(r=true↔a=b)->Q (.d (.bl (!r))) n
theorem zk6:zqJ=zqp:=by
 funext x y n Q;simp only[zqJ,zqp,xH]
 simp_all
theorem zld:zqO=zqy:=by
 funext x y n Q;simp only[zqO,zqy,xH]
 simp_all
theorem zrR:F2 Pn false zp6 zqp:=zk6 ▸ zrX
theorem zmQ:F2 Pn false zqa zqy:=zld ▸ zr4
@[reducible] def dIsB:W->W->Mo W:=fun x y n Q=>onB x fun a=>onB y fun b=>Q (.d (.bl (a==b))) n
@[reducible] def zd0:W->W->Mo W:=fun x y n Q=>onB x fun a=>onB y fun b=>Q (.d (.bl (a != b))) n
theorem zfH:zd5=zd0:=by
 funext x y n Q;simp only[zd5,zd0,zfg]
 simp_all
theorem zf5:F2 Pn false (fun x y H Q=>∃a b,x = .bl a/\y = .bl b/\Q (.bl (a != b)) H) zd0:=zfH ▸ zf6
@[reducible] def dInI:W->W->Mo W:=fun x y n Q=>onI x fun b=>onS y fun l=>∃ns:List Int,l=ns.map .int/\Q (.d (.bl (ns.contains b))) n
@[reducible] def zqA:W->W->Mo W:=fun x y n Q=>onI x fun b=>onS y fun l=>∃ns:List Int,l=ns.map .int/\Q (.d (.bl (!ns.contains b))) n
@[reducible] def xr:Bool->Bool->Bool
 | false,b=>b
 | true,b=>!b
@[reducible] def zqq (neg:Bool):W->W->Mo W:=fun x y n Q=>onD x fun d=>onS y fun ds=>d.eqOk/\(Dt.lst ds).eqOk/\∀b:Bool,(b=true↔d∈ds)->Q (.d (.bl (xr neg b))) n
theorem zr9 {neg b:Bool}:(if neg then !b else b)=xr neg b:=by cases neg <;> rfl
theorem zk8 {neg:Bool}:zqK neg=zqq neg:=by
 funext x y n Q;simp only[zqK,zqq,xH,zkr,zr9]
 simp_all
theorem zpw {neg:Bool}:F2 Pn false (zp7 neg) (zqq neg):=zk8 ▸ zrY
@[reducible] def zqt:W->W->Mo W:=fun x y n Q=>onT x fun l=>onI y fun i=>onO (atI l i) fun d=>Q (.d d) n
@[reducible] def zqs:W->W->Mo W:=fun x y n Q=>onL x fun l=>onI y fun i=>onO (atI l i) fun d=>Q (.d d) n
theorem zlb:zqM=zqt:=by
 funext x y n Q;simp only[zqM,zqt,zbv,x5,zdx]
 simp_all
theorem zla:zqL=zqs:=by
 funext x y n Q;simp only[zqL,zqs,x6,x5,zdx]
 simp_all
theorem zaN {K:PySem.W.Frag}:F2 Pn false (zp9 K) zqt:=zlb ▸ zr0
theorem zjY {K:PySem.W.Frag}:F2 Pn false (zp8 K) zqs:=zla ▸ zrZ
@[reducible] def zkY:W->W->Mo W:=fun x y n Q=>onT x fun l=>onT y fun m=>l.length+m.length<=lim/\Q (.d (.tup (l++m))) n
@[reducible] def zkX:W->W->Mo W:=fun x y n Q=>onL x fun l=>onL y fun m=>l.length+m.length<=lim/\Q (.d (.lst (l++m))) n
theorem ziS:zd4=zkY:=by
 funext x y n Q;simp only[zd4,zkY,zbv]
 simp_all
theorem ziR:zk5=zkX:=by
 funext x y n Q;simp only[zk5,zkX,x6]
 simp_all
theorem yG {K:PySem.W.Frag}:F2 Pn false (zjL K) zkY:=ziS ▸ zpJ
theorem zkH:F2 Pn true zmt zkX:=ziR ▸ zpI
@[reducible] def zk0:W->W->Mo W:=fun x y n Q=>onT x fun l=>onI y fun j=>(1<=j/\j<=1000000/\l.length * j.toNat<=lim)/\Q (.d (.tup (List.replicate j.toNat l).flatten)) n
@[reducible] def dRepL:W->W->Mo W:=fun x y n Q=>onL x fun l=>onI y fun j=>(0<=j/\j<=1000000/\l.length * j.toNat<=lim)/\Q (.d (.lst (List.replicate j.toNat l).flatten)) n
theorem ziU:zle=zk0:=by
 funext x y n Q;simp only[zle,zk0,zbv,x5,and_assoc]
 simp_all
theorem zfy:F2 Pn false zmv zk0:=ziU ▸ zpM
@[reducible] def zqu:List W->Mo W:=fun ws n Q=>on1 ws fun x=>onO (lenD x) fun k=>Q (.d (.int (k:Int))) n
theorem zlc:zqN=zqu:=by
 funext ws n Q;simp only[zqN,zqu,ux,zdx]
 simp_all
theorem zbX {K:PySem.W.Frag}:FL Pn false (fun xs H Q=>∃x n,xs=[x]/\zm7 K x H n/\Q (.int n) H) zqu:=zlc ▸ zr1
@[reducible] def dAbs:List W->Mo W:=fun ws n Q=>on1 ws fun x=>onI x fun i=>Q (.d (.int (if i<0 then -i else i))) n
@[reducible] def dMin:List W->Mo W:=fun ws n Q=>on2 ws fun x y=>onI x fun i=>onI y fun j=>Q (.d (.int (if j<i then j else i))) n
@[reducible] def dMax:List W->Mo W:=fun ws n Q=>on2 ws fun x y=>onI x fun i=>onI y fun j=>Q (.d (.int (if j > i then j else i))) n
@[reducible] def zqn:List W->Mo W:=fun ws n Q=>on1 ws fun x=>onL x fun l=>∃bs:List Bool,l=bs.map .bl/\Q (.d (.bl (bs.all id))) n
theorem zk4:zqI=zqn:=by funext ws n Q;simp only[zqI,zqn,ux,x6];exact propext ⟨by rintro⟨x,e,h⟩;exact⟨_,e,_,rfl,x,rfl,h⟩,by simp_all⟩
theorem zpv:FL Pn false (fun xs H Q=>∃ (p:Addr) (bs:List Bool),xs=[.ref p]/\Rd H p (.lst (bs.map V.bl))/\Q (.bl (bs.all id)) H) zqn:=zk4 ▸ zrW
@[reducible] def znn:List W->Mo W:=fun ws n Q=>on1 ws fun x=>onS x fun l=>Q (.d (.lst l)) n
@[reducible] def zka:List W->Mo W:=fun ws n Q=>on1 ws fun x=>onS x fun l=>Q (.d (.tup l)) n
theorem zpk {ws:List W}{P:List Dt->Prop}:(∃l,(ws=[.d (.lst l)]\/ws=[.d (.tup l)])/\P l)=on1 ws fun x=>onS x P:=by
 simp only[ux,zkr]
 grind
theorem zpy {K:PySem.W.Frag}:FL Pn true (zh2 K) znn:=(show znx=znn by funext ws n Q;exact zpk) ▸ zpL
theorem zbM {K:PySem.W.Frag}:FL Pn false (zew K) zka:=(show zke=zka by funext ws n Q;exact zpk) ▸ zmU
@[reducible] def dDictT:List W->Mo W:=fun ws n Q=>on1 ws fun x=>onT x fun l=>∃ps:List (Int×Dt),l=ps.map prD/\(ps.map (·.1)).Nodup/\ps.length<=1000/\Q (.dk (ps.map kvD)) n
@[reducible] def zkZ:List W->Mo W:=fun ws n Q=>on1 ws fun x=>match x with
 | .d (.int i)=>Q (.d (.int i)) n
 | .d (.bl b)=>Q (.d (.int (if b then 1 else 0))) n
 | _=>False
theorem ziT:zk9=zkZ:=by
 funext ws n Q;simp only[zk9,zkZ,ux];refine propext ⟨fun h=>?_,fun⟨x,e,h⟩=>?_⟩
 ·rcases h with ⟨i,e,h⟩ | ⟨i,e,h⟩
  ·exact⟨_,e,h⟩
  ·exact⟨_,e,h⟩
 ·split at h
  ·exact .inl ⟨_,e,h⟩
  ·exact .inr ⟨_,e,h⟩
  ·exact h.elim
theorem zpx:FL Pn false (fun xs H Q=>(∃i,xs=[.int i]/\Q (.int i) H)\/∃k,xs=[.bl k]/\Q (.int (if k then 1 else 0)) H) zkZ:=ziT ▸ zpK
@[reducible] def zgB:List W->Mo W:=fun ws n Q=>on1 ws fun x=>onL x fun l=>∃ns:List Int,l=ns.map .int/\ns.length<64/\∀ns':List Int,ns'.Perm ns->ns'.Pairwise (·<=·)->Q (.d (.lst (ns'.map .int))) n
theorem zgN:zgM=zgB:=by funext ws n Q;simp only[zgM,zgB,ux,x6];exact propext ⟨by rintro⟨x,e,h⟩;exact⟨_,e,_,rfl,x,rfl,h⟩,by simp_all⟩
theorem zbL:FL Pn true zh3 zgB:=zgN ▸ zmS
@[reducible] def zgC:List W->Mo W:=fun ws n Q=>on1 ws fun x=>onL x fun l=>∃ (sts:List (List Int)) (m:Nat),l=sts.map stD/\sts.length<64/\1<=m/\(∀st∈sts,st.length=m)/\sts.Nodup/\∀sts':List (List Int),sts'.Perm sts->(sts'.Pairwise fun a b=>HT.lexLt a b=true)->Q (.d (zfY sts')) n
theorem zgP:zgO=zgC:=by funext ws n Q;simp only[zgO,zgC,ux,x6];exact propext ⟨by rintro⟨x,m,e,h⟩;exact⟨_,e,_,rfl,x,m,rfl,h⟩,by simp_all⟩
theorem zmR:FL Pn true zmw zgC:=zgP ▸ zmT
@[reducible] def dListD:List W->Mo W:=fun ws n Q=>on1 ws fun x=>onE x fun kvs=>((kvs.map (·.1)).Nodup->Q (.d (.lst ((kvs.map (·.1)).map stD))) n)
end
open PySem PySem.Spec L2
section
variable {fa fb fc f fk fd fv:Ev->Mo W}{t u:Ev->Mo Bool}{fs gs:Ev->Mo (List W)}
@[reducible] def zno (fa:Ev->Mo W):Ev->Mo (Option Int):=fun ρ n Q=>fa ρ n fun x m=>onI x fun i=>Q (some i) m
theorem zy:zlD fa=zno fa:=by funext ρ n Q;simp only[zlD,zno,x5]
@[reducible] def dSlT (fa:Ev->Mo W) (fl fh:Ev->Mo (Option Int)):Ev->Mo W:=fun ρ n Q=>fa ρ n fun x n1=>fl ρ n1 fun lo n2=>fh ρ n2 fun hi n3=>onT x fun l=>Q (.d (.tup (xp l lo hi))) n3
theorem z8 {fl fh:Ev->Mo (Option Int)}:zrb fa fl fh=dSlT fa fl fh:=by funext ρ n Q;simp only[zrb,dSlT,zbv]
@[reducible] def dSlL (fa:Ev->Mo W) (fl fh:Ev->Mo (Option Int)):Ev->Mo W:=fun ρ n Q=>fa ρ n fun x n1=>fl ρ n1 fun lo n2=>fh ρ n2 fun hi n3=>onL x fun l=>Q (.d (.lst (xp l lo hi))) n3
theorem zcz {fl fh:Ev->Mo (Option Int)}:zra fa fl fh=dSlL fa fl fh:=by funext ρ n Q;simp only[zra,dSlL,x6]
@[reducible] def dRevT (fa:Ev->Mo W):Ev->Mo W:=fun ρ n Q=>fa ρ n fun x m=>onT x fun l=>Q (.d (.tup l.reverse)) m
@[reducible] def dRevL (fa:Ev->Mo W):Ev->Mo W:=fun ρ n Q=>fa ρ n fun x m=>onL x fun l=>Q (.d (.lst l.reverse)) m
@[reducible] def dDGet (fd fk:Ev->Mo W):Ev->Mo W:=fun ρ n Q=>fd ρ n fun x n1=>fk ρ n1 fun y n2=>onK x fun kvs=>onO (zpZ y) fun k=>onO (xO kvs k) fun d=>Q (.d d) n2
@[reducible] def dDIn (neg:Bool) (fk fd:Ev->Mo W):Ev->Mo W:=fun ρ n Q=>fk ρ n fun y n1=>fd ρ n1 fun x n2=>onK x fun kvs=>onO (zpZ y) fun k=>Q (.d (.bl (xr neg (xO kvs k).isSome))) n2
@[reducible] def dFn (k:Nat) (F:List W->Mo W) (fs:Ev->Mo (List W)):Ev->Mo W:=fun ρ n Q=>fs ρ n fun ws m=>zbt k ws (F ws m Q)
theorem zu {k:Nat}{F:List W->Mo W}:mFn k F fs=dFn k F fs:=by funext ρ n Q;simp only[mFn,dFn,zaW]
@[reducible] def dFnB (k:Nat) (fr:Bool) (F:List W->Mo W) (fs:Ev->Mo (List W)):Ev->Mo W:=fun ρ n Q=>fs ρ n fun ws m=>zbt k ws (F ws m fun w m'=>W.flat fr w=true/\Q w m')
theorem zht {k:Nat}{fr:Bool}{F:List W->Mo W}:zp2 k fr F fs=dFnB k fr F fs:=by funext ρ n Q;simp only[zp2,dFnB,zaW]
@[reducible] def eN (i:Nat):W->Ev->(Ev->Prop)->Prop:=fun w ρ Q=>onP ρ i w Q
theorem zA {i:Nat}:gN i=eN i:=by funext w ρ Q;exact zbu.symm
@[reducible] def eNl:List Dt->Ev->(Ev->Prop)->Prop:=fun ds ρ Q=>match ds with | []=>Q ρ | _=>False
theorem ut:gNl=eNl:=by
 funext ds ρ Q
 cases ds with
 | nil=>simp[gNl,eNl]
 | cons _ _=>simp[gNl,eNl]
@[reducible] def eCn (g:W->Ev->(Ev->Prop)->Prop) (u:List Dt->Ev->(Ev->Prop)->Prop):List Dt->Ev->(Ev->Prop)->Prop:=fun ds ρ Q=>match ds with | d::r=>g (.d d) ρ fun ρ'=>u r ρ' Q | []=>False
theorem zQ {g:W->Ev->(Ev->Prop)->Prop}{u:List Dt->Ev->(Ev->Prop)->Prop}:gCn g u=eCn g u:=by
 funext ds ρ Q
 cases ds with
 | nil=>simp[gCn,eCn]
 | cons d r=>exact propext ⟨by rintro⟨d',r',e,h⟩;cases e;exact h,fun h=>⟨d,r,rfl,h⟩⟩
@[reducible] def eTp (n:Nat) (u:List Dt->Ev->(Ev->Prop)->Prop):W->Ev->(Ev->Prop)->Prop:=fun w ρ Q=>onT w fun ds=>zbt n ds (u ds ρ Q)
theorem uu {n:Nat}{u:List Dt->Ev->(Ev->Prop)->Prop}:gTp n u=eTp n u:=by funext w ρ Q;simp only[gTp,eTp,zbv,zaW]
@[reducible] def dItL (fa:Ev->Mo W):Ev->Mo (List W):=fun ρ n Q=>fa ρ n fun x m=>onL x fun l=>Q (l.map W.d) m
@[reducible] def dItT (fa:Ev->Mo W):Ev->Mo (List W):=fun ρ n Q=>fa ρ n fun x m=>onT x fun l=>Q (l.map W.d) m
theorem yL:zp3 fa=dItL fa:=by funext ρ n Q;simp only[zp3,dItL,x6]
theorem y3:zq7 fa=dItT fa:=by funext ρ n Q;simp only[zq7,dItT,zbv]
@[reducible] def dItR (fs:Ev->Mo (List W)):Ev->Mo (List W):=fun ρ n Q=>fs ρ n fun ws m=>on1 ws fun x=>onI x fun j=>(j<=1000000/\-1000000<=j)/\Q (zfU 0 j.toNat) m
theorem xl:zq6 fs=dItR fs:=by funext ρ n Q;simp only[zq6,dItR,ux,x5];congr 1;funext ws m;exact propext ⟨by simp_all,by simp_all⟩
@[reducible] def dItR2 (fs:Ev->Mo (List W)):Ev->Mo (List W):=fun ρ n Q=>fs ρ n fun ws m=>on2 ws fun x y=>onI x fun i=>onI y fun j=>(j<=1000000/\-1000000<=j/\i<=1000000/\-1000000<=i)/\Q (zfU i (j - i).toNat) m
@[reducible] def dItE (fs:Ev->Mo (List W)):Ev->Mo (List W):=fun ρ n Q=>fs ρ n fun ws m=>on1 ws fun x=>onT x fun l=>Q (enW 0 l) m
@[reducible] def znm (fs:Ev->Mo (List W)):Ev->Mo (List W):=fun ρ n Q=>fs ρ n fun ws m=>on1 ws fun x=>onL x fun l=>Q (enW 0 l) m
theorem zji:zlB fs=znm fs:=by funext ρ n Q;simp only[zlB,znm,ux,x6];congr 1;funext ws m;exact propext ⟨by simp_all,by simp_all⟩
@[reducible] def dItZ (fs:Ev->Mo (List W)):Ev->Mo (List W):=fun ρ n Q=>fs ρ n fun ws m=>on2 ws fun x y=>onT x fun l=>onT y fun k=>l.length=k.length/\Q (ziW l k) m
@[reducible] def dItZM (fs:Ev->Mo (List W)):Ev->Mo (List W):=fun ρ n Q=>fs ρ n fun ws m=>on2 ws fun x y=>onL x fun l=>onT y fun k=>l.length=k.length/\Q (ziW l k) m
@[reducible] def dItZL (fs:Ev->Mo (List W)):Ev->Mo (List W):=fun ρ n Q=>fs ρ n fun ws m=>on2 ws fun x y=>onL x fun l=>onL y fun k=>Q (ziW l k) m
@[reducible] def dIfS (t:Ev->Mo Bool) (f g:Ms):Ms:=fun ρ n k=>t ρ n fun c m=>onC c (blk f ρ m k) (blk g ρ m k)
theorem yK {f g:Ms}:zq5 t f g=dIfS t f g:=by funext ρ n k;simp only[zq5,dIfS,zbs]
@[reducible] def zqC (i:Nat):Ms:=fun ρ n k=>onV ρ i fun w=>k.rt w n
theorem u4 {i:Nat}:zlE i=zqC i:=by funext ρ n k;exact u7.symm
@[reducible] def dSet (i:Nat) (f:Ev->Mo W):Ms:=fun ρ n k=>f ρ n fun w m=>onP ρ i w fun ρ'=>k.nx ρ' m
theorem zG {i:Nat}:zlA f (gN i)=dSet i f:=by show zlA f (gN i)=zlA f (eN i);rw[zA]
@[reducible] def dOwn (i:Nat) (f:Ev->Mo W):Ms:=fun ρ n k=>f ρ n fun w m=>onC (W.mut w) (onP ρ i w fun ρ'=>k.nx ρ' m) False
theorem y4 {i:Nat}:znT i f=dOwn i f:=by funext ρ n k;simp only[znT,dOwn,zbu (Q:=fun ρ'=>k.nx ρ' _)];congr 1;funext w m;cases h:W.mut w <;> simp
@[reducible] def dApp (i:Nat) (f:Ev->Mo W):Ms:=fun ρ n k=>onV ρ i fun v=>onL v fun l=>f ρ n fun w m=>onD w fun d=>l.length<lim/\onP ρ i (.d (.lst (l++[d]))) fun ρ'=>k.nx ρ' m
theorem zhq {ρ:Ev}{i:Nat}{P:List Dt->Prop}:(onV ρ i fun v=>onL v P) = ∃l,ρ[i]?=some (some (.d (.lst l)))/\P l:=by simp only[u7,x6];exact propext ⟨by simp_all,by simp_all⟩
theorem zbn {i:Nat}:zp1 i f=dApp i f:=by
 funext ρ n k;simp only[zp1,dApp,zhq,xH,zbu (Q:=fun ρ'=>k.nx ρ' _)];refine propext ⟨fun⟨⟨l,e⟩,h⟩=>⟨l,e,?_⟩,fun⟨l,e,h⟩=>⟨⟨l,e⟩,?_⟩⟩
 all_goals
  simp_all
@[reducible] def dExt (i:Nat) (f:Ev->Mo W):Ms:=fun ρ n k=>onV ρ i fun v=>onL v fun l=>f ρ n fun w m=>onL w fun l2=>l.length+l2.length<=lim/\onP ρ i (.d (.lst (l++l2))) fun ρ'=>k.nx ρ' m
theorem zhs {i:Nat}:zq4 i f=dExt i f:=by
 funext ρ n k;simp only[zq4,dExt,zhq];simp only[x6,zbu (Q:=fun ρ'=>k.nx ρ' _)];refine propext ⟨fun⟨⟨l,e⟩,h⟩=>⟨l,e,?_⟩,fun⟨l,e,h⟩=>⟨⟨l,e⟩,?_⟩⟩
 all_goals
  simp_all
@[reducible] def dIns (i:Nat) (fk f:Ev->Mo W):Ms:=fun ρ n k=>onV ρ i fun v=>onL v fun l=>fk ρ n fun y m=>f ρ m fun w m2=>onD w fun d=>onI y fun j=>(0<=j/\j<=l.length/\l.length<lim)/\onP ρ i (.d (.lst (insD l j.toNat d))) fun ρ'=>k.nx ρ' m2
@[reducible] def dPopS (i:Nat) (fk:Ev->Mo W):Ms:=fun ρ n k=>onV ρ i fun v=>onL v fun l=>fk ρ n fun y m=>onI y fun j=>(0<=j/\j<l.length/\l.length<=lim)/\onP ρ i (.d (.lst (l.eraseIdx j.toNat))) fun ρ'=>k.nx ρ' m
@[reducible] def zpW (i:Nat):Ms:=fun ρ n k=>onV ρ i fun v=>onL v fun l=>onP ρ i (.d (.lst l.reverse)) fun ρ'=>k.nx ρ' n
@[reducible] def dPut (i:Nat) (fk f:Ev->Mo W):Ms:=fun ρ n k=>onV ρ i fun v=>onL v fun l=>f ρ n fun w m=>fk ρ m fun y m2=>onD w fun d=>onI y fun j=>(0<=j/\j<l.length)/\onP ρ i (.d (.lst (l.set j.toNat d))) fun ρ'=>k.nx ρ' m2
@[reducible] def onSt (w:W) (P:List Int->Prop):Prop:=∃st,w = .d (stD st)/\P st
@[reducible] def dDGetT (fd fk:Ev->Mo W):Ev->Mo W:=fun ρ n Q=>fd ρ n fun x n1=>fk ρ n1 fun y n2=>onE x fun kvs=>∃st,y = .d (stD st)/\onO (xO kvs st) fun d=>Q (.d d) n2
@[reducible] def dDPutT (i:Nat) (fk f:Ev->Mo W):Ms:=fun ρ n k=>onV ρ i fun v=>onE v fun kvs=>f ρ n fun w m=>fk ρ m fun y m2=>onD w fun d=>∃st,y = .d (stD st)/\kvs.length<lim/\onP ρ i (.dt (zhQ kvs st d)) fun ρ'=>k.nx ρ' m2
@[reducible] def ziM (i j:Nat):Ms:=fun ρ n k=>onV ρ j fun w=>onN ρ j fun ρ1=>onP ρ1 i w fun ρ'=>k.nx ρ' n
theorem zjj {i j:Nat}:znS i j=ziM i j:=by funext ρ n k;simp only[znS,ziM,u7,zbu (Q:=fun ρ'=>k.nx ρ' _),zkq (Q:=fun ρ1=>k.nx (ρ1.set i (some _)) n)]
@[reducible] def dPar (i j:Nat) (fs:Ev->Mo (List W)):Ms:=fun ρ n k=>fs ρ n fun ws m=>on2 ws fun w u=>onP ρ i w fun ρ1=>onP ρ1 j u fun ρ'=>k.nx ρ' m
@[reducible] def dIsi (B:Dt->Bool) (f:Ev->Mo W):Ev->Mo W:=fun ρ n Q=>f ρ n fun w m=>onD w fun d=>Q (.d (.bl (B d))) m
theorem zcx {B:Dt->Bool}:zm0 B f=dIsi B f:=by funext ρ n Q;simp only[zm0,dIsi,xH]
@[reducible] def zeY (fs:Ev->Mo (List W)):Ev->Mo W:=fun ρ n Q=>fs ρ n fun ws m=>on1 ws fun x=>onI x fun j=>(0<=j/\j<=1000)/\Q (.d (.lst (zf7 j.toNat))) m
@[reducible] def znq (fs:Ev->Mo (List W)):Ev->Mo W:=fun ρ n Q=>fs ρ n fun ws m=>on1 ws fun x=>onI x fun j=>(0<=j/\j<=1000)/\Q (.d (.tup (zf7 j.toNat))) m
theorem zo8 {ws:List W}{P:Nat->Prop}:(∃j:Nat,ws=[.d (.int (j:Int))]/\j<=1000/\P j)=on1 ws fun x=>onI x fun j=>(0<=j/\j<=1000)/\P j.toNat:=by simp only[ux,x5];exact propext ⟨by rintro⟨j,e,h1,h⟩;exact⟨_,e,_,rfl,⟨by lia,by lia⟩,by simpa using h⟩,by rintro⟨x,e,j,e2,⟨h1,h2⟩,h⟩;exact⟨j.toNat,by grind,by lia,h⟩⟩
theorem zbo:zcy fs=zeY fs:=by funext ρ n Q;simp only[zcy,zeY];congr 1;funext ws m;exact zo8 (P:=fun j=>Q (.d (.lst (zf7 j))) m)
@[reducible] def dTru (f:Ev->Mo W):Ev->Mo Bool:=fun ρ n Q=>f ρ n fun w m=>onO (truD w) fun b=>Q b m
@[reducible] def zgA (F G:W->W->Mo W) (fa fb fc:Ev->Mo W):Ev->Mo W:=fun ρ n Q=>fa ρ n fun x n1=>fb ρ n1 fun y n2=>F x y n2 fun z n3=>onB z fun k=>onC k (fc ρ n3 fun u n4=>G y u n4 Q) (Q (.d (.bl false)) n3)
theorem zhr {F G:W->W->Mo W}:zdl F G fa fb fc=zgA F G fa fb fc:=by funext ρ n Q;simp only[zdl,zgA,zfg,zbs]
theorem zfd {F G:W->W->Mo W}:zlF (zdl F G fa fb fc)=zqE (zgA F G fa fb fc):=by rw[zhr,zD]
theorem zeU {α:Type}{l:List W}{ρ0:Ev}{n:Nat}{mg:W->Ev->(Ev->Prop)->Prop}{ft:Ev->Mo Bool}{fe:Ev->Mo W}{Q:W->Nat->Prop}(xs:List α)(toW:α->W)(hl:l=xs.map toW)(hlim:xs.length<=lim)(I:Nat->Ev->Nat->List Dt->Prop)(h0:I 0 ρ0 n [])
  (h:∀i a ρ' n' acc,xs[i]?=some a->I i ρ' n' acc->∀C:Ev->Nat->List Dt->Prop,(∀ {ρ m l},I (i+1) ρ m l->C ρ m l)->mg (toW a) ρ' fun ρ1=>ft ρ1 n' fun b n2=>onC b (fe ρ1 n2 fun x n3=>onD x fun d=>C ρ1 n3 (acc++[d])) (C ρ1 n2 acc))
  (fin:∀ ρ' n' acc,I xs.length ρ' n' acc->Q (.d (.lst acc)) n'):zdW mg ft fe ρ0 Q l n:=by
 refine ziG xs toW hl hlim I h0 (fun i a ρ' n' acc ha hI C hC=>?_) fin;have:=h i a ρ' n' acc ha hI C hC;simp only[zbs,xH] at this;exact this
theorem zgq {α:Type}{l:List W}{ρ0:Ev}{n:Nat}{mg:W->Ev->(Ev->Prop)->Prop}{ft:Ev->Mo Bool}{fe:Ev->Mo W}{Q:W->Nat->Prop}(xs:List α)(toW:α->W)(hl:l=xs.map toW)(J:Ev->Prop)(P:α->Bool)(E:α->Dt)(hlim:xs.length<=lim)(j0:J ρ0)
  (h:∀a∈xs,∀ ρ',J ρ'->∀C:Ev->Nat->Option Dt->Prop,(∀ {ρ1},P a=true->J ρ1->C ρ1 n (some (E a)))->(∀ {ρ1},P a=false->J ρ1->C ρ1 n none)->mg (toW a) ρ' fun ρ1=>ft ρ1 n fun b n2=>onC b (fe ρ1 n2 fun x n3=>onD x fun d=>C ρ1 n3 (some d)) (C ρ1 n2 none))
  (fin:Q (.d (.lst ((xs.filter P).map E))) n):zdW mg ft fe ρ0 Q l n:=by
 refine zgs xs toW hl J P E hlim j0 (fun a ha ρ' hj C hC=>?_) fin;have:=h a ha ρ' hj C (fun {ρ1} e z=>by simp_all) fun {ρ1} e z=>by have:=hC ρ1 z;rwa[if_neg (by rw[e];decide)] at this
 simp only[zbs,xH] at this;exact this
theorem zaw {α:Type}{l:List W}{ρ0:Ev}{n:Nat}{mg:W->Ev->(Ev->Prop)->Prop}{fe:Ev->Mo W}{Q:W->Nat->Prop}(xs:List α)(toW:α->W)(hl:l=xs.map toW)(J:Ev->Prop)(E:α->Dt)(hlim:xs.length<=lim)(j0:J ρ0)
  (h:∀a∈xs,∀ ρ',J ρ'->∀C:Ev->Nat->Dt->Prop,(∀ {ρ1},J ρ1->C ρ1 n (E a))->mg (toW a) ρ' fun ρ1=>fe ρ1 n fun x n3=>onD x fun d=>C ρ1 n3 d)
  (fin:Q (.d (.lst (xs.map E))) n):zdW mg zrd fe ρ0 Q l n:=by
 refine ziI xs toW hl J E hlim j0 (fun a ha ρ' hj C hC=>?_) fin;have:=h a ha ρ' hj C fun {ρ1} z=>hC ρ1 z;simp only[xH] at this;exact this
end
open PySem PySem.Spec L2
@[reducible] def rep:Nat->(Ev->Prop)->Prop
 | 0,Q=>Q []
 | k+1,Q=>rep k fun ρ=>Q (none::ρ)
@[reducible] def beg:List W->Nat->(Ev->Prop)->Prop
 | [],r,Q=>rep r Q
 | w::ws,r,Q=>beg ws r fun ρ=>Q (some w::ρ)
theorem zh8:∀ {r:Nat} {Q:Ev->Prop},rep r Q=Q (List.replicate r none)
 | 0,Q=>rfl
 | r+1,Q=>by rw[rep,zh8];rfl
theorem zj5:∀ {ws:List W} {r:Nat} {Q:Ev->Prop},beg ws r Q=Q (ws.map some++List.replicate r none)
 | [],r,Q=>by rw[beg,zh8];rfl
 | w::ws,r,Q=>by rw[beg,zj5];rfl
theorem zn1 {P:Program}{w:World}{K:PySem.W.Frag}{mg:Str->Option Value}{base:Heap}{qual:Str}{st:Stmt}{f:Addr}{fd:FuncData}{N ps:List Str}{k m:Nat}{fr:Bool}{F:PN->List W->Mo W}(M:List Nat)(r:Nat)(okq:(∀vs H Q E,spV m fr F vs H Q E->vs.length=ps.length)->(∀ (cdv:Value) (A:Around) (outer:List Env) (s:Shared) (H:Hp) (vs:List V) (Q:VK) (E:XK),Room k (A.deeper (PyProof.Rows.envOfC qual (zd st) s.heap.objs.size f cdv))->spV m fr F vs H Q E->
   ∃t,QSs (zdO CX0 P w K mg base N qual (zd st) f cdv A outer s H E).nox (ym st) t/\t { nx:=fun _ H'=>Q .non H',rt:=Q } (L2.xF N vs) H)->FnOk P w K mg base CX0 (k+1) f fd ps (spV m fr F)) (hm:m=ps.length) (hM:∀i∈M,m<=i) (hN:N.length=m+r)
  (hbody:∀ (cdv:Value) (A:Around) (outer:List Env) (s:Shared) (H:Hp) (E:XK) (Pn:PN),Room k (A.deeper (PyProof.Rows.envOfC qual (zd st) s.heap.objs.size f cdv))->
   ∃fs,JSs (zdO CX0 P w K mg base N qual (zd st) f cdv A outer s H E).nox Pn [] M fr (ym st) fs/\∀ws n R,F Pn ws n R->beg ws r fun ρ=>fs ρ n { nx:=fun _ n'=>onC fr False (R (.d .non) n'),rt:=R }):FnOk P w K mg base CX0 (k+1) f fd ps (spV m fr F):=by
 refine zn0 M okq hm hM fun cdv A outer s H E Pn hr=>?_;obtain⟨fs,h1,h2⟩:=hbody cdv A outer s H E Pn hr;refine⟨fs,h1,fun ws n R hl hF=>?_⟩;have:=h2 ws n R hF;rw[zj5] at this;have e:zaf N ws=ws.map some++List.replicate r none:=by unfold zaf;rw[hN,hl,Nat.add_sub_cancel_left]
 grind
theorem Fun.okW {P:Program}{w:World}{K:PySem.W.Frag}{mg:Str->Option Value}{base:Heap}{x qual:Str}{st:Stmt}{f:Addr}{fd:FuncData}{N ps:List Str}{k m:Nat}{fr:Bool}{F:PN->List W->Mo W}(M:List Nat)(r:Nat)(Fu:Fun K x qual st f fd)(S:FnScope N ps (zd st))(hm:m=ps.length)(hM:∀i∈M,m<=i)(hN:N.length=m+r)
  (hbody:∀ (cdv:Value) (A:Around) (outer:List Env) (s:Shared) (H:Hp) (E:XK) (Pn:PN),Room k (A.deeper (PyProof.Rows.envOfC qual (zd st) s.heap.objs.size f cdv))->
   ∃fs,JSs (zdO CX0 P w K mg base N qual (zd st) f cdv A outer s H E).nox Pn [] M fr (ym st) fs/\∀ws n R,F Pn ws n R->beg ws r fun ρ=>fs ρ n { nx:=fun _ n'=>onC fr False (R (.d .non) n'),rt:=R }):FnOk P w K mg base CX0 (k+1) f fd ps (spV m fr F):=zn1 M r (fun l b=>Fun.okQ Fu S l b) hm hM hN hbody
@[reducible] def dItS (i:Nat):Ev->Mo (List W):=fun ρ n Q=>onV ρ i fun x=>onS x fun l=>Q (l.map W.d) n
theorem zo5 {fs:Ms}{a b:Option W}{r n:Nat}{k:Kt}(h:rep r fun ρ=>fs (a::b::ρ) n k):fs (a::b::List.replicate r none) n k:=by rw[zh8] at h;exact h
theorem zdV {st:List Int}{b x:Int}(b0:0<=b)(hz:st.length<=1000):xp (st.map Dt.int) none (some b)++[Dt.int x]++xp (st.map Dt.int) (some (b+1)) none=(chg st b x).map Dt.int:=by
 have key:∀z:W,zd4 (.d (.tup (xp (st.map Dt.int) none (some b)))) (.d (.tup [.int x])) 0 (fun w m=>zd4 w (.d (.tup (xp (st.map Dt.int) (some (b+1)) none))) m fun w' _=>w' = .d (stD (chg st b x))):=fun z=>zkP b0 hz rfl;obtain⟨l,m,e1,e2,_,l2,m2,e3,e4,_,h⟩:=key (.d .non)
 grind
theorem zcm {st:List Int}{b:Int}{x:Dt}(hz:st.length<=1000):(xp (st.map Dt.int) none (some b)).length+[x].length<=lim:=by have:=xg (st.map Dt.int) none (some b);rw[ab] at this;exact ao (by simp;lia:_<=1001) (by decide)
theorem zcn {st:List Int}{b c:Int}{x:Dt}(hz:st.length<=1000):(xp (st.map Dt.int) none (some b)++[x]).length+(xp (st.map Dt.int) (some c) none).length<=lim:=by have h1:=xg (st.map Dt.int) none (some b);have h2:=xg (st.map Dt.int) (some c) none;rw[ab] at h1 h2;rw[aD];exact ao (by simp;lia:_<=2001) (by decide)
def scR (mg:W->Ev->(Ev->Prop)->Prop)(ft:Ev->Mo Bool)(fe:Ev->Mo W)(ρ0:Ev)(Q:List (List Int)->Nat->Prop):List W->Nat->Prop:=fun l n1=>∃I:Nat->Ev->Nat->List (List Int)->Prop,I 0 ρ0 n1 []/\
 (∀i w ρ' n' acc,l[i]?=some w->I i ρ' n' acc->mg w ρ' fun ρ1=>ft ρ1 n' fun b n2=>if b=true then fe ρ1 n2 fun x n3=>∃st,x = .d (stD st)/\I (i+1) ρ1 n3 (acc++[st]) else I (i+1) ρ1 n2 acc)/\
 (∀i ρ' n' acc ks,I i ρ' n' acc->List.Nodup ks->(∀z∈ks,z∈acc)->ks.length<300)/\
 ∀ ρ' n' acc ks,I l.length ρ' n' acc->List.Nodup ks->(∀z,z∈ks↔z∈acc)->Q ks n'
@[reducible] def zhu (fi:Ev->Mo (List W)) (mg:W->Ev->(Ev->Prop)->Prop) (ft:Ev->Mo Bool) (fe:Ev->Mo W) (cix:List (Option Nat)):Ev->Mo W:=fun ρ n Q=>fi ρ n (scR mg ft fe (uK ρ cix) fun ks n'=>∃m,ks.length<64/\1<=m/\(∀st∈ks,st.length=m)/\∀l':List (List Int),l'.Perm ks->(l'.Pairwise fun a b=>HT.lexLt a b=true)->Q (.d (zfY l')) n')
theorem zhD {P:Program}{w:World}{a:Addr}{xs:List (List Key×Addr)}:NP (zfr P w a xs):=zfe
theorem zmF {P:Program}{w:World}{H:Hp}{acc:Addr}{o:HO}{ks:List (List Int)}(S:zeN P w (upd H acc o) acc ks):NP o/\Mt o:=by obtain⟨xs,h1,_⟩:=S;rw[zg] at h1;cases h1;exact⟨zhD,rfl⟩
section
variable {X:Cx}{Pn:PN}{M S:List Nat}{fr fr':Bool}{pos p:Pos}
theorem zh7 {P:Program}{w:World}{wi:TI}{g:TG}{ti:TT}{te:TE}{cix:List (Option Nat)}{fi:Ev->Mo (List W)}{mg:W->Ev->(Ev->Prop)->Prop}{ft:Ev->Mo Bool}{fe:Ev->Mo W}{ow:Bool}(hn:(cix.filterMap id).Nodup)
  (hi:RI Pn M ow wi fi) (hg:RG (z0 M cix) (z0 M cix) g mg) (ht:RT Pn (z0 M cix) ti ft) (he:RE Pn (z0 M cix) fr' te fe):RE Pn M true (tCB (zky P w) (zcU (zmN P w wi g ti te cix) zkF)) (zhu fi mg ft fe cix):=⟨fun A σ H ρ n Q R E Pp hf k=>by
 refine hi.run A σ H ρ n _ _ E Pp hf fun l m J H1 ⟨I,i0,it,ib,ie⟩ iv g1=>fun acc hacc S0=>?_;have E1:=E.stay g1.st;have E2:=(E1.cap hn).more (zm.upd (o:=zfr P w acc []) hacc) (Fr.of hacc) zg zhD rfl;have P2:xm Pn (fun b=>A b\/b=acc) m (L2.upd H1 acc (zfr P w acc [])):=g1.pn.grow' (g1.pn.same (yW.upd hacc)) (Fr.of hacc) zg zhD rfl
 have nacc:∀k w,k∈z0 M cix->(uK ρ cix)[k]?=some (some w)->(xy σ cix)[k]?≠some (some (.ref acc)):=fun k w hk hw z=>by obtain⟨v,s1,_,s3⟩:=(E1.cap hn).val k w hw;obtain⟨a,e,hA,_⟩:=s3 hk;rw[z] at s1;cases s1;cases e;exact E1.new hacc hA
 have key:∀ σ' ρ' H',EnvR (fun b=>A b\/b=acc) (z0 M cix) σ' H' ρ'->(∀k∈z0 M cix,σ'[k]?=(xy σ cix)[k]?/\ρ'[k]?=(uK ρ cix)[k]?)->∀k w,k∈z0 M cix->ρ'[k]?=some (some w)->σ'[k]?≠some (some (.ref acc)):=fun σ' ρ' H' E' hfx k w hk hw z=>by simp_all
 refine⟨fun i mm σ' H'=>mm=l.length - i/\i<=l.length/\∃ ρ' n' accD ks,EnvR (fun b=>A b\/b=acc) (z0 M cix) σ' H' ρ'/\xm Pn (fun b=>A b\/b=acc) n' H'/\I i ρ' n' accD/\zeN P w H' acc ks/\(∀z,z∈ks↔z∈accD)/\zm (zO A H1) (zO (fun b=>A b\/b=acc) H')/\zm H1 H'/\(∀k∈z0 M cix,σ'[k]?=(xy σ cix)[k]?/\ρ'[k]?=(uK ρ cix)[k]?),
  ⟨l.length,by simp,aL _,_,m,[],[],E2,P2,i0,S0,fun _=>Iff.rfl,yp (zm.upd hacc) (Fr.of hacc),zm.upd hacc,fun k hk=>⟨rfl,rfl⟩⟩,?_⟩
 rintro i mm σ' H' ⟨rfl,hil,ρ',n',accD,ks,E',P',hI,hS,hm,st,s1,hfx⟩;have hnd:ks.Nodup:=hS.choose_spec.2.2.2;by_cases hlt:i<l.length
 ·right;have hget:l[i]?=some l[i]:=aq hlt;obtain⟨go,yl⟩:=iv.one i l[i] _ H' hget st (fun _=>s1) fun p hp=>E'.new hp
  refine⟨go,fun σ2 H2=>∃ ρ' n' accD ks,EnvR (fun b=>A b\/b=acc) (z0 M cix) σ2 H2 ρ'/\xm Pn (fun b=>A b\/b=acc) n' H2/\I (i+1) ρ' n' accD/\zeN P w H2 acc ks/\(∀z,z∈ks↔z∈accD)/\zm (zO A H1) (zO (fun b=>A b\/b=acc) H2)/\zm H1 H2/\(∀k∈z0 M cix,σ2[k]?=(xy σ cix)[k]?/\ρ'[k]?=(uK ρ cix)[k]?),
   fun σ2 H2 h=>⟨l.length - (i+1),by lia,rfl,hlt,h⟩,fun x H2 hy=>?_⟩
  obtain⟨S2,V2⟩:=yl x H2 hy;refine hg.run _ σ' H2 ρ' x l[i] _ _ (E'.stay (zm.same S2)) V2 (it i l[i] ρ' n' accD hget hI) fun σ3 ρ3 r3 E3 f3=>?_;have hfx3:∀k∈z0 M cix,σ3[k]?=(xy σ cix)[k]?/\ρ3[k]?=(uK ρ cix)[k]?:=fun k hk=>⟨(f3 k hk).1.trans (hfx k hk).1,(f3 k hk).2.trans (hfx k hk).2⟩;refine ht.run _ σ3 H2 ρ3 n' _ _ E3 (P'.same S2) r3 fun b m3 H4 r4 g4=>?_;have s24:=(zm.same S2).trans g4.st
  cases b with
  | false=>
   rw[if_neg (by decide)] at r4 ⊢;exact⟨ρ3,m3,accD,ks,E3.stay g4.st,g4.pn,r4,hS.stay s24,hm,st.trans (zw s24),s1.trans s24,hfx3⟩
  | true=>
   rw[if_pos rfl] at r4 ⊢;refine he.run _ σ3 H4 ρ3 m3 _ _ (E3.stay g4.st) g4.pn r4  ?_;rintro w5 m5 v5 H5 ⟨d,e5,r5⟩ V5 g5 _;subst e5;have s25:=s24.trans g5.st;have E5:=(E3.stay g4.st).stay g5.st;obtain⟨b,rfl,hb⟩:=zpP V5;refine⟨b,d,ks,rfl,hb,hS.stay s25,ib i ρ' n' accD ks hI hnd fun z hz=>(hm z).mp hz,fun o ks' S' hm' hl'=>?_⟩;obtain⟨np,nt⟩:=zmF S';refine⟨ρ3,m5,accD++[d],ks',E5.upd (.inr rfl) (key σ3 ρ3 H5 E5 hfx3) np nt,g5.pn.upd (.inr rfl),r5,S',fun z=>?_,?_,?_,hfx3⟩
   ·rw[hm' z,aN,aC,hm z,or_comm]
   ·rw[zF (.inr rfl)];exact st.trans (zw s25)
   ·exact fun b o e nn=>by rw[zc (zb e hacc)];exact s1.trans s25 b o e nn
 ·left;have hie:i=l.length:=by lia
  subst hie;refine⟨iv.stop _ H' st (fun _=>s1),?_⟩;obtain⟨ml,h64,h1,hml,hq⟩:=ie ρ' n' accD ks hI hnd hm;refine⟨acc,ks,ml,rfl,hS,h64,h1,hml,fun ys sts' hys hp hu=>fun p H3 np3 gp S3=>?_⟩;have s13:=s1.trans (zm.same S3);have al1:Al A H':=E1.al.stay s1;have hpn:xm Pn A n' H3:=(P'.same S3).less fun a z=>.inl z;have al3:=al1.stay (zm.same S3);have hl3:=hys.stay (zm.same S3);refine k _ n' _ H3 (hq sts' hp hu) (Val.of ⟨p,ys,rfl,.inl (zp (al1.new np3) gp),uD al3.noT (zaV sts') hl3⟩) (g1.trans ⟨s13,hpn⟩) fun _=>⟨p,rfl,((Fr.of np3).back s1).back g1.st,⟨_,gp,rfl⟩,p,ys,rfl,.inl gp,uD (fun b xs z e=>?_) (zaV sts') hl3⟩;rcases z with z | z
  ·exact al3.noT b xs z e
  ·subst z;rw[gp] at e;cases e⟩
theorem zi8 {elt tg iter:Expr}{ifs:List Expr}{scope:Scope}{N:List Str}{cix:List (Option Nat)}{fi:Ev->Mo (List W)}{mg:W->Ev->(Ev->Prop)->Prop}{ft:Ev->Mo Bool}{fe:Ev->Mo W}{ow:Bool}{sp:Pos}(hm0:X.mg "sorted" = none)(hu:X.A.units+1<cLine)(hc:X.calm=true)(cc:CompOk X scope N cix)
  (hi:JI X Pn M ow tg iter fi) (hg:∀C s H ex,JG (zl X scope N C s H ex) (z0 M cix) (z0 M cix) tg mg) (ht:∀C s H ex,JTs (zl X scope N C s H ex) Pn (z0 M cix) ifs ft) (he:∀C s H ex,JE (zl X scope N C s H ex) Pn (z0 M cix) fr' elt fe)
  (hn:(cix.filterMap id).Nodup:=by decide) (hs:∀x,foldedSetIterable iter X.env x=pure x:=by intro _;rfl) (hg0:Gl X "sorted" := by rfl) (hs1:starEach [.SetComp elt [⟨tg,iter,ifs,0⟩] scope sp] X.env=[(false,eval (.SetComp elt [⟨tg,iter,ifs,0⟩] scope sp) X.env)]:=by rfl) (hpl:(backTo pos (starEach [] X.env)).any (·.1)=false:=by rfl) :
  JE X Pn M true (.Call (.Name "sorted" p) [.SetComp elt [⟨tg,iter,ifs,0⟩] scope sp] [] pos) (zhu fi mg ft fe cix):=by
 obtain⟨ti,qi,ri⟩:=hi.ex;obtain⟨g,qg,rg⟩:=zeL hg;obtain⟨tt,qt,rt⟩:=zeM ht;obtain⟨te,qe,re⟩:=ziw he;exact⟨_,yg (ziK hc) hg0 hm0 be (zE (zfR hu hc cc qi qg qt qe hs) yA hs1) (by decide) (by decide) hs1 hpl,zh7 hn ri rg rt re⟩
end
theorem zmJ {α:Type}{l:List W}{ρ0:Ev}{n:Nat}{mg:W->Ev->(Ev->Prop)->Prop}{ft:Ev->Mo Bool}{fe:Ev->Mo W}{Q:List (List Int)->Nat->Prop}(xs:List α)(toW:α->W)(hl:l=xs.map toW)(J:Ev->Prop)(P:α->Bool)(E:α->List Int)(j0:J ρ0)
  (h:∀a∈xs,∀ ρ',J ρ'->∀C:Ev->Nat->Option (List Int)->Prop,(∀ {ρ1},P a=true->J ρ1->C ρ1 n (some (E a)))->(∀ {ρ1},P a=false->J ρ1->C ρ1 n none)->mg (toW a) ρ' fun ρ1=>ft ρ1 n fun b n2=>onC b (fe ρ1 n2 fun x n3=>∃st,x = .d (stD st)/\C ρ1 n3 (some st)) (C ρ1 n2 none))
  (few:∀ks,List.Nodup ks->(∀z∈ks,z∈(xs.filter P).map E)->ks.length<300)
  (fin:∀ks,List.Nodup ks->(∀z,z∈ks↔z∈(xs.filter P).map E)->Q ks n):scR mg ft fe ρ0 Q l n:=by
 subst hl;refine⟨fun i ρ' n' acc=>J ρ'/\n'=n/\acc=((xs.take i).filter P).map E,⟨j0,rfl,by simp⟩,?_,?_,?_⟩
 ·rintro i w ρ' n' acc hw ⟨hj,rfl,rfl⟩;rw[aA] at hw;obtain⟨a,ha,rfl⟩:=ax.mp hw
  have:=h a (aw ha) ρ' hj (fun ρ1 n3 o=>match o with
   | some d=>J ρ1/\n3=n'/\((xs.take i).filter P).map E++[d]=((xs.take (i+1)).filter P).map E
   | none=>J ρ1/\n3=n'/\((xs.take i).filter P).map E=((xs.take (i+1)).filter P).map E) (fun {ρ1} hp hj1=>by
    rw[zn ha,dX,aM]
    exact⟨hj1,rfl,by simp[hp]⟩) (fun {ρ1} hp hj1=>by
    rw[zn ha,dX,aM];exact⟨hj1,rfl,by simp[hp]⟩)
  simp only[zbs] at this;exact this
 ·rintro i ρ' n' acc ks ⟨_,rfl,rfl⟩ hn hk;refine few ks hn fun z hz=>?_
  grind
 ·simp_all
open PySem PySem.Spec L2
@[reducible] def dGetI (fd fk fz:Ev->Mo W):Ev->Mo W:=fun ρ n Q=>fd ρ n fun x n1=>onK x fun kvs=>fk ρ n1 fun y n2=>fz ρ n2 fun z n3=>onO (zpZ y) fun k=>onI z fun i=>Q (.d ((xO kvs k).getD (.int i))) n3
section
variable {X:Cx}{Pn:PN}{M:List Nat}{a b c:Expr}{fa fb fc:Ev->Mo W}{apos cpos:Pos}
end
end L3
namespace L2
open PySem PySem.Spec PyProof.Rows
section
variable {X:Cx}{e lo st:Expr}{te tl tk:TE}{pos p2:Pos}
end
end L2
namespace L3
open PySem PySem.Spec L2
@[reducible] def dFromL (fa fl fk:Ev->Mo W):Ev->Mo W:=fun ρ n Q=>fa ρ n fun x n1=>onL x fun l=>fl ρ n1 fun y n2=>onI y fun c=>fk ρ n2 fun z n3=>onI z fun k=>(0<=c/\1<=k)/\∀ys:List Dt,ys.Sublist (l.drop c.toNat)->Q (.d (.lst ys)) n3
section
variable {X:Cx}{Pn:PN}{M:List Nat}{e lo st:Expr}{f fl fk:Ev->Mo W}{pos p2:Pos}
end
open PySem PySem.Spec L2
def zqS:HO:=.dK [(Sum.inr "at",.non)]
abbrev gone (H:Hp)(a:Addr):Hp:=L2.upd H a zqS
section
variable {X:Cx}{Pn:PN}{M S:List Nat}{fr fr':Bool}{pos p:Pos}
@[reducible] def dGiv (i:Nat) (F:List W->Mo W) (f1 f2:Ev->Mo W):Ms:=fun ρ n k=>f1 ρ n fun w1 m1=>f2 ρ m1 fun w2 m2=>onV ρ i fun w=>F [w1,w2,w] m2 fun w' m'=>onC (W.mut w') (onP ρ i w' fun ρ'=>k.nx ρ' m') False
end
end L3
namespace L2
open PySem PySem.Spec PyProof.Rows PySem.W PySem.SeqAt
section
variable {X:Cx}
theorem zk1 {pins:List (Addr×Obj)}{σ:St}{H:Hp}{s:Shared}(I:Inv X pins σ H s){a:Addr}{kvs:List (Key×V)}{ns:List Int}(h:Rd H a (.dK kvs))(hk:kvs.map (·.1)=ns.map Sum.inl) :
  (a==sysModules)=false/\∃ (es:Array DictEntry) (ep:Nat),uy s.heap a es ep/\zU (ns.map V.int) (es.toList.map (·.key))/\kvs.length<=sizeLine:=by
 obtain⟨z,lo,vs,r,o,es,ep,h1,h2,h3,_,h4,_⟩:=ziO I.hok h
 have gen:∀ {kvs:List (Key×V)} {vs:List (Key×Value)} {es:List DictEntry} {ns:List Int},KV kvs vs->Pairs (zr X.prog X.w) es vs->kvs.map (·.1)=ns.map Sum.inl->zU (ns.map V.int) (es.map (·.key)):=by
  intro kvs
  induction kvs with
  | nil=>
   intro vs es ns r p e;cases r;cases p
   cases ns with
   | nil=>exact .nil
   | cons _ _=>cases e
  | cons q kvs ih=>
   intro vs es ns r p e
   cases r with
   | cons r1 r2=>
    cases p with
    | cons p1 p2 p3=>
     cases ns with
     | nil=>cases e
     | cons i ns=>
      rw[av,av] at e;obtain⟨e1,e2⟩:=eB e;rw[av,av];refine .cons ?_ (ih r2 p3 e2);rw[<- r1.1,e1] at p1;rw[zfN] at p1;obtain⟨t,et⟩:=Value.isInt_shape (k:=i) p1;exact⟨t,et⟩
 exact⟨lo,es,ep,⟨o,h1,h2,h3⟩,gen r h4 hk,z⟩
def zkw:List V->Hp->VK->Prop:=fun xs H Q=>∃ (a:Addr) (kvs:List (Key×V)) (ns:List Int),xs=[.ref a]/\Rd H a (.dK kvs)/\kvs.map (·.1)=ns.map Sum.inl/\New H (.lst (ns.map V.int)) Q
theorem zeW (hc:X.calm=true):CallQ X (.type "list") zkw:=⟨by
 intro pins s σ H xs us Q I r h;obtain⟨a,kvs,ns,rfl,ha,hk,q⟩:=h;obtain⟨u,rfl,ru⟩:=uq r;cases ru;obtain⟨lo,es,ep,E,hv,hz⟩:=zk1 I ha hk
 have hl:es.size=ns.length:=by
  have:=hv.length
  grind
 have hyl:ns.length=kvs.length:=by
  have:=congrArg List.length hk
  grind
 refine kdl_call (ziN (es:=es) a ep lo) (I.ok.hd hc) E (by simp_all) fun h' tk acc c kp hg hit=>?_
 have hacc:acc.toList=es.toList.map (·.key):=by
  refine dC (by rw[aP,hit.1,ab,aP]) fun j h1 h2=>?_;obtain⟨e,he,hv⟩:=hit.2 j acc.toList[j] (by simp);rw[hv,bX];rw[za2] at he;rw[ab] at h2
  simp_all
 refine⟨.ref s.heap.objs.size,_,I.laid (t':=tk) (o:=.lst (ns.map V.int)) kp (ai _) ⟨by simp_all,es.toList.map (·.key),c,hv,?_⟩,rfl,q.at (I.hok.fresh (ai _))⟩;rw[<- hacc,Array.toArray_toList];exact hg⟩
end
end L2
namespace L3
open PySem PySem.Spec L2
section
variable {X:Cx}{Pn:PN}{M S:List Nat}{fr fr':Bool}{e o:Expr}{f fo:Ev->Mo W}{pos p:Pos}
@[reducible] def dLenK:List W->Mo W:=fun ws n Q=>on1 ws fun x=>onK x fun kvs=>Q (.d (.int (kvs.length:Nat))) n
@[reducible] def zj9:List W->Mo W:=fun ws n Q=>on1 ws fun x=>onK x fun kvs=>∃ns:List Int,kvs.map (·.1)=ns.map Sum.inl/\Q (.d (.lst (ns.map .int))) n
theorem ziv:FL Pn true zkw zj9:=⟨fun A H xs ws n Q R al b P h k=>by simp only[zj9,ux,zhF] at h;obtain⟨x,rfl,kvs,rfl,ns,hn,h⟩:=h;obtain⟨v,rfl,bb⟩:=zai b;obtain⟨a,ks,rfl,ha,hk,_⟩:=zne bb;exact⟨a,ks,ns,rfl,.inl ha,hk.keys.trans hn,fun p H' np g S=>k _ n _ H' h (xG (H:=H) IsL.ints (zm.same S) (al.new np) g) (Go.same P S) fun z=>xU (H:=H) IsL.ints S np g⟩⟩
@[reducible] def dIndex (fo f:Ev->Mo W):Ev->Mo W:=fun ρ n Q=>fo ρ n fun x n1=>onL x fun l=>f ρ n1 fun y n2=>onI y fun k=>∃ns:List Int,l=ns.map .int/\k∈ns/\Q (.d (.int (ns.idxOf k:Nat))) n2
@[reducible] def zqv (f:Ev->Mo W):Ev->Mo W:=fun ρ n Q=>f ρ n fun x n1=>onL x fun l=>∃ns:List Int,l=ns.map .int/\ns.Nodup/\ns.length<=1000/\Q (.d (.int (ns.length:Nat))) n1
end
end L3
namespace L2
theorem us_1 {α:Type}{us:List α}(h:us.length=1):∃a,us=[a]:=match us,h with | [a],_=>⟨a,rfl⟩
theorem us_2 {α:Type}{us:List α}(h:us.length=2):∃a b,us=[a,b]:=match us,h with | [a,b],_=>⟨a,b,rfl⟩
theorem us_3 {α:Type}{us:List α}(h:us.length=3):∃a b c,us=[a,b,c]:=match us,h with | [a,b,c],_=>⟨a,b,c,rfl⟩
theorem us_4 {α:Type}{us:List α}(h:us.length=4):∃a b c d,us=[a,b,c,d]:=match us,h with | [a,b,c,d],_=>⟨a,b,c,d,rfl⟩
open PySem PySem.Spec PyProof.Rows PySem.W PySem.Calls
end L2
namespace L3
open PySem PySem.Spec L2
section
variable {X:Cx}{Pn:PN}{M S:List Nat}{fr fr':Bool}{e a b c:Expr}{es:List Expr}{f fa fb fc:Ev->Mo W}{pos p:Pos}
theorem zpC {scope:Scope}{N:List Str}{z:Str}{fr:Bool}(h:∀C D s H ex,JE (z6 X scope N z C D s H ex) Pn M fr e f):∃te,(∀C D s H ex,QE (z6 X scope N z C D s H ex) e te)/\RE Pn M fr te f:=
 ⟨fun σ H Q=>∀C D s H0 ex,(h C D s H0 ex).ex.choose σ H Q,fun C D s H0 ex=>⟨fun pins s' σ H Q I zz=>(h C D s H0 ex).ex.choose_spec.1.run pins s' σ H Q I (zz C D s H0 ex)⟩,
  ⟨fun A σ H ρ n Q R E P hf k C D s H0 ex=>(h C D s H0 ex).ex.choose_spec.2.run A σ H ρ n Q R E P hf k⟩⟩
theorem zpF {scope:Scope}{N:List Str}{z:Str}{ft:Ev->Mo Bool}(h:∀C D s H ex,JTs (z6 X scope N z C D s H ex) Pn M es ft):∃te,(∀C D s H ex,QTs (z6 X scope N z C D s H ex) es te)/\RT Pn M te ft:=
 ⟨fun σ H Q=>∀C D s H0 ex,(h C D s H0 ex).ex.choose σ H Q,fun C D s H0 ex=>⟨fun pins s' σ H Q I zz=>(h C D s H0 ex).ex.choose_spec.1.run pins s' σ H Q I (zz C D s H0 ex)⟩,
  ⟨fun A σ H ρ n Q R E P hf k C D s H0 ex=>(h C D s H0 ex).ex.choose_spec.2.run A σ H ρ n Q R E P hf k⟩⟩
theorem zpD {scope:Scope}{N:List Str}{z:Str}{mg:W->Ev->(Ev->Prop)->Prop}(h:∀C D s H ex,JG (z6 X scope N z C D s H ex) S M e mg):∃g,(∀C D s H ex,QG (z6 X scope N z C D s H ex) e g)/\RG S M g mg:=
 ⟨fun v σ H Q=>∀C D s H0 ex,(h C D s H0 ex).ex.choose v σ H Q,fun C D s H0 ex=>⟨fun pins s' σ H v u Q I rv zz=>(h C D s H0 ex).ex.choose_spec.1.run pins s' σ H v u Q I rv (zz C D s H0 ex)⟩,
  ⟨fun A σ H ρ v w Q R E hv hf k C D s H0 ex=>(h C D s H0 ex).ex.choose_spec.2.run A σ H ρ v w Q R E hv hf k⟩⟩
theorem zls {elt tg iter:Expr}{ifs:List Expr}{scope:Scope}{N:List Str}{z:Str}{cix:List (Option Nat)}{fi:Ev->Mo (List W)}{mg:W->Ev->(Ev->Prop)->Prop}{ft:Ev->Mo Bool}{fe:Ev->Mo W}{ow:Bool}(hc:X.calm=true)(cc:CompOkC X scope N z cix)
  (hi:JI X Pn M ow tg iter fi) (hg:∀C D s H ex,JG (z6 X scope N z C D s H ex) (z0 M cix) (z0 M cix) tg mg) (ht:∀C D s H ex,JTs (z6 X scope N z C D s H ex) Pn (z0 M cix) ifs ft) (he:∀C D s H ex,JE (z6 X scope N z C D s H ex) Pn (z0 M cix) fr' elt fe)
  (hn:(cix.filterMap id).Nodup:=by decide) (hs:∀x,foldedSetIterable iter X.env x=pure x:=by intro _;rfl):JE X Pn M true (.ListComp elt [⟨tg,iter,ifs,0⟩] scope pos) (zjh fi mg ft fe cix):=by
 obtain⟨ti,qi,ri⟩:=hi.ex;obtain⟨g,qg,rg⟩:=zpD hg;obtain⟨tt,qt,rt⟩:=zpF ht;obtain⟨te,qe,re⟩:=zpC he;exact⟨_,zhS hc cc qi qg qt qe hs,zey hn ri rg rt re⟩
end
open PySem PySem.Spec L2
theorem zg2 {G:Hp}:∀ {bs:List Bool} {xs:List V},IsL G (bs.map .bl) xs->xs=bs.map V.bl
 | [],_,h=>h
 | b::bs,xs,h=>by obtain⟨x,r,rfl,h1,h2⟩:=h;have e:x = .bl b:=h1;rw[e,zg2 h2];rfl
theorem zgU {b:Bool}:∀bs:List Bool,inV (.bl b) (bs.map V.bl)=bs.contains b
 | []=>rfl
 | c::bs=>by have:=zgU (b:=b) bs;unfold inV at this ⊢;rw[av,cj,this,List.contains_cons];cases b <;> cases c <;> rfl
theorem ze2:∀bs:List Bool,(bs.map V.bl).all zco=true
 | []=>rfl
 | _::bs=>by rw[av,bY,ze2 bs];rfl
section
variable {Pn:PN}{K:PySem.W.Frag}
@[reducible] def dInB:W->W->Mo W:=fun x y n Q=>onB x fun b=>onL y fun l=>∃bs:List Bool,l=bs.map .bl/\Q (.d (.bl (bs.contains b))) n
theorem zrS:F2 Pn false (rIn K false) dInB:=⟨fun A H x y wx wy n Q R al bx byy P h k=>by simp only[dInB,zfg,x6] at h;obtain⟨b,rfl,l,rfl,bs,rfl,h⟩:=h;obtain⟨a,xs,rfl,ha,hl⟩:=yZ byy;obtain rfl:=zg2 hl;have e:x = .bl b:=bx;subst e;exact⟨a,_,rfl,.inl (.inl ha),rfl,ze2 bs,k _ n _ H h (Val.of (by rw[zgU];rfl)) (Go.refl P) fun z=>by cases z⟩⟩
end
end L3
namespace L2
open PySem PySem.Spec PyProof.Rows PySem.W PySem.Calls
section
variable {prog:Program}{w:World}{A:Around}{E:Value->Shared->Prop}{s:Shared}
end
section
variable {X:Cx}
end
end L2
namespace L3
open PySem PySem.Spec L2
section
variable {X:Cx}{Pn:PN}{M S:List Nat}{fr fr':Bool}{pos p:Pos}{e:Expr}{f:Ev->Mo W}
@[reducible] def dSAdd (P:Program) (w:World) (i:Nat) (f:Ev->Mo W):Ms:=fun ρ n k=>onV ρ i fun v=>∃ks,v = .ss P w ks/\f ρ n fun x m=>∃st:List Int,x = .d (stD st)/\ks.length<300/\
 ∀ks':List (List Int),(∀y,y∈ks'↔y=st\/y∈ks)->ks'.length<=ks.length+1->ks'.Nodup->onP ρ i (.ss P w ks') fun ρ'=>k.nx ρ' m
@[reducible] def dSortS (P:Program) (w:World):List W->Mo W:=fun ws n Q=>on1 ws fun x=>∃ (ks:List (List Int)) (m:Nat),x = .ss P w ks/\ks.length<64/\1<=m/\(∀st∈ks,st.length=m)/\∀sts':List (List Int),sts'.Perm ks->(sts'.Pairwise fun a b=>HT.lexLt a b=true)->Q (.d (zfY sts')) n
end
open PySem PySem.Spec L2
end L3
namespace L3
open PySem PySem.Spec L2
def IsP (Pn:PN)(p:Addr):Prop:=∃c ns,Pn=⟨some (p,c,ns),J0⟩
theorem dc {Pn:PN}{p:Addr}{zC:Int}{n:Nat}{Q:W->Nat->Prop}(hP:IsP Pn p)(h:∀r,0<=r->r<zC->Q (.d (.int r)) (n+1))(hn:n<=1000000:=by lia)(h1:1<=zC:=by lia)(h2:zC<1073741824:=by lia):zf9 Pn [.pen p,.d (.int zC)] n Q:=let ⟨c,ns,e⟩:=hP;⟨p,c,ns,zC,e,rfl,hn,h1,h2,h⟩
theorem tc {Pn:PN}{p:Addr}{l:List Dt}{n:Nat}{Q:W->Nat->Prop}(hP:IsP Pn p)(h:∀l':List Dt,l'.Perm l->Q (.d (.lst l')) (n+l.length))(hn:n+l.length<=1000000:=by lia)(h1:l.length<=100000:=by lia):zga Pn [.pen p,.d (.lst l)] n Q:=let ⟨c,ns,e⟩:=hP;⟨p,c,ns,l,e,rfl,hn,h1,h⟩
theorem ul {k:Nat}:(zf7 k).length=k:=by unfold zf7;rw[ab,aE]
theorem zmC {k:Nat}:zf7 k=(zv (k:Int)).map Dt.int:=by unfold zf7 zv;rw[az,bv];rfl
theorem zju {α:Type}{f:α->Dt}{l:List Dt}{xs:List α}(h:l.Perm (xs.map f)):∃ys:List α,l=ys.map f/\ys.Perm xs:=by
 generalize hz:xs.map f=zs at h
 induction h generalizing xs with
 | nil=>exact⟨[],rfl,by simp_all⟩
 | @cons x l1 l2 _ ih=>
  match xs,hz with
  | y::r,hz=>
   rw[av] at hz;obtain⟨h1,h2⟩:=eB hz;obtain⟨ys,e,q⟩:=ih h2;exact⟨y::ys,by simp_all,q.cons y⟩
 | swap x y l=>
  match xs,hz with
  | a::b::r,hz=>
   rw[av,av] at hz;obtain⟨h1,h2⟩:=eB hz;obtain⟨h3,h4⟩:=eB h2;exact⟨b::a::r,by simp_all,.swap ..⟩
 | trans _ _ ih1 ih2=>
  obtain⟨ys,e,q⟩:=ih2 hz;obtain⟨zs,e2,q2⟩:=ih1 e.symm;exact⟨zs,e2,q2.trans q⟩
theorem zfl {l:List Dt}{k:Nat}(h:l.Perm (zf7 k)):∃bs:List Int,l=bs.map Dt.int/\bs.Perm (zv (k:Int)):=by rw[zmC] at h;exact zju h
theorem zT {m b:Int}:b∈zv m↔0<=b/\b<m:=by
 unfold zv;rw[ay];constructor
 ·rintro⟨k,hk,rfl⟩
  grind
 ·rintro⟨h0,h1⟩;exact⟨b.toNat,bf.mpr (by lia),by lia⟩
theorem zbB (m:Int):(zv m).Nodup:=by unfold zv List.Nodup;rw[bS];exact List.pairwise_lt_range.imp fun h=>by lia
theorem zrf {α β:Type}{G:Prop}(C:α->β->Prop)(P:α->β->Prop)(h:(∀a b,C a b->P a b)->G)(r:∀a b,C a b->P a b):G:=h r
theorem zmO {bs:List Int}(h:bs.Nodup){i:Nat}(hi:i<bs.length):bs.getD i 0∉bs.take i:=fun z=>by
 obtain⟨j,hj,e⟩:=bO.mp z;rw[aQ] at hj;rw[List.getElem_take] at e;have:bs.getD i 0=bs[i]:=by simp[hi]
 rw[this] at e;have:=(cq h).mp e;lia
theorem zbd {bs:List Int}{i:Nat}(hi:i<bs.length):bs.getD i 0∈bs:=by simp_all
end L3
namespace L3
open PySem PySem.Spec L2
theorem zhw {l:List (List Int)}{st:List Int}:(Dt.tup (st.map Dt.int)∈l.map stD)↔st∈l:=by
 constructor
 ·intro z;obtain⟨s,hs,e⟩:=ay.mp z;have:s=st:=List.map_inj_right (by grind) |>.mp (Dt.tup.inj e)
  grind
 ·exact fun z=>ay.mpr ⟨_,z,rfl⟩
end L3
namespace L3
open PySem PySem.Spec L2
end L3
namespace L3
open PySem PySem.Spec L2
def lpE (bk:List Wi)(box:Int)(st:List Int):List (Int×Int):=(lpF bk box st).map fun r=>(r.getD 0 0,r.getD 1 0)
end L3
namespace L3
open PySem PySem.Spec L2
theorem zlI {α:Type}{l:List α}:(l.map fun _=>false).contains true=false:=by grind
end L3
namespace L2
open PySem PySem.Spec PyProof.Rows PySem.W PySem.Calls
section
variable {X:Cx}{pins:List (Addr×Obj)}{σ:St}{H:Hp}{s:Shared}{a:Addr}
end
end L2
namespace L3
open PySem PySem.Spec L2
@[reducible] def onZ (w:W) (P:List (List Int×Dt)->Prop):Prop:=match w with | .df i=>P i | _=>False
section
variable {X:Cx}{Pn:PN}{M S:List Nat}{fr fr':Bool}{pos p:Pos}{e a b c:Expr}{f fa fb fc:Ev->Mo W}
@[reducible] def dFrz (f:Ev->Mo W):Ev->Mo W:=fun ρ n Q=>f ρ n fun x m=>onE x fun kvs=>Q (.df kvs) m
@[reducible] def dItF (fa:Ev->Mo W):Ev->Mo (List W):=fun ρ n Q=>fa ρ n fun x m=>onZ x fun kvs=>(kvs.map (·.1)).Nodup->Q (kvs.map fun q=>W.d (stD q.1)) m
@[reducible] def dGetF (fd fk:Ev->Mo W):Ev->Mo W:=fun ρ n Q=>fd ρ n fun x n1=>fk ρ n1 fun y n2=>onZ x fun kvs=>∃st,y = .d (stD st)/\onO (xO kvs st) fun d=>Q (.d d) n2
@[reducible] def dGetFD (fd fk fz:Ev->Mo W):Ev->Mo W:=fun ρ n Q=>fd ρ n fun x n1=>onZ x fun kvs=>fk ρ n1 fun y n2=>fz ρ n2 fun z n3=>∃st,y = .d (stD st)/\onD z fun i=>Q (.d ((xO kvs st).getD i)) n3
@[reducible] def dDictL:List W->Mo W:=fun ws n Q=>on1 ws fun x=>∃kvs:List (List Int×Dt),x = .d (.lst (kvs.map fun q=>Dt.tup [stD q.1,q.2]))/\(kvs.map (·.1)).Nodup/\kvs.length<=lim/\Q (.dt kvs) n
end
open PySem PySem.Spec L2
@[reducible] def lpD (bk:List Wi) (b:Int) (st:List Int):Dt:=.lst ((lpE bk b st).map yD)
@[reducible] def rowD (rm:List Int) (bk:List Wi) (st:List Int):Dt:=.lst ((List.range rm.length).map fun b:Nat=>lpD bk (b:Int) st)
theorem zpH {l:List (List Int)}(h:Up' l):l.Nodup:=h.imp fun h e=>by subst e;rw[yY] at h;cases h
theorem zd7 {rm:List Int}{g:List (Int×Int)}(h:Giv rm g):g.length<=rm.length:=by
 have:=yr (l:=g.map (·.1)) (l':=zv rm.length) (bS.mpr (h.up.imp fun h e=>by lia)) fun x hx=>by obtain⟨q,hq,rfl⟩:=ay.mp hx;have:=h.ok q hq;exact zT.mpr ⟨this.1,this.2.1⟩
 rw[ab,yh] at this;lia
section
variable {X:Cx}{Pn:PN}{M S cM:List Nat}{fr fr':Bool}{e:Expr}{es:List Expr}{pos:Pos}{A:Addr->Prop}{acc:Addr}{H1 H H':Hp}{σc σ:St}{ρc ρ:Ev}{n m:Nat}{ds:List Dt}
def inR (mg:W->Ev->(Ev->Prop)->Prop)(ft:Ev->Mo Bool)(fe:Ev->Mo W)(ρ0:Ev)(ds0:List Dt)(K:Ev->Nat->List Dt->Prop):List W->Nat->Prop:=fun l n1=>∃I:Nat->Ev->Nat->List Dt->Prop,I 0 ρ0 n1 ds0/\
 (∀i w ρ n ds,l[i]?=some w->I i ρ n ds->mg w ρ fun ρ1=>ft ρ1 n fun b n2=>if b=true then fe ρ1 n2 fun x n3=>∃d,x = .d d/\ds.length<=lim/\I (i+1) ρ1 n3 (ds++[d]) else I (i+1) ρ1 n2 ds)/\
 ∀ ρ n ds,I l.length ρ n ds->K ρ n ds
def zng (mg:W->Ev->(Ev->Prop)->Prop)(ft:Ev->Mo Bool)(fi2:Ev->Mo (List W))(mg2:W->Ev->(Ev->Prop)->Prop)(ft2:Ev->Mo Bool)(fe:Ev->Mo W)(ρ0:Ev)(Q:W->Nat->Prop):List W->Nat->Prop:=fun l n1=>∃I:Nat->Ev->Nat->List Dt->Prop,I 0 ρ0 n1 []/\
 (∀i w ρ n ds,l[i]?=some w->I i ρ n ds->mg w ρ fun ρ1=>ft ρ1 n fun b n2=>if b=true then fi2 ρ1 n2 (inR mg2 ft2 fe ρ1 ds (I (i+1))) else I (i+1) ρ1 n2 ds)/\
 ∀ ρ n ds,I l.length ρ n ds->Q (.d (.lst ds)) n
@[reducible] def mComp2 (fi:Ev->Mo (List W)) (mg:W->Ev->(Ev->Prop)->Prop) (ft:Ev->Mo Bool) (fi2:Ev->Mo (List W)) (mg2:W->Ev->(Ev->Prop)->Prop) (ft2:Ev->Mo Bool) (fe:Ev->Mo W) (cix:List (Option Nat)):Ev->Mo W:=fun ρ n Q=>fi ρ n (zng mg ft fi2 mg2 ft2 fe (uK ρ cix) Q)
theorem zpE {scope:Scope}{N:List Str}{ow:Bool}{tg:Expr}{fi:Ev->Mo (List W)}(h:∀C s H ex,JI (zl X scope N C s H ex) Pn M ow tg e fi):∃te,(∀C s H ex,QI (zl X scope N C s H ex) tg e te)/\RI Pn M ow te fi:=
 ⟨fun σ H Q=>∀C s H0 ex,(h C s H0 ex).ex.choose σ H Q,fun C s H0 ex=>⟨fun pins s' σ H Q I z=>(h C s H0 ex).ex.choose_spec.1.run pins s' σ H Q I (z C s H0 ex)⟩,
  ⟨fun A σ H ρ n Q R E P hf k C s H0 ex=>(h C s H0 ex).ex.choose_spec.2.run A σ H ρ n Q R E P hf k⟩⟩
end
end L3
namespace L2
open PySem PySem.Spec PyProof.Rows PySem.W PySem.Calls
section
variable {X:Cx}{pins:List (Addr×Obj)}{σ:St}{H:Hp}{s:Shared}{a:Addr}
end
end L2
namespace L3
open PySem PySem.Spec L2
@[reducible] def onY (w:W) (P:List (Key×Dt)->Prop):Prop:=match w with | .kf i=>P i | _=>False
section
variable {X:Cx}{Pn:PN}{M S:List Nat}{fr fr':Bool}{pos p:Pos}{e a b c:Expr}{f fa fb fc:Ev->Mo W}
@[reducible] def dFrzK (f:Ev->Mo W):Ev->Mo W:=fun ρ n Q=>f ρ n fun x m=>onK x fun kvs=>Q (.kf kvs) m
@[reducible] def dItK (fa:Ev->Mo W):Ev->Mo (List W):=fun ρ n Q=>fa ρ n fun x m=>onY x fun kvs=>∃ns:List Int,kvs.map (·.1)=ns.map Sum.inl/\Q (ns.map fun i=>W.d (.int i)) m
@[reducible] def dGetY (fd fk:Ev->Mo W):Ev->Mo W:=fun ρ n Q=>fd ρ n fun x n1=>fk ρ n1 fun y n2=>onY x fun kvs=>onI y fun i=>onO (xO kvs (Sum.inl i)) fun d=>Q (.d d) n2
@[reducible] def dListY:List W->Mo W:=fun ws n Q=>on1 ws fun x=>onY x fun kvs=>∃ns:List Int,kvs.map (·.1)=ns.map Sum.inl/\Q (.d (.lst (ns.map .int))) n
@[reducible] def dRetT (f:Ev->Mo W) (i:Nat):Ms:=fun ρ n k=>f ρ n fun w m=>onD w fun d=>onV ρ i fun x=>onL x fun l=>k.rt (.d (.tup [d,.lst l])) m
end
end L3
namespace L2
open PySem PySem.Spec PyProof.Rows PySem.SeqAt
section
variable {prog:Program}{w:World}{t:SetTable}{es:Array (Int×Value)}{xs:List (List Key×Addr)}{A:Around}{E:Value->Shared->Prop}{s:Shared}
end
section
variable {X:Cx}
end
end L2
namespace L3
open PySem PySem.Spec L2
section
variable {X:Cx}{Pn:PN}{M S:List Nat}{fr fr':Bool}{pos p:Pos}{e o a b c:Expr}{es:List Expr}{f fo fa fc:Ev->Mo W}
@[reducible] def dAug (F:Int->Int->Int) (i:Nat) (f:Ev->Mo W):Ms:=fun ρ n k=>onV ρ i fun x=>onI x fun a=>f ρ n fun y m=>onI y fun b=>onP ρ i (.d (.int (F a b))) fun ρ'=>k.nx ρ' m
@[reducible] def dAugT (F:Int->Int->Int) (i:Nat) (fk f:Ev->Mo W):Ms:=fun ρ n k=>onV ρ i fun x=>onE x fun kvs=>fk ρ n fun y m=>∃st,y = .d (stD st)/\∃a,xO kvs st=some (.int a)/\f ρ m fun w m2=>onI w fun b=>kvs.length<lim/\onP ρ i (.dt (zhQ kvs st (.int (F a b)))) fun ρ'=>k.nx ρ' m2
@[reducible] def dSetL (P:Program) (w:World):List W->Mo W:=fun ws n Q=>on1 ws fun x=>∃sts:List (List Int),x = .d (.lst (sts.map stD))/\(∀ks:List (List Int),ks.Nodup->(∀z∈ks,z∈sts)->ks.length<300)/\∀ks:List (List Int),ks.Nodup->(∀st,st∈ks↔st∈sts)->Q (.ss P w ks) n
@[reducible] def dInS (P:Program) (w:World):W->W->Mo W:=fun x y n Q=>∃ (st:List Int) (ks:List (List Int)),x = .d (stD st)/\y = .ss P w ks/\∀c:Bool,(c=true↔st∈ks)->Q (.d (.bl c)) n
@[reducible] def dItEF (fa:Ev->Mo (List W)):Ev->Mo (List W):=fun ρ n Q=>fa ρ n fun ws m=>on1 ws fun x=>onZ x fun kvs=>(kvs.map (·.1)).Nodup->Q (enW 0 ((kvs.map (·.1)).map stD)) m
@[reducible] def zqr (fo f:Ev->Mo W):Ev->Mo W:=fun ρ n Q=>fo ρ n fun x n1=>onL x fun l=>f ρ n1 fun y n2=>onD y fun d=>d.eqOk/\(Dt.lst l).eqOk/\d∈l/\∀j:Nat,l[j]?=some d->(∀i,i<j->l[i]?≠some d)->Q (.d (.int j)) n2
theorem znD:JE X Pn M true (.Dict [] [] pos) (mC (.d .dct)):=⟨_,zjD,⟨fun A σ H ρ n Q R E P hf k=>fun p np=>k _ n _ _ hf ⟨p,[],rfl,zp (E.new np) zg,rfl⟩ (Go.same P (yW.upd np)) fun _=>⟨p,rfl,.of np,⟨_,zg,rfl⟩,p,[],rfl,zg,rfl⟩⟩⟩
@[reducible] def snN:List W->(List W->Prop)->Prop
 | [],P=>P [.d .non]
 | a::r,P=>snN r fun r'=>P (a::r')
@[reducible] def dFnD (k:Nat) (F:List W->Mo W) (fs:Ev->Mo (List W)):Ev->Mo W:=fun ρ n Q=>fs ρ n fun ws m=>snN ws fun us=>zbt k us (F us m Q)
end
end L3
namespace L2
open PySem PySem.Spec PyProof.Rows
section
variable {X:Cx}{pins:List (Addr×Obj)}{σ:St}{H G G':Hp}{s:Shared}{d l:Addr}{ob:Obj}{kvs:List (List Key×V)}
theorem Inv.frzL {xs:List V}(I:Inv X pins σ H s)(h:H l=some (.lst xs)):∃ob,Inv X pins σ (upd H l (.frz ob (.lst xs))) s:=by obtain⟨z,its,n,r,e⟩:=(show zW X.prog X.w H s.heap l (.lst xs) from I.hok l _ h);exact⟨_,I.write (x:=l) (e:=l) (h':=s.heap) (t':=s.toks) (by rw[h];trivial) (.inl rfl) (fun _ _ _ e=>e) ⟨_,e⟩ ⟨e,z,its,n,r,e⟩⟩
variable {e:Expr}{te:TE}
def zrO (te:TE):TE:=fun σ H Q=>te σ H fun x H1=>∃l xs,x = .ref l/\H1 l=some (.lst xs)/\∀ob,Q x (upd H1 l (.frz ob (.lst xs)))
theorem zlX (h:PE X e te):PE X e (zrO te):=fun pins s σ H Q I q=>thn (h pins s σ H _ I q) fun u s1 ⟨x,H1,I1,r,l,xs,ex,h1,q1⟩=>by obtain⟨ob,I2⟩:=I1.frzL h1;exact⟨x,_,I2,r,q1 ob⟩
end
end L2
namespace L3
open PySem PySem.Spec L2
theorem zrh {d:Addr}{ob:Obj}(h:∃h:Heap,h.get? d=some ob):¬ NP (kO d ob):=fun n=>by have:=n [(Sum.inr "at",.non)] (by unfold kO pnK;dsimp only;rw[if_pos ⟨d,ob,h,rfl⟩]);cases this
section
variable {K:PySem.W.Frag}{P:Program}{w:World}{C:Addr}{H:Hp}{Q:VK}{E:XK}{D:Ends}
end
end L3
namespace L2
open PySem PySem.Spec PyProof.Rows PySem.SeqAt
section
variable {X:Cx}
end
end L2
namespace L3
open PySem PySem.Spec L2
@[reducible] def W.isD:W->Bool
 | .d _=>true
 | _=>false
section
variable {X:Cx}{Pn:PN}{M:List Nat}{fr:Bool}{e:Expr}{f:Ev->Mo W}
@[reducible] def onFl (w:W) (P:List Dt->Prop):Prop:=match w with | .fl i=>P i | _=>False
@[reducible] def dInF (neg:Bool):W->W->Mo W:=fun x y n Q=>onD x fun d=>onFl y fun ds=>d.eqOk/\(Dt.lst ds).eqOk/\∀b:Bool,(b=true↔d∈ds)->Q (.d (.bl (xr neg b))) n
end
open PySem PySem.Spec L2
section
variable {X:Cx}{Pn:PN}{M:List Nat}{fr:Bool}{s:Stmt}{C fI fA:Addr}{dI dA:FuncData}
end
end L3
namespace L2
open PySem PySem.Spec PyProof.Rows PySem.SeqAt
def okT:Nat->Dt->Bool
 | _,.non=>true
 | _,.int _=>true
 | _,.bl _=>true
 | _,.str x=>PyData.strOk x
 | n+1,.tup l=>l.all (okT n)
 | n+1,.lst l=>l.all (okT n)
 | _,_=>false
abbrev Dt.py (d:Dt):PyData:=PySem.W.kqdP d.toW
section
variable {P:Program}{w:World}{H:Hp}{h:Heap}
end
section
variable {X:Cx}
end
end L2
namespace L3
open PySem PySem.Spec L2
section
variable {X:Cx}{Pn:PN}{M:List Nat}{e:Expr}{f:Ev->Mo W}{pos p:Pos}
@[reducible] def dNeT:W->W->Mo W:=fun x y n Q=>onD x fun d=>onD y fun e=>d=e/\okT 8 d=true/\Q (.d (.bl false)) n
@[reducible] def dNiT:W->W->Mo W:=fun x y n Q=>onD x fun d=>onL y fun ds=>okT 8 d=true/\(Dt.lst ds).eqOk/\∀b:Bool,(d∈ds->b=true)->(b=true->∃e∈ds,PyData.eqv e.py d.py=true)->Q (.d (.bl (!b))) n
@[reducible] def zpV (f:Ev->Mo W):Ev->Mo W:=fun ρ n Q=>f ρ n fun x n1=>onL x fun l=>∃sts:List (List Int),l=sts.map stD/\(∀ks:List (List Int),ks.Nodup->(∀z∈ks,z∈sts)->ks.length<300)/\∀ks:List (List Int),ks.Nodup->(∀st,st∈ks↔st∈sts)->Q (.d (.int (ks.length:Nat))) n1
end
end L3
namespace L2
open PySem PySem.Spec PyProof.Rows
section
variable {X:Cx}
end
end L2
namespace L3
open PySem PySem.Spec L2
section
variable {Pn:PN}
@[reducible] def dMaxT:List W->Mo W:=fun ws n Q=>on1 ws fun x=>∃ns:List Int,x = .d (stD ns)/\ns≠[]/\∀m,m∈ns->(∀x∈ns,x<=m)->Q (.d (.int m)) n
end
end L3
namespace L2
open PySem PySem.Spec PyProof.Rows
end L2
namespace L3
open PySem PySem.Spec L2
section
variable {X:Cx}{Pn:PN}{M S:List Nat}{fr:Bool}{a:Expr}{pos p:Pos}
end
end L3
namespace L2
open PySem PySem.Spec PyProof.Rows PySem.W PySem.SeqAt
section
variable {X:Cx}
end
end L2
namespace L3
open PySem PySem.Spec L2
section
variable {X:Cx}{Pn:PN}{M S:List Nat}{fr fr':Bool}{e:Expr}{f:Ev->Mo W}{pos:Pos}
@[reducible] def mRem (i:Nat) (fk:Ev->Mo W):Ms:=fun ρ n k=>onV ρ i fun v=>onL v fun l=>fk ρ n fun y m=>onI y fun j=>∃ns:List Int,l=ns.map Dt.int/\j∈ns/\onP ρ i (.d (lsD (ns.erase j))) fun ρ'=>k.nx ρ' m
end
open PySem PySem.Spec L2
end L3
namespace L3
open PySem PySem.Spec L2
section
variable {X:Cx}{Pn:PN}{M S:List Nat}{fr fr':Bool}{e:Expr}{f:Ev->Mo W}{pos:Pos}
end
end L3
namespace L2
open PySem PySem.Spec PyProof.Rows PySem.W PySem.Calls
section
variable {X:Cx}{pos:Pos}
end
end L2
namespace L3
open PySem PySem.Spec L2
section
variable {X:Cx}{Pn:PN}{M S:List Nat}{fr fr':Bool}{pos p:Pos}{e a b c:Expr}{f fa fb fc:Ev->Mo W}
@[reducible] def dDisp1 (fk fv:Ev->Mo W):Ev->Mo W:=fun ρ n Q=>fk ρ n fun y m=>fv ρ m fun x m2=>∃st,y = .d (stD st)/\onD x fun d=>Q (.dt [(st,d)]) m2
@[reducible] def dNinT (fk fd:Ev->Mo W):Ev->Mo W:=fun ρ n Q=>fk ρ n fun y n1=>fd ρ n1 fun x n2=>onE x fun kvs=>∃st,y = .d (stD st)/\Q (.d (.bl (!(xO kvs st).isSome))) n2
@[reducible] def dSortZ:List W->Mo W:=fun ws n Q=>on1 ws fun x=>onZ x fun kvs=>∃m:Nat,kvs.length<64/\1<=m/\(∀q∈kvs,q.1.length=m)/\∀sts':List (List Int),sts'.Perm (kvs.map (·.1))->(sts'.Pairwise fun a b=>HT.lexLt a b=true)->Q (.d (zfY sts')) n
@[reducible] def dRetZ (i:Nat) (f:Ev->Mo W):Ms:=fun ρ n k=>onV ρ i fun x=>onE x fun kvs=>f ρ n fun w m=>onD w fun d=>k.rt (.tz kvs d) m
@[reducible] def dIxZ:W->W->Mo W:=fun x y n Q=>match x with
 | .tz kvs d=>match y with
  | .d (.int i)=>match i with
   | .ofNat 0=>Q (.df kvs) n
   | .ofNat 1=>Q (.d d) n
   | _=>False
  | _=>False
 | _=>False
@[reducible] def dForP (i:Nat) (F:List W->Mo W) (f1 f3:Ev->Mo W) (mg:W->Ev->(Ev->Prop)->Prop) (fs:Ms):Ms:=fun ρ n k=>f1 ρ n fun w1 m1=>onV ρ i fun x=>onL x fun l=>∃l' d,l=l'++[d]/\f3 (ρ.set i (some (.d (.lst l')))) m1 fun w3 m3=>F [w1,.d d,w3] m3 fun w m=>onL w fun r=>zlf mg fs (ρ.set i (some (.d (.lst l')))) k (r.map W.d) m
end
open PySem PySem.Spec L2
section
variable {X:Cx}{Pn:PN}{M:List Nat}{pos p1 p2 p3 p4:Pos}{a b c:Expr}{fa fb fc:Ev->Mo W}{apos cpos:Pos}
@[reducible] def dGetK (fd fk fz:Ev->Mo W):Ev->Mo W:=fun ρ n Q=>fd ρ n fun x n1=>onK x fun kvs=>fk ρ n1 fun y n2=>fz ρ n2 fun z n3=>onO (zpZ y) fun k=>onD z fun d=>Q (.d ((xO kvs k).getD d)) n3
end
open PySem PySem.Spec L2
section
variable {X:Cx}{Pn:PN}{M S:List Nat}{fr:Bool}
end
end L3
namespace L2
open PySem PySem.Spec PyProof.Rows PySem.W PySem.Calls
section
variable {prog:Program}{w:World}{A:Around}{E:Value->Shared->Prop}{s:Shared}
end
section
variable {X:Cx}{pos:Pos}
end
end L2
namespace L3
open PySem PySem.Spec L2
section
variable {X:Cx}{Pn:PN}{M S:List Nat}{fr fr':Bool}{e:Expr}{f:Ev->Mo W}{pos:Pos}
@[reducible] def dSetZ (i j:Nat) (f:Ev->Mo W):Ms:=fun ρ n k=>f ρ n fun w m=>match w with
 | .tz kvs d=>onP ρ i (.df kvs) fun ρ1=>onP ρ1 j (.d d) fun ρ2=>k.nx ρ2 m
 | _=>False
end
open PySem PySem.Spec L2
section
variable {Pn:PN}{K:PySem.W.Frag}
@[reducible] def zqz:W->W->Mo W:=fun x y n Q=>onB x fun b=>onL y fun l=>∃bs:List Bool,l=bs.map .bl/\Q (.d (.bl (!bs.contains b))) n
end
end L3
namespace L2
open PySem PySem.Spec PyProof.Rows PySem.W PySem.Calls
end L2
namespace L3
open PySem PySem.Spec L2
section
variable {X:Cx}{Pn:PN}{M S:List Nat}{es:List Expr}{pos:Pos}
@[reducible] def dNinS (P:Program) (w:World):W->W->Mo W:=fun x y n Q=>∃ (st:List Int) (ks:List (List Int)),x = .d (stD st)/\y = .ss P w ks/\∀c:Bool,(c=true↔st∈ks)->Q (.d (.bl (!c))) n
@[reducible] def eTpL (n:Nat) (u:List Dt->Ev->(Ev->Prop)->Prop):W->Ev->(Ev->Prop)->Prop:=fun w ρ Q=>onL w fun ds=>zbt n ds (u ds ρ Q)
end
open PySem PySem.Spec L2
section
variable {X:Cx}{Pn:PN}{M M' S:List Nat}{fr:Bool}
theorem At3.rel {B:Bs}{A:Addr->Prop}{σ:St}{H:Hp}{ρ:Ev}{n j:Nat}{w:W}(h:At3 Pn B S M A σ H ρ n)(h1:∀q∈M',q∈M/\q≠j)(h2:∀q∈M,q∈M'\/q=j)(hj:j∈M)(e:ρ[j]?=some (some w)):∃A',At3 Pn B S M' A' σ H ρ n:=by
 obtain⟨v,s,_,s3⟩:=h.env.val j w e;obtain⟨ad,rfl,hA,hbor,hmut⟩:=s3 hj;have hless:∀b,(A b/\b≠ad)->A b:=fun b z=>z.1;have hsm:yW (zO A H) (zO (fun b=>A b/\b≠ad) H):=yB hless
 have hnotA0:¬ B.A0 ad:=fun z=>by
  rcases h.mine j w ad hj e s with q | q
  ·obtain⟨o,o1,o2,_⟩:=h.frm.al ad z;exact q o o1 o2
  ·exact h.frm.cn ad q z
 refine⟨fun b=>A b/\b≠ad,⟨h.env.len,fun q u eq=>?_,fun q k u u' b hq hk=>h.env.dis q k u u' b (h1 q hq).1 (h1 k hk).1,fun b z=>h.env.al b z.1⟩,⟨fun b z=>⟨h.frm.sub b z,fun q=>hnotA0 (q ▸ z)⟩,fun b z=>h.frm.new b z.1,h.frm.st,h.frm.al,h.frm.cn,h.frm.cs⟩,h.pn.less hless,h.prot.trans (zm.same hsm),h.fix,fun k u b hk=>h.mine k u b (h1 k hk).1⟩;by_cases hq:q=j
 ·subst hq;rw[e] at eq;cases eq;exact⟨.ref ad,s,fun _=>WAt.mv (fun o ho=>zp (fun z=>z.2 rfl) ho) hsm hmut hbor,fun z=>absurd rfl (h1 q z).2⟩
 ·obtain⟨v,t1,t2,t3⟩:=h.env.val q u eq;refine⟨v,t1,fun z=>WAt.up (zm.same hsm) (zm.same hsm) (t2 fun y=>(h2 q y).elim z hq),fun z=>?_⟩;obtain⟨b,rfl,hb,hbb,hm⟩:=t3 (h1 q z).1;refine⟨b,rfl,⟨hb,fun q'=>?_⟩,WAt.up (zm.refl _) (zm.same hsm) hbb,hm⟩;subst q';exact h.env.dis j q w u b hj (h1 q z).1 (Ne.symm hq) e eq s t1
@[reducible] def mRel (j:Nat) (fs:Ms):Ms:=fun ρ n k=>onV ρ j fun _=>fs ρ n { rt:=k.rt,nx:=fun _ _=>False }
end
open PySem PySem.Spec L2
section
variable {X:Cx}{Pn:PN}{M M' S:List Nat}{fr:Bool}
theorem At3.moveB {B:Bs}{A:Addr->Prop}{σ:St}{H:Hp}{ρ:Ev}{n i j:Nat}{w:W}{ad:Addr}(h:At3 Pn B S M' A σ H ρ n)(h1:∀q∈M',q∈M/\q≠i)(h2:∀q∈M,q∈M'\/q=i)(hi:i∈M)(hj:j∈M')(hiS:i∉S)(e:ρ[j]?=some (some w))(s:σ[j]?=some (some (.ref ad))):At3 Pn B S M A (σ.set i (some (.ref ad))) H ((ρ.set j none).set i (some w)) n:=by
 have get:∀q (u:W),((ρ.set j none).set i (some w))[q]?=some (some u)->q≠i->q≠j/\ρ[q]?=some (some u):=fun q u eq hq=>by
  rw[ar (Ne.symm hq)] at eq;by_cases hqj:q=j
  ·subst hqj;have hl:=(af.mp eq).1;rw[bD] at hl;rw[aH hl] at eq;cases eq
  ·rw[ar (Ne.symm hqj)] at eq;exact⟨hqj,eq⟩
 have own:∀ (u:W) (b:Addr),((ρ.set j none).set i (some w))[i]?=some (some u)->i<σ.length/\u=w:=fun u b eq=>by have hl:=(af.mp eq).1;rw[bD] at hl;rw[aH hl] at eq;rw[bD] at hl;exact⟨by rw[h.env.len];exact hl,by cases eq;rfl⟩
 obtain⟨v0,s0,_,o0⟩:=h.env.val j w e;rw[s] at s0;cases s0;refine⟨⟨by simp[h.env.len],fun q u eq=>?_,fun q k u u' b hq hk hne e1 e2 s1 s2=>?_,h.env.al⟩,h.frm,h.pn,h.prot,⟨fun k hk=>?_,h.fix.2⟩,fun q u b hq eq sq=>?_⟩
 ·by_cases hq:q=i
  ·subst hq;obtain⟨hl,rfl⟩:=own u ad eq;exact⟨.ref ad,aH hl,fun z=>absurd hi z,fun _=>o0 hj⟩
  ·obtain⟨_,z⟩:=get q u eq hq;rw[ar (Ne.symm hq)];exact (h.env.val q u z).imp fun v t=>⟨t.1,fun y=>t.2.1 fun y'=>y (h1 q y').1,fun y=>t.2.2 ((h2 q y).resolve_right hq)⟩
 ·by_cases hqi:q=i
  ·subst hqi;obtain⟨hl,rfl⟩:=own u ad e1;rw[aH hl] at s1;cases s1;obtain⟨k1,k2⟩:=get k u' e2 (Ne.symm hne);rw[ar hne] at s2;exact h.env.dis j k _ u' ad hj ((h2 k hk).resolve_right (Ne.symm hne)) (Ne.symm k1) e k2 s s2
  ·obtain⟨q1,q2⟩:=get q u e1 hqi;rw[ar (Ne.symm hqi)] at s1;by_cases hki:k=i
   ·subst hki;obtain⟨hl,rfl⟩:=own u' ad e2;rw[aH hl] at s2;cases s2;exact h.env.dis q j u _ ad ((h2 q hq).resolve_right hqi) hj q1 q2 e s1 s
   ·obtain⟨_,k2⟩:=get k u' e2 hki;rw[ar (Ne.symm hki)] at s2;exact h.env.dis q k u u' b ((h2 q hq).resolve_right hqi) ((h2 k hk).resolve_right hki) hne q2 k2 s1 s2
 ·rw[ar (show i≠k from fun z=>hiS (by rw[z];exact hk))];exact h.fix.1 k hk
 ·by_cases hqi:q=i
  ·subst hqi;obtain⟨hl,rfl⟩:=own u ad eq;rw[aH hl] at sq;cases sq;exact h.mine j _ ad hj e s
  ·rw[ar (Ne.symm hqi)] at sq;exact h.mine q u b ((h2 q hq).resolve_right hqi) (get q u eq hqi).2 sq
@[reducible] def znR (i j:Nat) (f:Ms):Ms:=fun ρ n k=>onV ρ i fun _=>f ρ n { rt:=k.rt,nx:=fun ρ' m=>ziM i j ρ' m k }
theorem zjb {i:Nat}(M':List Nat)(j:Nat){st:Stmt}{f:Ms}{x y:Str}{px py sp:Pos}(h:JS X Pn S M' fr st f)(hN:X.N.Nodup)(hi:X.N[i]?=some x)(hx:Loc X.env.scope x)(hj:j∈M':=by decide)(hiM:i∈M:=by decide)(hiS:i∉S:=by decide)(h1:∀q∈M',q∈M/\q≠i:=by decide)(h2:∀q∈M,q∈M'\/q=i:=by decide)(hNj:X.N[j]?=some y:=by rfl)(hv:Vis X.env.scope y:=by first | exact Or.inl rfl | exact Or.inr (Or.inl rfl) | exact Or.inr (Or.inr rfl))(hd:(y==("__debug__" : Str))=false:=by decide)
  (hcd:(y==("__classdict__" : Str))=false:=by decide) (hs:swapsWith (.Name y py) (some (.Name x px)) sp.line X.env=pure false:=by rfl) (hf:X.fn x=true\/X.env.scope.names.lookup x=some .local:=by first | exact .inl rfl | exact .inr rfl | assumption):JSs X Pn S M fr [st,.Assign [.Name x px] (.Name y py) sp] (znR i j f):=by
 obtain⟨t,q,r⟩:=h.ex;refine⟨_,zR q (xC (xI (i:=i) hN hi hx (qv j hNj hv hd hcd) hs hf)),⟨fun B A σ H ρ n k D a kk hf=>?_⟩⟩;unfold znR at hf;rw[u7] at hf;obtain⟨w,e,hf⟩:=hf;obtain⟨A',a'⟩:=a.rel h1 h2 hiM e;refine r.run B A' σ H ρ n { rt:=k.rt,nx:=fun ρ' m=>ziM i j ρ' m k } _ a' ⟨fun A2 σ2 H2 ρ2 n2 a2 hm=>?_,fun _ _ _ _ _ _ z=>False.elim z,fun _ _ _ _ _ _ z=>False.elim z,kk.fc,kk.rt⟩ hf;rw[<- zjj] at hm;obtain⟨w2,e2,r2⟩:=hm;obtain⟨v,s1,_,s3⟩:=a2.env.val j w2 e2;obtain⟨ad,rfl,hA,_,_⟩:=s3 hj;exact⟨.ref ad,s1,kk.nx _ _ H2 _ n2 (a2.moveB h1 h2 hiM hj hiS e2 s1) r2⟩
end
open PySem L2
@[reducible] def mNo:Ms:=fun _ _ _=>False
end L3
namespace L2
open PySem PySem.Spec PyProof.Rows PySem.W PySem.Calls
section
variable {prog:Program}{w:World}{A:Around}{E:Value->Shared->Prop}{s:Shared}
end
section
variable {X:Cx}
end
end L2
namespace L3
open PySem PySem.Spec L2
section
variable {X:Cx}{Pn:PN}
@[reducible] def dSortP:List W->Mo W:=fun ws n Q=>on1 ws fun x=>onT x fun l=>∃ (sts:List (List Int)) (m:Nat),l=sts.map stD/\sts.length<64/\1<=m/\(∀st∈sts,st.length=m)/\sts.Nodup/\∀sts':List (List Int),sts'.Perm sts->(sts'.Pairwise fun a b=>HT.lexLt a b=true)->Q (.d (zfY sts')) n
end
end L3
namespace L2
open PySem PySem.Spec PyProof.Rows
section
variable {X:Cx}{pins:List (Addr×Obj)}{σ:St}{H:Hp}{s:Shared}{C:Addr}{E:XK}
end
section
variable {X:Cx}{C:Addr}{E:XK}{x m:Str}{np cpos pos p1:Pos}
end
section
variable {prog:Program}{w:World}{A:Around}{E:Value->Shared->Prop}{K:PySem.W.Frag}{C a:Addr}{o:Obj}{hp:Heap}{gs:Array GenState}{dr:Drawn}{tk:Nat}{oS:OsState}
end
section
variable {X:Cx}{pins:List (Addr×Obj)}{σ:St}{H:Hp}{s:Shared}
end
section
variable {X:Cx}{pins:List (Addr×Obj)}{σ:St}{H H':Hp}{s s':Shared}{C e:Addr}
end
section
variable {M:Model}{A:Around}{E:Value->Shared->Prop}{K:PySem.W.Frag}{C D e:Addr}{oe:Obj}{hp:Heap}{gs:Array GenState}{dr:Drawn}{tk:Nat}{oS:OsState}
end
section
variable {X:Cx}{C W l:Addr}{a c n wx:Str}{ia ic k:Nat}{ap cp ep wp p1 p2 p3 hp pos:Pos}{QH:Hp->Prop}
end
def zm4 (oc:Obj)(q:Str):Prop:=∃vs tq,oc.data = .fields vs/\vs[1]?=some (.str q tq)
def zkS (oc:Obj):HO:=.frz oc (.own 0)
section
variable {P:Program}{w:World}{K:PySem.W.Frag}{mg:Str->Option Value}{base:Heap}{N:List Str}{qual:Str}{scope:Scope}{l:Addr}{cv:Value}{cl:List (Str×Addr)}{A:Around}{outer:List Env}{s:Shared}{H:Hp}{C:Addr}{E:XK}
end
section
variable {X:Cx}{pins:List (Addr×Obj)}{σ:St}{H:Hp}{s:Shared}{E:Value->Shared->Prop}{params:Arguments}{body:Expr}{scope:Scope}{pos:Pos}{c P:Addr}{cl:List (Str×Addr)}
end
section
variable {X:Cx}
end
section
variable {X:Cx}{C W l:Addr}{cs:List Addr}{a c n cx wx:Str}{k k1 k2 k3:Nat}{es:List Expr}{ts:TA}{QH:Hp->Prop}
 {p1 p2 p3 ap cp ep wp q1 q2 q3 hp tp i1 i2 i3 i4 i5 i6 i7 i8 i9 j1 j2 j3 j4 j5 j6 j7 r1 r2 r3 r4 tq:Pos}
end
section
variable {P:Program}{w:World}{K:PySem.W.Frag}{mg:Str->Option Value}{base:Heap}{C W f:Addr}{cs:List Addr}{x a c n cx wx:Str}{st:Stmt}{fd:FuncData}{k k1 k2 k3:Nat}{xs:List (Str×Pos)}
 {p1 p2 p3 ap cp ep wp q1 q2 q3 hp tp i1 i2 i3 i4 i5 i6 i7 i8 i9 j1 j2 j3 j4 j5 j6 j7 r1 r2 r3 r4 tq:Pos}
end
section
variable {X:Cx}{C P cc f:Addr}{cs:List Addr}{x:Str}{k:Nat}{p pos lpos:Pos}{params:Arguments}{body:Expr}{scope:Scope}{N:List Str}{cix:List (Option Nat)}
end
end L2
namespace L3
open PySem PySem.Spec L2
section
variable {X:Cx}{E:XK}{Pn:PN}{M:List Nat}{C:Addr}{e c:Expr}{es:List Expr}{b yn:List Stmt}{p pos p1 p2 np cpos:Pos}{x m:Str}{j:Nat}
end
theorem zkp {P:Addr}{ob:Obj}(h:∃h:Heap,h.get? P=some ob):¬ NP (kO P ob):=fun n=>by have:=n [(Sum.inr "at",.non)] (by unfold kO pnK;dsimp only;rw[if_pos ⟨P,ob,h,rfl⟩]);cases this
def zpT (P:Addr)(q:Str)(A:Addr->Prop)(H:Hp):Prop:=¬ A P/\∃ps:Array Value,H P=some (kO P (PySem.W.tabObj ps))/\(∃h:Heap,h.get? P=some (PySem.W.tabObj ps))/\TriplesOk ps.toList/\
 ∀pos cv,codeAmong pos ps.toList=some cv->∃c' oc,cv = .ref c'/\H c'=some (zkS oc)/\zm4 oc q/\¬ A c'
theorem zhy {oc:Obj}:¬ Mt (zkS oc):=fun z=>by cases z
theorem zpT.ch {P:Addr}{q:Str}{A A':Addr->Prop}{H H':Hp}(h:zpT P q A H)(h1:¬ A P->(∃ob,H P=some (kO P ob)/\∃h:Heap,h.get? P=some ob)->¬ A' P/\H' P=H P)(h2:∀c oc,¬ A c->H c=some (zkS oc)->¬ A' c/\H' c=H c):zpT P q A' H':=by obtain⟨n,ps,g1,g2,g3,g4⟩:=h;obtain⟨n',e⟩:=h1 n ⟨_,g1,g2⟩;refine⟨n',ps,by rw[e];exact g1,g2,g3,fun pos cv z=>?_⟩;obtain⟨c',oc,z1,z2,z3,z4⟩:=g4 pos cv z;obtain⟨y1,y2⟩:=h2 c' oc z4 z2;exact⟨c',oc,z1,by rw[y2];exact z2,z3,y1⟩
def tabJ (P:Addr)(q:Str):Jv where
 K:=zpT P q
 same:=fun h s=>h.ch (fun n ⟨ob,e,_⟩=>⟨n,by rw[s _ _ e,e]⟩) fun c oc n e=>⟨n,by rw[s _ _ e,e]⟩
 grow:=fun h g=>h.ch (fun n ⟨ob,e,w⟩=>⟨fun z=>(g _ z).elim n fun⟨o,e1,e2,_⟩=>by rw[e] at e1;cases e1;exact zkp w e2,rfl⟩) fun c oc n e=>⟨fun z=>(g _ z).elim n fun⟨o,e1,_,e2⟩=>by rw[e] at e1;cases e1;exact zhy e2,rfl⟩
 upd:=fun h a=>h.ch (fun n _=>⟨n,zc fun z=>n (z ▸ a)⟩) fun c oc n e=>⟨n,zc fun z=>n (z ▸ a)⟩
 frz:=fun h e1 e2 e3=>h.ch (fun n ⟨ob,e,w⟩=>⟨n,zc fun z=>by subst z;rw[e] at e1;cases e1;exact zkp w e2⟩) fun c oc n e=>⟨n,zc fun z=>by subst z;rw[e] at e1;cases e1;exact zhy e3⟩
section
variable {X:Cx}{Pn:PN}{M:List Nat}{C P cc f:Addr}{cs:List Addr}{x y:Str}{k kk m:Nat}{p pos lpos p1 p2:Pos}{params:Arguments}{e:Expr}{es:List Expr}{scope:Scope}{N:List Str}{cix:List (Option Nat)}
 {st:Stmt} {ps:List Str} {fA:Addr} {fd:FuncData} {Fp:List W->Prop} {fs:Ev->Mo (List W)} {j:Nat}
end
end L3
namespace L2
open PySem PySem.Spec PyProof.Rows
end L2
namespace L3
open PySem PySem.Spec L2
end L3
namespace L2
open PySem PySem.Spec PyProof.Rows
section
variable {X:Cx}
end
end L2
namespace L3
open PySem L2
def PenJ (J:Jv):Prop:=∀A H H' p c a l,J.K A H->H p=some (.dK (u9 c a l))->(∀b o,b≠p->H b=some o->H' b=some o)->J.K A H'
def IsQ (Pn:PN)(p:Addr):Prop:=(∃c ns,Pn.pn=some (p,c,ns))/\PenJ Pn.J
def zm6:FV:=fun Pn ws n R=>∃p zC,IsQ Pn p/\ws=[.pen p,.d (.int zC)]/\n<=1000000/\1<=zC/\zC<1073741824/\∀r,0<=r->r<zC->R (.d (.int r)) (n+1)
theorem tk {Pn:PN}{p:Addr}{zC:Int}{n:Nat}{Q:W->Nat->Prop}(hP:IsQ Pn p)(h:∀r,0<=r->r<zC->Q (.d (.int r)) (n+1))(hn:n<=1000000:=by lia)(h1:1<=zC:=by lia)(h2:zC<1073741824:=by lia):zm6 Pn [.pen p,.d (.int zC)] n Q:=⟨p,zC,hP,rfl,hn,h1,h2,h⟩
@[reducible] def dAny:List W->Mo W:=fun ws n Q=>on1 ws fun x=>onL x fun l=>∃bs:List Bool,l=bs.map .bl/\Q (.d (.bl (bs.any id))) n
end L3
namespace L2
open PySem PySem.Spec PyProof.Rows
end L2
namespace L3
open PySem PySem.Spec L2
section
variable {X:Cx}{Pn:PN}{M:List Nat}{e:Expr}{f:Ev->Mo W}{pos p p1 p2 p3:Pos}
@[reducible] def isSeqD:Dt->Bool
 | .tup _=>true
 | .lst _=>true
 | _=>false
end
section
variable {X:Cx}{Pn:PN}{M:List Nat}{ow:Bool}{tg it a b:Expr}{f1 f2:Ev->Mo (List W)}{p pos:Pos}
end
end L3
namespace L2
open PySem PySem.Spec PyProof.Rows PySem.W PySem.Calls
section
variable {X:Cx}{pins:List (Addr×Obj)}{σ:St}{H:Hp}{s:Shared}{a b:Addr}{ks:List (Dt×Addr×V)}{k:Dt}{A:Around}{E:Value->Shared->Prop}
end
section
variable {X:Cx}
variable {o i value:Expr}{pos pos':Pos}{td ty tv:TE}
end
section
variable {X:Cx}{pins:List (Addr×Obj)}{σ:St}{H:Hp}{s:Shared}{a:Addr}{ks:List (Dt×Addr×V)}
end
end L2
namespace L3
open PySem PySem.Spec L2
@[reducible] def onM (w:W) (P:List (Dt×Dt)->Prop):Prop:=match w with | .dn _ i=>P i | _=>False
@[reducible] def zm1 (w:W) (P:List (Dt×Dt)->Prop):Prop:=match w with | .dn false i=>P i | _=>False
@[reducible] def onMz (w:W) (P:List (Dt×Dt)->Prop):Prop:=match w with | .dn true i=>P i | _=>False
def _root_.L2.Dt.ky (k:Dt):Prop:=k.hk=true/\k.kk/\k.isTup=true
section
variable {X:Cx}{Pn:PN}{M S:List Nat}{fr fr':Bool}{pos p:Pos}{e a b c:Expr}{f fa fb fc:Ev->Mo W}
@[reducible] def dInN (neg:Bool):W->W->Mo W:=fun x y n Q=>onD x fun k=>onM y fun kvs=>k.ky/\Q (.d (.bl (xr neg (xO kvs k).isSome))) n
@[reducible] def dNGet (fd fk:Ev->Mo W):Ev->Mo W:=fun ρ n Q=>fd ρ n fun x n1=>fk ρ n1 fun y n2=>onM x fun kvs=>onD y fun k=>k.ky/\onO (xO kvs k) fun d=>Q (.d d) n2
@[reducible] def dNPut (i:Nat) (fk f:Ev->Mo W):Ms:=fun ρ n k=>onV ρ i fun v=>zm1 v fun _=>f ρ n fun w m=>fk ρ m fun y m2=>onD w fun d=>onD y fun kd=>onV ρ i fun v2=>zm1 v2 fun kvs=>kd.ky/\kvs.length<lim/\onP ρ i (.dn false (zhQ kvs kd d)) fun ρ'=>k.nx ρ' m2
@[reducible] def dFrzN (f:Ev->Mo W):Ev->Mo W:=fun ρ n Q=>f ρ n fun x m=>zm1 x fun kvs=>Q (.dn true kvs) m
@[reducible] def mFrzO (j:Nat) (fs:Ms):Ms:=fun ρ n k=>onV ρ j fun w=>zm1 w fun kvs=>onP ρ j (.dn true kvs) fun ρ'=>fs ρ' n { rt:=k.rt,nx:=fun _ _=>False }
@[reducible] def dItN (fa:Ev->Mo W):Ev->Mo (List W):=fun ρ n Q=>fa ρ n fun x m=>onMz x fun kvs=>(kvs.map (·.1)).Nodup->Q (kvs.map fun q=>W.d q.1) m
end
end L3
namespace L2
open PySem PySem.Spec PyProof.Rows PySem.W PySem.Calls
mutual
def enD:Dt->List Int
 | .int n=>[n]
 | .tup l=>enDs l
 | _=>[]
def enDs:List Dt->List Int
 | []=>[0]
 | d::l=>1::(enD d++enDs l)
end
mutual
def Dt.cmp:Dt->Dt->Bool
 | .int _,.int _=>true
 | .tup l,.tup m=>Dt.cmps l m
 | _,_=>false
def Dt.cmps:List Dt->List Dt->Bool
 | a::l,b::m=>Dt.cmp a b&&Dt.cmps l m
 | _,_=>true
end
section
variable {P:Program}{w:World}
structure RowsOk (ft:Bool)(sts:List Dt):Prop where
 key:∀x∈sts,x.hk=true/\x.eqOk/\x.isTup=true
 cmp:∀x∈sts,∀y∈sts,Dt.cmp x y=true
 first:2<=sts.length->∀x∈sts,∃d l,x = .tup (d::l)/\d.isTup=ft
 nd:sts.Nodup
end
section
variable {X:Cx}
end
mutual
theorem zkh:∀ {d:Dt},d.hk=true->d.noL=true
 | .int _,_=>rfl
 | .tup l,h=>by simpa [Dt.noL] using zgT (show Dt.hks l=true from h)
 | .non,h=>by cases h
 | .bl _,_=>rfl
 | .str _,h=>by cases h
 | .lst _,h=>by cases h
 | .dct,h=>by cases h
theorem zgT:∀ {l:List Dt},Dt.hks l=true->Dt.noLs l=true
 | [],_=>rfl
 | d::l,h=>by simp only[Dt.hks,aR] at h;simp only[Dt.noLs,aR];exact⟨zkh h.1,zgT h.2⟩
end
def NDo (ob:Obj)(d:Addr)(ks:List (Dt×Addr×V)):Prop:=ks.length<=sizeLine/\(d==sysModules)=false/\∃xs:List (Dt×Addr×Value),Paired PrN ks xs/\∃es ep,ob.ExactDict/\ob.data = .dict es ep/\es.toList=xs.map (fun x=>⟨zlj x.1,.ref x.2.1,x.2.2⟩)/\(xs.map (·.1)).Nodup
section
variable {X:Cx}{pins:List (Addr×Obj)}{σ:St}{H:Hp}{s:Shared}{a b d:Addr}{ob:Obj}{ks:List (Dt×Addr×V)}{k:Dt}{A:Around}{E:Value->Shared->Prop}
variable {o i value:Expr}{pos pos':Pos}{td ty tv:TE}
end
end L2
namespace L3
open PySem PySem.Spec L2
def MeE (Q:Dt->List Dt->Prop)(G:Hp)(q:Dt×Addr×V):Prop:=∃va o xs l,q.2.2 = .ref va/\G va=some (.frz o (.lst xs))/\IsL G l xs/\Dt.noLs l=true/\Q q.1 l
def MeG (d:Addr)(Q:Dt->List Dt->Prop)(G:Hp):Prop:=∃ob ks,G d=some (kO d ob)/\(∃h:Heap,h.get? d=some ob)/\NDo ob d ks/\zch G ks/\∀q∈ks,MeE Q G q
def Sk (G G':Hp):Prop:=∀b o,G b=some o->(imm o=true\/∃ob,o=kO b ob/\∃h:Heap,h.get? b=some ob)->G' b=some o
theorem Sk.t {G G':Hp}(h:Sk G G'):zgf G G':=fun b xs e=>h b _ e (.inl rfl)
theorem MeE.st {Q:Dt->List Dt->Prop}{G G':Hp}{q:Dt×Addr×V}(h:MeE Q G q)(t:zgf G G')(f:∀b o xs,G b=some (.frz o (.lst xs))->G' b=some (.frz o (.lst xs))):MeE Q G' q:=by obtain⟨va,o,xs,l,h1,h2,h3,h4,h5⟩:=h;exact⟨va,o,xs,l,h1,f _ _ _ h2,h3.stayT t h4,h4,h5⟩
theorem zch.stT {G G':Hp}{ks:List (Dt×Addr×V)}(h:zch G ks)(s:zgf G G'):zch G' ks:=fun q hq=>let ⟨h1,h2,h3⟩:=h q hq;⟨h1,h2,h3.stayT s (zkh h1)⟩
theorem MeG.sk {d:Addr}{Q:Dt->List Dt->Prop}{G G':Hp}(h:MeG d Q G)(s:Sk G G'):MeG d Q G':=by obtain⟨ob,ks,h1,h2,h3,h4,h5⟩:=h;exact⟨ob,ks,s _ _ h1 (.inr ⟨ob,rfl,h2⟩),h2,h3,zch.stT h4 s.t,fun q hq=>(h5 q hq).st s.t fun b o xs e=>s b _ e (.inl rfl)⟩
theorem znW {b:Addr}{o o':HO}{ob:Obj}(e:o=kO b ob)(h:∃h:Heap,h.get? b=some ob)(n:NP o):False:=by subst e;exact zrh h n
def zrg (d:Addr)(Q:Dt->List Dt->Prop):Jv where
 K:=fun A H=>MeG d Q (zO A H)
 same:=fun h s=>h.sk fun b o e _=>zc8 s b o e
 grow:=fun {A A' H} h g=>h.sk fun b o e n=>by
  obtain⟨e1,e2⟩:=zS.mp e;refine zp (fun z=>?_) e2;rcases g b z with q | ⟨o',q1,q2,q3⟩
  ·exact e1 q
  ·rw[e2] at q1;cases q1;rcases n with n | ⟨ob,n1,n2⟩
   ·rw[show imm o=false from q3] at n;cases n
   ·exact znW (o':=o) n1 n2 q2
 upd:=fun {A H p o} h hp=>by rw[zF hp];exact h
 frz:=fun {A H p o o'} h hp np mt=>h.sk fun b u e n=>by
  obtain⟨e1,e2⟩:=zS.mp e
  have hb:b≠p:=fun z=>by
   subst z;rw[hp] at e2;cases e2;rcases n with n | ⟨ob,n1,n2⟩
   ·rw[show imm o=false from mt] at n;cases n
   ·exact znW (o':=o) n1 n2 np
  exact zp e1 (by rw[zc hb];exact e2)
def andJ (J J':Jv):Jv where
 K:=fun A H=>J.K A H/\J'.K A H
 same:=fun h s=>⟨J.same h.1 s,J'.same h.2 s⟩
 grow:=fun h g=>⟨J.grow h.1 g,J'.grow h.2 g⟩
 upd:=fun h a=>⟨J.upd h.1 a,J'.upd h.2 a⟩
 frz:=fun h a b c=>⟨J.frz h.1 a b c,J'.frz h.2 a b c⟩
structure IsMemo (J:Jv)(d:Addr)(Q:Dt->List Dt->Prop):Prop where
 get:∀A H,J.K A H->MeG d Q (zO A H)
 ch:∀A H H',J.K A H->(∀b o,H b=some o->b≠d->H' b=some o)->MeG d Q (zO A H')->J.K A H'
@[reducible] def PN.mo (Pn:PN) (d:Addr) (Q:Dt->List Dt->Prop):PN:=⟨Pn.pn,andJ (zrg d Q) Pn.J⟩
section
variable {X:Cx}{Pn:PN}{M M' S:List Nat}{fr fr':Bool}{pos p p1 p2 p3 p4 p5 p6:Pos}{e a b c:Expr}{f fa fb fc:Ev->Mo W}{fk fm:Ev->W->Prop}{st:Stmt}{sts:List Stmt}{fs gs:Ms}{x:Str}{i:Nat}
@[reducible] def pVar (i:Nat):Ev->W->Prop:=fun ρ w=>ρ[i]?=some (some w)
@[reducible] def pWide (i:Nat):Ev->W->Prop:=fun ρ w=>∃d fs kn,ρ[i]?=some (some (.wd d fs kn))/\w = .pen d/\xO fs (Sum.inr "wide" : Key)=none
@[reducible] def mPSeq (f g:Ms):Ms:=fun ρ n k=>f ρ n { nx:=fun ρ' n'=>blk g ρ' n' k,rt:=fun _ _=>False }
@[reducible] def mPFrz (j:Nat) (fs:Ms):Ms:=fun ρ n k=>onV ρ j fun w=>zm1 w fun kvs=>onP ρ j (.dn true kvs) fun ρ'=>fs ρ' n k
@[reducible] def mPEnd (f:Ev->Mo W):Ms:=fun ρ n k=>f ρ n fun w m=>k.rt w m/\k.nx ρ m
@[reducible] def mMemo (Pn:PN) (fk fm:Ev->W->Prop) (fb:Ms):Ms:=fun ρ n k=>∃ (d:Addr) (Q:Dt->List Dt->Prop) (kd:Dt) (l0:List Dt),IsMemo Pn.J d Q/\kd.ky/\(∀k' l,Q k' l->k'∈l0)/\l0.length<=lim/\fk ρ (.d kd)/\fm ρ (.pen d)/\
 blk fb ρ n { nx:=fun ρ' _=>fk ρ' (.d kd)/\fm ρ' (.pen d),rt:=fun w m=>∃l,w = .fl l/\m=n/\Dt.noLs l=true/\Q kd l }/\∀l,Q kd l->k.rt (.d (.lst l)) n
@[reducible] def dFlz (f:Ev->Mo W):Ev->Mo W:=fun ρ n Q=>f ρ n fun x m=>onL x fun l=>Q (.fl l) m
end
open PySem PySem.Spec L2
abbrev Fs:=List (Key×Dt)
abbrev Kn:=List (List Int×Dt)
abbrev FW:=PN->List W->Nat->(Fs->Kn->Nat->Prop)->Prop
section
variable {X:Cx}{Pn:PN}{M M' S:List Nat}{fr fr':Bool}{pos p:Pos}{p0 p1 p2 p3 p4 p5 p6 p7:Pos}{j0 j1 j2 j3 j4 j5 j6:Nat}{e a b c:Expr}{es:List Expr}{f fa fb fc:Ev->Mo W}{st:Stmt}{sts:List Stmt}{fs:Ms}{gs:Ev->Nat->(Fs->Kn->Nat->Prop)->Prop}{x:Str}{i:Nat}
@[reducible] def mWSeq (f:Ms) (g:Ev->Nat->(Fs->Kn->Nat->Prop)->Prop):Ev->Nat->(Fs->Kn->Nat->Prop)->Prop:=fun ρ n R=>f ρ n { nx:=fun ρ' n'=>g ρ' n' R,rt:=fun _ _=>False }
@[reducible] def mWRet (i0 i1 i2 i3 i4 i5:Nat):Ev->Nat->(Fs->Kn->Nat->Prop)->Prop:=fun ρ n R=>onV ρ i0 fun w0=>onD w0 fun d0=>onV ρ i1 fun w1=>onD w1 fun d1=>onV ρ i2 fun w2=>onD w2 fun d2=>onV ρ i3 fun w3=>onD w3 fun d3=>onV ρ i4 fun w4=>onD w4 fun d4=>onV ρ i5 fun w5=>onZ w5 fun kn=>
 R [(Sum.inr "room",d0),(Sum.inr "some",d1),(Sum.inr "box",d2),(Sum.inr "worse",d3),(Sum.inr "there",d4)] kn n
@[reducible] def mWCons (f:Ev->Mo W) (g:Ev->Nat->(List W->PN->Nat->Prop)->Prop):Ev->Nat->(List W->PN->Nat->Prop)->Prop:=fun ρ n R=>f ρ n fun w m=>g ρ m fun ws Pm m2=>R (w::ws) Pm m2
@[reducible] def mWHead (k:Nat) (F:FW) (Pn:PN) (fs:Ev->Mo (List W)) (gs:Addr->(Dt->List Dt->Prop)->Ev->Mo (List W)):Ev->Nat->(List W->PN->Nat->Prop)->Prop:=fun ρ n R=>fs ρ n fun ws m=>ws.length=k/\F Pn ws m fun f kn m2=>∃Q,∀d,gs d Q ρ m2 fun ws2 m3=>R (.wd d f kn::ws2) (Pn.mo d Q) m3
@[reducible] def mFnW (k:Nat) (F:PN->List W->Mo W) (fs:Ev->Nat->(List W->PN->Nat->Prop)->Prop):Ev->Mo W:=fun ρ n R=>fs ρ n fun ws Pm m=>ws.length=k/\F Pm ws m R
@[reducible] def mWorld (k i:Nat) (F:FW) (Pn:PN) (fs:Ev->Mo (List W)) (gs:Addr->(Dt->List Dt->Prop)->Ms):Ms:=fun ρ n K=>fs ρ n fun ws m=>ws.length=k/\F Pn ws m fun f kn m2=>∃Q,∀d,onP ρ i (.wd d f kn) fun ρ'=>blk (gs d Q) ρ' m2 { rt:=K.rt,nx:=fun _ _=>False }
@[reducible] def onWd (w:W) (P:Fs->Kn->Prop):Prop:=match w with | .wd _ f kn=>P f kn | _=>False
@[reducible] def dWGet (fb:Ev->Mo W) (k:Key):Ev->Mo W:=fun ρ n Q=>fb ρ n fun x m=>onWd x fun f _=>onO (xO f k) fun d=>Q (.d d) m
@[reducible] def dWKn (fb:Ev->Mo W):Ev->Mo W:=fun ρ n Q=>fb ρ n fun x m=>onWd x fun f kn=>xO f (Sum.inr "known" : Key)=none/\Q (.df kn) m
@[reducible] def dInZ (neg:Bool) (fk fd:Ev->Mo W):Ev->Mo W:=fun ρ n Q=>fk ρ n fun y n1=>fd ρ n1 fun x n2=>onZ x fun kvs=>∃st,y = .d (stD st)/\Q (.d (.bl (xr neg (xO kvs st).isSome))) n2
@[reducible] def mRelN (j:Nat) (fs:Ms):Ms:=fun ρ n k=>onN ρ j fun ρ'=>fs ρ' n { rt:=k.rt,nx:=fun _ _=>False }
def ltD (a b:Dt):Prop:=HT.lexLt (enD a) (enD b)=true
@[reducible] def dSortD:List W->Mo W:=fun ws n Q=>on1 ws fun x=>onS x fun sts=>sts.length<64/\(∃ft,RowsOk ft sts)/\∀sts':List Dt,sts'.Perm sts->sts'.Pairwise ltD->Q (.d (.lst sts')) n
end
open PySem L2
theorem zhL {a c:Int×Int}(h:yD a=yD c):a=c:=by obtain⟨a1,a2⟩:=a;obtain⟨c1,c2⟩:=c;simp only[yD,Dt.tup.injEq,List.cons.injEq,Dt.int.injEq,and_true] at h;rw[h.1,h.2]
end L3
namespace L2
open PySem PySem.Spec PyProof.Rows PySem.W PySem.Calls
section
variable {X:Cx}{e:Expr}{te:TE}{p p2 kp pos:Pos}
end
end L2
namespace L3
open PySem PySem.Spec L2
section
variable {X:Cx}{Pn:PN}{M:List Nat}{fr fr':Bool}{e a b:Expr}{f fa:Ev->Mo W}{p p2 kp pos:Pos}
@[reducible] def onLf (w:W) (P:List (List Dt)->Prop):Prop:=match w with | .lf i=>P i | _=>False
@[reducible] def dMinL (fs:Ev->Mo (List W)):Ev->Mo W:=fun ρ n Q=>fs ρ n fun ws m=>on1 ws fun x=>onLf x fun ls=>0<ls.length/\∀ (i:Nat) (l:List Dt),ls[i]?=some l->(∀ (j:Nat) (l':List Dt),ls[j]?=some l'->l.length<=l'.length/\(j<i->l.length<l'.length))->Q (.fl l) m
end
end L3
namespace L2
open PySem PySem.Spec PyProof.Rows
section
variable {X:Cx}{Fam:Cx->Prop}{scope:Scope}{cix:List (Option Nat)}{use:Option (Value->Sem Unit)}{Qp:Value->Shared->Prop}{elt t1 i1 t2 i2 t3 i3:Expr}{f1 f2 f3:List Expr}{pos ipos spos px:Pos}{w1 w2 w3:TI}{g1 g2 g3:TG}{n1 n2 n3:TT}{te:TE}{pins:List (Addr×Obj)}{σ:St}{H:Hp}{s:Shared}{Q:VK}
end
end L2
namespace L3
open PySem PySem.Spec L2
abbrev CB (α:Type):=Ev->Nat->List α->(Ev->Nat->List α->Prop)->Prop
def clR {α:Type}(mg:W->Ev->(Ev->Prop)->Prop)(ft:Ev->Mo Bool)(fb:CB α)(ρ0:Ev)(ds0:List α)(K:Ev->Nat->List α->Prop):List W->Nat->Prop:=fun l n1=>∃I:Nat->Ev->Nat->List α->Prop,I 0 ρ0 n1 ds0/\
 (∀i w ρ n ds,l[i]?=some w->I i ρ n ds->mg w ρ fun ρ1=>ft ρ1 n fun b n2=>onC b (fb ρ1 n2 ds (I (i+1))) (I (i+1) ρ1 n2 ds))/\∀ ρ n ds,I l.length ρ n ds->K ρ n ds
@[reducible] def apR (fe:Ev->Mo W):CB Dt:=fun ρ n ds K=>fe ρ n fun x n3=>onD x fun d=>ds.length<=lim/\K ρ n3 (ds++[d])
@[reducible] def inB {α:Type} (fi:Ev->Mo (List W)) (mg:W->Ev->(Ev->Prop)->Prop) (ft:Ev->Mo Bool) (fb:CB α):CB α:=fun ρ n ds K=>fi ρ n (clR mg ft fb ρ ds K)
structure CG {α:Type}(AC:(Addr->Prop)->Addr->Hp->List α->Prop)(Pn:PN)(A:Addr->Prop)(acc:Addr)(H1:Hp)(cM:List Nat)(σc:St)(ρc:Ev)(σ:St)(H:Hp)(ρ:Ev)(n:Nat)(ds:List α):Prop where
 env:EnvR (fun b=>A b\/b=acc) cM σ H ρ
 pn:xm Pn (fun b=>A b\/b=acc) n H
 ac:AC A acc H ds
 st:zm (zO A H1) (zO (fun b=>A b\/b=acc) H)
 s1:zm H1 H
 fx:∀k∈cM,σ[k]?=σc[k]?/\ρ[k]?=ρc[k]?
structure StayAC {α:Type}(AC:(Addr->Prop)->Addr->Hp->List α->Prop):Prop where
 go:∀ {A acc H H' ds},AC A acc H ds->zm H H'->AC A acc H' ds
def acL (A:Addr->Prop)(acc:Addr)(H:Hp)(ds:List Dt):Prop:=∃xs,H acc=some (.lst xs)/\IsL (zO (fun b=>A b\/b=acc) H) ds xs
theorem zaQ:StayAC acL:=⟨fun⟨xs,h1,h2⟩ s=>⟨xs,s.lst h1,h2.stay (zw s)⟩⟩
section
variable {X:Cx}{Pn:PN}{M S cM:List Nat}{fr fr':Bool}{e:Expr}{es:List Expr}{pos:Pos}{A:Addr->Prop}{acc:Addr}{H1 H H':Hp}{σc σ:St}{ρc ρ:Ev}{n m:Nat}{α:Type}{AC:(Addr->Prop)->Addr->Hp->List α->Prop}{ds:List α}
theorem CG.go (c:CG AC Pn A acc H1 cM σc ρc σ H ρ n ds)(hS:StayAC AC)(s:zm H H')(p:xm Pn (fun b=>A b\/b=acc) m H'):CG AC Pn A acc H1 cM σc ρc σ H' ρ m ds:=
 ⟨c.env.stay s,p,hS.go c.ac s,c.st.trans (zw s),c.s1.trans s,c.fx⟩
structure RBd {α:Type}(AC:(Addr->Prop)->Addr->Hp->List α->Prop)(Pn:PN)(cM:List Nat)(tb:Addr->(St->Hp->Prop)->St->Hp->Prop)(fb:CB α):Prop where
 run:∀ (A:Addr->Prop) (acc:Addr) (H1:Hp) (σc:St) (ρc:Ev) (σ:St) (H:Hp) (ρ:Ev) (n:Nat) (ds:List α) (G:Hp) (K:Ev->Nat->List α->Prop) (Nx:St->Hp->Prop),H1 acc=none->(∀k w,k∈cM->ρc[k]?=some (some w)->σc[k]?≠some (some (.ref acc)))->CG AC Pn A acc H1 cM σc ρc σ H ρ n ds->zm G (zO (fun b=>A b\/b=acc) H)->fb ρ n ds K->
  (∀ σ2 H2 ρ2 n2 ds2,CG AC Pn A acc H1 cM σc ρc σ2 H2 ρ2 n2 ds2->zm G (zO (fun b=>A b\/b=acc) H2)->K ρ2 n2 ds2->Nx σ2 H2)->tb acc Nx σ H
theorem zoY {te:TE}{fe:Ev->Mo W}(he:RE Pn cM fr' te fe):RBd acL Pn cM (fun acc=>zm9 te acc) (apR fe):=⟨fun A acc H1 σc ρc σ H ρ n ds G K Nx hacc na c sG r k=>by
 refine he.run _ σ H ρ n _ _ c.env c.pn r ?_;intro w5 m5 v5 H5 hr V5 g5 _;rw[xH] at hr;obtain⟨d,e5,hlt,r5⟩:=hr;subst e5;have c5:=c.go zaQ g5.st g5.pn;have sG5:=sG.trans (zw g5.st);obtain⟨xs,hac,hxs⟩:=c5.ac;refine⟨xs,hac,zfb (by rw[hxs.length];exact hlt),k _ _ _ _ _ ⟨c5.env.upd (.inr rfl) (fun k w hk hw z=>?_) NP.lst rfl,c5.pn.upd (.inr rfl),⟨_,zg,?_⟩,?_,?_,c5.fx⟩ ?_ r5⟩
 ·obtain⟨f1,f2⟩:=c5.fx k hk;rw[f1] at z;rw[f2] at hw;exact na k w hk hw z
 ·rw[zF (.inr rfl)];exact hxs.append (IsL.one V5.is)
 ·rw[zF (.inr rfl)];exact c5.st
 ·exact fun b o e nn=>by rw[zc (zb e hacc)];exact c5.s1 b o e nn
 ·rw[zF (.inr rfl)];exact sG5⟩
theorem zex (hS:StayAC AC){g:TG}{ti:TT}{tb:Addr->(St->Hp->Prop)->St->Hp->Prop}{mg:W->Ev->(Ev->Prop)->Prop}{ft:Ev->Mo Bool}{fb:CB α}{w:W}{x:V}{G:Hp}{K:Ev->Nat->List α->Prop}{Nx:St->Hp->Prop}(hg:RG cM cM g mg)(ht:RT Pn cM ti ft)(hb:RBd AC Pn cM tb fb)
  (hacc:H1 acc=none) (na:∀k w,k∈cM->ρc[k]?=some (some w)->σc[k]?≠some (some (.ref acc))) (c:CG AC Pn A acc H1 cM σc ρc σ H ρ n ds) (sG:zm G (zO (fun b=>A b\/b=acc) H)) (V2:Val (fun b=>A b\/b=acc) H w x)
  (r:mg w ρ fun ρ1=>ft ρ1 n fun b n2=>onC b (fb ρ1 n2 ds K) (K ρ1 n2 ds))
  (k:∀ σ2 H2 ρ2 n2 ds2,CG AC Pn A acc H1 cM σc ρc σ2 H2 ρ2 n2 ds2->zm G (zO (fun b=>A b\/b=acc) H2)->K ρ2 n2 ds2->Nx σ2 H2):g x σ H fun σ3 H3=>ti σ3 H3 fun ok H4=>if ok=true then tb acc Nx σ3 H4 else Nx σ3 H4:=by
 refine hg.run _ σ H ρ x w _ _ c.env V2 r fun σ3 ρ3 r3 E3 f3=>?_;have c3:CG AC Pn A acc H1 cM σc ρc σ3 H ρ3 n ds:=⟨E3,c.pn,c.ac,c.st,c.s1,fun k hk=>⟨(f3 k hk).1.trans (c.fx k hk).1,(f3 k hk).2.trans (c.fx k hk).2⟩⟩;refine ht.run _ σ3 H ρ3 n _ _ E3 c.pn r3 fun b m3 H4 r4 g4=>?_;have c4:=c3.go hS g4.st g4.pn;have sG4:=sG.trans (zw g4.st)
 cases b with
 | false=>rw[if_neg (by decide)];exact k _ _ _ _ _ c4 sG4 r4
 | true=>rw[if_pos rfl];exact hb.run A acc H1 σc ρc σ3 H4 ρ3 m3 ds G K Nx hacc na c4 sG4 r4 k
theorem zoZ (hS:StayAC AC){wi:TI}{g:TG}{ti:TT}{tb:Addr->(St->Hp->Prop)->St->Hp->Prop}{fi:Ev->Mo (List W)}{mg:W->Ev->(Ev->Prop)->Prop}{ft:Ev->Mo Bool}{fb:CB α}(hi:RI Pn cM false wi fi)(hg:RG cM cM g mg)(ht:RT Pn cM ti ft)(hb:RBd AC Pn cM tb fb) :
  RBd AC Pn cM (fun acc Nx σ H=>wi σ H fun J H2=>inG J g ti (tb acc) Nx σ H2) (inB fi mg ft fb):=⟨fun A acc H1 σc ρc σ H ρ n ds G K Nx hacc na c sG r k=>by
 refine hi.run _ σ H ρ n _ _ c.env c.pn r fun l2 m5 J2 H5 ⟨I2,a0,a1,a2⟩ iv2 g5=>?_;have c5:=c.go hS g5.st g5.pn;have sG5:=sG.trans (zw g5.st);refine⟨fun j mm σ' H'=>mm=l2.length - j/\j<=l2.length/\∃ ρ' n' ds,CG AC Pn A acc H1 cM σc ρc σ' H' ρ' n' ds/\zm (zO (fun b=>A b\/b=acc) H5) (zO (fun b=>A b\/b=acc) H')/\I2 j ρ' n' ds,⟨l2.length,by simp,aL _,_,_,_,c5,zm.refl _,a0⟩,?_⟩;rintro j mm σ6 H6 ⟨rfl,hjl,ρ6,n6,ds6,c6,s6,hI6⟩;by_cases hlt2:j<l2.length
 ·right;have hget2:l2[j]?=some l2[j]:=aq hlt2;obtain⟨go2,yl2⟩:=iv2.one j l2[j] _ H6 hget2 s6 (fun z=>by cases z) fun p hp=>c6.env.new hp;refine⟨go2,fun σ7 H7=>∃ ρ' n' ds,CG AC Pn A acc H1 cM σc ρc σ7 H7 ρ' n' ds/\zm (zO (fun b=>A b\/b=acc) H5) (zO (fun b=>A b\/b=acc) H7)/\I2 (j+1) ρ' n' ds,fun σ2 H2 h=>⟨l2.length - (j+1),by lia,rfl,hlt2,h⟩,fun y H7 hy7=>?_⟩;obtain⟨S7,V7⟩:=yl2 y H7 hy7;exact zex hS hg ht hb hacc na (c6.go hS (zm.same S7) (c6.pn.same S7)) (s6.trans (zw (zm.same S7))) V7 (a1 j l2[j] ρ6 n6 ds6 hget2 hI6) fun _ _ _ _ _ q1 q2 q3=>⟨_,_,_,q1,q2,q3⟩
 ·left;have hie:j=l2.length:=by lia
  subst hie;exact⟨iv2.stop _ H6 s6 (fun z=>by cases z),k _ _ _ _ _ c6 (sG5.trans s6) (a2 _ _ _ hI6)⟩⟩
@[reducible] def zfc (fi:Ev->Mo (List W)) (mg:W->Ev->(Ev->Prop)->Prop) (ft:Ev->Mo Bool) (fb:CB Dt) (cix:List (Option Nat)):Ev->Mo W:=fun ρ n Q=>fi ρ n (clR mg ft fb (uK ρ cix) [] fun _ n' ds=>Q (.d (.lst ds)) n')
theorem zfS {wi:TI}{g:TG}{ti:TT}{tb:Addr->(St->Hp->Prop)->St->Hp->Prop}{cix:List (Option Nat)}{fi:Ev->Mo (List W)}{mg:W->Ev->(Ev->Prop)->Prop}{ft:Ev->Mo Bool}{fb:CB Dt}{ow:Bool}(hn:(cix.filterMap id).Nodup)
  (hi:RI Pn M ow wi fi) (hg:RG (z0 M cix) (z0 M cix) g mg) (ht:RT Pn (z0 M cix) ti ft) (hb:RBd acL Pn (z0 M cix) tb fb):RE Pn M true (fun σ H Q=>wi σ H fun J H1=>∀acc,H1 acc=none->inG J g ti (tb acc) (fun _ H=>Q (.ref acc) H) (xy σ cix) (upd H1 acc (.lst []))) (zfc fi mg ft fb cix):=⟨fun A σ H ρ n Q R E P hf k=>by
 refine hi.run A σ H ρ n _ _ E P hf fun l m J H1 ⟨I,i0,it,ie⟩ iv g1=>fun acc hacc=>?_;have E1:=E.stay g1.st
 have c0:CG acL Pn A acc H1 (z0 M cix) (xy σ cix) (uK ρ cix) (xy σ cix) (L2.upd H1 acc (.lst [])) (uK ρ cix) m []:=
  ⟨(E1.cap hn).more (zm.upd (o:=.lst []) hacc) (Fr.of hacc) zg NP.lst rfl,g1.pn.grow' (g1.pn.same (yW.upd hacc)) (Fr.of hacc) zg NP.lst rfl,⟨[],zg,rfl⟩,yp (zm.upd hacc) (Fr.of hacc),zm.upd hacc,fun k hk=>⟨rfl,rfl⟩⟩
 have na:∀k w,k∈z0 M cix->(uK ρ cix)[k]?=some (some w)->(xy σ cix)[k]?≠some (some (.ref acc)):=fun k w hk hw z=>by obtain⟨v,s1,_,s3⟩:=(E1.cap hn).val k w hw;obtain⟨a,e,hA,_⟩:=s3 hk;rw[z] at s1;cases s1;cases e;exact E1.new hacc hA
 refine⟨fun i mm σ' H'=>mm=l.length - i/\i<=l.length/\∃ ρ' n' ds,CG acL Pn A acc H1 (z0 M cix) (xy σ cix) (uK ρ cix) σ' H' ρ' n' ds/\I i ρ' n' ds,⟨l.length,by simp,aL _,_,m,[],c0,i0⟩,?_⟩;rintro i mm σ' H' ⟨rfl,hil,ρ',n',ds,c,hI⟩;by_cases hlt:i<l.length
 ·right;have hget:l[i]?=some l[i]:=aq hlt;obtain⟨go,yl⟩:=iv.one i l[i] _ H' hget c.st (fun _=>c.s1) fun p hp=>c.env.new hp;refine⟨go,fun σ2 H2=>∃ ρ' n' ds,CG acL Pn A acc H1 (z0 M cix) (xy σ cix) (uK ρ cix) σ2 H2 ρ' n' ds/\I (i+1) ρ' n' ds,fun σ2 H2 h=>⟨l.length - (i+1),by lia,rfl,hlt,h⟩,fun x H2 hy=>?_⟩;obtain⟨S2,V2⟩:=yl x H2 hy;exact zex zaQ hg ht hb hacc na (c.go zaQ (zm.same S2) (c.pn.same S2)) (zm.refl _) V2 (it i l[i] ρ' n' ds hget hI) fun _ _ _ _ _ q1 _ q3=>⟨_,_,_,q1,q3⟩
 ·left;have hie:i=l.length:=by lia
  subst hie;obtain⟨xs,hac,hxs⟩:=c.ac;refine⟨iv.stop _ H' c.st (fun _=>c.s1),k _ n' _ H' (ie ρ' n' ds hI) (Val.of ⟨acc,xs,rfl,.inl (zp (E1.new hacc) hac),hxs.stay (zm.same (yB fun b z=>.inl z))⟩) (g1.trans ⟨c.s1,c.pn.less fun a z=>.inl z⟩) fun _=>⟨acc,rfl,(Fr.of hacc).back g1.st,⟨_,hac,rfl⟩,acc,xs,rfl,.inl hac,hxs⟩⟩⟩
theorem zgn {α β:Type}{l:List W}{ρ0:Ev}{n:Nat}{mg:W->Ev->(Ev->Prop)->Prop}{ft:Ev->Mo Bool}{fb:CB β}{ds0:List β}{K:Ev->Nat->List β->Prop}(xs:List α)(toW:α->W)(hl:l=xs.map toW)(J:Ev->Prop)(E:α->List β)(hlim:ds0.length+(xs.flatMap E).length<=lim)(j0:J ρ0)
  (h:∀a∈xs,∀ ρ',J ρ'->∀ (ds:List β) (K':Ev->Nat->List β->Prop),ds.length+(E a).length<=lim->(∀ {ρ1},J ρ1->K' ρ1 n (ds++E a))->mg (toW a) ρ' fun ρ1=>ft ρ1 n fun b n2=>onC b (fb ρ1 n2 ds K') (K' ρ1 n2 ds))
  (fin:∀ {ρ},J ρ->K ρ n (ds0++xs.flatMap E)):clR mg ft fb ρ0 ds0 K l n:=by
 subst hl;refine⟨fun i ρ' n' ds=>n'=n/\J ρ'/\ds=ds0++(xs.take i).flatMap E,⟨rfl,j0,by simp⟩,?_,?_⟩
 ·rintro i w ρ' n' ds hw ⟨rfl,hj,rfl⟩;rw[aA] at hw;obtain⟨a,ha,rfl⟩:=ax.mp hw;have e1:(xs.take (i+1)).flatMap E=(xs.take i).flatMap E++E a:=by rw[zn ha,dR];simp
  have sub:((xs.take i).flatMap E).length+(E a).length<=(xs.flatMap E).length:=by
   have e2:xs.flatMap E=(xs.take (i+1)).flatMap E++(xs.drop (i+1)).flatMap E:=by rw[<- dR,List.take_append_drop]
   rw[e2,e1];simp only[aD];lia
  exact h a (aw ha) ρ' hj _ _ (by rw[aD];lia) fun {ρ1} j1=>⟨rfl,j1,by rw[e1,bR]⟩
 ·rintro ρ' n' ds ⟨rfl,hj,rfl⟩;rw[ab,a9];exact fin hj
theorem zbP.up {G G':Hp}(s:zm G G'):∀ {ws:List W} {vs:List V},(∀ (i:Nat) (w:W) (v:V),ws[i]?=some w->vs[i]?=some v->WAt G G w v)->∀ (i:Nat) (w:W) (v:V),ws[i]?=some w->vs[i]?=some v->WAt G' G' w v:=fun h i w v e1 e2=>WAt.up s s (h i w v e1 e2)
def lsW (ws:List W):CuW where
 at_:=fun T G a=>∃xs,Rd T a (.lst xs)/\xs.length=ws.length/\∀ (i:Nat) (w:W) (v:V),ws[i]?=some w->xs[i]?=some v->WAt G G w v
 mv:=fun {T T' G G' a} t s h=>let ⟨xs,h1,h2,h3⟩:=h;⟨xs,h1.imp (fun h=>t _ h NP.lst) fun⟨o,h⟩=>⟨o,t _ h fun _ z=>by cases z⟩,h2,zbP.up s h3⟩
def znj (mg:W->Ev->(Ev->Prop)->Prop)(ft:Ev->Mo Bool)(fe:Ev->Mo W)(ρ0:Ev)(Q:W->Nat->Prop):List W->Nat->Prop:=fun l n1=>l.length<=lim/\∃I:Nat->Ev->Nat->List W->Prop,I 0 ρ0 n1 []/\
 (∀i w ρ' n' acc,l[i]?=some w->I i ρ' n' acc->mg w ρ' fun ρ1=>ft ρ1 n' fun b n2=>onC b (fe ρ1 n2 fun x n3=>I (i+1) ρ1 n3 (acc++[x])) (I (i+1) ρ1 n2 acc))/\
 ∀ ρ' n' acc,I l.length ρ' n' acc->Q (.cu (lsW acc)) n'
@[reducible] def mCompW (fi:Ev->Mo (List W)) (mg:W->Ev->(Ev->Prop)->Prop) (ft:Ev->Mo Bool) (fe:Ev->Mo W) (cix:List (Option Nat)):Ev->Mo W:=fun ρ n Q=>fi ρ n (znj mg ft fe (uK ρ cix) Q)
@[reducible] def onCu (w:W) (P:CuW->Prop):Prop:=match w with | .cu k=>P k | _=>False
@[reducible] def dItLs (f:Ev->Mo W):Ev->Mo (List W):=fun ρ n Q=>f ρ n fun x m=>onCu x fun k=>∃ws,k=lsW ws/\Q ws m
@[reducible] def dMinW (fs:Ev->Mo (List W)):Ev->Mo W:=fun ρ n Q=>fs ρ n fun ws m=>on1 ws fun x=>onCu x fun k=>∃ls:List (List Dt),k=lsW (ls.map W.fl)/\0<ls.length/\∀ (i:Nat) (l:List Dt),ls[i]?=some l->(∀ (j:Nat) (l':List Dt),ls[j]?=some l'->l.length<=l'.length/\(j<i->l.length<l'.length))->Q (.fl l) m
end
open PySem PySem.Spec L2
section
variable {X:Cx}{Pn:PN}{M S cM:List Nat}{fr fr':Bool}
theorem zfK {elt tg iter tg2 iter2:Expr}{ifs ifs2:List Expr}{scope:Scope}{N:List Str}{cix:List (Option Nat)}{fi fi2:Ev->Mo (List W)}{mg mg2:W->Ev->(Ev->Prop)->Prop}{ft ft2:Ev->Mo Bool}{fe:Ev->Mo W}{ow:Bool}{ix:Nat}{nx:Str}{px spos:Pos}(hNd:X.N.Nodup)(hix:X.N[ix]?=some nx)(hlx:X.env.scope.names.lookup nx=some .local)(hc:X.calm=true)(cc:CompOk X scope N cix)
  (hi:JI X Pn M ow tg iter fi) (hg:∀C s H ex,JG (zl X scope N C s H ex) (z0 M cix) (z0 M cix) tg mg) (ht:∀C s H ex,JTs (zl X scope N C s H ex) Pn (z0 M cix) ifs ft)
  (hi2:∀C s H ex,JI (zl X scope N C s H ex) Pn (z0 M cix) false tg2 iter2 fi2) (hg2:∀C s H ex,JG (zl X scope N C s H ex) (z0 M cix) (z0 M cix) tg2 mg2) (ht2:∀C s H ex,JTs (zl X scope N C s H ex) Pn (z0 M cix) ifs2 ft2) (he:∀C s H ex,JE (zl X scope N C s H ex) Pn (z0 M cix) fr' elt fe)
  (hn:(cix.filterMap id).Nodup:=by decide) (hsw:swapsWithSole [.Name nx px] (.ListComp elt [⟨tg,iter,ifs,0⟩,⟨tg2,iter2,ifs2,0⟩] scope pos) spos.line X.env=pure true:=by rfl)
  (hs:∀x,foldedSetIterable iter X.env x=pure x:=by intro _;rfl) (hs2:∀C s H ex x,foldedSetIterable iter2 (zl X scope N C s H ex).env x=pure x:=by intro _ _ _ _ _;rfl)
  (h1a:(assignEach [.Name nx px] X.env).map (·.2)=[assign (.Name nx px) X.env]:=by rfl):∃te,QS X (.Assign [.Name nx px] (.ListComp elt [⟨tg,iter,ifs,0⟩,⟨tg2,iter2,ifs2,0⟩] scope pos) spos) (zfw te (uW ix))/\RE Pn M true te (zfc fi mg ft (inB fi2 mg2 ft2 (apR fe)) cix):=by
 obtain⟨ti,qi,ri⟩:=hi.ex;obtain⟨g,qg,rg⟩:=zeL hg;obtain⟨tt,qt,rt⟩:=zeM ht;obtain⟨ti2,qi2,ri2⟩:=zpE hi2;obtain⟨g2,qg2,rg2⟩:=zeL hg2;obtain⟨tt2,qt2,rt2⟩:=zeM ht2;obtain⟨te,qe,re⟩:=ziw he;exact⟨_,zjJ hNd hix hlx hc cc qi qg qt qi2 qg2 qt2 qe hsw hs hs2 h1a,zfS hn ri rg rt (zoZ zaQ ri2 rg2 rt2 (zoY re))⟩
end
open PySem PySem.Spec L2
def acI (P:Program)(w:World)(A:Addr->Prop)(acc:Addr)(H:Hp)(ds:List Int):Prop:=∃ks,H acc=some (uo P w acc ks)/\ks.Nodup/\∀z,z∈ks↔z∈ds
theorem zaP {P:Program}{w:World}:StayAC (acI P w):=⟨fun⟨ks,h1,h2⟩ s=>⟨ks,s _ _ h1 zcB,h2⟩⟩
@[reducible] def adR (U:List Int) (fe:Ev->Mo W):CB Int:=fun ρ n ds K=>fe ρ n fun x n3=>onI x fun d=>d∈U/\(∀z∈ds,z∈U)/\K ρ n3 (ds++[d])
theorem zbD {l:List Int}(h:l.Pairwise (·<=·))(n:l.Nodup):l.Pairwise (· < ·):=(h.and n).imp fun⟨a,b⟩=>by lia
section
variable {X:Cx}{Pn:PN}{M S cM:List Nat}{fr fr':Bool}{pos p:Pos}
theorem zoX {P:Program}{w:World}{te:TE}{fe:Ev->Mo W}{U:List Int}(hU:U.length<300)(he:RE Pn cM fr' te fe):RBd (acI P w) Pn cM (fun acc=>zqj P w te acc) (adR U fe):=⟨fun A acc H1 σc ρc σ H ρ n ds G K Nx hacc na c sG r k=>by
 refine he.run _ σ H ρ n _ _ c.env c.pn r ?_;intro w5 m5 v5 H5 hr V5 g5 _;rw[x5] at hr;obtain⟨d,e5,hdU,hU2,r5⟩:=hr;subst e5;have c5:=c.go zaP g5.st g5.pn;have sG5:=sG.trans (zw g5.st);obtain⟨ks,hac,hnd,hks⟩:=c5.ac;have ev:v5 = .int d:=V5;subst ev;refine⟨d,ks,rfl,hac,aU (yr hnd fun z hz=>hU2 z ((hks z).mp hz)) hU,fun ks' hm hd'=>k _ _ _ _ _ ⟨c5.env.upd (.inr rfl) (fun k w hk hw z=>?_) zcB rfl,c5.pn.upd (.inr rfl),⟨ks',zg,hd',fun z=>?_⟩,?_,?_,c5.fx⟩ ?_ r5⟩
 ·obtain⟨f1,f2⟩:=c5.fx k hk;rw[f1] at z;rw[f2] at hw;exact na k w hk hw z
 ·rw[hm z,aN,aC,hks z,or_comm]
 ·rw[zF (.inr rfl)];exact c5.st
 ·exact fun b o e nn=>by rw[zc (zb e hacc)];exact c5.s1 b o e nn
 ·rw[zF (.inr rfl)];exact sG5⟩
@[reducible] def zko (fi:Ev->Mo (List W)) (mg:W->Ev->(Ev->Prop)->Prop) (ft:Ev->Mo Bool) (fb:List Int->CB Int) (cix:List (Option Nat)):Ev->Mo W:=fun ρ n Q=>∃U:List Int,U.length<64/\fi ρ n (clR mg ft (fb U) (uK ρ cix) [] fun _ n' ds=>(∀z∈ds,z∈U)/\∀l:List Int,l.Pairwise (· < ·)->(∀z,z∈l↔z∈ds)->Q (.d (.lst (l.map .int))) n')
theorem zjP {P:Program}{w:World}{wi:TI}{g:TG}{ti:TT}{tb:Addr->(St->Hp->Prop)->St->Hp->Prop}{cix:List (Option Nat)}{fi:Ev->Mo (List W)}{mg:W->Ev->(Ev->Prop)->Prop}{ft:Ev->Mo Bool}{fb:List Int->CB Int}{ow:Bool}(hn:(cix.filterMap id).Nodup)
  (hi:RI Pn M ow wi fi) (hg:RG (z0 M cix) (z0 M cix) g mg) (ht:RT Pn (z0 M cix) ti ft) (hb:∀U,U.length<64->RBd (acI P w) Pn (z0 M cix) tb (fb U)):RE Pn M true (tCB (zh4 P w) (zcU (fun σ H Q=>wi σ H fun J H1=>∀acc,H1 acc=none->inG J g ti (tb acc) (fun _ H=>Q (.ref acc) H) (xy σ cix) (upd H1 acc (uo P w acc []))) zkF)) (zko fi mg ft fb cix):=⟨fun A σ H ρ n Q R E Pp hf k=>by
 obtain⟨U,hU,hf⟩:=hf;refine hi.run A σ H ρ n _ _ E Pp hf fun l m J H1 ⟨I,i0,it,ie⟩ iv g1=>fun acc hacc=>?_;have E1:=E.stay g1.st
 have c0:CG (acI P w) Pn A acc H1 (z0 M cix) (xy σ cix) (uK ρ cix) (xy σ cix) (L2.upd H1 acc (uo P w acc [])) (uK ρ cix) m []:=
  ⟨(E1.cap hn).more (zm.upd (o:=uo P w acc []) hacc) (Fr.of hacc) zg zcB rfl,g1.pn.grow' (g1.pn.same (yW.upd hacc)) (Fr.of hacc) zg zcB rfl,⟨[],zg,ei,fun _=>Iff.rfl⟩,yp (zm.upd hacc) (Fr.of hacc),zm.upd hacc,fun k hk=>⟨rfl,rfl⟩⟩
 have na:∀k w,k∈z0 M cix->(uK ρ cix)[k]?=some (some w)->(xy σ cix)[k]?≠some (some (.ref acc)):=fun k w hk hw z=>by obtain⟨v,s1,_,s3⟩:=(E1.cap hn).val k w hw;obtain⟨a,e,hA,_⟩:=s3 hk;rw[z] at s1;cases s1;cases e;exact E1.new hacc hA
 refine⟨fun i mm σ' H'=>mm=l.length - i/\i<=l.length/\∃ ρ' n' ds,CG (acI P w) Pn A acc H1 (z0 M cix) (xy σ cix) (uK ρ cix) σ' H' ρ' n' ds/\I i ρ' n' ds,⟨l.length,by simp,aL _,_,m,[],c0,i0⟩,?_⟩;rintro i mm σ' H' ⟨rfl,hil,ρ',n',ds,c,hI⟩;by_cases hlt:i<l.length
 ·right;have hget:l[i]?=some l[i]:=aq hlt;obtain⟨go,yl⟩:=iv.one i l[i] _ H' hget c.st (fun _=>c.s1) fun p hp=>c.env.new hp;refine⟨go,fun σ2 H2=>∃ ρ' n' ds,CG (acI P w) Pn A acc H1 (z0 M cix) (xy σ cix) (uK ρ cix) σ2 H2 ρ' n' ds/\I (i+1) ρ' n' ds,fun σ2 H2 h=>⟨l.length - (i+1),by lia,rfl,hlt,h⟩,fun x H2 hy=>?_⟩;obtain⟨S2,V2⟩:=yl x H2 hy;exact zex zaP hg ht (hb U hU) hacc na (c.go zaP (zm.same S2) (c.pn.same S2)) (zm.refl _) V2 (it i l[i] ρ' n' ds hget hI) fun _ _ _ _ _ q1 _ q3=>⟨_,_,_,q1,q3⟩
 ·left;have hie:i=l.length:=by lia
  subst hie;obtain⟨ks,hac,hnd,hks⟩:=c.ac;refine⟨iv.stop _ H' c.st (fun _=>c.s1),acc,ks,rfl,hac,hnd,?_,fun ns' hp hs=>fun p H3 np3 gp S3=>?_⟩
  ·obtain⟨hU2,_⟩:=ie ρ' n' ds hI;exact aU (yr hnd fun z hz=>hU2 z ((hks z).mp hz)) hU
  ·obtain⟨_,hq⟩:=ie ρ' n' ds hI;have hq':=hq ns' (zbD hs (hp.nodup_iff.mpr hnd)) fun z=>(hp.mem_iff).trans (hks z);have s13:=c.s1.trans (zm.same S3);have al1:Al A H':=E1.al.stay c.s1;have hpn:xm Pn A n' H3:=(c.pn.same S3).less fun a z=>.inl z;have hl3:∀G:Hp,IsL G (ns'.map Dt.int) (ns'.map V.int):=fun G=>IsL.ints;exact k _ n' _ H3 hq' (Val.of ⟨p,_,rfl,.inl (zp (al1.new np3) gp),hl3 _⟩) (g1.trans ⟨s13,hpn⟩) fun _=>⟨p,rfl,((Fr.of np3).back c.s1).back g1.st,⟨_,gp,rfl⟩,p,_,rfl,.inl gp,hl3 _⟩⟩
theorem zlu {elt tg iter tg2 iter2:Expr}{ifs ifs2:List Expr}{scope:Scope}{N:List Str}{cix:List (Option Nat)}{fi fi2:Ev->Mo (List W)}{mg mg2:W->Ev->(Ev->Prop)->Prop}{ft ft2:Ev->Mo Bool}{fe:Ev->Mo W}{ow:Bool}{sp:Pos}(hm0:X.mg "sorted" = none)(hc:X.calm=true)(cc:CompOk X scope N cix)
  (hi:JI X Pn M ow tg iter fi) (hg:∀C s H ex,JG (zl X scope N C s H ex) (z0 M cix) (z0 M cix) tg mg) (ht:∀C s H ex,JTs (zl X scope N C s H ex) Pn (z0 M cix) ifs ft)
  (hi2:∀C s H ex,JI (zl X scope N C s H ex) Pn (z0 M cix) false tg2 iter2 fi2) (hg2:∀C s H ex,JG (zl X scope N C s H ex) (z0 M cix) (z0 M cix) tg2 mg2) (ht2:∀C s H ex,JTs (zl X scope N C s H ex) Pn (z0 M cix) ifs2 ft2) (he:∀C s H ex,JE (zl X scope N C s H ex) Pn (z0 M cix) fr' elt fe)
  (hn:(cix.filterMap id).Nodup:=by decide) (hs:∀x,foldedSetIterable iter X.env x=pure x:=by intro _;rfl) (hs2:∀C s H ex x,foldedSetIterable iter2 (zl X scope N C s H ex).env x=pure x:=by intro _ _ _ _ _;rfl) (hg0:Gl X "sorted" := by rfl) (hs1:starEach [.SetComp elt [⟨tg,iter,ifs,0⟩,⟨tg2,iter2,ifs2,0⟩] scope sp] X.env=[(false,eval (.SetComp elt [⟨tg,iter,ifs,0⟩,⟨tg2,iter2,ifs2,0⟩] scope sp) X.env)]:=by rfl) (hpl:(backTo pos (starEach [] X.env)).any (·.1)=false:=by rfl) :
  JE X Pn M true (.Call (.Name "sorted" p) [.SetComp elt [⟨tg,iter,ifs,0⟩,⟨tg2,iter2,ifs2,0⟩] scope sp] [] pos) (zko fi mg ft (fun U=>inB fi2 mg2 ft2 (adR U fe)) cix):=by
 obtain⟨ti,qi,ri⟩:=hi.ex;obtain⟨g,qg,rg⟩:=zeL hg;obtain⟨tt,qt,rt⟩:=zeM ht;obtain⟨ti2,qi2,ri2⟩:=zpE hi2;obtain⟨g2,qg2,rg2⟩:=zeL hg2;obtain⟨tt2,qt2,rt2⟩:=zeM ht2;obtain⟨te,qe,re⟩:=ziw he;exact⟨_,yg (zgv hc) hg0 hm0 be (zE (zml hc cc qi qg qt qi2 qg2 qt2 qe hs hs2) yA hs1) (by decide) (by decide) hs1 hpl,zjP hn ri rg rt fun U hU=>zoZ zaP ri2 rg2 rt2 (zoX (eK hU (by decide)) re)⟩
end
end L3
namespace L2
open PySem PySem.Spec PyProof.Rows
theorem zfZ (l:Addr)(items:Array Value)(n:Nat)(dd:Option Addr)(sl:Array (Option Value))(u:Tok)(hc1:items.isEmpty=true) :
  Meets (Builtin.«tuple.__mul__» ⟨[.ref l,.int 0 u],[]⟩) (fun _ R s=>s.heap.get? l=some { cls:=.type "tuple",dict:=dd,data:=.seq items n,slots:=sl }/\R (.ok (.ret (Value.ref l))) s):=
 .of_wp fun prog w A R s h=>by
  obtain⟨hp,g,d,tk,os⟩:=s;obtain⟨hl,h⟩:=h;have f1:=cN
  wp_walk
  exact⟨_,rfl,h⟩
theorem zf1 (l:Addr)(items:Array Value)(n:Nat)(dd:Option Addr)(sl:Array (Option Value))(u:Tok)(hc1:items.isEmpty=false) :
  Meets (Builtin.«tuple.__mul__» ⟨[.ref l,.int 0 u],[]⟩) (fun _ R s=>s.heap.get? l=some { cls:=.type "tuple",dict:=dd,data:=.seq items n,slots:=sl }/\R (.ok (.ret (Value.ref s.heap.objs.size))) { s with heap:=s.heap.push { cls:=.type "tuple",data:=.seq #[] } }):=
 .of_wp fun prog w A R s h=>by
  obtain⟨hp,g,d,tk,os⟩:=s;obtain⟨hl,h⟩:=h;have f1:=cN
  wp_walk
  exact⟨_,rfl,h⟩
section
variable {X:Cx}
def zoV:R2:=fun x y H Q=>∃l k xs,x = .ref l/\y = .int k/\H l=some (.tup xs)/\(k=0\/k=1)/\∀p H',H' p=some (.tup (if k=0 then [] else xs))->yW H H'->Q (.ref p) H'
theorem zlQ:OpQ X (binaryOp .Mult) zoV:=⟨by
 intro pins s σ H x y v u Q I rx ry h;obtain⟨l,k,xs,rfl,rfl,hH,hk,q⟩:=h;have hz:xs.length<=sizeLine:=(show zW _ _ _ _ _ (.tup xs) from I.hok l _ hH).1;rcases hk with rfl | rfl
 ·by_cases hx:xs=[]
  ·subst hx;cases rx;obtain⟨t,rfl⟩:=ry;obtain⟨its,r,pt,zz⟩:=I.tuple (.of hH);obtain⟨⟨cls,dd,data,sl⟩,e,hc,n,hd⟩:=id pt;simp only at hc hd;subst hc hd;have hi:its=[]:=r.nil_iff.mpr rfl
   refine b6 (T := "tuple") (U := "int") (by decide) ⟨_,e,rfl⟩ (fun s'=>cy s' 0 t) yv dN bU xf F.slot_int_index.lookup
    (cb bU (cy s 0 t) dB (dq _ _) (yN 0 t l its.toArray n dd sl) ⟨e,rfl,⟨_,e,rfl⟩,?_⟩)
   exact cb cO ⟨_,e,rfl⟩ cH (cA _ _) (zfZ l its.toArray n dd sl t (by simp[hi])) ⟨e,⟨.ref l,H,I,rfl,q l H (by rw[if_pos rfl];exact hH) fun _ _ e=>e⟩⟩
  ·cases rx;obtain⟨t,rfl⟩:=ry;obtain⟨its,r,pt,zz⟩:=I.tuple (.of hH);obtain⟨⟨cls,dd,data,sl⟩,e,hc,n,hd⟩:=id pt;simp only at hc hd;subst hc hd;have hi:its≠[]:=fun z=>hx (r.nil_iff.mp z)
   refine b6 (T := "tuple") (U := "int") (by decide) ⟨_,e,rfl⟩ (fun s'=>cy s' 0 t) yv dN bU xf F.slot_int_index.lookup
    (cb bU (cy s 0 t) dB (dq _ _) (yN 0 t l its.toArray n dd sl) ⟨e,rfl,⟨_,e,rfl⟩,?_⟩)
   refine cb cO ⟨_,e,rfl⟩ cH (cA _ _) (zf1 l its.toArray n dd sl t (by cases its with | nil=>exact absurd rfl hi | cons _ _=>rfl)) ⟨e,?_⟩;have hn:=I.hok.fresh (ai s.heap.objs.size);exact⟨.ref s.heap.objs.size,_,I.laid (t':=s.toks) (o:=.tup []) (fun b ob q=>am _ q) (ai _) ⟨aL _,[],.nil,⟨_,aB _ rfl,rfl,⟨_,rfl⟩,rfl⟩⟩,rfl,q _ _ (by rw[if_pos rfl];exact zg) (yW.upd hn)⟩
 ·refine zbw.run pins s σ H _ _ v u Q I rx ry ⟨l,1,xs,rfl,rfl,hH,by decide,by decide,by simpa using hz,fun p H' hp hS=>q p H' ?_ hS⟩;rw[if_neg (by decide)];simpa using hp⟩
end
end L2
namespace L3
open PySem PySem.Spec L2
variable {Pn:PN}
@[reducible] def znp:W->W->Mo W:=fun x y n Q=>onT x fun l=>onI y fun j=>(j=0\/j=1)/\Q (.d (.tup (if j=0 then [] else l))) n
theorem zpA:F2 Pn false zoV znp:=⟨by
 intro A H x y wx wy n Q R al bx byy P h k;simp only[znp,zbv,x5] at h;obtain⟨l,e1,j,e2,hj,h⟩:=h;subst e1 e2;obtain⟨a,xs,ea,ha,hl⟩:=xR bx;refine⟨a,j,xs,ea,yI byy,ha,hj,fun p H' g S=>?_⟩
 have hl2:IsL (zO A H) (if j=0 then [] else l) (if j=0 then [] else xs):=by
  split
  ·exact rfl
  ·exact hl
 exact k _ n _ H' h (zav hl2 (zm.same S) (al.noT' (zm.same S) g) g) (Go.same P S) fun z=>by cases z⟩
end L3
namespace L2
theorem zhT {X:Cx}{pos:PySem.Pos}:QE X (.Dict [] [] pos) (fun _ H Q=>New H (.dK []) Q):=⟨fun pins s σ H Q I h=>zfj pins s σ H Q I fun p hp=>h.at hp⟩
end L2
namespace L3
open PySem PySem.Spec L2
section
variable {X:Cx}{Pn:PN}{M S:List Nat}{fr fr':Bool}{pos:Pos}{e c:Expr}{f fc:Ev->Mo W}{p:Pos}
theorem zlt:JE X Pn M true (.Dict [] [] pos) (mC (.dk [])):=⟨_,zhT,⟨fun A σ H ρ n Q R E P hf k=>fun p H' np g S=>k _ n _ H' hf ⟨p,[],rfl,zp (E.new np) g,rfl,rfl⟩ (Go.same P S) fun _=>⟨p,rfl,.of np,⟨_,g,rfl⟩,p,[],rfl,g,rfl,rfl⟩⟩⟩
@[reducible] def zqB (i:Nat) (fk f:Ev->Mo W):Ms:=fun ρ n k=>f ρ n fun w m=>fk ρ m fun y m2=>onD w fun d=>onI y fun j=>onV ρ i fun v=>onK v fun kvs=>kvs.length<lim/\onP ρ i (.dk (zhQ kvs (Sum.inl j) d)) fun ρ'=>k.nx ρ' m2
@[reducible] def znU (i:Nat) (fk f:Ev->Mo W):Ms:=fun ρ n k=>onV ρ i fun v=>onK v fun _=>zqB i fk f ρ n k
theorem zja (i:Nat){x:Str}{np sp:Pos}(hu:X.A.units+1<cLine)(hk:JB X Pn M c fc)(he:JE X Pn M fr' e f)(hi:i∈M:=by decide)(hN:X.N[i]?=some x:=by rfl)(hv:Vis X.env.scope x:=by first | exact Or.inl rfl | exact Or.inr (Or.inl rfl) | exact Or.inr (Or.inr rfl))(hd:(x==("__debug__" : Str))=false:=by decide)
  (hcd:(x==("__classdict__" : Str))=false:=by decide) (hs:swapsWith e (some (.Subscript (.Name x np) c p)) sp.line X.env=pure false:=by rfl) :
  JS X Pn S M fr (.Assign [.Subscript (.Name x np) c p] e sp) (znU i fc f):=by
 obtain⟨te,q,r⟩:=he.ex;obtain⟨tk,qk,rk⟩:=hk.ex;refine⟨_,zcL hu (qv i hN hv hd hcd) qk q hs,⟨ ?_⟩⟩;intro B A σ H ρ n k D a kk hf;simp only[znU,u7,zhF] at hf;obtain⟨w0,e0,l0,rfl,hf⟩:=hf;obtain⟨v0,s0,_,o3⟩:=a.env.val i _ e0;obtain⟨ad,rfl,hA,hb0,_⟩:=o3 hi;refine r.run A σ H ρ n _ _ a.env a.pn hf fun w m v H1 r1 hv1 g1 _=>⟨.ref ad,s0,?_⟩;have a1:=a.step g1;refine rk.run A σ H1 ρ m _ _ a1.env a1.pn r1  ?_;intro y m2 v2 H2 r2 b2 g2;simp only[xH,x5,u7,zhF,zbu (Q:=fun ρ'=>k.nx ρ' _)] at r2;obtain⟨d,ed,j,ey,w3,e,kvs,ew,hz,r2⟩:=r2;subst ed ey ew;have a2:=a1.step g2;obtain⟨v3,s3,_,o4⟩:=a2.env.val i _ e;rw[s0] at s3;cases s3;obtain⟨ad2,e4,_,hb,_⟩:=o4 hi;cases e4;obtain⟨a5,ks,e5,had,hkv,hat⟩:=hb;cases e5;have e2:v2 = .int j:=yI b2;subst e2;have hat':∀x:V,uI (zaL ks (Sum.inl j) x) (Sum.inr "at" : Key)=none:=fun x=>by rw[zjZ,if_neg (fun z=>by cases z)];exact hat
 exact⟨ad,_,rfl,ziA.k (k:=Sum.inl j) had (zfb (by rw[hkv.len];exact cS hz)),kk.nx A σ _ _ m2 (a2.wrX (w':=.dk (zhQ kvs (Sum.inl j) d)) hi e s0 ⟨ad,_,rfl,zg,hkv.put (hv1.stay g2.st).is,hat' _⟩ rfl (fun k z=>by cases z;exact hat' _) rfl) r2⟩
end
end L3
namespace L2
open PySem PyProof.Rows
section
variable {M:Model}{A:Around}{E:Value->Shared->Prop}{s:Shared}{κ:SortKind}{L0:List Keyed}{f:Keyed->Int}
def ahead (f:Keyed->Int)(left:Bool)(key x:Keyed):Bool:=if left=true then decide (f x<f key) else !decide (f key<f x)
end
section
variable {R:Keyed->Keyed->Prop}{T out ra rb c:List Keyed}
end
section
variable {M:Model}{A:Around}{E:Value->Shared->Prop}{s:Shared}{κ:SortKind}{L0:List Keyed}{f:Keyed->Int}
end
section
variable {M:Model}{A:Around}{E:Value->Shared->Prop}{s:Shared}{κ:SortKind}{L0:List Keyed}{f:Keyed->Int}
end
section
variable {M:Model}{A:Around}{E:Value->Shared->Prop}{s:Shared}{κ:SortKind}{L0:List Keyed}{f:Keyed->Int}
end
section
variable {M:Model}{A:Around}{E:Value->Shared->Prop}{s:Shared}{κ:SortKind}{T:List Keyed}{f:Keyed->Int}
end
open PySem PySem.Calls PyProof.Rows PySem.W
section
variable {prog:Program}{w:World}{A:Around}{E:Value->Shared->Prop}{s:Shared}{h₀:Heap}{L a:Addr}{m:Str->Option Value}{news:List (Addr×Obj)}{vs:List Value}{κ:SortKind}
end
open PySem PySem.Spec PyProof.Rows PySem.W PySem.Calls
section
variable {P:Program}{w:World}
end
section
variable {X:Cx}
end
end L2
namespace L3
open PySem PySem.Spec L2
section
variable {Pn:PN}
@[reducible] def zqD:List W->Mo W:=fun ws n Q=>on1 ws fun x=>onS x fun sts=>sts.length<=100000/\(∃ft,RowsOk ft sts)/\∀sts':List Dt,sts'.Perm sts->sts'.Pairwise ltD->Q (.d (.lst sts')) n
end
open PySem PySem.Spec L2
section
variable {X:Cx}{E:XK}{Pn:PN}{M:List Nat}{C:Addr}{e:Expr}{es:List Expr}{yn:List Stmt}{p pos p2:Pos}{x:Str}{j:Nat}
end
open PySem PySem.Spec L2
section
variable {X:Cx}{Pn:PN}{M:List Nat}{fr fr':Bool}{pos p:Pos}{e:Expr}{es:List Expr}
@[reducible] def mWNew (Pn:PN):Ev->Nat->(List W->PN->Nat->Prop)->Prop:=fun _ n R=>∃Q,∀d,R [.pen d] (Pn.mo d Q) n
end
end L3
namespace L2
open PySem PySem.Spec PyProof.Rows PySem.W
section
variable {prog:Program}{w:World}{A:Around}{E:Value->Shared->Prop}{s:Shared}{T:String}{r d:Addr}{n:Nat}{P:Nat->Value->Prop}{OK:Heap->Prop}
end
end L2
namespace L3
open PySem PySem.Spec L2
@[reducible] def dTupZ:List W->Mo W:=fun ws n Q=>on1 ws fun x=>onZ x fun kvs=>Q (.d (.tup ((kvs.map (·.1)).map stD))) n
end L3
namespace L2
open PySem PySem.Spec PyProof.Rows PySem.W
end L2
namespace L3
open PySem PySem.Spec L2
@[reducible] def zqw:List W->Mo W:=fun ws n Q=>on1 ws fun x=>match x with | .dn _ kvs=>(kvs.map (·.1)).Nodup->Q (.d (.lst (kvs.map (·.1)))) n | _=>False
end L3
namespace L2
open PySem PySem.Spec PyProof.Rows PySem.W PySem.Calls
section
variable {X:Cx}{pos:Pos}
end
end L2
namespace L3
open PySem PySem.Spec L2
section
variable {X:Cx}{Pn:PN}{M S:List Nat}{fr fr':Bool}{pos p:Pos}{e a b c:Expr}{f fa fb fc:Ev->Mo W}
@[reducible] def zqo (fk fv:Ev->Mo W):Ev->Mo W:=fun ρ n Q=>fk ρ n fun y m=>fv ρ m fun x m2=>onD y fun kd=>onD x fun d=>kd.ky/\Q (.dn false [(kd,d)]) m2
@[reducible] def dMovN (i j:Nat):Ms:=fun ρ n k=>onV ρ j fun w=>zm1 w fun kvs=>onP ρ j (.dn true kvs) fun ρ1=>onP ρ1 i (.dn true kvs) fun ρ2=>onN ρ2 j fun ρ3=>k.nx ρ3 n
end
end L3
namespace L2
open PySem PySem.Spec PyProof.Rows PySem.W PySem.Calls
section
variable {X:Cx}{pins:List (Addr×Obj)}{σ:St}{H:Hp}{s1 s s':Shared}
end
section
variable {X:Cx}{pins:List (Addr×Obj)}{σ:St}{H:Hp}{s1:Shared}{vs:List Value}{a q Z S:Addr}{ob:Obj}{R:Result->Shared->Prop}
end
section
variable {P:Program}{w:World}{K:PySem.W.Frag}{mg:Str->Option Value}{base:Heap}{N:List Str}{qual:Str}{scope:Scope}{l:Addr}{cv:Value}{cl:List (Str×Addr)}{A:Around}{outer:List Env}{s:Shared}{H:Hp}{C:Addr}{E:XK}{y:Str}{u:Value}
end
section
variable {X:Cx}{pins:List (Addr×Obj)}{σ:St}{H:Hp}{s1:Shared}{vs:List Value}{a q:Addr}{ob:Obj}{Q:Value->Shared->Prop}{E:Value->Shared->Prop}
end
section
variable {X:Cx}{P cc:Addr}{k:Nat}{p pos lpos kp:Pos}{params:Arguments}{e body:Expr}{scope:Scope}{N:List Str}{cix:List (Option Nat)}{y:Str}{t:TA}
end
open PySem PySem.Spec PyProof.Rows PySem.W
section
variable {prog:Program}{w:World}{A:Around}{E:Value->Shared->Prop}{s:Shared}
end
end L2
namespace L3
open PySem PySem.Spec L2
@[reducible] def dTruZ (f:Ev->Mo W):Ev->Mo Bool:=fun ρ n Q=>f ρ n fun x m=>onZ x fun kvs=>Q (!kvs.isEmpty) m
section
variable {X:Cx}{Pn:PN}{M:List Nat}{fr:Bool}{e:Expr}{f:Ev->Mo W}{P cc:Addr}{k kk i:Nat}{p p2 p3 p4 p5 p6 pos lpos kp:Pos}{params:Arguments}{scope:Scope}{y dn:Str}
@[reducible] def zqx (Pn:PN) (P:Addr) (q:Str) (i:Nat) (f:Ev->Mo W):Ev->Mo W:=fun ρ n Q=>Pn.J=tabJ P q/\f ρ n fun x m=>onV ρ i fun wd=>onZ wd fun kvs=>∃sts:List (List Int),x = .d (.tup (sts.map stD))/\0<sts.length/\(∀st∈sts,∃l,xO kvs st=some (.lst l))/\∀st∈sts,Q (.d (stD st)) m
end
open PySem PySem.Spec L2
section
variable {X:Cx}{Pn:PN}{M:List Nat}{fr:Bool}{a b c:Expr}{fa fb fc:Ev->Mo W}
@[reducible] def dGetE (fd fk fz:Ev->Mo W):Ev->Mo W:=fun ρ n Q=>fd ρ n fun x n1=>onE x fun kvs=>fk ρ n1 fun y n2=>fz ρ n2 fun z n3=>∃st,y = .d (stD st)/\onD z fun i=>Q (.d ((xO kvs st).getD i)) n3
end
end L3
namespace L2
open PySem PySem.Spec PyProof.Rows PySem.W PySem.Calls
section
variable {prog:Program}{w:World}{A:Around}{E:Value->Shared->Prop}{s:Shared}{es:Array DictEntry}
end
end L2
namespace L3
open PySem PySem.Spec L2
section
variable {X:Cx}{Pn:PN}{M:List Nat}{fr:Bool}{a b c:Expr}{fa fb fc:Ev->Mo W}
@[reducible] def dListV (fd:Ev->Mo W):Ev->Mo W:=fun ρ n Q=>fd ρ n fun x n1=>onE x fun kvs=>∃ns:List Int,kvs.map (·.2)=ns.map Dt.int/\Q (.d (.lst (ns.map Dt.int))) n1
end
end L3
namespace L2
open PySem PySem.Spec PyProof.Rows PySem.W PySem.Calls
section
variable {prog:Program}{w:World}{A:Around}{R:Result->Shared->Prop}{I:Addr}{fp wr:List Addr}{n:Nat}{P:Nat->Value->Prop}{St:Nat->Heap->Prop}
end
section
variable {prog:Program}{w:World}{A:Around}{E:Value->Shared->Prop}{s:Shared}
end
open PySem PySem.Spec PyProof.Rows
section
variable {X:Cx}{e de:Expr}{td:TE}{t:TA}{p kp pos:Pos}
end
end L2
namespace L3
open PySem PySem.Spec L2
section
variable {X:Cx}{Pn:PN}{M:List Nat}{fr:Bool}{e de:Expr}{fd:Ev->Mo W}{fs:Ev->Mo (List W)}{p kp pos:Pos}
@[reducible] def dMaxD (fs:Ev->Mo (List W)) (fd:Ev->Mo W):Ev->Mo W:=fun ρ n Q=>fs ρ n fun ws m=>on1 ws fun x=>fd ρ m fun y m2=>onL x fun l=>∃ns:List Int,l=ns.map Dt.int/\onD y fun d=>onI (.d d) fun i=>∀k,(ns=[]/\k=i\/k∈ns/\∀x∈ns,x<=k)->Q (.d (.int k)) m2
end
end L3
local macro_rules | `(tactic| walk_at "st")=>`(tactic| ((try (with_reducible conv=>whnf));repeat (with_reducible refine L3.znd ?_;try (with_reducible conv=>whnf)));try dsimp only)
local macro_rules | `(tactic| walk_at "ct")=>`(tactic| (with_reducible refine L3.zrl ?_ ?_;(first | decide | assumption | rfl));walk_at "st")
local macro_rules | `(tactic| walk_at "cf")=>`(tactic| (with_reducible refine L3.zrj ?_ ?_;(first | decide | assumption | rfl));walk_at "st")
namespace Law
open PySem L2 L3
def top (i:Nat):Stmt:=PySem.Challenge.pw_allelse_k93_looks_and_contexts.main.body.getD i (.Pass ⟨0,0,0,0⟩)
abbrev zb9:Stmt:=top 13
abbrev zbE:Stmt:=top 14
abbrev zbF:Stmt:=top 15
abbrev zce:Stmt:=top 3
abbrev zbH:Stmt:=top 4
abbrev zdB:Stmt:=top 8
abbrev zcc:Stmt:=top 5
abbrev zcd:Stmt:=top 10
abbrev zbI:Stmt:=top 9
abbrev zcf:Stmt:=top 11
abbrev zcb:Stmt:=top 18
abbrev zbG:Stmt:=top 17
abbrev ud:Stmt:=top 19
abbrev zac:Stmt:=top 20
abbrev xu:Stmt:=top 21
abbrev uc:Stmt:=top 22
abbrev uf:Stmt:=top 23
abbrev zca:Stmt:=top 25
abbrev zaF:Stmt:=top 16
abbrev zaE:Stmt:=top 26
abbrev ue:Stmt:=top 27
abbrev xK:Stmt:=top 28
abbrev zph:Stmt:=top 29
theorem zeC:FnScope ["_law_script"] ["_law_script"] (zd zb9):=⟨rfl,rfl,rfl,by decide +kernel,rfl,by decide +kernel,by decide +kernel⟩
theorem zV:FnScope ["_law_pen_here","_law_many","_law_found","_law_at","_law_cell","_law_mixed"] ["_law_pen_here","_law_many"] (zd zbE):=⟨rfl,rfl,rfl,by decide +kernel,rfl,by decide +kernel,by decide +kernel⟩
theorem zaG:FnScope ["_law_pen_here","_law_some","_law_left"] ["_law_pen_here","_law_some"] (zd zbF):=⟨rfl,rfl,rfl,by decide +kernel,rfl,by decide +kernel,by decide +kernel⟩
theorem zeE:FnScope ["thing"] ["thing"] (zd zce):=⟨rfl,rfl,rfl,by decide +kernel,rfl,by decide +kernel,by decide +kernel⟩
theorem zaI:FnScope ["thing","most","worths"] ["thing","most"] (zd zbH):=⟨rfl,rfl,rfl,by decide +kernel,rfl,by decide +kernel,by decide +kernel⟩
theorem zfV:FnScope ["thing"] ["thing"] (zd zdB):=⟨rfl,rfl,rfl,by decide +kernel,rfl,by decide +kernel,by decide +kernel⟩
theorem xE:FnScope ["choices","rows","worths"] ["choices"] (zd zcc):=⟨rfl,rfl,rfl,by decide +kernel,rfl,by decide +kernel,by decide +kernel⟩
theorem zeD:FnScope ["room","boxes"] ["room","boxes"] (zd zcd):=⟨rfl,rfl,rfl,by decide +kernel,rfl,by decide +kernel,by decide +kernel⟩
theorem zdC:FnScope ["book","box"] ["book","box"] (zd zbI):=⟨rfl,rfl,rfl,by decide +kernel,rfl,by decide +kernel,by decide +kernel⟩
theorem zeF:FnScope ["book","box","context"] ["book","box","context"] (zd zcf):=⟨rfl,rfl,rfl,by decide +kernel,rfl,by decide +kernel,by decide +kernel⟩
theorem zbJ:FnScope ["_law_pen_here","_law_many","_law_one"] ["_law_pen_here","_law_many"] (zd zcb):=⟨rfl,rfl,rfl,by decide +kernel,rfl,by decide +kernel,by decide +kernel⟩
theorem zaH:FnScope ["_law_pen_here","_law_way"] ["_law_pen_here"] (zd zbG):=⟨rfl,rfl,rfl,by decide +kernel,rfl,by decide +kernel,by decide +kernel⟩
theorem zN:FnScope ["_law_room","_law_boxes","_law_found","_law_box","_law_longer","_law_given_here"] ["_law_room","_law_boxes"] (zd ud):=⟨rfl,rfl,rfl,by decide +kernel,rfl,by decide +kernel,by decide +kernel⟩
theorem yu:FnScope ["_law_pen_here","_law_room","_law_ahead","_law_most","_law_found","_law_many","_law_box"] ["_law_pen_here","_law_room","_law_ahead","_law_most"] (zd zac):=⟨rfl,rfl,rfl,by decide +kernel,rfl,by decide +kernel,by decide +kernel⟩
theorem zt:FnScope ["_law_pen_here","_law_room","_law_most","_law_boxes","_law_found","_law_place","_law_box","_law_given_here","_law_ranks","_law_k"] ["_law_pen_here","_law_room","_law_most"] (zd xu):=⟨rfl,rfl,rfl,by decide +kernel,rfl,by decide +kernel,by decide +kernel⟩
theorem zM:FnScope ["_law_pen_here","_law_room","_law_box","_law_others","_law_some","_law_better","_law_worse"] ["_law_pen_here","_law_room"] (zd uc):=⟨rfl,rfl,rfl,by decide +kernel,rfl,by decide +kernel,by decide +kernel⟩
theorem zaM:FnScope ["_law_pen_here","_law_room"] ["_law_pen_here","_law_room"] (zd uf):=⟨rfl,rfl,rfl,by decide +kernel,rfl,by decide +kernel,by decide +kernel⟩
theorem xD:FnScope ["_law_standing_here","_law_given_here","_law_box","_law_worth"] ["_law_standing_here","_law_given_here"] (zd zca):=⟨rfl,rfl,rfl,by decide +kernel,rfl,by decide +kernel,by decide +kernel⟩
theorem zZ:FnScope ["_law_book","_law_standing_here","_law_found","_law_given_here","_law_box","_law_better","_law_worse","_law_there"] ["_law_book","_law_standing_here"] (zd zaF):=⟨rfl,rfl,rfl,by decide +kernel,rfl,by decide +kernel,by decide +kernel⟩
theorem yF:FnScope ["_law_book","_law_box","_law_many","_law_standing_here","_law_found","_law_worse","_law_here","_law_there"] ["_law_book","_law_box","_law_many","_law_standing_here"] (zd zaE):=⟨rfl,rfl,rfl,by decide +kernel,rfl,by decide +kernel,by decide +kernel⟩
theorem yw:FnScope ["_law_pen_here","_law_room","_law_at","_law_some"] ["_law_pen_here","_law_room"] (zd ue):=⟨rfl,rfl,rfl,by decide +kernel,rfl,by decide +kernel,by decide +kernel⟩
theorem zj:FnScope ["_law_pen_here","_law_room","_law_book","_law_box","_law_due","_law_given_here","_law_at","_law_better","_law_worse","_law_other","_law_worth","_law_found","_law_some","_law_context","_law_turn_here","_law_standing_here","_law_pairs"] ["_law_pen_here","_law_room","_law_book","_law_box"] (zd xK):=⟨rfl,rfl,rfl,by decide +kernel,rfl,by decide +kernel,by decide +kernel⟩
theorem zad:FnScope ["_law_script","_law_pen_here","_law_turn_here","_law_room","_law_book","_law_k","_law_box"] ["_law_script"] (zd zph):=⟨rfl,rfl,rfl,by decide +kernel,rfl,by decide +kernel,by decide +kernel⟩
set_option genInjectivity false in
structure Ad where
 f0:Addr
 d0:FuncData
 f1:Addr
 d1:FuncData
 f2:Addr
 d2:FuncData
 f3:Addr
 d3:FuncData
 f4:Addr
 d4:FuncData
 f5:Addr
 d5:FuncData
 f6:Addr
 d6:FuncData
 f7:Addr
 d7:FuncData
 f8:Addr
 d8:FuncData
 f9:Addr
 d9:FuncData
 f10:Addr
 d10:FuncData
 f11:Addr
 d11:FuncData
 f12:Addr
 d12:FuncData
 f13:Addr
 d13:FuncData
 f14:Addr
 d14:FuncData
 f15:Addr
 d15:FuncData
 f16:Addr
 d16:FuncData
 f17:Addr
 d17:FuncData
 f18:Addr
 d18:FuncData
 f19:Addr
 d19:FuncData
 f20:Addr
 d20:FuncData
 f21:Addr
 d21:FuncData
 f22:Addr
 d22:FuncData
structure Txt (K:PySem.W.Frag)(mg:Str->Option Value)(t:Ad):Prop where
 q0:Dfn K mg "_law_pen" zb9 ["_law_script"] t.f0 t.d0
 q1:Dfn K mg "_law_draw" zbE ["_law_pen_here","_law_many"] t.f1 t.d1
 q2:Dfn K mg "_law_turn" zbF ["_law_pen_here","_law_some"] t.f2 t.d2
 q3:Dfn K mg "is_whole" zce ["thing"] t.f3 t.d3
 q4:Dfn K mg "are_boxes" zbH ["thing","most"] t.f4 t.d4
 q5:Dfn K mg "is_wide" zdB ["thing"] t.f5 t.d5
 q6:Dfn K mg "combined" zcc ["choices"] t.f6 t.d6
 q7:Dfn K mg "contexts" zcd ["room","boxes"] t.f7 t.d7
 q8:Dfn K mg "looked_at" zbI ["book","box"] t.f8 t.d8
 q9:Dfn K mg "pairs_at" zcf ["book","box","context"] t.f9 t.d9
 q10:Dfn K mg "_law_two" zcb ["_law_pen_here","_law_many"] t.f10 t.d10
 q11:Dfn K mg "_law_wide" zbG ["_law_pen_here"] t.f11 t.d11
 q12:Dfn K mg "_law_contexts" ud ["_law_room","_law_boxes"] t.f12 t.d12
 q13:Dfn K mg "_law_looked" zac ["_law_pen_here","_law_room","_law_ahead","_law_most"] t.f13 t.d13
 q14:Dfn K mg "_law_plain_book" xu ["_law_pen_here","_law_room","_law_most"] t.f14 t.d14
 q15:Dfn K mg "_law_any_wish" uc ["_law_pen_here","_law_room"] t.f15 t.d15
 q16:Dfn K mg "_law_standing" uf ["_law_pen_here","_law_room"] t.f16 t.d16
 q17:Dfn K mg "_law_put" zca ["_law_standing_here","_law_given_here"] t.f17 t.d17
 q18:Dfn K mg "_law_steps" zaF ["_law_book","_law_standing_here"] t.f18 t.d18
 q19:Dfn K mg "_law_local" zaE ["_law_book","_law_box","_law_many","_law_standing_here"] t.f19 t.d19
 q20:Dfn K mg "_law_no_rooms" ue ["_law_pen_here","_law_room"] t.f20 t.d20
 q21:Dfn K mg "_law_box_right" xK ["_law_pen_here","_law_room","_law_book","_law_box"] t.f21 t.d21
 q22:Dfn K mg "law" zph ["_law_script"] t.f22 t.d22
 b_sorted:mg "sorted" = none
 b_list:mg "list" = none
 b_tuple:mg "tuple" = none
 b_enumerate:mg "enumerate" = none
 b_range:mg "range" = none
 b_isinstance:mg "isinstance" = none
 b_int:mg "int" = none
 b_len:mg "len" = none
 b_bool:mg "bool" = none
 b_abs:mg "abs" = none
 b_all:mg "all" = none
 c_LEAST_WORTHS:∃u,yo (.int 2) u/\mg "LEAST_WORTHS" = some u
 c_MOST_WORTHS:∃u,yo (.int 4) u/\mg "MOST_WORTHS" = some u
 c_MOST_WIDE_BOXES:∃u,yo (.int 16) u/\mg "MOST_WIDE_BOXES" = some u
section
variable {P:Program}{w:World}{K:PySem.W.Frag}{mg:Str->Option Value}{base:Heap}{t:Ad}
theorem zel (T:Txt K mg t):FnOk P w K mg base CX0 1 t.f0 t.d0 ["_law_script"] (zjV K):=by
 refine T.q0.F.okQ zeC (fun vs H Q E h=>?_) (fun cdv A outer s H vs Q E hr h=>?_)
 ·obtain⟨a,ns,rfl,_⟩:=h;rfl
 ·obtain⟨a,ns,rfl,hS,hl,k⟩:=h;refine⟨_,(xC (zaD (zmi (zcK y6 ⟨zlX (zcJ zin (qv 0) zhX (zhY ya)).run⟩ (zcK y6 ya (zcK y6 ya zmq))) rfl rfl (by simp) (by decide)))),?_⟩;intro p hp;refine⟨_,rfl,_,rfl,a,_,rfl,(yW.upd hp).seq hS,fun c hc=>⟨c,_,rfl,zg,fun ob=>?_⟩⟩;have npc:p≠c:=fun e=>by subst e;rw[zg] at hc;cases hc
  have hc0:H c=none:=by rw[zc (Ne.symm npc)] at hc;exact hc
  refine⟨by rw[zc npc,zc npc,zg],u9 c 0 0,rfl,(by show 3<=15;decide),?_⟩;rw[zou]
  have ecut:zbR (ns.map V.int) none (some 63)=ns.map V.int:=by
   unfold zbR;rw[HT.sIx_none]
   have e63:HT.sIx (ns.map V.int).length (ns.map V.int).length (some 63)=(ns.map V.int).length:=by have:=HT.sIx_nat (ns.map V.int).length (ns.map V.int).length 63;rw[ab] at this ⊢;rw[Nat.min_eq_right hl] at this;exact this
   rw[e63,dZ,eL,a9]
  refine k p c _ ⟨⟨0,0,zg,by lia,by lia,by lia⟩,?_,hl⟩ ?_
  ·refine⟨ob,?_⟩;rw[zc (Ne.symm npc),zg];exact congrArg (fun z=>some (HO.frz ob (HO.lst z))) ecut
  ·intro b o e;rw[zc (zb e hp),zc (zb e hc0),zc (zb e hc0),zc (zb e hp)];exact e
theorem zaA (T:Txt K mg t):FnOk P w K mg base CX0 1 t.f1 t.d1 ["_law_pen_here","_law_many"] zik:=by
 refine T.q1.F.okQ zV (fun vs H Q E h=>?_) (fun cdv A outer s H vs Q E hr h=>?_)
 ·obtain⟨p,c,ns,n,zC,rfl,_⟩:=h;rfl
 ·obtain⟨p,c,ns,n,zC,rfl,hP,hn,h1,h2,k⟩:=h;have hu:=zlk hr;obtain⟨⟨a,l,hp,ha0,han,hl0⟩,⟨ob,hc⟩,hlen⟩:=id hP;have npc:c≠p:=zjl hc hp (by intro z;cases z)
  refine⟨_,(zR (zjI (zbA zog (ua hu (qv 0) y6 (fun _ _=>rfl)) ya (yt _)) (zR (xI (i:=2) zV.nd rfl (Or.inl rfl) (yE zaB (ua hu (qv 0) y6 (fun _ _=>rfl)) (qv 1)))
   (zR (zcL hu (qv 0) y6 (yE zep (ua hu (qv 0) y6 (fun _ _=>rfl)) (qv 1)) rfl)
   (xC (zaD (qv 2))))) zcM)
   (zR (xI (i:=3) zV.nd rfl (Or.inl rfl) (ua hu (qv 0) y6 (fun _ _=>rfl)))
   (zR (zcL hu (qv 0) y6 (yE yk (qv 3) ya) rfl)
   (zR (xI (i:=4) zV.nd rfl (Or.inl rfl) (yE yk (yE u8 ya (qv 3)) ya))
   (zR (zjI (zbA zog (yg y9 (by rfl) T.b_len bi (zE (ua hu (qv 0) y6 (fun _ _=>rfl)) yA)) ya (yt _)) (xC (xI (i:=4) zV.nd rfl (Or.inl rfl) (zoK zbN (ua hu (qv 0) y6 (fun _ _=>rfl)) (yE zaB (qv 3) (yg y9 (by rfl) T.b_len bi (zE (ua hu (qv 0) y6 (fun _ _=>rfl)) yA))) (fun _ _=>rfl)))) zcM)
   (zR (zjI (QW.pt (zkv (zbA zoi (qv 3) (yg y9 (by rfl) T.b_len bi (zE (ua hu (qv 0) y6 (fun _ _=>rfl)) yA)) (yt _)) (zh1 (zbA zrs (yg zgu (by rfl) T.b_abs dy (zE (qv 4) yA)) (yE zfh ya ya) (yt _))))) (zR (zcL hu (qv 0) y6 (yE zep (yg zgu (by rfl) T.b_abs dy (zE (qv 4) yA)) (qv 1)) rfl)
   (xC (zaD (yE zaB (yg zgu (by rfl) T.b_abs dy (zE (qv 4) yA)) (qv 1))))) zcM)
   (zR (xI (i:=5) zV.nd rfl (Or.inl rfl) (yE yk (yE yk (yE u8 (yE yk (yE zaB (qv 4) ya) ya) (yE yk (yE u8 ya (qv 3)) ya)) (yE u8 (yE u8 ya (qv 3)) (qv 3))) (yE u8 ya (qv 3))))
   (zR (xI (i:=5) zV.nd rfl (Or.inl rfl) (yE zaB (yE zfh (qv 5) ya) ya))
   (zR (xI (i:=5) zV.nd rfl (Or.inl rfl) (yE zaB (yE zfh (yE yk (yE yk (qv 5) (yE u8 ya (qv 3))) ya) ya) ya))
   (xC (zaD (yE zaB (yE zep (qv 5) ya) (qv 1))))))))))))),?_⟩
  refine⟨_,rfl,p,_,rfl,zhN hp,_,_,rfl,rfl,_,rfl,zpX (fun hl=>?_) (fun hl=>?_)⟩
  ·have hl':0<l:=bw hl;refine⟨_,rfl,p,_,rfl,zhN hp,_,rfl,_,_,rfl,rfl,(by show (0:Int)<zC;lia),?_⟩;refine⟨_,rfl,p,_,rfl,zhN hp,_,rfl,_,_,rfl,rfl,⟨by show (0:Int)<zC;lia,h2⟩,_,rfl,p,_,rfl,zkt hp _,?_⟩;refine⟨_,rfl,k _ _ (ce _ (by lia)) (bL _ (by lia)) ⟨⟨a,_,zg,ha0,by lia,Int.ediv_nonneg hl0 (by lia)⟩,⟨ob,by rw[zc npc];exact hc⟩,hlen⟩ (zcS hp)⟩
  ·refine⟨_,rfl,p,_,rfl,zot hp,?_⟩;refine⟨_,rfl,_,_,rfl,rfl,_,rfl,p,_,rfl,zox hp _,?_⟩;have hp1:upd H p (.dK (u9 c (a+1) l)) p=some (.dK (u9 c (a+1) l)):=zg;have hc1:upd H p (.dK (u9 c (a+1) l)) c=some (.frz ob (.lst (ns.map V.int))):=by rw[zc npc];exact hc
   generalize hH1:upd H p (.dK (u9 c (a+1) l))=H1 at hp1 hc1 ⊢;have st1:zm H H1:=hH1 ▸ zcS hp;refine⟨_,rfl,_,_,rfl,rfl,.inl ⟨by lia,by lia⟩,_,_,rfl,rfl,?_⟩;refine' meet (α:=Int) _ (fun yn=>?_) ?_;rotate_left
   ·
    refine⟨_,rfl,p,_,rfl,zfk hp1,_,_,rfl,.inl ⟨_,.inl (.inr ⟨ob,hc1⟩),rfl⟩,_,_,rfl,rfl,_,rfl,zpX (fun hz=>?_) (fun hz=>?_)⟩;have hz':0<((ns.map V.int).length:Int):=bw hz;obtain⟨cell,hget⟩:=znc ns a hz';refine⟨_,rfl,p,_,rfl,zfk hp1,_,rfl,_,rfl,p,_,rfl,zfk hp1,_,_,rfl,.inl ⟨_,.inl (.inr ⟨ob,hc1⟩),rfl⟩,_,_,rfl,rfl,hz',c,_,_,_,rfl,rfl,.inl (.inr ⟨ob,hc1⟩),hget,?_⟩;exact yn cell;exact yn (31 * a+7)
   ·intro cell;have nqp:∀ {q:Addr},H1 q=none->p≠q:=fun hq=>zb hp1 hq;refine' zre _ (fun yn=>?_) ?_;rotate_left
    ·refine⟨_,rfl,_,rfl,p,_,rfl,zfk hp1,_,_,rfl,.inl ⟨_,.inl (.inr ⟨ob,hc1⟩),rfl⟩,_,_,rfl,rfl,_,rfl,zpX (fun h3=>?_) (fun h3=>?_)⟩;rotate_left
     ·refine iteF ?_;exact yn
     refine⟨_,rfl,_,rfl,_,_,rfl,rfl,⟨by decide,by decide,by decide⟩,_,_,rfl,rfl,_,rfl,zpX (fun h4=>?_) (fun h4=>?_)⟩;rotate_left
     ·exact yn
     have ha:0<=(if cell<0 then -cell else cell):=by split <;> lia
     refine⟨_,rfl,_,rfl,_,rfl,_,_,rfl,rfl,⟨by show (0:Int)<zC;lia,h2⟩,_,rfl,p,_,rfl,zkt hp1 _,?_⟩;refine⟨_,rfl,_,rfl,_,rfl,_,_,rfl,rfl,(by show (0:Int)<zC;lia),k _ _ (ce _ (by lia)) (bL _ (by lia)) ⟨⟨a+1,_,zg,by lia,by lia,Int.ediv_nonneg ha (by lia)⟩,⟨ob,by rw[zc npc];exact hc1⟩,hlen⟩ (st1.trans (zcS hp1))⟩
    ·obtain⟨sq0,sq1⟩:=zjW ha0 han hn;have mm0:=ce cell (show (2147483549:Int)≠0 by decide);have mm1:=bL cell (show (0:Int)<2147483549 by decide);obtain⟨mx0,mx1⟩:=zhx ha0 han hn mm0 mm1;refine⟨_,rfl,_,_,rfl,rfl,(by show (0:Int)<2147483549;decide),_,_,rfl,rfl,_,rfl,_,_,rfl,rfl,.inl ⟨by decide,by decide⟩,_,_,rfl,rfl,_,_,rfl,rfl,.inr ⟨by lia,by lia⟩,_,rfl,_,_,rfl,rfl,.inl ⟨by decide,by decide⟩,_,rfl,_,_,rfl,rfl,.inr ⟨by lia,by lia⟩,_,_,rfl,rfl,_,rfl,_,_,rfl,rfl,.inl ⟨by decide,by decide⟩,_,_,rfl,rfl,_,rfl,_,_,rfl,rfl,⟨by decide,by decide,?_⟩,_,_,rfl,rfl,(by show (0:Int)<2147483647;decide),?_⟩
     ·show ((cell % 2147483549+70009) * (2 * a+1)+6133 * a * a+577 * a).natAbs<2 ^ 64;lia
     ·generalize hw1:(((cell % 2147483549+70009) * (2 * a+1)+6133 * a * a+577 * a) ^ (5:Int).toNat:Int)=w1;have w0:=ce w1 (show (2147483647:Int)≠0 by decide);have w2:=bL w1 (show (0:Int)<2147483647 by decide);refine⟨_,rfl,_,rfl,_,_,rfl,rfl,.inl ⟨by decide,by decide⟩,_,_,rfl,rfl,_,_,rfl,rfl,_,_,rfl,rfl,⟨by decide,by decide,?_⟩,_,_,rfl,rfl,(by show (0:Int)<2147483587;decide),?_⟩
      ·show (w1 % 2147483647+5 * a+1).natAbs<2 ^ 64;lia
      ·refine⟨_,rfl,_,_,rfl,rfl,⟨by decide,by decide⟩,_,rfl,_,_,rfl,rfl,(by show (0:Int)<zC;lia),?_⟩;exact k _ _ (ce _ (by lia)) (bL _ (by lia)) ⟨⟨a+1,l,hp1,by lia,by lia,hl0⟩,⟨ob,hc1⟩,hlen⟩ st1
theorem zP (T:Txt K mg t):FnOk P w K mg base CX0 1 t.f1 t.d1 ["_law_pen_here","_law_many"] (spV 2 false zf9):=FnOk.lift (FnOk.mono (zaA T) (by decide)) zhj
theorem zdq (T:Txt K mg t):FnOk P w K mg base CX0 2 t.f2 t.d2 ["_law_pen_here","_law_some"] zkC:=by
 have G1:FnOk P w K mg base CX0 1 t.f1 t.d1 ["_law_pen_here","_law_many"] zik:=zaA T;refine T.q2.F.okQ zaG (fun vs H Q E h=>?_) (fun cdv A outer s H vs Q E hr h=>?_)
 ·obtain⟨p,c,a,ns,n,xs,rfl,_⟩:=h;rfl
 ·obtain⟨p,c,a,ns,n,xs,rfl,hP,hn,hx,ha,k⟩:=h
  refine⟨_,(zR (xI (i:=2) zaG.nd rfl (Or.inr rfl) (zab za7 (by rfl) T.b_list bF (zE (qv 1) yA)))
   (xC (zaD (zfm (N:=["_law_one","_law_left","_law_pen_here"]) (cix:=[none,some 2,some 0]) rfl ⟨rfl,by decide +kernel,rfl⟩ (zhV (qv 1)) (fun _ _ _ _=>(zhU (i:=0) (show (["_law_one","_law_left","_law_pen_here"]:List Str).Nodup by decide +kernel) rfl (Or.inl rfl))) (fun _ _ _ _=>zh0) (fun _ _ _ _=>(zmk K rfl (qv 1) (zE (zjE T.q1 G1 hr (zE (qv 2) (zE (yg (zkU K rfl) (by rfl) T.b_len bi (zE (qv 1) yA)) yA))) yA))))))),?_⟩
  refine⟨_,rfl,a,xs,rfl,.inl (.inl ha),fun b H1 hb0 hb1 S1=>?_⟩;refine⟨_,rfl,a,rfl,⟨_,.inl (ha.same S1)⟩,fun acc hacc=>?_⟩;have P1:=hP.same S1;have hca:c≠acc:=zb P1.ls.choose_spec hacc;have hba:b≠acc:=zb hb1 hacc;have hcb:c≠b:=zb hP.ls.choose_spec hb0
  refine zgr (xs:=xs) hacc (fun i σ' H'=>(∃v,σ'=[v,some (.ref b),some (.ref p)])/\∃ys zs:List V,H' acc=some (.lst ys)/\H' b=some (.lst zs)/\(ys++zs).Perm xs/\ys.length=i/\Pen H' p c ns (n+i)/\zm H H')
   (fun H' z1 z2=>⟨⟨_,rfl⟩,[],xs,z1,z2 _ _ hb1,.refl _,rfl,P1.same z2,zm.same (S1.trans z2)⟩) (fun _ _ _ _ ⟨_,_,_,_,_,_,_,_,S⟩=>.inl (S.rdl ha)) ?_ ?_
  ·rintro i y σ' H' hx' ⟨⟨v,rfl⟩,ys,zs,hac,hb,hp,hi,P',S'⟩;have hi':=(af.mp hx').1;have hz:=hp.length_eq;rw[aD,hi] at hz;refine zni ⟨_,rfl,.inl ⟨rfl,_,SqL.of hb⟩,_,rfl,_,rfl,_,_,rfl,.inl ⟨_,.of hb,rfl⟩,p,c,ns,n+i,(zs.length:Int),rfl,P',by lia,by lia,by lia,fun r H2 r0 r1 P2 S2=>?_⟩;have hk:r.toNat<zs.length:=by lia
   have hb2:=S2.lst hb;have hac2:=S2.lst hac;refine⟨b,zs,r,r.toNat,zs[r.toNat],rfl,rfl,hb2,by lia,by lia,L3.zpi r0 r1,aq hk,ys,by rw[zc (Ne.symm hba)];exact hac2,aU (by lia:ys.length<=100000) (by decide),⟨_,rfl⟩,ys++[zs[r.toNat]],zs.eraseIdx r.toNat,zg,by rw[zc hba];exact zg,L3.zfG hk hp,by rw[aD,hi];rfl,(P2.app hb2 hcb).app (by rw[zc (Ne.symm hba)];exact hac2) hca,?_⟩;have Sa:zm H (upd H2 b (.lst (zs.eraseIdx r.toNat))):=zfu hb0 (S'.trans S2);exact zfu (S1.free hacc) Sa
  ·rintro σ' H' ⟨⟨v,rfl⟩,ys,zs,hac,hb,hp,hi,P',S'⟩;have hz:=hp.length_eq;rw[aD,hi] at hz;have:zs=[]:=dD (by lia);subst this;rw[dM] at hp;exact k acc ys H' (S1.free hacc) hac hp P' S'
theorem xB (T:Txt K mg t):FnOk P w K mg base CX0 2 t.f2 t.d2 ["_law_pen_here","_law_some"] (spV 2 true zga):=FnOk.lift (FnOk.mono (zdq T) (by decide)) zhk
theorem zem (T:Txt K mg t):FnOk P w K mg base CX0 1 t.f3 t.d3 ["thing"] zim:=by
 refine T.q3.F.okQ zeE (fun vs H Q E h=>?_) (fun cdv A outer s H vs Q E hr h=>?_)
 ·obtain⟨v,d,rfl,_⟩:=h;rfl
 ·obtain⟨v,d,rfl,hd,k⟩:=h;refine⟨_,(xC (zaD (zoI (yg za6 (by rfl) T.b_isinstance cB (zE (qv 0) (zE (zeu (v:=.ty "int") rfl T.b_int PyProof.Rows.boot_int rfl) yA))) (zoN (zoM (yg za6 (by rfl) T.b_isinstance cB (zE (qv 0) (zE (zeu (v:=.ty "bool") rfl T.b_bool PyProof.Rows.boot_bool rfl) yA)))))))),?_⟩;refine⟨_,rfl,v,"int",_,_,rfl,hd.ty,zlx _ d,_,rfl,?_⟩
  cases d with
  | int i=>exact iteT ⟨_,rfl,v,"bool",_,_,rfl,hd.ty,zkm _ _,_,rfl,k⟩
  | bl b=>exact iteT ⟨_,rfl,v,"bool",_,_,rfl,hd.ty,zkm _ _,_,rfl,k⟩
  | _=>exact iteF k
theorem zdv (T:Txt K mg t):FnOk P w K mg base CX0 1 t.f3 t.d3 ["thing"] (spV 1 false zgb):=FnOk.lift (FnOk.mono (zem T) (by decide)) zfM
structure WideOk (rm:List Int):Prop where
 pos:1<=rm.length
 few:rm.length<=16
 box:∀r∈rm,2<=r/\r<=4
theorem zcp {rm:List Int}{g:List (Int×Int)}(h:Giv rm g)(hR:WideOk rm):g.length<=16:=by have:=zd7 (g:=g) (lo:=0) (m:=rm.length) (fun q hq=>⟨(h.ok q hq).1,(h.ok q hq).2.1⟩) h.up (by lia);have:=hR.few;lia
def zgh:List (List Dt)->List (List Dt):=fun cs=>cs.foldl (fun rs c=>rs.flatMap fun r=>c.map fun x=>r++[x]) [[]]
theorem uM (cs:List (List Dt))(c:List Dt):zgh (cs++[c])=(zgh cs).flatMap fun r=>c.map fun x=>r++[x]:=by unfold zgh;rw[er];rfl
theorem zeO:∀ {n:Nat} {cs:List (List Dt)},cs.length=n->∀r∈zgh cs,r.length=n
 | 0,cs,h,r,hr=>by
  cases cs with
  | nil=>rw[aC.mp hr];rfl
  | cons _ _=>cases h
 | n+1,cs,h,r,hr=>by obtain⟨cs',c,rfl⟩:∃cs' c,cs=cs'++[c]:=⟨cs.dropLast,cs.getLast (by intro z;rw[z] at h;cases h),(bz _).symm⟩;rw[uM] at hr;obtain⟨r',h1,h2⟩:=eG.mp hr;obtain⟨x,_,rfl⟩:=ay.mp h2;rw[aD,zeO (n:=n) (by simpa using h) r' h1];rfl
def za8 (rm:List Int):List Int->List (List (Int×Int)):=fun bs=>bs.foldl (fun gs b=>gs.flatMap fun g=>(zv (zC rm b)).map fun w=>g++[(b,w)]) [[]]
theorem xT (rm bs:List Int)(b:Int):za8 rm (bs++[b])=(za8 rm bs).flatMap fun g=>(zv (zC rm b)).map fun w=>g++[(b,w)]:=by unfold za8;rw[er];rfl
theorem uB {α β:Type}{f:α->List β}{k:Nat}(h:∀a,(f a).length<=k):∀l:List α,(l.flatMap f).length<=l.length * k
 | []=>aL _
 | a::l=>by rw[List.flatMap_cons,aD,a8,Nat.succ_mul];have:=h a;have:=uB h l;lia
theorem uR {rm:List Int}(hb:∀r∈rm,2<=r/\r<=4):∀ {n:Nat} {bs:List Int},bs.length=n->(∀b∈bs,0<=b/\b<rm.length)->(za8 rm bs).length<=4 ^ n
 | 0,bs,h,_=>by
  cases bs with
  | nil=>exact ai _
  | cons _ _=>cases h
 | n+1,bs,h,hr=>by obtain⟨cs',c,rfl⟩:∃cs' c,bs=cs'++[c]:=⟨bs.dropLast,bs.getLast (by intro z;rw[z] at h;cases h),(bz _).symm⟩;rw[xT];have h1:=uR hb (n:=n) (bs:=cs') (by simpa using h) fun b z=>hr b (bj _ z);have hm:=z5 hb (hr c (by simp)).1 (hr c (by simp)).2;have:=uB (f:=fun g:List (Int×Int)=>(zv (zC rm c)).map fun w=>g++[(c,w)]) (k:=4) (fun g=>by rw[ab,yh];lia) (za8 rm cs');rw[Nat.pow_succ];lia
theorem uT {rm:List Int}{g:List (Int×Int)}:∀ {n:Nat} {bs:List Int},bs.length=n->g∈za8 rm bs->g.map (·.1)=bs/\∀q∈g,0<=q.2/\q.2<zC rm q.1
 | 0,bs,h,hg=>by
  cases bs with
  | nil=>rw[aC.mp hg];exact⟨rfl,by simp⟩
  | cons _ _=>cases h
 | n+1,bs,h,hg=>by
  obtain⟨cs',c,rfl⟩:∃cs' c,bs=cs'++[c]:=⟨bs.dropLast,bs.getLast (by intro z;rw[z] at h;cases h),(bz _).symm⟩;rw[xT] at hg;obtain⟨g',h1,h2⟩:=eG.mp hg;obtain⟨x,hx,rfl⟩:=ay.mp h2;obtain⟨e1,e2⟩:=uT (n:=n) (bs:=cs') (by simpa using h) h1;have hx:=zT.mp hx;refine⟨by rw[aM,e1];rfl,fun q hq=>?_⟩;rcases aN.mp hq with z | z
  ·exact e2 q z
  ·rw[aC.mp z];exact hx
theorem zeX {rm bs:List Int}{g:List (Int×Int)}(hs:bs.Pairwise (· < ·))(hb:∀b∈bs,0<=b/\b<rm.length)(hg:g∈za8 rm bs):Giv rm g:=by
 obtain⟨e1,e2⟩:=uT rfl hg;refine⟨fun q hq=>?_,?_⟩
 ·have hq1:q.1∈bs:=by rw[<- e1];exact ay.mpr ⟨q,hq,rfl⟩
  exact⟨(hb _ hq1).1,(hb _ hq1).2,(e2 q hq).1,(e2 q hq).2⟩
 ·rw[<- e1] at hs;exact bS.mp hs
theorem zdZ {rm:List Int}:∀ {n:Nat} {bs:List Int},bs.length=n->zgh (bs.map fun b=>(zv (zC rm b)).map fun w=>yD (b,w))=(za8 rm bs).map fun g=>g.map yD
 | 0,bs,h=>by
  cases bs with
  | nil=>rfl
  | cons _ _=>cases h
 | n+1,bs,h=>by obtain⟨cs',c,rfl⟩:∃cs' c,bs=cs'++[c]:=⟨bs.dropLast,bs.getLast (by intro z;rw[z] at h;cases h),(bz _).symm⟩;rw[aM,av,eJ,uM,xT,zdZ (n:=n) (bs:=cs') (by simpa using h),List.flatMap_map,List.map_flatMap];refine congrArg (fun f=>List.flatMap f (za8 rm cs')) (funext fun g=>?_);rw[az,az];refine List.map_congr_left fun w _=>?_;show _=(g++[(c,w)]).map yD;rw[aM];rfl
theorem zcO {l m:List Int}(h1:l.Pairwise (· < ·))(h2:m.Pairwise (· < ·))(h:∀z,z∈l↔z∈m):l=m:=
 PySem.W.lks_uniq (zaa (h1.imp fun h=>by lia) (h2.imp fun h=>by lia) h) (h1.imp fun h=>by lia) (h2.imp fun h=>by lia)
def uz (bk:List Wi)(b z:Int):Prop:=∃x∈bk,x.b=b/\∃q∈x.g,q.1=z
theorem zdj {bk:List Wi}{i:Nat}{x:Wi}{b:Int}(hx:bk[i]?=some x)(z:Int):uz (bk.take (i+1)) b z↔uz (bk.take i) b z\/(x.b=b/\∃q∈x.g,q.1=z):=by
 rw[zn hx];unfold uz;constructor
 ·rintro⟨y,hy,h1⟩;rcases aN.mp hy with h | h
  ·exact .inl ⟨y,h,h1⟩
  ·rw[aC.mp h] at h1;exact .inr h1
 ·rintro (⟨y,hy,h1⟩ | h1)
  ·exact⟨y,bj _ hy,h1⟩
  ·exact⟨x,aV _ (by simp),h1⟩
def zaC (bk:List Wi)(b:Int)(P:List (Int×Int)->Bool):List (List Int):=zcQ ((bk.filter fun x=>decide (x.b=b)&&P x.g).map fun x=>[x.w,x.r])
def zes (st:List Int)(g:List (Int×Int)):List Int:=g.foldl (fun s q=>chg s q.1 q.2) st
def u16:List (List Int):=(zv 4).flatMap fun w=>(zv 4).map fun r=>[w,r]
theorem zlG {w r:Int}(h0:0<=w)(h1:w<4)(h2:0<=r)(h3:r<4):[w,r]∈u16:=eG.mpr ⟨w,zT.mpr ⟨h0,h1⟩,ay.mpr ⟨r,zT.mpr ⟨h2,h3⟩,rfl⟩⟩
theorem zcW {rm:List Int}{bk:List Wi}(hb:∀r∈rm,2<=r/\r<=4)(hB:zaO rm bk):∀x∈bk,[x.w,x.r]∈u16:=fun x hx=>by have hW:=hB x hx;have hm:=z5 hb hW.b0 hW.b1;have h1:=hW.w1;have h2:=hW.r1;exact zlG hW.w0 (by lia) hW.r0 (by lia)
theorem uO {st:List Int}{b w:Int}(h:b<st.length)(h0:0<=b):(chg st b w).length=st.length:=by unfold chg;simp;lia
theorem zcI:∀ {g:List (Int×Int)} {st:List Int},(∀q∈g,0<=q.1/\q.1<st.length)->(zes st g).length=st.length
 | [],_,_=>rfl
 | q::g,st,h=>by have hq:=h q aj;have e:=uO (w:=q.2) hq.2 hq.1;show (zes (chg st q.1 q.2) g).length=_;rw[zcI (st:=chg st q.1 q.2) fun p hp=>by rw[e];exact h p (ak _ hp)];exact e
theorem zhi {w r w' r':Int}:HT.lexLt [w,r] [w',r']=true↔w<w'\/(w=w'/\r<r'):=by
 rw[HT.lexLt_cons,HT.lexLt_cons];by_cases e:w=w'
 ·rw[if_pos e];by_cases e2:r=r'
  ·rw[if_pos e2,HT.lexLt_nil_nil];simp;lia
  ·rw[if_neg e2];simp;lia
 ·rw[if_neg e];simp;lia
theorem zaT {k:Nat}:∀so:List Int,(Dt.toWs (so.map Dt.int)).all (PySem.W.kqdOk k)=true
 | []=>rfl
 | _::so=>by simp only[av,Dt.toWs,bY,zaT (k:=k) so,cm];cases k <;> rfl
theorem zdf {k:Nat}:∀g:List (Int×Int),(Dt.toWs (g.map yD)).all (PySem.W.kqdOk (k+1))=true
 | []=>rfl
 | _::g=>by simp only[av,Dt.toWs,bY,zdf (k:=k) g,cm];exact zaT (k:=k) [_,_]
theorem eqGs {l:List (List (Int×Int))}:(Dt.lst (l.map uC)).eqOk:=by
 have e:∀l:List (List (Int×Int)),(Dt.toWs (l.map uC)).all (PySem.W.kqdOk 7)=true:=fun l=>by
  induction l with
  | nil=>rfl
  | cons g l ih=>
   simp only[av,Dt.toWs,bY,ih,cm];exact zdf (k:=5) g
 exact e l
theorem zhC:∀l:List (List (Int×Int)),Dt.noLs (l.map uC)=true
 | []=>rfl
 | g::l=>by show ((uC g).noL&&Dt.noLs (l.map uC))=true;rw[zhC l,cm];exact zdo g
def kvI (z:Int):Key×Dt:=(Sum.inl z,.bl true)
theorem putI (ns:List Int)(z:Int):zhQ (ns.map kvI) (Sum.inl z) (.bl true)=(if z∈ns then ns else ns++[z]).map kvI:=by
 have e:(ns.map kvI).any (fun kv=>decide (kv.1=Sum.inl z))=decide (z∈ns):=by rw[bK,List.any_map,List.any_eq_true,bM];exact⟨fun⟨x,h1,h2⟩=>by rwa[<- show x=z from Sum.inl.inj (bw h2)],fun h=>⟨z,h,aK rfl⟩⟩
 unfold zhQ;rw[e];by_cases h:z∈ns
 ·rw[if_pos (aK h),if_pos h,az];refine List.map_congr_left fun x _=>?_;show (if (kvI x).1=Sum.inl z then ((kvI x).1,Dt.bl true) else kvI x)=kvI x;split <;> rfl
 ·rw[if_neg (by simpa using h),if_neg h,aM];rfl
theorem zhR:∀ {g:List (Int×Int)} {st:List Int} {c:Int},(∀q∈g,0<=q.1/\q.1<st.length)->0<=c->(∀q∈g,q.1≠c)->zC (zes st g) c=zC st c
 | [],_,_,_,_,_=>rfl
 | q::g,st,c,h,c0,hc=>by have hq:=h q aj;have e:=uO (w:=q.2) hq.2 hq.1;show zC (zes (chg st q.1 q.2) g) c=_;rw[zhR (fun p hp=>by rw[e];exact h p (ak _ hp)) c0 fun p hp=>hc p (ak _ hp),zal hq.1 hq.2 c0,if_neg (fun z=>hc q aj z.symm)]
theorem zet:∀ {g:List (Int×Int)} {st:List Int} {p:Int×Int},(∀q∈g,0<=q.1/\q.1<st.length)->(g.Pairwise fun a b=>a.1<b.1)->p∈g->zC (zes st g) p.1=p.2
 | q::g,st,p,h,hg,hp=>by
  have hq:=h q aj;have e:=uO (w:=q.2) hq.2 hq.1;have h':∀r∈g,0<=r.1/\r.1<(chg st q.1 q.2).length:=fun r hr=>by rw[e];exact h r (ak _ hr)
  obtain⟨g1,g2⟩:=bB.mp hg;show zC (zes (chg st q.1 q.2) g) p.1=_;rcases aI.mp hp with rfl | hp
  ·rw[zhR h' hq.1 (fun r hr=>by have:=g1 r hr;lia),zal hq.1 hq.2 hq.1,if_pos rfl]
  ·exact zet h' g2 hp
theorem zgx {rm lk:List Int}{bk:List Wi}{b:Int}{g:List (Int×Int)}{st:List Int}(hB:zaO rm bk)(hG:Giv rm g)(e:g.map (·.1)=lk)(hlk:∀z,z∈lk↔uz bk b z)(hst:st.length=rm.length) :
  zaC bk b (fun h=>h.all fun q=>decide (q∈g))=zaC bk b fun h=>y0 (zes st g) h:=by
 unfold zaC;have hg:∀q∈g,0<=q.1/\q.1<st.length:=fun q hq=>by have:=hG.ok q hq;rw[hst];exact⟨this.1,this.2.1⟩
 refine congrArg (fun l:List Wi=>zcQ (l.map fun x=>[x.w,x.r])) (List.filter_congr fun x hx=>?_);by_cases hxb:x.b=b
 ·rw[aK hxb];show (true&&_)=(true&&_);rw[dH,dH];unfold y0;rw[bK,ba,ba];refine forall_congr' fun q=>forall_congr' fun hq=>?_;rw[bM,bM];constructor
  ·exact fun h=>zet hg hG.up h
  ·intro h;have h1:q.1∈g.map (·.1):=by rw[e];exact (hlk _).mpr ⟨x,hx,hxb,q,hq,rfl⟩
   obtain⟨p,hp,hpe⟩:=ay.mp h1;have h2:=zet hg hG.up hp;rw[hpe,h] at h2;rwa[show q=p from Prod.ext hpe.symm h2]
 ·rw[aS hxb];rfl
theorem zgw {rm:List Int}(hb:∀r∈rm,2<=r/\r<=4):∀ {n:Nat} {bs:List Int},bs.length=n->(∀b∈bs,0<=b/\b<rm.length)->1<=(za8 rm bs).length
 | 0,bs,h,_=>by
  cases bs with
  | nil=>exact ai _
  | cons _ _=>cases h
 | n+1,bs,h,hr=>by
  obtain⟨cs',c,rfl⟩:∃cs' c,bs=cs'++[c]:=⟨bs.dropLast,bs.getLast (by intro z;rw[z] at h;cases h),(bz _).symm⟩;have h1:=zgw hb (n:=n) (bs:=cs') (by simpa using h) fun b z=>hr b (bj _ z);have hm:=z5 hb (hr c (by simp)).1 (hr c (by simp)).2;rw[xT]
  cases hgs:za8 rm cs' with
  | nil=>rw[hgs] at h1;exact absurd h1 (by simp)
  | cons g gs=>
   rw[List.flatMap_cons,aD,ab,yh];lia
theorem zjA {rm:List Int}{bk:List Wi}{b:Int}{P:List (Int×Int)->Bool}(hb:∀r∈rm,2<=r/\r<=4)(hB:zaO rm bk):(zaC bk b P).length<=16:=by refine ao (yr (l':=u16) (zpH (zaX (m:=2) fun y hy=>by obtain⟨x,hx,rfl⟩:=ay.mp hy;rfl)) fun z hz=>?_) (by decide);obtain⟨x,hx,rfl⟩:=ay.mp (xx.mp hz);exact zcW hb hB x (aT.mp hx).1
inductive F_areb  (Pn:PN):List W->Nat->(W->Nat->Prop)->Prop
 | i {n:Nat} {R:W->Nat->Prop} {d:Dt} {mo:Int}  (h:R (.d (.bl (za3 mo d))) n)  : F_areb Pn [.d d,.d (.int mo)] n R
theorem zcE (T:Txt K mg t):FnOk P w K mg base CX0 2 t.f4 t.d4 ["thing","most"] (spV 2 false F_areb):=by
 have G3:=zdv (P:=P) (w:=w) (base:=base) T
 refine Fun.okW (k:=1) (fr:=false) [] 1 T.q4.F zaI rfl (by decide) rfl fun cdv A outer s H E Pn hr=>⟨_,(ze (wS yK <| zan (JW.t (wW zb5 <| zfL (wT x3 <| zay (wT zD <| zaz (JE.bo (wE zcx <| zbU (by rfl) T.b_isinstance T.b_tuple (kb 0))))) (uY (.inr rfl) (wT x3 <| zay (wT zfd <| ze9 zfP zfP zm3 zm3 (JE.bo zB) (JE.bo (z7 y9 zbX (by rfl) T.b_len bi (zh (kb 0) zo))) (kb 1)))))) (zk (yi zfJ)) yT)
   (ze (yU aX rfl (wI y3 <| xW K rfl (kv 0)) (wG zA <| zi (i:=2) zaI.nd) (zk (wS yK <| zan (JW.t (wW zb5 <| zfL (wT x3 <| zay (wT zD <| zaz (JE.bo (wE zu <| xj T.q3 G3 hr (za (kv 2) zf))))) (uY (.inr rfl) (wT x3 <| zay (wT zfd <| ze9 zfP zfP zm3 zm3 (JE.bo (zef rfl T.c_LEAST_WORTHS)) (kb 2) (JE.bo (zef rfl T.c_MOST_WORTHS))))))) (zk (yi zfJ)) yT)))
   (zk (yi zfJ)))),fun ws n R hF=>?_⟩
 obtain @⟨_,_,d,mo,r⟩:=hF;walk_at "st"
 cases d with
 | tup l=>
  rw[zaj] at r;walk_at "st";refine zas (fun h1=>?_) (fun h1=>?_)
  ·walk_at "st";refine zas (fun h2=>?_) (fun h2=>?_)
   ·walk_at "st";refine yf l W.d rfl (fun i ρ m=>m=n/\(∃v,ρ=[some (.d (.tup l)),some (.d (.int mo)),v])/\(l.take i).all Dt.inBox=true) ⟨rfl,⟨_,rfl⟩,rfl⟩ ?_ ?_
    ·rintro i d ρ m hd ⟨rfl,⟨v,rfl⟩,ha⟩ C B E hC _ hE;have hdm:=aw hd
     have no:d.inBox=false->R (.d (.bl false)) m:=fun e=>by rw[show l.all Dt.inBox=false from List.all_eq_false.mpr ⟨d,hdm,by simp[e]⟩,cJ] at r;exact r
     have yes:d.inBox=true->∀v,C [some (.d (.tup l)),some (.d (.int mo)),v] m:=fun e v=>hC ⟨rfl,⟨_,rfl⟩,by rw[zn hd,List.all_append,ha];simp[e]⟩;walk_at "st";refine⟨d,rfl,?_⟩
     cases hw:d.isWhole with
     | true=>
      obtain⟨z,rfl⟩:∃z,d = .int z:=by cases d <;> first | exact⟨_,rfl⟩ | cases hw
      walk_at "st";refine zas (fun h3=>?_) (fun h3=>?_)
      ·walk_at "st";refine zas (fun h4=>?_) (fun h4=>?_)
       ·walk_at "st";exact yes (by simp[Dt.inBox];lia) _
       ·walk_at "st";exact hE (no (by simp[Dt.inBox];lia))
      ·walk_at "st";exact hE (no (by simp[Dt.inBox];lia))
     | false=>
      walk_at "st";exact hE (no (by cases d <;> first | rfl | cases hw))
    ·rintro ρ m ⟨rfl,⟨v,rfl⟩,ha⟩;rw[a9] at ha;rw[aK h2,aK (show 1<=l.length by lia),ha] at r;walk_at "st";exact r
   ·walk_at "st";rw[aS h2,cJ] at r;exact r
  ·walk_at "st";rw[aS (show ¬ 1<=l.length by lia)] at r;exact r
 | _=>
  walk_at "st";exact r
inductive F_iswd  (Pn:PN):List W->Nat->(W->Nat->Prop)->Prop
 | i {n:Nat} {R:W->Nat->Prop} {d:Dt}  (h:R (.d (.bl (za3 16 d))) n)  : F_iswd Pn [.d d] n R
theorem zen (T:Txt K mg t):FnOk P w K mg base CX0 3 t.f5 t.d5 ["thing"] (spV 1 false F_iswd):=by have G4:=zcE (P:=P) (w:=w) (base:=base) T;refine Fun.okW (k:=2) (fr:=false) [] 0 T.q5.F zfV rfl (by decide) rfl fun cdv A outer s H E Pn hr=>⟨_,(zk (yi (wE zu <| xj T.q4 G4 hr (za (kv 0) (za (zef rfl T.c_MOST_WIDE_BOXES) zf))))),fun ws n R hF=>?_⟩;obtain @⟨_,_,d,r⟩:=hF;walk_at "st";exact F_areb.i r
inductive F_combD  (Pn:PN):List W->Nat->(W->Nat->Prop)->Prop
 | i {n:Nat} {R:W->Nat->Prop} {cs:List (List Dt)} (h4:cs.length<=16) (hall:∀k,(zgh (cs.take k)).length<=1000) (h:R (.d (.lst ((zgh cs).map Dt.tup))) n)  : F_combD Pn [.d (.lst (cs.map Dt.lst))] n R
theorem zdt (T:Txt K mg t):FnOk P w K mg base CX0 1 t.f6 t.d6 ["choices"] (spV 1 true F_combD):=by
 refine Fun.okW (k:=0) (fr:=true) [1] 2 T.q6.F xE rfl (by decide) rfl fun cdv A outer s H E Pn hr=>⟨_,(ze (wS y4 <| uw (i:=1) xE.nd (zbi (za (yH zf) zf)))
   (ze (yU aX rfl (wI yL <| yS K rfl (kv 0)) (wG zA <| zi (i:=2) xE.nd) (zk (wS y4 <| zlv (i:=1) (zfK (ix:=1) xE.nd rfl rfl (N:=["row","worth","worths"]) (cix:=[none,none,some 2]) rfl ⟨rfl,by decide +kernel,rfl⟩ (wI yL <| znI K rfl (kb 1)) (fun _ _ _ _=>(wG zA <| zi (i:=0) (show (["row","worth","worths"]:List Str).Nodup by decide +kernel))) (fun _ _ _ _=>yx) (fun _ _ _ _=>(wI yL <| yS K rfl (kv 2))) (fun _ _ _ _=>(wG zA <| zi (i:=1) (show (["row","worth","worths"]:List Str).Nodup by decide +kernel))) (fun _ _ _ _=>yx) (fun _ _ _ _=>(y8 zY yG (kb 0) (JE.bo (yH (za (kv 1) zf)))))))))
   (zk (wS u4 <| zbj 1)))),fun ws n R hF=>?_⟩
 obtain @⟨_,_,cs,h4,hall,r⟩:=hF;walk_at "st";walk_at "st";refine yf cs (fun c=>W.d (.lst c)) (by rw[az];rfl) (fun i ρ m=>m=n/\∃v2,ρ=[some (.d (.lst (cs.map Dt.lst))),some (.d (.lst ((zgh (cs.take i)).map Dt.tup))),v2]) ⟨rfl,_,rfl⟩ ?_ ?_
 ·rintro i c ρ m hc ⟨rfl,v2,rfl⟩ C B E hC _ _;have h2:=hall (i+1);have hil:=(af.mp hc).1;rw[zn hc,uM] at h2
  have hrow:∀row∈zgh (cs.take i),row.length<=16:=fun row hr=>by rw[zeO rfl _ hr,aQ];lia
  have hC':=fun v=>hC (ρ:=[some (.d (.lst (cs.map Dt.lst))),some (.d (.lst ((zgh (cs.take (i+1))).map Dt.tup))),v]) (m:=m) ⟨rfl,_,rfl⟩;rw[zn hc,uM] at hC';generalize zgh (cs.take i)=rows at h2 hrow hC';walk_at "st"
  have e:(rows.flatMap fun row=>c.map fun x=>Dt.tup (row++[x]))=(rows.flatMap fun r=>c.map fun x=>r++[x]).map Dt.tup:=by rw[List.map_flatMap];refine congrArg (fun f=>List.flatMap f rows) (funext fun row=>?_);rw[az];rfl
  have e2:=congrArg List.length e;rw[ab] at e2;refine zgn rows (fun row=>W.d (.tup row)) (by rw[az];rfl) (fun ρ=>∃a b,ρ=[a,b,some (.d (.lst c))]) (fun row=>c.map fun x=>Dt.tup (row++[x])) (by rw[e2,List.length_nil,Nat.zero_add];exact ao h2 (by decide)) ⟨_,_,rfl⟩ ?_ ?_
  ·rintro row hr ρ ⟨a,b,rfl⟩ ds K hl hK;walk_at "st";refine zgn c (fun x=>W.d x) rfl (fun ρ=>∃b,ρ=[some (.d (.tup row)),b,some (.d (.lst c))]) (fun x=>[Dt.tup (row++[x])]) (by rw[<- List.map_eq_flatMap];exact hl) ⟨_,rfl⟩ ?_ fun {ρ} ⟨b,z⟩=>(by rw[<- List.map_eq_flatMap];exact hK ⟨_,_,z⟩);rintro x hx ρ ⟨b,rfl⟩ ds2 K2 hl2 hK2;walk_at "st";refine⟨ao (by rw[cE];have:=hrow row hr;lia:_<=1000) (by decide),Nat.le_of_succ_le hl2,?_⟩;exact hK2 ⟨_,rfl⟩
  ·rintro ρ ⟨a,b,rfl⟩;rw[List.nil_append,e];walk_at "st";exact hC' _
 ·rintro ρ m ⟨rfl,v2,rfl⟩;rw[a9];walk_at "st";exact r
inductive F_cont  (Pn:PN):List W->Nat->(W->Nat->Prop)->Prop
 | i {n:Nat} {R:W->Nat->Prop} {rm bs:List Int} (hR:WideOk rm) (hb:∀b∈bs,0<=b/\b<rm.length) (h4:bs.length<=4) (h:R (.d (.lst ((za8 rm bs).map uC))) n)  : F_cont Pn [.d (stD rm),.d (lsD bs)] n R
theorem zdu (T:Txt K mg t):FnOk P w K mg base CX0 2 t.f7 t.d7 ["room","boxes"] (spV 2 true F_cont):=by
 have G6:=zdt (P:=P) (w:=w) (base:=base) T;refine Fun.okW (k:=1) (fr:=true) [] 0 T.q7.F zeD rfl (by decide) rfl fun cdv A outer s H E Pn hr=>⟨_,(zk (yi (wE zu <| xj T.q6 G6 hr (za (zls (z := "box") (N:=["box","room"]) (cix:=[none,some 0]) rfl ⟨rfl,by decide +kernel,rfl⟩ (wI yL <| yS K rfl (kv 1)) (fun _ _ _ _ _=>(wG zA <| zi (i:=0) (show (["box","room"]:List Str).Nodup by decide +kernel))) (fun _ _ _ _ _=>yx) (fun _ _ _ _ _=>(xV (N:=["worth","box"]) (cix:=[none,some 0]) rfl ⟨rfl,by decide +kernel,rfl⟩ (wI xl <| yq rfl T.b_range (zh (JE.bo (zdP xM zaN (kb 1) (kb 0) (fun _ _=>rfl))) zo)) (fun _ _ _ _=>(wG zA <| zi (i:=0) (show (["worth","box"]:List Str).Nodup by decide +kernel))) (fun _ _ _ _=>yx) (fun _ _ _ _=>(yH (za (kv 1) (za (kv 0) zf))))))) zf)))),fun ws n R hF=>?_⟩;obtain @⟨_,_,rm,bs,hR,hb,h4,r⟩:=hF;walk_at "st";refine zaw bs (fun b=>W.d (.int b)) (by rw[az];rfl) (fun ρ=>∃a,ρ=[a,some (.d (stD rm))]) (fun b=>Dt.lst ((zv (zC rm b)).map fun w=>yD (b,w))) (ao h4 (by decide)) ⟨_,rfl⟩ ?_ ?_
 ·rintro b hb' ρ' ⟨a,rfl⟩ C hC;have hm:=z5 hR.box (hb b hb').1 (hb b hb').2;walk_at "st";refine onA (hb b hb').1 (hb b hb').2 ?_;walk_at "st";refine⟨⟨by lia,by lia⟩,?_⟩;rw[um];refine zaw (List.range (zC rm b).toNat) (fun k:Nat=>W.d (.int (k:Int))) rfl (fun ρ=>∃v,ρ=[v,some (.d (.int b))]) (fun k:Nat=>yD (b,(k:Int))) (by rw[aE];exact ao (by lia:_<=4) (by decide)) ⟨_,rfl⟩ ?_ ?_
  ·rintro k hk ρ' ⟨v,rfl⟩ D hD;walk_at "st";exact hD ⟨_,rfl⟩
  ·have e:(List.range (zC rm b).toNat).map (fun k:Nat=>yD (b,(k:Int)))=(zv (zC rm b)).map fun w=>yD (b,w):=by unfold zv;rw[az];rfl
   rw[e];walk_at "st";exact hC ⟨_,rfl⟩
 ·walk_at "st";rw[show bs.map (fun b=>Dt.lst ((zv (zC rm b)).map fun w=>yD (b,w)))=(bs.map fun b=>(zv (zC rm b)).map fun w=>yD (b,w)).map Dt.lst by rw[az];rfl];refine F_combD.i (by rw[ab];lia) (fun k=>?_) ?_
  ·rw[<- List.map_take,zdZ rfl,ab];refine ao (uR hR.box rfl fun b hb'=>hb b (aY hb')) ?_;exact ao (b9 (by decide) (by rw[aQ];lia:_<=4)) (by decide)
  ·rw[zdZ rfl,az];exact r
inductive F_look  (Pn:PN):List W->Nat->(W->Nat->Prop)->Prop
 | i {n:Nat} {R:W->Nat->Prop} {rm:List Int} {bk:List Wi} {b:Int} (hR:WideOk rm) (hB:zaO rm bk) (h:∀l:List Int,l.Pairwise (· < ·)->(∀z,z∈l↔uz bk b z)->R (.d (lsD l)) n)  : F_look Pn [.d (zaJ bk),.d (.int b)] n R
theorem u6 (T:Txt K mg t):FnOk P w K mg base CX0 1 t.f8 t.d8 ["book","box"] (spV 2 true F_look):=by
 refine Fun.okW (k:=0) (fr:=true) [] 0 T.q8.F zdC rfl (by decide) rfl fun cdv A outer s H E Pn hr=>⟨_,(zk (yi (zlu T.b_sorted (N:=["given","at","better","worse","other","worth","box"]) (cix:=[none,none,none,none,none,none,some 1]) rfl ⟨rfl,by decide +kernel,rfl⟩ (wI y3 <| xW K rfl (kv 0)) (fun _ _ _ _=>(wG uu <| uv (n:=4) K rfl rfl (wH zQ <| zq (wG zA <| zi (i:=0) (show (["given","at","better","worse","other","worth","box"]:List Str).Nodup by decide +kernel)) (wH zQ <| zq (wG zA <| zi (i:=1) (show (["given","at","better","worse","other","worth","box"]:List Str).Nodup by decide +kernel)) (wH zQ <| zq (wG zA <| zi (i:=2) (show (["given","at","better","worse","other","worth","box"]:List Str).Nodup by decide +kernel)) (wH zQ <| zq (wG zA <| zi (i:=3) (show (["given","at","better","worse","other","worth","box"]:List Str).Nodup by decide +kernel)) (wH ut xk))))))) (fun _ _ _ _=>(zct (wT zD <| yV zdy zkI (kb 1) (kb 6) (yt _)))) (fun _ _ _ _=>(wI y3 <| xW K rfl (kv 0))) (fun _ _ _ _=>(wG uu <| uv (n:=2) K rfl rfl (wH zQ <| zq (wG zA <| zi (i:=4) (show (["given","at","better","worse","other","worth","box"]:List Str).Nodup by decide +kernel)) (wH zQ <| zq (wG zA <| zi (i:=5) (show (["given","at","better","worse","other","worth","box"]:List Str).Nodup by decide +kernel)) (wH ut xk))))) (fun _ _ _ _=>yx) (fun _ _ _ _=>(kv 4))))),fun ws n R hF=>?_⟩;obtain @⟨_,_,rm,bk,b,hR,hB,r⟩:=hF;walk_at "st"
 have hin:∀x∈bk,∀q∈x.g,q.1∈zv 16:=fun x hx q hq=>zT.mpr (by have:=(hB x hx).giv.ok q hq;have:=hR.few;lia)
 refine⟨zv 16,by decide,?_⟩;walk_at "st";refine⟨fun i ρ m ds=>m=n/\(∃v0 v1 v2 v3 v4 v5,ρ=[v0,v1,v2,v3,v4,v5,some (.d (.int b))])/\(∀z∈ds,z∈zv 16)/\∀z,z∈ds↔uz (bk.take i) b z,⟨rfl,⟨_,_,_,_,_,_,rfl⟩,by simp,fun z=>⟨by simp,by rintro⟨x,hx,_⟩;simp at hx⟩⟩,?_,?_⟩
 ·rintro i w ρ m ds hw ⟨rfl,⟨v0,v1,v2,v3,v4,v5,rfl⟩,hd,hm⟩;rw[aA,aA] at hw;obtain⟨y,hy,rfl⟩:=ax.mp hw;obtain⟨x,hx,rfl⟩:=ax.mp hy;have hxm:=aw hx;have snoc:=zdj (b:=b) hx;walk_at "st";refine zas (fun h1=>?_) (fun h1=>⟨rfl,⟨_,_,_,_,_,_,rfl⟩,hd,fun z=>by rw[snoc z,hm z];exact⟨.inl,fun h=>h.elim id fun h=>absurd h.1 h1⟩⟩);walk_at "st";refine⟨fun j ρ m' ds'=>m'=m/\(∃v0 v1 v2 v3 v4 v5,ρ=[v0,v1,v2,v3,v4,v5,some (.d (.int b))])/\(∀z∈ds',z∈zv 16)/\∀z,z∈ds'↔uz (bk.take i) b z\/∃q∈x.g.take j,q.1=z,⟨rfl,⟨_,_,_,_,_,_,rfl⟩,hd,fun z=>by rw[hm z];simp⟩,?_,?_⟩
  ·rintro j w ρ m' ds' hw' ⟨rfl,⟨v0,v1,v2,v3,v4,v5,rfl⟩,hd',hm'⟩;rw[aA,aA] at hw';obtain⟨y,hy,rfl⟩:=ax.mp hw';obtain⟨q,hq,rfl⟩:=ax.mp hy;have hqU:=hin x hxm q (aw hq);walk_at "st";refine⟨hqU,hd',rfl,⟨_,_,_,_,_,_,rfl⟩,fun z hz=>?_,fun z=>?_⟩
   ·rcases aN.mp hz with h | h
    ·exact hd' z h
    ·rw[aC.mp h];exact hqU
   ·rw[aN,aC,hm' z,zn hq,or_assoc];refine or_congr Iff.rfl ⟨?_,?_⟩
    ·rintro (⟨p,hp,e⟩ | e)
     ·exact⟨p,bj _ hp,e⟩
     ·exact⟨q,aV _ (by simp),e.symm⟩
    ·rintro⟨p,hp,e⟩;rcases aN.mp hp with h | h
     ·exact .inl ⟨p,h,e⟩
     ·rw[aC.mp h] at e;exact .inr e.symm
  ·rintro ρ m' ds' ⟨rfl,⟨v0,v1,v2,v3,v4,v5,rfl⟩,hd',hm'⟩;rw[ab,ab,a9] at hm';exact⟨rfl,⟨_,_,_,_,_,_,rfl⟩,hd',fun z=>by rw[snoc z,hm' z];exact or_congr Iff.rfl ⟨fun h=>⟨h1,h⟩,fun h=>h.2⟩⟩
 ·rintro ρ m ds ⟨rfl,_,hd,hm⟩;rw[ab,ab,a9] at hm;exact⟨hd,fun l hl hz=>r l hl fun z=>(hz z).trans (hm z)⟩
inductive F_prs  (Pn:PN):List W->Nat->(W->Nat->Prop)->Prop
 | i {n:Nat} {R:W->Nat->Prop} {rm:List Int} {bk:List Wi} {b:Int} {g:List (Int×Int)} (hR:WideOk rm) (hB:zaO rm bk) (hG:Giv rm g) (b0:0<=b) (b1:b<rm.length) (h:R (.d (zfY (zaC bk b fun h=>h.all fun q=>decide (q∈g)))) n)  : F_prs Pn [.d (zaJ bk),.d (.int b),.d (uC g)] n R
theorem zdw (T:Txt K mg t):FnOk P w K mg base CX0 1 t.f9 t.d9 ["book","box","context"] (spV 3 true F_prs):=by
 refine Fun.okW (k:=0) (fr:=true) [] 0 T.q9.F zeF rfl (by decide) rfl fun cdv A outer s H E Pn hr=>⟨_,(zk (yi (zi8 T.b_sorted (zlk hr) (N:=["given","at","better","worse","box","context"]) (cix:=[none,none,none,none,some 1,some 2]) rfl ⟨rfl,by decide +kernel,rfl⟩ (wI y3 <| xW K rfl (kv 0)) (fun _ _ _ _=>(wG uu <| uv (n:=4) K rfl rfl (wH zQ <| zq (wG zA <| zi (i:=0) (show (["given","at","better","worse","box","context"]:List Str).Nodup by decide +kernel)) (wH zQ <| zq (wG zA <| zi (i:=1) (show (["given","at","better","worse","box","context"]:List Str).Nodup by decide +kernel)) (wH zQ <| zq (wG zA <| zi (i:=2) (show (["given","at","better","worse","box","context"]:List Str).Nodup by decide +kernel)) (wH zQ <| zq (wG zA <| zi (i:=3) (show (["given","at","better","worse","box","context"]:List Str).Nodup by decide +kernel)) (wH ut xk))))))) (fun _ _ _ _=>(zct (JW.t (wW zeg <| zg9 (wT zD <| yV zdy zkI (kb 1) (kb 4) (yt _)) (uY (.inl rfl) (wT zD <| zaz (JE.bo (z7 (zj8 rfl) zpv (by rfl) T.b_all PyProof.Rows.boot_all (zh (JE.bo (xV (N:=["choice","context"]) (cix:=[none,some 5]) rfl ⟨rfl,by decide +kernel,rfl⟩ (wI y3 <| xW K rfl (kv 0)) (fun _ _ _ _=>(wG zA <| zi (i:=0) (show (["choice","context"]:List Str).Nodup by decide +kernel))) (fun _ _ _ _=>yx) (fun _ _ _ _=>(zi6 (zoh hr.units) zpw (kb 0) (kb 1) (by with_unfolding_all rfl))))) zo))))))))) (fun _ _ _ _=>(yH (za (kv 3) (za (kv 2) zf))))))),fun ws n R hF=>?_⟩;obtain @⟨_,_,rm,bk,b,g,hR,hB,hG,b0,b1,r⟩:=hF;walk_at "st";have hmm:=z5 hR.box b0 b1;refine zmJ bk (fun x=>W.d (uJ x)) (by rw[az];rfl) (fun ρ=>∃v0 v1 v2 v3,ρ=[v0,v1,v2,v3,some (.d (.int b)),some (.d (uC g))]) (fun x=>decide (x.b=b)&&x.g.all fun q=>decide (q∈g)) (fun x=>[x.w,x.r]) ⟨_,_,_,_,rfl⟩ ?_ ?_ ?_
 ·rintro x hx ρ' ⟨v0,v1,v2,v3,rfl⟩ C hC hN;have hW:=hB x hx;have hgl:=zcp hW.giv hR;walk_at "st";refine zas (fun h1=>?_) (fun h1=>hN (by rw[aS h1];rfl) ⟨_,_,_,_,rfl⟩);walk_at "st";refine zaw x.g (fun q=>.d (yD q)) (by rw[az];rfl) (fun ρ=>∃a,ρ=[a,some (.d (uC g))]) (fun q=>.bl (decide (q∈g))) (ao hgl (by decide)) ⟨_,rfl⟩ ?_ ?_
  ·rintro q hq ρ' ⟨a,rfl⟩ D hD;walk_at "st";refine⟨zba (ns:=[q.1,q.2]),by have:=zcv (g.map fun q=>[q.1,q.2]);rwa[az] at this,fun c hc=>?_⟩
   have e:decide (q∈g)=c:=by rw[bK,bM,hc];exact⟨fun z=>ay.mpr ⟨q,z,rfl⟩,fun z=>by obtain⟨p,hp,e⟩:=ay.mp z;rwa[<- zhL e]⟩
   rw[e] at hD;exact hD ⟨_,rfl⟩
  walk_at "st";refine⟨x.g.map fun q=>decide (q∈g),by rw[az];rfl,?_⟩;rw[show (x.g.map fun q=>decide (q∈g)).all id=x.g.all fun q=>decide (q∈g) by rw[List.all_map];rfl];walk_at "st";refine zn4 (fun hk=>?_) (fun hk=>hN (by rw[hk,cJ]) ⟨_,_,_,_,rfl⟩);walk_at "st";exact⟨_,rfl,hC (by rw[aK h1,hk];rfl) ⟨_,_,_,_,rfl⟩⟩
 ·intro ks hn hk;refine aU (yr (l':=u16) hn fun z hz=>?_) (by decide);obtain⟨x,hx,rfl⟩:=ay.mp (hk z hz);exact zcW hR.box hB x (aT.mp hx).1
 ·intro ks hn hk;refine⟨2,aU (yr (l':=u16) hn fun z hz=>?_) (by decide),by decide,fun st hst=>?_,fun l' hp hu=>?_⟩
  ·obtain⟨x,hx,rfl⟩:=ay.mp ((hk z).mp hz);exact zcW hR.box hB x (aT.mp hx).1
  ·obtain⟨x,hx,rfl⟩:=ay.mp ((hk st).mp hst);rfl
  ·rw[show l'=zaC bk b (fun h=>h.all fun q=>decide (q∈g)) from zcR (m:=2) (fun z hz=>by obtain⟨x,hx,rfl⟩:=ay.mp hz;rfl) hu fun z=>hp.mem_iff.trans (hk z)];exact r
inductive F_two  (Pn:PN):List W->Nat->(W->Nat->Prop)->Prop
 | i {n:Nat} {R:W->Nat->Prop} {p:Addr} {mm:Int} (hP:IsP Pn p) (h2:2<=mm) (h4:mm<=4) (h:∀a b,0<=a->a<mm->0<=b->b<mm->a≠b->R (.d (.tup [.int a,.int b])) (n+2)) (hn:n+10<=1000000:=by lia):F_two Pn [.pen p,.d (.int mm)] n R
theorem zds (T:Txt K mg t):FnOk P w K mg base CX0 2 t.f10 t.d10 ["_law_pen_here","_law_many"] (spV 2 false F_two):=by
 have G1:=zP (P:=P) (w:=w) (base:=base) T
 refine Fun.okW (k:=1) (fr:=false) [] 1 T.q10.F zbJ rfl (by decide) rfl fun cdv A outer s H E Pn hr=>⟨_,(ze (wS zG <| yj (i:=2) zbJ.nd (wE zu <| xj T.q1 G1 hr (za (kv 0) (za (kv 1) zf))))
   (zk (yi (yH (za (kv 2) (za (y8 zaB zrT (JE.bo (y8 yk zag (JE.bo (y8 yk zag (kb 2) (JE.bo zB))) (JE.bo (wE zu <| xj T.q1 G1 hr (za (kv 0) (za (y8 zks zpB (kb 1) (JE.bo zB)) zf)))))) (kb 1)) zf)))))),fun ws n R hF=>?_⟩
 obtain @⟨_,_,p,mm,hP,h2,h4,r,hn⟩:=hF;walk_at "st";refine dc hP fun wo w0 w1=>?_;walk_at "st";refine dc hP fun t t0 t1=>?_;walk_at "st";refine⟨by lia,?_⟩;have c0:=ce (wo+1+t) (show mm≠0 by lia);have c1:=bL (wo+1+t) (show 0<mm by lia)
 have cne:(wo+1+t) % mm≠wo:=by
  have h3:mm=2\/mm=3\/mm=4:=by lia
  rcases h3 with rfl | rfl | rfl <;> lia
 exact r _ _ w0 w1 c0 c1 (Ne.symm cne)
inductive F_wide  (Pn:PN):List W->Nat->(W->Nat->Prop)->Prop
 | i {n:Nat} {R:W->Nat->Prop} {p:Addr} (hP:IsP Pn p) (h:∀rm m,WideOk rm->m<=n+30->R (.d (stD rm)) m) (hn:n+60<=1000000:=by lia):F_wide Pn [.pen p] n R
theorem zcD (T:Txt K mg t):FnOk P w K mg base CX0 2 t.f11 t.d11 ["_law_pen_here"] (spV 1 false F_wide):=by
 have G1:=zP (P:=P) (w:=w) (base:=base) T
 refine Fun.okW (k:=1) (fr:=false) [] 1 T.q11.F zaH rfl (by decide) rfl fun cdv A outer s H E Pn hr=>⟨_,(ze (wS zG <| yj (i:=1) zaH.nd (wE zu <| xj T.q1 G1 hr (za (kv 0) (za zB zf))))
   (ze (wS yK <| zan (wT zD <| yV zdy zkI (kb 1) (JE.bo zB) (yt _)) (zk (yi (zdP zbN zjY (JE.bo (zbi (za (y8 zbw zfy (JE.bo (yH (za zB zf))) (JE.bo zB)) (za (y8 zbw zfy (JE.bo (yH (za zB zf))) (JE.bo zB)) (za (yH (za zB zf)) (za (y8 zbw zfy (JE.bo (yH (za zB (za zB zf)))) (JE.bo zB)) zf)))))) (JE.bo (wE zu <| xj T.q1 G1 hr (za (kv 0) (za zB zf)))) (fun _ _=>rfl)))) yT)
   (zk (yi (yX yO zbM (by rfl) T.b_tuple bE (zh (JE.bo (xV (N:=["_law_k","_law_pen_here"]) (cix:=[none,some 0]) rfl ⟨rfl,by decide +kernel,rfl⟩ (wI xl <| yq rfl T.b_range (zh (JE.bo (y8 yk zag (JE.bo zB) (JE.bo (wE zu <| xj T.q1 G1 hr (za (kv 0) (za zB zf)))))) zo)) (fun _ _ _ _=>(wG zA <| zi (i:=0) (show (["_law_k","_law_pen_here"]:List Str).Nodup by decide +kernel))) (fun _ _ _ _=>yx) (fun _ _ _ _=>(y8 yk zag (JE.bo zB) (JE.bo (wE zu <| xj T.q1 G1 hr (za (kv 1) (za zB zf)))))))) zo)))))),fun ws n R hF=>?_⟩
 obtain @⟨_,_,p,hP,r,hn⟩:=hF;walk_at "st";refine dc hP fun w0 a0 a1=>?_;walk_at "st";refine zas (fun _=>?_) (fun _=>?_)
 ·walk_at "st";refine⟨⟨by decide,by decide,by decide⟩,?_⟩;walk_at "st";refine⟨⟨by decide,by decide,by decide⟩,?_⟩;walk_at "st";refine⟨⟨by decide,by decide,by decide⟩,?_⟩;walk_at "st";refine dc hP fun x x0 x1=>?_;walk_at "st";refine zn3 x0 x1 fun y hy=>?_
  obtain⟨zs,rfl,h0⟩:∃zs:List Int,y=stD zs/\(1<=zs.length/\zs.length<=16/\∀r∈zs,2<=r/\r<=4):=by
   simp only[aI,dE,or_false] at hy;rcases hy with rfl | rfl | rfl | rfl
   ·exact⟨List.replicate 16 4,rfl,by decide⟩
   ·exact⟨List.replicate 16 2,rfl,by decide⟩
   ·exact⟨[3],rfl,by decide⟩
   ·exact⟨[4,2,4,2,4,2,4,2,4,2,4,2,4,2,4,2],rfl,by decide⟩
  walk_at "st";exact r zs _ ⟨h0.1,h0.2.1,h0.2.2⟩ (by lia)
 ·walk_at "st";refine dc hP fun t t0 t1=>?_;walk_at "st";refine⟨⟨by lia,by lia⟩,?_⟩;rw[um];refine zeU (List.range (1+t).toNat) (fun k:Nat=>W.d (.int (k:Int))) rfl (by rw[aE];exact ao (by lia:_<=100) (by decide)) (fun i ρ' n' acc=>n'=n+2+i/\i<=16/\∃ (v:Option W) (ws:List Int),ρ'=[v,some (.pen p)]/\acc=ws.map Dt.int/\(∀r∈ws,2<=r/\r<=4)/\ws.length=i) ⟨by lia,by lia,none,[],rfl,rfl,by simp,rfl⟩ ?_ ?_
  ·rintro i k ρ' n' acc hk ⟨rfl,hi,v,ws,rfl,rfl,hb,hl⟩ C hC;have hk1:=(af.mp hk).1;rw[aE] at hk1;walk_at "st";refine dc hP fun x x0 x1=>?_
   exact hC ⟨by lia,by lia,_,ws++[2+x],rfl,by rw[aM];rfl,fun r hr=>by
    rcases aN.mp hr with z | z
    ·exact hb r z
    ·rw[aC.mp z];lia,by rw[aD,hl];rfl⟩
  rintro ρ' n' acc ⟨rfl,hi,v,ws,rfl,rfl,hb,hl⟩;rw[aE] at hi hl;rw[aE];walk_at "st";exact r ws _ ⟨by lia,by lia,hb⟩ (by lia)
inductive F_ctx  (Pn:PN):List W->Nat->(W->Nat->Prop)->Prop
 | i {n:Nat} {R:W->Nat->Prop} {rm bs:List Int} (hR:WideOk rm) (hN:bs.Nodup) (hb:∀b∈bs,0<=b/\b<rm.length) (h4:bs.length<=4) (h:∀cs:List Int,cs.Pairwise (· < ·)->cs.Perm bs->R (.d (.lst ((za8 rm cs).map uC))) n)  : F_ctx Pn [.d (stD rm),.d (lsD bs)] n R
theorem yM (T:Txt K mg t):FnOk P w K mg base CX0 1 t.f12 t.d12 ["_law_room","_law_boxes"] (spV 2 true F_ctx):=by
 refine Fun.okW (k:=0) (fr:=true) [2,4] 4 T.q12.F zN rfl (by decide) rfl fun cdv A outer s H E Pn hr=>⟨_,(ze (wS y4 <| uw (i:=2) zN.nd (zbi (za (yH zf) zf)))
   (ze (yU aX rfl (wI yL <| yS K rfl (z7 uQ zbL (by rfl) T.b_sorted be (zh (kb 1) zo))) (wG zA <| zi (i:=3) zN.nd) (ze (wS y4 <| uw (i:=4) zN.nd (zbi zf))
   (zjb (i:=2) [4] 4 (yU aX rfl (wI yL <| yS K rfl (kv 2)) (wG zA <| zi (i:=5) zN.nd) (zk (wS zhs <| zkl 4 (xV (N:=["_law_worth","_law_given_here","_law_box"]) (cix:=[none,some 5,some 3]) rfl ⟨rfl,by decide +kernel,rfl⟩ (wI xl <| yq rfl T.b_range (zh (JE.bo (zdP xM zaN (kb 0) (kb 3) (fun _ _=>rfl))) zo)) (fun _ _ _ _=>(wG zA <| zi (i:=0) (show (["_law_worth","_law_given_here","_law_box"]:List Str).Nodup by decide +kernel))) (fun _ _ _ _=>yx) (fun _ _ _ _=>(y8 zY yG (kb 1) (JE.bo (yH (za (yH (za (kv 2) (za (kv 0) zf))) zf))))))))) zN.nd rfl (Or.inl rfl))))
   (zk (wS u4 <| zbj 2)))),fun ws n R hF=>?_⟩
 obtain @⟨_,_,rm,bs,hR,hN,hb,h4,r⟩:=hF;walk_at "st";refine⟨bs,rfl,by lia,fun cs hp hs=>?_⟩;have hlt:cs.Pairwise (· < ·):=zbD hs (hp.nodup_iff.mpr hN);have hcb:∀c∈cs,0<=c/\c<rm.length:=fun c hc=>hb c (hp.mem_iff.mp hc);have hcl:=hp.length_eq;walk_at "st";refine yf cs (fun i=>.d (.int i)) (by rw[az];rfl) (fun i ρ m=>m=n/\∃ (v3 v4 v5:Option W),ρ=[some (.d (stD rm)),some (.d (lsD bs)),some (.d (.lst ((za8 rm (cs.take i)).map uC))),v3,v4,v5]) ⟨rfl,_,_,_,rfl⟩ ?_ ?_
 ·rintro i c ρ m hc ⟨rfl,v3,v4,v5,rfl⟩ C B E hC _ _;have hcr:=hcb c (aw hc);have hmm:=z5 hR.box hcr.1 hcr.2;have hi:=(af.mp hc).1;have htb:∀b∈cs.take i,0<=b/\b<rm.length:=fun b hb'=>hcb b (aY hb')
  have hfew:(za8 rm (cs.take i)).length<=64:=by refine ao (uR hR.box rfl htb) ?_;exact ao (b9 (by decide) (by rw[aQ];lia:_<=3)) (by decide)
  have hgl:∀g∈za8 rm (cs.take i),g.length<=16:=fun g hg=>by have:=(uT rfl hg).1;have:=congrArg List.length this;rw[ab,aQ] at this;lia
  have hC':=fun v3 v4 v5=>hC (ρ:=[some (.d (stD rm)),some (.d (lsD bs)),some (.d (.lst ((za8 rm (cs.take (i+1))).map uC))),v3,v4,v5]) (m:=m) ⟨rfl,_,_,_,rfl⟩;rw[zn hc,xT] at hC';generalize za8 rm (cs.take i)=gs at hfew hgl hC';walk_at "st";refine yf gs (fun g=>.d (uC g)) (by rw[az];rfl) (fun j ρ m'=>m'=m/\∃ (v5:Option W),ρ=[some (.d (stD rm)),some (.d (lsD bs)),some (.d (.lst (gs.map uC))),some (.d (.int c)),some (.d (.lst (((gs.take j).flatMap fun g=>(zv (zC rm c)).map fun w=>g++[(c,w)]).map uC))),v5]) ⟨rfl,_,rfl⟩ ?_ ?_
  ·rintro j g ρ m' hg ⟨rfl,v5,rfl⟩ C' B' E' hC2 _ _;have hg8:=hgl g (aw hg);have hj:=(af.mp hg).1;have hlen:=uB (f:=fun g:List (Int×Int)=>(zv (zC rm c)).map fun w=>g++[(c,w)]) (k:=4) (fun g=>by rw[ab,yh];lia) (gs.take j);rw[aQ] at hlen;have hC3:=fun v5=>hC2 (ρ:=[some (.d (stD rm)),some (.d (lsD bs)),some (.d (.lst (gs.map uC))),some (.d (.int c)),some (.d (.lst (((gs.take (j+1)).flatMap fun g=>(zv (zC rm c)).map fun w=>g++[(c,w)]).map uC))),v5]) (m:=m') ⟨rfl,_,rfl⟩;rw[zn hg,dR,List.flatMap_singleton,aM] at hC3;walk_at "st";refine onA hcr.1 hcr.2 ?_;walk_at "st";refine⟨⟨by lia,by lia⟩,?_⟩;rw[um];refine zaw (List.range (zC rm c).toNat) (fun k:Nat=>W.d (.int (k:Int))) rfl (fun ρ=>∃v,ρ=[v,some (.d (uC g)),some (.d (.int c))]) (fun k:Nat=>uC (g++[(c,(k:Int))])) (by rw[aE];exact ao (by lia:_<=4) (by decide)) ⟨_,rfl⟩ ?_ ?_
   ·rintro k hk ρ' ⟨v,rfl⟩ D hD;walk_at "st";refine⟨by rw[ab];exact ao (by simp;lia:_<=101) (by decide),?_⟩;rw[show g.map yD++[Dt.tup [Dt.int c,Dt.int (k:Int)]]=(g++[(c,(k:Int))]).map yD by rw[aM];rfl];exact hD ⟨_,rfl⟩
   ·have e:(List.range (zC rm c).toNat).map (fun k:Nat=>uC (g++[(c,(k:Int))]))=((zv (zC rm c)).map fun w=>g++[(c,w)]).map uC:=by unfold zv;rw[az,az];rfl
    rw[e];refine⟨by rw[ab,ab,ab,yh];exact ao (by lia:_<=1000) (by decide),?_⟩;exact hC3 _
  ·rintro ρ m' ⟨rfl,v5,rfl⟩;rw[a9];walk_at "st";exact hC' _ _ _
 ·rintro ρ m ⟨rfl,v3,v4,v5,rfl⟩;rw[a9];walk_at "st";exact r cs hlt hp
inductive F_lkd  (Pn:PN):List W->Nat->(W->Nat->Prop)->Prop
 | i {n:Nat} {R:W->Nat->Prop} {p:Addr} {rm ah:List Int} {mo:Int} (hP:IsP Pn p) (hR:WideOk rm) (hN:ah.Nodup) (hb:∀b∈ah,0<=b/\b<rm.length) (hl:ah.length<=16) (h:∀bs m,bs.Nodup->(∀b∈bs,b∈ah)->bs.length<=3->m<=n+30->R (.d (lsD bs)) m) (hn:n+60<=1000000:=by lia):F_lkd Pn [.pen p,.d (stD rm),.d (lsD ah),.d (.int mo)] n R
theorem zbr (T:Txt K mg t):FnOk P w K mg base CX0 3 t.f13 t.d13 ["_law_pen_here","_law_room","_law_ahead","_law_most"] (spV 4 false F_lkd):=by
 have G1:=zP (P:=P) (w:=w) (base:=base) T;have G2:=xB (P:=P) (w:=w) (base:=base) T
 refine Fun.okW (k:=2) (fr:=false) [4] 3 T.q13.F yu rfl (by decide) rfl fun cdv A outer s H E Pn hr=>⟨_,(ze (wS y4 <| uw (i:=4) yu.nd (zbi zf))
   (ze (wS zG <| yj (i:=5) yu.nd zB)
   (ze (yU aX rfl (wI yL <| yS K rfl (wE zcz <| zi7 (JE.bo (wE zu <| xj T.q2 G2 hr (za (kv 0) (za (kv 2) zf)))) zK (wO zy <| zL (JE.bo (y8 yk zag (JE.bo zB) (JE.bo (wE zu <| xj T.q1 G1 hr (za (kv 0) (za zB zf))))))))) (wG zA <| zi (i:=6) yu.nd) (zk (wS yK <| zan (wT zD <| yV zfP zm3 (JE.bo (y8 u8 zpz (kb 5) (JE.bo (zdP xM zaN (kb 1) (kb 6) (fun _ _=>rfl))))) (kb 3) (yt _)) (ze (wS zG <| yj (i:=5) yu.nd (y8 u8 zpz (kb 5) (JE.bo (zdP xM zaN (kb 1) (kb 6) (fun _ _=>rfl)))))
   (zk (wS zbn <| zdc 4 (kv 6)))) yT)))
   (zk (wS u4 <| zbj 4))))),fun ws n R hF=>?_⟩
 obtain @⟨_,_,p,rm,ah,mo,hP,hR,hN,hb,hl,r,hn⟩:=hF;walk_at "st";refine tc hP (fun l hl'=>?_) (by rw[ab];lia) (by rw[ab];lia);rw[ab];obtain⟨bs,hbp,rfl⟩:=yR hl' rfl;have hbN:bs.Nodup:=hbp.nodup_iff.mpr hN;walk_at "st";refine dc hP fun u u0 u1=>?_;walk_at "st";rw[xh,show (1+u:Int)=(((1+u).toNat:Nat):Int) by lia,L3.uU];have h3:(bs.take (1+u).toNat).length<=3:=by rw[aQ];lia
 have hsub:(bs.take (1+u).toNat).Sublist bs:=cG _ _;have htN:(bs.take (1+u).toNat).Nodup:=hbN.sublist hsub;have hta:∀b∈bs.take (1+u).toNat,b∈ah:=fun b hb'=>hbp.mem_iff.mp (hsub.subset hb');generalize bs.take (1+u).toNat=ts at h3 htN hta;walk_at "st";refine yf ts (fun i=>.d (.int i)) (by rw[az];rfl) (fun i ρ m=>m=n+ah.length+1/\∃ (ls:List Int) (k:Int) (v:Option W),ρ=[some (.pen p),some (.d (stD rm)),some (.d (lsD ah)),some (.d (.int mo)),some (.d (.lst (ls.map Dt.int))),some (.d (.int k)),v]/\ls.Sublist (ts.take i)/\1<=k/\k<=4 ^ i) ⟨rfl,[],1,_,rfl,List.nil_sublist _,by lia,by decide⟩ ?_ ?_
 ·rintro i c ρ m hc ⟨rfl,ls,k,v,rfl,hs,k0,k1⟩ C B E hC _ _;have hcr:=hb c (hta c (aw hc));have hmm:=z5 hR.box hcr.1 hcr.2;have hi:=(af.mp hc).1
  have h64:(4:Int) ^ i<=64:=by
   have:i=0\/i=1\/i=2:=by lia
   rcases this with rfl | rfl | rfl <;> decide
  have hk2:k * zC rm c<=4 ^ (i+1):=by have:k * zC rm c<=k * 4:=dF hmm.2 (by lia);rw[Int.pow_succ];lia
  have hk3:1<=k * zC rm c:=by have:k * 1<=k * zC rm c:=dF (by lia) (by lia);lia
  walk_at "st";refine onA hcr.1 hcr.2 ?_;walk_at "st";refine⟨.inl ⟨by lia,by lia⟩,?_⟩;walk_at "st";refine zas (fun _=>?_) (fun _=>⟨hC ⟨rfl,ls,k,_,rfl,hs.trans (List.take_sublist_take_left (cQ i)),k0,by rw[Int.pow_succ];lia⟩⟩);walk_at "st";refine onA hcr.1 hcr.2 ?_;walk_at "st";refine⟨.inl ⟨by lia,by lia⟩,?_⟩;walk_at "st";have hll:=hs.length_le;rw[aQ] at hll;refine⟨by rw[ab];exact aU (by lia:_<=8) (by decide),?_⟩;refine hC ⟨rfl,ls++[c],_,_,by rw[aM];rfl,?_,hk3,hk2⟩;rw[zn hc];exact hs.append (List.Sublist.refl _)
 ·rintro ρ m ⟨rfl,ls,k,v,rfl,hs,k0,k1⟩;rw[a9] at hs;walk_at "st";exact r ls _ (htN.sublist hs) (fun b hb'=>hta b (hs.subset hb')) (ao hs.length_le h3) (by lia)
inductive F_plB  (Pn:PN):List W->Nat->(W->Nat->Prop)->Prop
 | i {n:Nat} {R:W->Nat->Prop} {p:Addr} {rm:List Int} {mo:Int} (hP:IsP Pn p) (hR:WideOk rm) (h:∀bk m,zaO rm bk->bk.length<=4000->m<=n+10000->R (.d (.lst (bk.map uJ))) m) (hn:n+20000<=1000000:=by lia):F_plB Pn [.pen p,.d (stD rm),.d (.int mo)] n R
theorem uH (T:Txt K mg t):FnOk P w K mg base CX0 4 t.f14 t.d14 ["_law_pen_here","_law_room","_law_most"] (spV 3 true F_plB):=by
 have G2:=xB (P:=P) (w:=w) (base:=base) T;have G12:=yM (P:=P) (w:=w) (base:=base) T;have G13:=zbr (P:=P) (w:=w) (base:=base) T
 refine Fun.okW (k:=3) (fr:=true) [4] 7 T.q14.F zt rfl (by decide) rfl fun cdv A outer s H E Pn hr=>⟨_,(ze (wS zG <| yj (i:=3) zt.nd (wE zu <| xj T.q2 G2 hr (za (kv 0) (za (wE zbo <| zdb T.b_list T.b_range (zh (JE.bo (z7 y9 zbX (by rfl) T.b_len bi (zh (kb 1) zo))) zo)) zf))))
   (ze (wS y4 <| uw (i:=4) zt.nd (zbi zf))
   (ze (yU aX rfl (wI zji <| zi9 rfl T.b_enumerate (za (kv 3) zf)) (wG uu <| uv (n:=2) K rfl rfl (wH zQ <| zq (wG zA <| zi (i:=5) zt.nd) (wH zQ <| zq (wG zA <| zi (i:=6) zt.nd) (wH ut xk)))) (zk (yU aX rfl (wI yL <| yS K rfl (wE zu <| xj T.q12 G12 hr (za (kv 1) (za (wE zu <| xj T.q13 G13 hr (za (kv 0) (za (kv 1) (za (wE zcz <| zi7 (kb 3) zK (wO zy <| zL (kb 5))) (za (kv 2) zf))))) zf)))) (wG zA <| zi (i:=7) zt.nd) (ze (wS zG <| yj (i:=8) zt.nd (wE zu <| xj T.q2 G2 hr (za (kv 0) (za (wE zbo <| zdb T.b_list T.b_range (zh (JE.bo (zdP xM zaN (kb 1) (kb 6) (fun _ _=>rfl))) zo)) zf))))
   (zk (yU aX rfl (wI xl <| yq rfl T.b_range (zh (JE.bo (y8 zks zpB (JE.bo (z7 y9 zbX (by rfl) T.b_len bi (zh (kb 8) zo))) (JE.bo zB))) zo)) (wG zA <| zi (i:=9) zt.nd) (zk (wS zbn <| zdc 4 (yH (za (kv 7) (za (kv 6) (za (zdP zbN zjY (kb 8) (kb 9) (fun _ _=>rfl)) (za (zdP zbN zjY (kb 8) (JE.bo (y8 yk zag (kb 9) (JE.bo zB))) (fun _ _=>rfl)) zf)))))))))))))
   (zk (wS u4 <| zbj 4))))),fun ws n R hF=>?_⟩
 obtain @⟨_,_,p,rm,mo,hP,hR,r,hn⟩:=hF;walk_at "st";have h16:=hR.few;rw[ab];refine⟨⟨by lia,by lia⟩,?_⟩;walk_at "st";refine tc hP (fun l hl=>?_) (by rw[ul];lia) (by rw[ul];lia);rw[ul];obtain⟨bs,rfl,hbp⟩:=zfl hl;have hbN:bs.Nodup:=hbp.nodup_iff.mpr (zbB _)
 have hbm:∀b∈bs,0<=b/\b<rm.length:=fun b hb=>by have:=zT.mp (hbp.mem_iff.mp hb);lia
 have hbl:=hbp.length_eq;rw[yh] at hbl;walk_at "st";have hbl16:bs.length<=16:=by lia
 generalize hn1:n+(rm.length:Int).toNat=n1;refine yf (List.range bs.length) (fun i=>W.d (.tup [.int (i:Int),.int (bs.getD i 0)])) (zk3 bs) (fun i ρ m=>m<=n1+400 * i/\∃ (bk:List Wi) (v5 v6 v7 v8 v9:Option W),ρ=[some (.pen p),some (.d (stD rm)),some (.d (.int mo)),some (.d (.lst (bs.map Dt.int))),some (.d (.lst (bk.map uJ))),v5,v6,v7,v8,v9]/\zaO rm bk/\bk.length<=192 * i) ⟨by lia,[],_,_,_,_,_,rfl,by intro x hx;simp at hx,by simp⟩ ?_ ?_
 ·rintro i k ρ m hik ⟨hm,bk,v5,v6,v7,v8,v9,rfl,hB,hl'⟩ C B E hC _ _;obtain⟨hk1,hk2⟩:=af.mp hik;rw[aE] at hk1;rw[bZ] at hk2;subst hk2;have hbox:=hbm _ (zbd hk1);have hnot:=zmO hbN hk1;generalize bs.getD i 0=box at hbox hnot;have hmm:=z5 hR.box hbox.1 hbox.2;walk_at "st";rw[xh,L3.uU];have htl:(bs.take i).length<=16:=by rw[aQ];lia
  refine F_lkd.i hP hR (hbN.sublist (cG _ _)) (fun b hb=>hbm b (aY hb)) htl fun lk n2 hsN hs3 hs4 hn2=>?_;walk_at "st";refine F_ctx.i hR hsN (fun b hb=>hbm b (aY (hs3 b hb))) (by lia) fun cs hcs hcp=>?_
  have hcm:∀c∈cs,(0<=c/\c<rm.length)/\c≠box:=fun c hc=>by have h1:=hs3 c (hcp.mem_iff.mp hc);exact⟨hbm c (aY h1),fun e=>hnot (e ▸ h1)⟩
  have hgs:∀g∈za8 rm cs,Giv rm g/\∀q∈g,q.1≠box:=fun g hg=>⟨zeX hcs (fun b hb=>(hcm b hb).1) hg,fun q hq=>by have h1:=(uT rfl hg).1;exact (hcm q.1 (by rw[<- h1];exact ay.mpr ⟨q,hq,rfl⟩)).2⟩
  have hgl:(za8 rm cs).length<=64:=by refine ao (uR hR.box rfl fun b hb=>(hcm b hb).1) ?_;have:=hcp.length_eq;exact ao (b9 (by decide) (by lia:_<=3)) (by decide)
  generalize za8 rm cs=gs at hgs hgl;walk_at "st";refine yf gs (fun g=>.d (uC g)) (by rw[az];rfl) (fun j ρ m'=>m'<=n2+4 * j/\∃ (bk:List Wi) (v7 v8 v9:Option W),ρ=[some (.pen p),some (.d (stD rm)),some (.d (.int mo)),some (.d (.lst (bs.map Dt.int))),some (.d (.lst (bk.map uJ))),some (.d (.int (i:Int))),some (.d (.int box)),v7,v8,v9]/\zaO rm bk/\bk.length<=192 * i+3 * j) ⟨by lia,bk,_,_,_,rfl,hB,by lia⟩ ?_ ?_
  ·rintro j g ρ m' hg ⟨hm',bk,v7,v8,v9,rfl,hB,hl'⟩ C' B' E' hC' _ _;have hgg:=hgs g (aw hg);have hj:=(af.mp hg).1;walk_at "st";refine onA hbox.1 hbox.2 ?_;walk_at "st";refine⟨⟨by lia,by lia⟩,?_⟩;walk_at "st";refine tc hP (fun l hl=>?_) (by rw[ul];lia) (by rw[ul];lia);rw[ul];obtain⟨rs,rfl,hrp⟩:=zfl hl;have hrN:rs.Nodup:=hrp.nodup_iff.mpr (zbB _);have hrl:=hrp.length_eq;rw[yh] at hrl
   have hrm:∀x∈rs,0<=x/\x<zC rm box:=fun x hx=>by have:=zT.mp (hrp.mem_iff.mp hx);lia
   walk_at "st";rw[ab];refine⟨⟨by lia,by lia⟩,ze3 (fun k ρ m2=>m2=m'+(zC rm box).toNat/\∃ (bk:List Wi) (v9:Option W),ρ=[some (.pen p),some (.d (stD rm)),some (.d (.int mo)),some (.d (.lst (bs.map Dt.int))),some (.d (.lst (bk.map uJ))),some (.d (.int (i:Int))),some (.d (.int box)),some (.d (uC g)),some (.d (.lst (rs.map Dt.int))),v9]/\zaO rm bk/\bk.length<=192 * i+3 * j+k) ⟨rfl,bk,_,rfl,hB,by lia⟩ ?_ ?_⟩
   ·rintro k ρ m2 hk ⟨rfl,bk,v9,rfl,hB,hl'⟩ C2 B2 E2 hC2 _ _;have hk1:k+1<rs.length:=by lia
    walk_at "st";refine onA (Int.natCast_nonneg k) (by lia) ?_;walk_at "st";refine onA (by lia) (by lia) ?_;rw[show ((k:Int)+1)=((k+1:Nat):Int) from rfl,uj,uj];have q1:=hrm _ (zbd (i:=k) (by lia));have q2:=hrm _ (zbd hk1)
    have q3:rs.getD k 0≠rs.getD (k+1) 0:=fun e=>by
     have e1:rs.getD k 0=rs[k]:=by simp[show k<rs.length by lia]
     have e2:rs.getD (k+1) 0=rs[k+1]:=by simp[hk1]
     rw[e1,e2] at e;have:=(cq hrN).mp e;lia
    walk_at "st";refine⟨by rw[ab];exact aU (by lia:_<=10000) (by decide),?_⟩;refine hC2 ⟨rfl,bk++[⟨g,box,rs.getD k 0,rs.getD (k+1) 0⟩],_,by rw[aM];rfl,hB.app fun y hy=>?_,by rw[aD];simp;lia⟩;rw[aC.mp hy];exact⟨hgg.1,hbox.1,hbox.2,hgg.2,q1.1,q1.2,q2.1,q2.2,q3⟩
   ·rintro ρ m2 ⟨rfl,bk,v9,rfl,hB,hl'⟩;walk_at "st";exact hC' ⟨by lia,bk,_,_,_,rfl,hB,by lia⟩
  ·rintro ρ m' ⟨hm',bk,v7,v8,v9,rfl,hB,hl'⟩;walk_at "st";exact hC ⟨by lia,bk,_,_,_,_,_,rfl,hB,by lia⟩
 ·rintro ρ m ⟨hm,bk,v5,v6,v7,v8,v9,rfl,hB,hl'⟩;rw[aE] at hm hl';walk_at "st";exact r bk m hB (by lia) (by lia)
inductive F_anyW  (Pn:PN):List W->Nat->(W->Nat->Prop)->Prop
 | i {n:Nat} {R:W->Nat->Prop} {p:Addr} {rm:List Int} (hP:IsP Pn p) (hR:WideOk rm) (h:∀x m,WishOk rm x->m<=n+60->R (.d (uJ x)) m) (hn:n+100<=1000000:=by lia):F_anyW Pn [.pen p,.d (stD rm)] n R
theorem zap (T:Txt K mg t):FnOk P w K mg base CX0 3 t.f15 t.d15 ["_law_pen_here","_law_room"] (spV 2 false F_anyW):=by
 have G1:=zP (P:=P) (w:=w) (base:=base) T;have G2:=xB (P:=P) (w:=w) (base:=base) T;have G10:=zds (P:=P) (w:=w) (base:=base) T
 refine Fun.okW (k:=2) (fr:=false) [] 5 T.q15.F zM rfl (by decide) rfl fun cdv A outer s H E Pn hr=>⟨_,(ze (wS zG <| yj (i:=2) zM.nd (wE zu <| xj T.q1 G1 hr (za (kv 0) (za (z7 y9 zbX (by rfl) T.b_len bi (zh (kb 1) zo)) zf))))
   (ze (wS zG <| zg8 (i:=3) (ze8 (ix:=3) zM.nd rfl rfl (N:=["_law_one","_law_box"]) (cix:=[none,some 2]) rfl ⟨rfl,by decide +kernel,rfl⟩ (wI xl <| yq rfl T.b_range (zh (JE.bo (z7 y9 zbX (by rfl) T.b_len bi (zh (kb 1) zo))) zo)) (fun _ _ _ _=>(wG zA <| zi (i:=0) (show (["_law_one","_law_box"]:List Str).Nodup by decide +kernel))) (fun _ _ _ _=>(zct (wT zD <| yV zrt u_ne (kb 0) (kb 1) (yt _)))) (fun _ _ _ _=>(kv 0))))
   (ze (wS zG <| yj (i:=4) zM.nd (z7 uQ zbL (by rfl) T.b_sorted be (zh (JE.bo (wE zcz <| zi7 (JE.bo (wE zu <| xj T.q2 G2 hr (za (kv 0) (za (kv 3) zf)))) zK (wO zy <| zL (JE.bo (wE zu <| xj T.q1 G1 hr (za (kv 0) (za zB zf))))))) zo)))
   (ze (znJ (wE zu <| xj T.q10 G10 hr (za (kv 0) (za (zdP xM zaN (kb 1) (kb 2) (fun _ _=>rfl)) zf))) (wG uu <| uv (n:=2) K rfl rfl (wH zQ <| zq (wG zA <| zi (i:=5) zM.nd) (wH zQ <| zq (wG zA <| zi (i:=6) zM.nd) (wH ut xk)))))
   (zk (yi (yH (za (yX yO zbM (by rfl) T.b_tuple bE (zh (JE.bo (xV (N:=["_law_one","_law_pen_here","_law_room"]) (cix:=[none,some 0,some 1]) rfl ⟨rfl,by decide +kernel,rfl⟩ (wI yL <| yS K rfl (kv 4)) (fun _ _ _ _=>(wG zA <| zi (i:=0) (show (["_law_one","_law_pen_here","_law_room"]:List Str).Nodup by decide +kernel))) (fun _ _ _ _=>yx) (fun _ _ _ _=>(yH (za (kv 0) (za (wE zu <| xj T.q1 G1 hr (za (kv 1) (za (zdP xM zaN (kb 2) (kb 0) (fun _ _=>rfl)) zf))) zf)))))) zo)) (za (kv 2) (za (kv 5) (za (kv 6) zf))))))))))),fun ws n R hF=>?_⟩
 obtain @⟨_,_,p,rm,hP,hR,r,hn⟩:=hF;walk_at "st";have h16:=hR.few;have hpos:=hR.pos;rw[ab];refine dc hP fun box b0 b1=>?_;have hm:=z5 hR.box b0 b1;walk_at "st";rw[ab];refine⟨⟨by lia,by lia⟩,?_⟩;rw[um];refine zgq (List.range (rm.length:Int).toNat) (fun k:Nat=>W.d (.int (k:Int))) rfl (fun ρ=>∃a,ρ=[a,some (.d (.int box))]) (fun k:Nat=>decide ((k:Int)≠box)) (fun k:Nat=>Dt.int (k:Int)) (by rw[aE];exact ao (by lia:_<=100) (by decide)) ⟨_,rfl⟩ ?_ ?_
 ·rintro k hk ρ' ⟨a,rfl⟩ C hC hN;walk_at "st";refine zrk (fun h=>hC (aK h) ⟨_,rfl⟩) (fun h=>hN (aS (by simpa using h)) ⟨_,rfl⟩)
 have e:((List.range (rm.length:Int).toNat).filter fun k:Nat=>decide ((k:Int)≠box)).map (fun k:Nat=>Dt.int (k:Int))=((zv rm.length).filter fun z=>decide (z≠box)).map Dt.int:=by unfold zv;rw[List.filter_map,az];rfl
 rw[e];have hoN:((zv rm.length).filter fun z=>decide (z≠box)).Nodup:=(zbB _).filter _
 have hom:∀z∈(zv rm.length).filter fun z=>decide (z≠box),0<=z/\z<rm.length/\z≠box:=fun z hz=>by obtain⟨h1,h2⟩:=aT.mp hz;have:=zT.mp h1;exact⟨this.1,this.2,bw h2⟩
 have hol:((zv rm.length).filter fun z=>decide (z≠box)).length<=16:=ao (List.length_filter_le _ _) (by rw[yh];lia);generalize (zv rm.length).filter (fun z=>decide (z≠box))=os at hoN hom hol;walk_at "st";refine tc hP (fun l hl'=>?_) (by rw[ab];lia) (by rw[ab];lia);rw[ab];obtain⟨bs,hbp,rfl⟩:=yR hl' rfl;walk_at "st";refine dc hP fun u u0 u1=>?_;walk_at "st";rw[xh,show (u:Int)=((u.toNat:Nat):Int) by lia,L3.uU];have hsub:(bs.take u.toNat).Sublist bs:=cG _ _;have htN:(bs.take u.toNat).Nodup:=(hbp.nodup_iff.mpr hoN).sublist hsub;have htm:∀b∈bs.take u.toNat,0<=b/\b<rm.length/\b≠box:=fun b hb'=>hom b (hbp.mem_iff.mp (hsub.subset hb'));have h3:(bs.take u.toNat).length<=3:=by rw[aQ];lia
 generalize bs.take u.toNat=ts at htN htm h3;refine⟨ts,rfl,by lia,fun cs hp hs=>?_⟩;have hlt:cs.Pairwise (· < ·):=zbD hs (hp.nodup_iff.mpr htN);have hcm:∀c∈cs,0<=c/\c<rm.length/\c≠box:=fun c hc=>htm c (hp.mem_iff.mp hc);have hcl:=hp.length_eq;walk_at "st";refine onA b0 b1 ?_;walk_at "st";refine F_two.i hP hm.1 hm.2 fun a b a0 a1 c0 c1 ne=>?_;walk_at "st";generalize hn2:n+1+os.length+1+2=n2;refine zeU cs (fun i=>W.d (.int i)) (by rw[az];rfl) (ao (by lia:_<=100) (by decide)) (fun i ρ' n' acc=>n'=n2+i/\∃ (v:Option W) (g:List (Int×Int)),ρ'=[v,some (.pen p),some (.d (stD rm))]/\acc=g.map yD/\Giv rm g/\(∀q∈g,q.1∈cs.take i)) ⟨rfl,none,[],rfl,rfl,⟨by simp,.nil⟩,by simp⟩ ?_ ?_
 ·rintro i c ρ' n' acc hc ⟨rfl,v,g,rfl,rfl,hG,hgi⟩ C hC;have hcr:=hcm c (aw hc);have hi:=(af.mp hc).1;have hmm:=z5 hR.box hcr.1 hcr.2.1
  have hlow:∀x∈cs.take i,x<c:=fun x hx=>by obtain⟨j,hj,rfl⟩:=bO.mp hx;rw[aQ] at hj;have:=b7.mp hlt j i (by lia) hi (by lia);rw[(af.mp hc).2] at this;rw[List.getElem_take];exact this
  walk_at "st";refine onA hcr.1 hcr.2.1 ?_;walk_at "st";refine dc hP fun x x0 x1=>?_;walk_at "st";refine hC ⟨by lia,_,g++[(c,x)],rfl,by rw[aM];rfl,hG.snoc (fun q hq=>hlow _ (hgi q hq)) hcr.1 hcr.2.1 x0 x1,fun q hq=>?_⟩;rw[zn hc];rcases aN.mp hq with h | h
  ·exact bj _ (hgi q h)
  ·rw[aC.mp h];exact aV _ (by simp)
 rintro ρ' n' acc ⟨rfl,v,g,rfl,rfl,hG,hgi⟩;rw[a9] at hgi;walk_at "st";exact r ⟨g,box,a,b⟩ _ ⟨hG,b0,b1,fun q hq=>(hcm _ (hgi q hq)).2.2,a0,a1,c0,c1,ne⟩ (by lia)
inductive F_mkst  (Pn:PN):List W->Nat->(W->Nat->Prop)->Prop
 | i {n:Nat} {R:W->Nat->Prop} {p:Addr} {rm:List Int} (hP:IsP Pn p) (hR:WideOk rm) (h:∀st m,StOk rm st->m<=n+20->R (.d (stD st)) m) (hn:n+100<=1000000:=by lia):F_mkst Pn [.pen p,.d (stD rm)] n R
theorem zar (T:Txt K mg t):FnOk P w K mg base CX0 2 t.f16 t.d16 ["_law_pen_here","_law_room"] (spV 2 false F_mkst):=by
 have G1:=zP (P:=P) (w:=w) (base:=base) T;refine Fun.okW (k:=1) (fr:=false) [] 0 T.q16.F zaM rfl (by decide) rfl fun cdv A outer s H E Pn hr=>⟨_,(zk (yi (yX yO zbM (by rfl) T.b_tuple bE (zh (JE.bo (xV (N:=["_law_many","_law_pen_here"]) (cix:=[none,some 0]) rfl ⟨rfl,by decide +kernel,rfl⟩ (wI y3 <| xW K rfl (kv 1)) (fun _ _ _ _=>(wG zA <| zi (i:=0) (show (["_law_many","_law_pen_here"]:List Str).Nodup by decide +kernel))) (fun _ _ _ _=>yx) (fun _ _ _ _=>(wE zu <| xj T.q1 G1 hr (za (kv 1) (za (kv 0) zf)))))) zo)))),fun ws n R hF=>?_⟩;obtain @⟨_,_,p,rm,hP,hR,r,hn⟩:=hF;walk_at "st";have h16:=hR.few;refine zeU rm (fun i=>W.d (.int i)) (by rw[az];rfl) (ao h16 (by decide)) (fun i ρ' n' acc=>n'=n+i/\∃ (v:Option W) (ws:List Int),ρ'=[v,some (.pen p)]/\acc=ws.map Dt.int/\ws.length=i/\∀j:Nat,j<i->0<=ws.getD j 0/\ws.getD j 0<rm.getD j 0) ⟨rfl,none,[],rfl,rfl,rfl,by simp⟩ ?_ ?_
 ·rintro i a ρ' n' acc ha ⟨rfl,v,ws,rfl,rfl,hl,hw⟩ C hC;have hi:=(af.mp ha).1;have hab:=hR.box a (aw ha);walk_at "st";refine dc hP fun x x0 x1=>?_;refine hC ⟨by lia,_,ws++[x],rfl,by rw[aM];rfl,by rw[aD,hl];rfl,fun j hj=>?_⟩;by_cases e:j<i
  ·have h1:=hw j e;rw[aZ,bq (by lia),<- aZ];exact h1
  ·have e2:j=i:=by lia
   subst e2;rw[aZ,bg (by lia),hl,Nat.sub_self,aZ,ha];exact⟨x0,x1⟩
 rintro ρ' n' acc ⟨rfl,v,ws,rfl,rfl,hl,hw⟩;walk_at "st";refine r ws _ ⟨hl,fun b b0 b1=>?_⟩ (by lia);have:=hw b.toNat (by lia);have e:b=((b.toNat:Nat):Int):=by lia
 rw[e,uj,uj];exact this
inductive F_put  (Pn:PN):List W->Nat->(W->Nat->Prop)->Prop
 | i {n:Nat} {R:W->Nat->Prop} {st:List Int} {g:List (Int×Int)} (hg:∀q∈g,0<=q.1/\q.1<st.length) (hgl:g.length<=16) (hl:st.length<=16) (h:R (.d (stD (zes st g))) n)  : F_put Pn [.d (stD st),.d (uC g)] n R
theorem zdr (T:Txt K mg t):FnOk P w K mg base CX0 1 t.f17 t.d17 ["_law_standing_here","_law_given_here"] (spV 2 false F_put):=by
 refine Fun.okW (k:=0) (fr:=false) [] 2 T.q17.F xD rfl (by decide) rfl fun cdv A outer s H E Pn hr=>⟨_,(ze (yU aX rfl (wI y3 <| xW K rfl (kv 1)) (wG uu <| uv (n:=2) K rfl rfl (wH zQ <| zq (wG zA <| zi (i:=2) xD.nd) (wH zQ <| zq (wG zA <| zi (i:=3) xD.nd) (wH ut xk)))) (zk (wS zG <| yj (i:=0) xD.nd (y8 zY yG (JE.bo (y8 zY yG (JE.bo (wE z8 <| xN (kb 0) zK (wO zy <| zL (kb 2)))) (JE.bo (yH (za (kv 3) zf))))) (JE.bo (wE z8 <| xN (kb 0) (wO zy <| zL (JE.bo (y8 yk zag (kb 2) (JE.bo zB)))) zK))))))
   (zk (yi (kv 0)))),fun ws n R hF=>?_⟩
 obtain @⟨_,_,st,g,hg,hgl,hl,r⟩:=hF;walk_at "st";refine yf g (fun q=>.d (yD q)) (by rw[az];rfl) (fun i ρ m=>m=n/\∃ (v2 v3:Option W),ρ=[some (.d (stD (zes st (g.take i)))),some (.d (uC g)),v2,v3]) ⟨rfl,_,_,rfl⟩ ?_ ?_
 ·rintro i q ρ m hq ⟨rfl,v2,v3,rfl⟩ C B E hC _ _;have hb:=hg q (aw hq);have hpl:(zes st (g.take i)).length=st.length:=zcI fun q hq=>hg q (aY hq);have hC':=fun v2 v3=>hC (ρ:=[some (.d (stD (zes st (g.take (i+1))))),some (.d (uC g)),v2,v3]) (m:=m) ⟨rfl,_,_,rfl⟩;rw[zn hq,show zes st (g.take i++[q])=chg (zes st (g.take i)) q.1 q.2 by unfold zes;rw[er];rfl] at hC';generalize zes st (g.take i)=s0 at hpl hC';walk_at "st";refine⟨zcm (by lia),?_⟩;walk_at "st";refine⟨zcn (by lia),?_⟩;rw[zdV hb.1 (by lia)];walk_at "st";exact hC' _ _
 ·rintro ρ m ⟨rfl,v2,v3,rfl⟩;rw[a9];walk_at "st";exact r
inductive F_stpW  (Pn:PN):List W->Nat->(W->Nat->Prop)->Prop
 | i {n:Nat} {R:W->Nat->Prop} {rm:List Int} {bk:List Wi} {st:List Int} {bb:Int} (hR:WideOk rm) (hB:zaO rm bk) (hbb:∀x∈bk,x.b=bb) (hst:st.length=rm.length) (h:R (.d (zfY (zj6 bk st []))) n)  : F_stpW Pn [.d (.lst (bk.map uJ)),.d (stD st)] n R
theorem zbW (T:Txt K mg t):FnOk P w K mg base CX0 1 t.f18 t.d18 ["_law_book","_law_standing_here"] (spV 2 true F_stpW):=by
 refine Fun.okW (k:=0) (fr:=true) [2] 6 T.q18.F zZ rfl (by decide) rfl fun cdv A outer s H E Pn hr=>⟨_,(ze (wS y4 <| uw (i:=2) zZ.nd (zbi zf))
   (ze (yU aX rfl (wI yL <| yS K rfl (kv 0)) (wG uu <| uv (n:=4) K rfl rfl (wH zQ <| zq (wG zA <| zi (i:=3) zZ.nd) (wH zQ <| zq (wG zA <| zi (i:=4) zZ.nd) (wH zQ <| zq (wG zA <| zi (i:=5) zZ.nd) (wH zQ <| zq (wG zA <| zi (i:=6) zZ.nd) (wH ut xk)))))) (zk (wS yK <| zan (JW.t (wW zeg <| zg9 (wT zD <| yV zdy zkI (JE.bo (zdP xM zaN (kb 1) (kb 4) (fun _ _=>rfl))) (kb 6) (yt _)) (uY (.inl rfl) (wT zD <| zaz (JE.bo (z7 (zj8 rfl) zpv (by rfl) T.b_all PyProof.Rows.boot_all (zh (JE.bo (xV (N:=["_law_at","_law_worth","_law_standing_here"]) (cix:=[none,none,some 1]) rfl ⟨rfl,by decide +kernel,rfl⟩ (wI y3 <| xW K rfl (kv 3)) (fun _ _ _ _=>(wG uu <| uv (n:=2) K rfl rfl (wH zQ <| zq (wG zA <| zi (i:=0) (show (["_law_at","_law_worth","_law_standing_here"]:List Str).Nodup by decide +kernel)) (wH zQ <| zq (wG zA <| zi (i:=1) (show (["_law_at","_law_worth","_law_standing_here"]:List Str).Nodup by decide +kernel)) (wH ut xk))))) (fun _ _ _ _=>yx) (fun _ _ _ _=>(zi6 zdy zkI (JE.bo (zdP xM zaN (kb 2) (kb 0) (fun _ _=>rfl))) (kb 1) (yt _))))) zo))))))) (ze (wS zG <| yj (i:=7) zZ.nd (y8 zY yG (JE.bo (y8 zY yG (JE.bo (wE z8 <| xN (kb 1) zK (wO zy <| zL (kb 4)))) (JE.bo (yH (za (kv 5) zf))))) (JE.bo (wE z8 <| xN (kb 1) (wO zy <| zL (JE.bo (y8 yk zag (kb 4) (JE.bo zB)))) zK))))
   (zk (wS yK <| zan (wT zD <| yV (zhK hr.units) zpw (kb 7) (kb 2) (by with_unfolding_all rfl)) (zk (wS zbn <| zdc 2 (kv 7))) yT))) yT)))
   (zk (yi (z7 zkV zmR (by rfl) T.b_sorted be (zh (kb 2) zo)))))),fun ws n R hF=>?_⟩
 obtain @⟨_,_,rm,bk,st,bb,hR,hB,hbb,hst,r⟩:=hF;walk_at "st";have h16:=hR.few
 have hfewA:∀ (m:List Wi),(∀x∈m,x∈bk)->∀l:List (List Int),l.Nodup->(∀z∈l,z∈zam m st [])->l.length<=4:=fun m hm l hN hz=>by refine ao (yr (l':=(zv 4).map (chg st bb)) hN fun z hz'=>?_) (by rw[ab,yh];decide);obtain⟨x,hx,rfl⟩:=ay.mp (hz z hz');have hxb:=hm x (aT.mp hx).1;have hW:=hB x hxb;have h1:=z5 hR.box hW.b0 hW.b1;have h2:=hW.r1;exact ay.mpr ⟨x.r,zT.mpr ⟨hW.r0,by lia⟩,by rw[hbb x hxb]⟩
 refine yf bk (fun x=>W.d (uJ x)) (by rw[az];rfl) (fun i ρ m=>m=n/\∃ (l:List (List Int)) (v3 v4 v5 v6 v7:Option W),ρ=[some (.d (.lst (bk.map uJ))),some (.d (stD st)),some (.d (.lst (l.map stD))),v3,v4,v5,v6,v7]/\l.Nodup/\(∀z,z∈l↔z∈zam (bk.take i) st [])) ⟨rfl,[],_,_,_,_,_,rfl,.nil,by simp[zam]⟩ ?_ ?_
 ·rintro i x ρ m hx ⟨rfl,l,v3,v4,v5,v6,v7,rfl,hN,hm⟩ C B E hC _ _;have hW:=hB x (aw hx);have b0:=hW.b0;have b1:=hW.b1
  have hgi:∀q∈x.g,0<=q.1/\q.1<st.length:=fun q hq=>by have:=hW.giv.ok q hq;rw[hst];exact⟨this.1,this.2.1⟩
  have els:zbT st x=false->∀v3 v4 v5 v6 v7,C [some (.d (.lst (bk.map uJ))),some (.d (stD st)),some (.d (.lst (l.map stD))),v3,v4,v5,v6,v7] m:=fun hg v3 v4 v5 v6 v7=>by refine hC ⟨rfl,l,_,_,_,_,_,rfl,hN,fun z=>?_⟩;rw[hm z,zn hx,zb0,hg];simp
  walk_at "st";refine onA b0 (by lia) ?_;walk_at "st";refine zas (fun hw=>?_) (fun hw=>⟨els (by unfold zbT;rw[aS hw];rfl) _ _ _ _ _⟩);walk_at "st";refine zaw x.g (fun q=>.d (yD q)) (by rw[az];rfl) (fun ρ=>∃a b,ρ=[a,b,some (.d (stD st))]) (fun q=>.bl (decide (zC st q.1=q.2))) (ao (zcp hW.giv hR) (by decide)) ⟨_,_,rfl⟩ ?_ ?_
  ·rintro q hq ρ' ⟨a,b,rfl⟩ D hD;have hb:=hgi q hq;walk_at "st";refine onA hb.1 hb.2 ?_;walk_at "st";exact hD ⟨_,_,rfl⟩
  walk_at "st";refine⟨x.g.map fun q=>decide (zC st q.1=q.2),by rw[az];rfl,?_⟩;rw[show (x.g.map fun q=>decide (zC st q.1=q.2)).all id=y0 st x.g by unfold y0;rw[List.all_map];rfl];walk_at "st";refine zn4 (fun hk=>?_) (fun hk=>⟨els (by unfold zbT;rw[hk,cJ]) _ _ _ _ _⟩);have hg:zbT st x=true:=by unfold zbT;rw[aK hw,hk];rfl
  walk_at "st";refine⟨zcm (by lia),?_⟩;walk_at "st";refine⟨zcn (by lia),?_⟩;rw[zdV b0 (by lia)];walk_at "st";refine⟨zba,zcv l,fun b hb=>?_⟩;walk_at "st"
  have hgs:∀z,z∈zam (bk.take (i+1)) st []↔z∈zam (bk.take i) st []\/z=chg st x.b x.r:=fun z=>by rw[zn hx,zb0,hg];simp
  have hfew:l.length<=4:=hfewA _ (fun y hy=>aY hy) l hN fun z hz=>(hm z).mp hz
  cases b with
  | true=>
   have hin:=zhw.mp (hb.mp rfl);walk_at "cf";refine hC ⟨rfl,l,_,_,_,_,_,rfl,hN,fun z=>?_⟩;rw[hgs z,hm z];constructor
   ·exact .inl
   ·rintro (z1 | rfl)
    ·exact z1
    ·exact (hm _).mp hin
  | false=>
   have hnin:chg st x.b x.r∉l:=fun z=>by have:=hb.mpr (zhw.mpr z);cases this
   walk_at "ct";refine⟨by rw[ab];exact aU hfew (by decide),hC ⟨rfl,l++[chg st x.b x.r],_,_,_,_,_,by rw[aM];rfl,?_,fun z=>?_⟩⟩
   ·rw[List.nodup_append];exact⟨hN,by simp,fun a ha c hc e=>hnin (by rw[<- aC.mp hc,<- e];exact ha)⟩
   ·rw[aN,aC,hgs z,hm z]
 ·rintro ρ m ⟨rfl,l,v3,v4,v5,v6,v7,rfl,hN,hm⟩;rw[a9] at hm;walk_at "st";refine⟨l,rm.length,rfl,?_,hR.pos,fun z hz=>zc6 hB hst z ((hm z).mp hz),hN,fun l' hp hu=>?_⟩
  ·have:=hfewA bk (fun x hx=>hx) l hN fun z hz=>(hm z).mp hz;lia
  ·rw[show l'=zj6 bk st [] from zcR (zc6 hB hst) hu fun z=>hp.mem_iff.trans (hm z)];exact r
inductive F_locW  (Pn:PN):List W->Nat->(W->Nat->Prop)->Prop
 | i {n:Nat} {R:W->Nat->Prop} {rm:List Int} {bk:List Wi} {st:List Int} {b:Int} (hR:WideOk rm) (hB:zaO rm bk) (hl:bk.length<=600) (b0:0<=b) (b1:b<rm.length) (hst:st.length=rm.length) (h:R (.d (zfY (zaC bk b fun g=>y0 st g))) n)  : F_locW Pn [.d (zaJ bk),.d (.int b),.d (.int (zC rm b)),.d (stD st)] n R
theorem zbV (T:Txt K mg t):FnOk P w K mg base CX0 2 t.f19 t.d19 ["_law_book","_law_box","_law_many","_law_standing_here"] (spV 4 true F_locW):=by
 have G18:=zbW (P:=P) (w:=w) (base:=base) T
 refine Fun.okW (k:=1) (fr:=true) [4] 4 T.q19.F yF rfl (by decide) rfl fun cdv A outer s H E Pn hr=>⟨_,(ze (wS y4 <| uw (i:=4) yF.nd (zbi zf))
   (ze (yU aX rfl (wI xl <| yq rfl T.b_range (zh (kb 2) zo)) (wG zA <| zi (i:=5) yF.nd) (ze (wS zG <| yj (i:=6) yF.nd (y8 zY yG (JE.bo (y8 zY yG (JE.bo (wE z8 <| xN (kb 3) zK (wO zy <| zL (kb 1)))) (JE.bo (yH (za (kv 5) zf))))) (JE.bo (wE z8 <| xN (kb 3) (wO zy <| zL (JE.bo (y8 yk zag (kb 1) (JE.bo zB)))) zK))))
   (ze (wS zG <| zg8 (i:=7) (ze8 (ix:=7) yF.nd rfl rfl (N:=["_law_one","_law_box"]) (cix:=[none,some 1]) rfl ⟨rfl,by decide +kernel,rfl⟩ (wI yL <| yS K rfl (wE zu <| xj T.q18 G18 hr (za (xV (N:=["_law_wish","_law_box"]) (cix:=[none,some 1]) rfl ⟨rfl,by decide +kernel,rfl⟩ (wI y3 <| xW K rfl (kv 0)) (fun _ _ _ _=>(wG zA <| zi (i:=0) (show (["_law_wish","_law_box"]:List Str).Nodup by decide +kernel))) (fun _ _ _ _=>(zct (wT zD <| yV zdy zkI (JE.bo (zdP xM zaN (kb 0) (JE.bo zB) (fun _ _=>rfl))) (kb 1) (yt _)))) (fun _ _ _ _=>(kv 0))) (za (kv 6) zf)))) (fun _ _ _ _=>(wG zA <| zi (i:=0) (show (["_law_one","_law_box"]:List Str).Nodup by decide +kernel))) (fun _ _ _ _=>yx) (fun _ _ _ _=>(zdP xM zaN (kb 0) (kb 1) (fun _ _=>rfl)))))
   (zk (wS zhs <| zkl 4 (xV (N:=["_law_better","_law_worse"]) (cix:=[none,some 5]) rfl ⟨rfl,by decide +kernel,rfl⟩ (wI yL <| yS K rfl (z7 uQ zbL (by rfl) T.b_sorted be (zh (kb 7) zo))) (fun _ _ _ _=>(wG zA <| zi (i:=0) (show (["_law_better","_law_worse"]:List Str).Nodup by decide +kernel))) (fun _ _ _ _=>yx) (fun _ _ _ _=>(yH (za (kv 1) (za (kv 0) zf))))))))))
   (zk (wS u4 <| zbj 4)))),fun ws n R hF=>?_⟩
 obtain @⟨_,_,rm,bk,st,b,hR,hB,hl,b0,b1,hst,r⟩:=hF;walk_at "st";have h16:=hR.few;have hmm:=z5 hR.box b0 b1;refine⟨⟨by lia,by lia⟩,?_⟩;refine yf (List.range (zC rm b).toNat) (fun k:Nat=>W.d (.int (k:Int))) (um _) (fun i ρ m=>m=n/\∃ (fs:List (List Int)) (v5 v6 v7:Option W),ρ=[some (.d (zaJ bk)),some (.d (.int b)),some (.d (.int (zC rm b))),some (.d (stD st)),some (.d (.lst (fs.map stD))),v5,v6,v7]/\Up' fs/\fs.length<=4 * i/\∀z,z∈fs↔∃x∈bk,x.b=b/\y0 st x.g=true/\x.w<(i:Int)/\z=[x.w,x.r]) ⟨rfl,[],_,_,_,rfl,.nil,aL _,fun z=>⟨by simp,by rintro⟨x,hx,_,_,h,_⟩;have:=(hB x hx).w0;lia⟩⟩ ?_ ?_
 ·rintro i k ρ m hk ⟨rfl,fs,v5,v6,v7,rfl,hU,hfl,hm⟩ C B E hC _ _;obtain⟨hk1,hk2⟩:=af.mp hk;rw[aE] at hk1;rw[bZ] at hk2;subst hk2;walk_at "st";refine⟨zcm (by lia),?_⟩;walk_at "st";refine⟨zcn (by lia),?_⟩;rw[zdV b0 (by lia)];walk_at "st";refine zgq bk (fun x=>W.d (uJ x)) (by rw[az];rfl) (fun ρ=>∃a,ρ=[a,some (.d (.int b))]) (fun x=>decide (x.b=b)) (fun x=>uJ x) (ao hl (by decide)) ⟨_,rfl⟩ ?_ ?_
  ·rintro x hx ρ' ⟨a,rfl⟩ D hD hN;walk_at "st";rw[show atI [Dt.tup (x.g.map yD),Dt.int x.b,Dt.int x.r,Dt.int x.w] 1=some (Dt.int x.b) from rfl];walk_at "st";exact zas (fun h=>hD (aK h) ⟨_,rfl⟩) (fun h=>hN (aS h) ⟨_,rfl⟩)
  have hBb:zaO rm (bk.filter fun x=>decide (x.b=b)):=fun x hx=>hB x (aT.mp hx).1;have hcl:(chg st b (i:Int)).length=rm.length:=by rw[uO (by lia) b0,hst]
  walk_at "st";refine F_stpW.i (bb:=b) hR hBb (fun x hx=>bw (aT.mp hx).2) hcl ?_
  have hbt:∀z,z∈zj6 (bk.filter fun x=>decide (x.b=b)) (chg st b (i:Int)) []↔∃x∈bk,x.b=b/\y0 st x.g=true/\x.w=(i:Int)/\z=chg (chg st b (i:Int)) b x.r:=fun z=>by
   unfold zj6;rw[xx,zc7];constructor
   ·rintro⟨x,hx,hg,_,rfl⟩;obtain⟨h1,h2⟩:=aT.mp hx;have h2:=bw h2;unfold zbT at hg;rw[aR,bM] at hg;rw[<- h2,zbk (hB x h1) hst] at hg;rw[zal (hB x h1).b0 (by have:=(hB x h1).b1;lia) (hB x h1).b0,if_pos rfl] at hg;exact⟨x,h1,h2,hg.2,hg.1.symm,by rw[h2]⟩
   ·rintro⟨x,h1,h2,h3,h4,rfl⟩;refine⟨x,aT.mpr ⟨h1,aK h2⟩,?_,by simp,by rw[h2]⟩;unfold zbT;rw[aR,bM];rw[<- h2,zbk (hB x h1) hst,zal (hB x h1).b0 (by have:=(hB x h1).b1;lia) (hB x h1).b0,if_pos rfl];exact⟨h4.symm,h3⟩
  have hbl:∀z∈zj6 (bk.filter fun x=>decide (x.b=b)) (chg st b (i:Int)) [],z.length=rm.length:=fun z hz=>by obtain⟨x,h1,h2,h3,h4,rfl⟩:=(hbt z).mp hz;rw[uO (by lia) b0,hcl]
  have hbn:(zj6 (bk.filter fun x=>decide (x.b=b)) (chg st b (i:Int)) []).Nodup:=zpH (zaX (m:=rm.length) fun y hy=>hbl y (xx.mpr hy));have hrs:∀x∈bk,x.b=b->zC (chg (chg st b (i:Int)) b x.r) b=x.r:=fun x hx hxb=>by rw[zal b0 (by lia) b0,if_pos rfl]
  generalize zj6 (bk.filter fun x=>decide (x.b=b)) (chg st b (i:Int)) []=bs at hbt hbl hbn
  have hrm:∀z,z∈bs.map (fun s=>zC s b)↔∃x∈bk,x.b=b/\y0 st x.g=true/\x.w=(i:Int)/\z=x.r:=fun z=>by
   rw[ay];constructor
   ·rintro⟨s,hs,rfl⟩;obtain⟨x,h1,h2,h3,h4,rfl⟩:=(hbt s).mp hs;exact⟨x,h1,h2,h3,h4,hrs x h1 h2⟩
   ·rintro⟨x,h1,h2,h3,h4,rfl⟩;exact⟨_,(hbt _).mpr ⟨x,h1,h2,h3,h4,rfl⟩,hrs x h1 h2⟩
  have hrn:(bs.map fun s=>zC s b).Nodup:=by refine bS.mpr (hbn.imp_of_mem fun {s s'} hs hs' hne e=>hne ?_);obtain⟨x,h1,h2,h3,h4,rfl⟩:=(hbt s).mp hs;obtain⟨y,g1,g2,g3,g4,rfl⟩:=(hbt s').mp hs';rw[hrs x h1 h2,hrs y g1 g2] at e;rw[e]
  have hr4:(bs.map fun s=>zC s b).length<=4:=by refine ao (yr (l':=zv 4) hrn fun z hz=>?_) (by decide);obtain⟨x,h1,h2,h3,h4,rfl⟩:=(hrm z).mp hz;have:=(hB x h1).r1;rw[h2] at this;exact zT.mpr ⟨(hB x h1).r0,by lia⟩
  have hbs4:bs.length<=4:=by rwa[ab] at hr4
  walk_at "st";refine zaw bs (fun s=>W.d (stD s)) (by rw[az];rfl) (fun ρ=>∃a,ρ=[a,some (.d (.int b))]) (fun s=>.int (zC s b)) (ao hbs4 (by decide)) ⟨_,rfl⟩ ?_ ?_
  ·rintro s hs ρ' ⟨a,rfl⟩ D hD;have:=hbl s hs;walk_at "st";refine onA b0 (by lia) ?_;walk_at "st";exact hD ⟨_,rfl⟩
  rw[show bs.map (fun s=>Dt.int (zC s b))=(bs.map fun s=>zC s b).map Dt.int by rw[az];rfl];generalize bs.map (fun s=>zC s b)=rs at hrm hrn hr4;walk_at "st";refine⟨rs,rfl,by lia,fun cs hp hs=>?_⟩;have hcs:cs.Pairwise (· < ·):=zbD hs (hp.nodup_iff.mpr hrn);have hcl4:=hp.length_eq;walk_at "st";refine zaw cs (fun c=>W.d (.int c)) (by rw[az];rfl) (fun ρ=>∃a,ρ=[a,some (.d (.int (i:Int)))]) (fun c=>stD [(i:Int),c]) (ao (by lia:_<=100) (by decide)) ⟨_,rfl⟩ ?_ ?_
  ·rintro c hc ρ' ⟨a,rfl⟩ D hD;walk_at "st";exact hD ⟨_,rfl⟩
  rw[show cs.map (fun c=>stD [(i:Int),c])=(cs.map fun c=>[(i:Int),c]).map stD by rw[az];rfl];refine⟨by rw[ab,ab,ab];exact ao (by lia:_<=100) (by decide),?_⟩;rw[<- aM];refine hC ⟨rfl,fs++cs.map fun c=>[(i:Int),c],_,_,_,rfl,?_,by rw[aD,ab];lia,fun z=>?_⟩
  ·refine List.pairwise_append.mpr ⟨hU,bS.mpr (hcs.imp fun {c d} h=>zhi.mpr (.inr ⟨rfl,h⟩)),fun z hz y hy=>?_⟩;obtain⟨x,h1,h2,h3,h4,rfl⟩:=(hm z).mp hz;obtain⟨c,hc,rfl⟩:=ay.mp hy;exact zhi.mpr (.inl h4)
  ·rw[aN,hm z,ay];constructor
   ·rintro (⟨x,h1,h2,h3,h4,h5⟩ | ⟨c,hc,rfl⟩)
    ·exact⟨x,h1,h2,h3,by lia,h5⟩
    ·obtain⟨x,h1,h2,h3,h4,rfl⟩:=(hrm c).mp (hp.mem_iff.mp hc);exact⟨x,h1,h2,h3,by lia,by rw[h4]⟩
   ·rintro⟨x,h1,h2,h3,h4,rfl⟩;by_cases e:x.w<(i:Int)
    ·exact .inl ⟨x,h1,h2,h3,e,rfl⟩
    ·have e2:x.w=(i:Int):=by lia
     exact .inr ⟨x.r,hp.mem_iff.mpr ((hrm _).mpr ⟨x,h1,h2,h3,e2,rfl⟩),by rw[e2]⟩
 ·rintro ρ m ⟨rfl,fs,v5,v6,v7,rfl,hU,hfl,hm⟩;rw[aE] at hm;walk_at "st"
  rw[show fs=zaC bk b (fun g=>y0 st g) from zcR (m:=2) (fun z hz=>by obtain⟨x,hx,rfl⟩:=ay.mp hz;rfl) hU fun z=>by
   rw[hm z,ay];constructor
   ·rintro⟨x,h1,h2,h3,h4,rfl⟩;exact⟨x,aT.mpr ⟨h1,by rw[aK h2];exact h3⟩,rfl⟩
   ·rintro⟨x,hx,rfl⟩;obtain⟨h1,h2⟩:=aT.mp hx;rw[aR,bM] at h2;have:=(hB x h1).w1;rw[h2.1] at this;exact⟨x,h1,h2.1,h2.2,by lia,rfl⟩]
  exact r
inductive F_noR  (Pn:PN):List W->Nat->(W->Nat->Prop)->Prop
 | i {n:Nat} {R:W->Nat->Prop} {p:Addr} {rm:List Int} (hP:IsP Pn p) (hR:WideOk rm) (h:∀ds m,(∀d∈ds,za3 16 d=false)->ds.length<=20->m<=n+20->R (.d (.lst ds)) m) (hn:n+100<=1000000:=by lia):F_noR Pn [.pen p,.d (stD rm)] n R
theorem zaq (T:Txt K mg t):FnOk P w K mg base CX0 2 t.f20 t.d20 ["_law_pen_here","_law_room"] (spV 2 false F_noR):=by
 have G1:=zP (P:=P) (w:=w) (base:=base) T
 refine Fun.okW (k:=1) (fr:=false) [] 2 T.q20.F yw rfl (by decide) rfl fun cdv A outer s H E Pn hr=>⟨_,(ze (wS zG <| yj (i:=2) yw.nd (wE zu <| xj T.q1 G1 hr (za (kv 0) (za (z7 y9 zbX (by rfl) T.b_len bi (zh (kb 1) zo)) zf))))
   (ze (wS zG <| yj (i:=3) yw.nd (zbi (za (yH zf) (za (y8 zbw zfy (JE.bo (yH (za zB zf))) (JE.bo zB)) (za (y8 zY yG (JE.bo (y8 zY yG (JE.bo (wE z8 <| xN (kb 1) zK (wO zy <| zL (kb 2)))) (JE.bo (yH (za zB zf))))) (JE.bo (wE z8 <| xN (kb 1) (wO zy <| zL (JE.bo (y8 yk zag (kb 2) (JE.bo zB)))) zK))) (za (y8 zY yG (JE.bo (y8 zY yG (JE.bo (wE z8 <| xN (kb 1) zK (wO zy <| zL (kb 2)))) (JE.bo (yH (za zB zf))))) (JE.bo (wE z8 <| xN (kb 1) (wO zy <| zL (JE.bo (y8 yk zag (kb 2) (JE.bo zB)))) zK))) (za (yX za7 zpy (by rfl) T.b_list bF (zh (kb 1) zo)) (za znH zf))))))))
   (ze (wS zG <| yj (i:=3) yw.nd (y8 zhH zkH (kb 3) (JE.bo (zbi (za (y8 zY yG (JE.bo (y8 zY yG (JE.bo (wE z8 <| xN (kb 1) zK (wO zy <| zL (kb 2)))) (JE.bo (yH (za zfJ zf))))) (JE.bo (wE z8 <| xN (kb 1) (wO zy <| zL (JE.bo (y8 yk zag (kb 2) (JE.bo zB)))) zK))) (za (y8 zY yG (JE.bo (y8 zY yG (JE.bo (wE z8 <| xN (kb 1) zK (wO zy <| zL (kb 2)))) (JE.bo (yH (za znH zf))))) (JE.bo (wE z8 <| xN (kb 1) (wO zy <| zL (JE.bo (y8 yk zag (kb 2) (JE.bo zB)))) zK))) (za zqV (za zB (za znD zf)))))))))
   (zk (yi (znG (y8 zhH zkH (kb 3) (JE.bo (zbi (za (y8 zY yG (JE.bo (y8 zY yG (JE.bo (wE z8 <| xN (kb 1) zK (wO zy <| zL (kb 2)))) (JE.bo (yH (za (y8 zfh zrU (JE.bo zB) (JE.bo zB)) zf))))) (JE.bo (wE z8 <| xN (kb 1) (wO zy <| zL (JE.bo (y8 yk zag (kb 2) (JE.bo zB)))) zK))) (za (yH (za (kv 1) zf)) zf))))))))))),fun ws n R hF=>?_⟩
 obtain @⟨_,_,p,rm,hP,hR,r,hn⟩:=hF;walk_at "st";have h16:=hR.few;have hpos:=hR.pos;rw[ab];refine dc hP fun b b0 b1=>?_;obtain⟨j,rfl⟩:∃j:Nat,b=j:=⟨b.toNat,by lia⟩;have hj:j<rm.length:=by lia
 have bad:∀ (a c:List Dt) (d:Dt),d.inBox=false->za3 16 (.tup (a++[d]++c))=false:=fun a c d hd=>by rw[zaj,List.all_append,List.all_append];simp[hd]
 have lm:(100:Nat)<=lim:=by decide
 have c1:∀d:Dt,(xp (rm.map Dt.int) none (some (j:Int))).length+[d].length<=lim:=fun d=>by have:=xg (rm.map Dt.int) none (some (j:Int));rw[ab] at this;rw[cE];lia
 have c2:∀d:Dt,(xp (rm.map Dt.int) none (some (j:Int))++[d]).length+(xp (rm.map Dt.int) (some ((j:Int)+1)) none).length<=lim:=fun d=>by have:=xg (rm.map Dt.int) none (some (j:Int));have h2:=xg (rm.map Dt.int) (some ((j:Int)+1)) none;rw[ab] at this h2;rw[aD,cE];lia
 walk_at "st";refine⟨⟨by decide,by decide,by decide⟩,?_⟩;walk_at "st";refine⟨c1 _,?_⟩;walk_at "st";refine⟨c2 _,?_⟩;walk_at "st";refine⟨c1 _,?_⟩;walk_at "st";refine⟨c2 _,?_⟩;walk_at "st";refine⟨c1 _,?_⟩;walk_at "st";refine⟨c2 _,?_⟩;walk_at "st";refine⟨c1 _,?_⟩;walk_at "st";refine⟨c2 _,?_⟩;walk_at "st";refine⟨show 6+5<=lim by decide,?_⟩;walk_at "st";refine⟨⟨by decide,by decide,by decide⟩,?_⟩;walk_at "st";refine⟨c1 _,?_⟩;walk_at "st";refine⟨c2 _,?_⟩;walk_at "st";refine⟨show 11+2<=lim by decide,?_⟩;refine r _ _ (fun d hd=>?_) (show 13<=20 by decide) (by lia);rcases aN.mp hd with hd | hd
 ·rcases aN.mp hd with hd | hd
  ·simp only[aI,dE,or_false] at hd;rcases hd with rfl | rfl | rfl | rfl | rfl | rfl
   ·rfl
   ·rfl
   ·exact bad _ _ _ rfl
   ·exact bad _ _ _ rfl
   ·rfl
   ·rfl
  ·simp only[aI,dE,or_false] at hd;rcases hd with rfl | rfl | rfl | rfl | rfl
   ·exact bad _ _ _ rfl
   ·exact bad _ _ _ rfl
   ·rfl
   ·rfl
   ·rfl
 ·simp only[aI,dE,or_false] at hd;rcases hd with rfl | rfl
  ·exact bad _ _ _ rfl
  ·rfl
inductive F_boxR  (Pn:PN):List W->Nat->(W->Nat->Prop)->Prop
 | i {n:Nat} {R:W->Nat->Prop} {p:Addr} {rm:List Int} {bk:List Wi} {b:Int} (hP:IsP Pn p) (hR:WideOk rm) (hB:zaO rm bk) (hl:bk.length<=600) (b0:0<=b) (b1:b<rm.length) (hlk:∀l:List Int,l.Pairwise (· < ·)->(∀z,z∈l↔uz bk b z)->l.length<=4) (h:∀m,m<=n+100->R (.d (.bl true)) m) (hn:n+200<=1000000:=by lia):F_boxR Pn [.pen p,.d (stD rm),.d (zaJ bk),.d (.int b)] n R
theorem u5 (T:Txt K mg t):FnOk P w K mg base CX0 3 t.f21 t.d21 ["_law_pen_here","_law_room","_law_book","_law_box"] (spV 4 false F_boxR):=by
 have G8:=u6 (P:=P) (w:=w) (base:=base) T;have G7:=zdu (P:=P) (w:=w) (base:=base) T;have G9:=zdw (P:=P) (w:=w) (base:=base) T;have G1:=zP (P:=P) (w:=w) (base:=base) T;have G12:=yM (P:=P) (w:=w) (base:=base) T;have G16:=zar (P:=P) (w:=w) (base:=base) T;have G17:=zdr (P:=P) (w:=w) (base:=base) T;have G19:=zbV (P:=P) (w:=w) (base:=base) T
 refine Fun.okW (k:=2) (fr:=false) [4,11,16] 13 T.q21.F zj rfl (by decide) rfl fun cdv A outer s H E Pn hr=>⟨_,(ze (wS y4 <| uw (i:=4) zj.nd zlt)
   (ze (yU aX rfl (wI y3 <| xW K rfl (kv 2)) (wG uu <| uv (n:=4) K rfl rfl (wH zQ <| zq (wG zA <| zi (i:=5) zj.nd) (wH zQ <| zq (wG zA <| zi (i:=6) zj.nd) (wH zQ <| zq (wG zA <| zi (i:=7) zj.nd) (wH zQ <| zq (wG zA <| zi (i:=8) zj.nd) (wH ut xk)))))) (zk (yU aX rfl (wI y3 <| xW K rfl (y8 zlQ zpA (kb 5) (JE.bo (yX zkT zpx (by rfl) T.b_int PyProof.Rows.boot_int (zh (JE.bo (zi6 zdy zkI (kb 6) (kb 3) (yt _))) zo))))) (wG uu <| uv (n:=2) K rfl rfl (wH zQ <| zq (wG zA <| zi (i:=9) zj.nd) (wH zQ <| zq (wG zA <| zi (i:=10) zj.nd) (wH ut xk)))) (zk (zja 4 (zlk hr) (kb 9) zfJ)))))
   (ze (wS y4 <| uw (i:=11) zj.nd (wE zu <| xj T.q8 G8 hr (za (kv 2) (za (kv 3) zf))))
   (ze (wS yK <| zan (JW.t (wW zb5 <| zfL (wT x3 <| zay (wT zD <| zaz (JE.bo (wE zcx <| xA (by rfl) T.b_isinstance T.b_list (kb 11))))) (uY (.inr rfl) (wT zD <| yV (zhJ hr.units) zmQ (kb 11) (JE.bo (z7 uQ zbL (by rfl) T.b_sorted be (zh (JE.bo (yX (zeW rfl) ziv (by rfl) T.b_list bF (zh (kb 4) zo))) zo))) (yt _))))) (zk (yi zfJ)) yT)
   (ze (wS zG <| yj (i:=12) zj.nd (wE zht <| znE T.q7 G7 hr (zh (kb 1) (zh (kb 11) zo))))
   (ze (wS yK <| zan (JW.t (wW zb5 <| zfL (wT x3 <| zay (wT zD <| zaz (JE.bo (wE zcx <| xA (by rfl) T.b_isinstance T.b_list (kb 12))))) (uY (.inr rfl) (wT zD <| yV (zhJ hr.units) zmQ (kb 12) (JE.bo (wE zht <| znE T.q12 G12 hr (zh (kb 1) (zh (kb 11) zo)))) (yt _))))) (zk (yi zfJ)) yT)
   (ze (wS zG <| yj (i:=13) zj.nd (zdP zbN zjY (kb 12) (JE.bo (wE zu <| xj T.q1 G1 hr (za (kv 0) (za (z7 y9 zbX (by rfl) T.b_len bi (zh (kb 12) zo)) zf)))) (fun _ _=>rfl)))
   (ze (yU aX rfl (wI xl <| yq rfl T.b_range (zh (JE.bo zB) zo)) (wG zA <| zi (i:=14) zj.nd) (ze (wS zG <| yj (i:=15) zj.nd (wE zu <| xj T.q17 G17 hr (za (wE zu <| xj T.q16 G16 hr (za (kv 0) (za (kv 1) zf))) (za (kv 13) zf))))
   (ze (wS y4 <| uw (i:=16) zj.nd (wE zu <| xj T.q9 G9 hr (za (kv 2) (za (kv 3) (za (kv 13) zf)))))
   (ze (wS yK <| zan (JW.t (wW zb5 <| zfL (wT x3 <| zay (wT zD <| zaz (JE.bo (wE zcx <| xA (by rfl) T.b_isinstance T.b_list (kb 16))))) (uY (.inr rfl) (wT zD <| yV (zhJ hr.units) zmQ (kb 16) (JE.bo (wE zu <| xj T.q19 G19 hr (za (kv 2) (za (kv 3) (za (zdP xM zaN (kb 1) (kb 3) (fun _ _=>rfl)) (za (kv 15) zf)))))) (yt _))))) (zk (yi zfJ)) yT)
   (zk (wS zbn <| zdc 16 (yH (za zB (za zB zf)))))))))
   (ze (wS zbn <| zdc 11 (kv 3))
   (zk (yi (zi6 (zof hr.units) zrR (JE.bo (wE zu <| xj T.q8 G8 hr (za (kv 2) (za (kv 3) zf)))) (JE.bo (z7 uQ zbL (by rfl) T.b_sorted be (zh (JE.bo (yX (zeW rfl) ziv (by rfl) T.b_list bF (zh (kb 4) zo))) zo))) (yt _))))))))))))),fun ws n R hF=>?_⟩
 obtain @⟨_,_,p,rm,bk,b,hP,hR,hB,hl,b0,b1,hlk,r,hn⟩:=hF;walk_at "st";have h16:=hR.few
 have hin:∀x∈bk,∀q∈x.g,q.1∈zv 16:=fun x hx q hq=>zT.mpr (by have:=(hB x hx).giv.ok q hq;lia)
 have few:∀ (i:Nat) (ns:List Int),ns.Nodup->(∀z,z∈ns->uz bk b z)->ns.length<=16:=fun i ns hn hz=>ao (yr (l':=zv 16) hn fun z hz'=>by obtain⟨x,hx,_,q,hq,rfl⟩:=hz z hz';exact hin x hx q hq) (by decide);refine yf bk (fun x=>W.d (uJ x)) (by rw[az];rfl) (fun i ρ m=>m=n/\∃ (ns:List Int) (v5 v6 v7 v8 v9 v10:Option W),ρ=[some (.pen p),some (.d (stD rm)),some (.d (zaJ bk)),some (.d (.int b)),some (.dk (ns.map kvI)),v5,v6,v7,v8,v9,v10,none,none,none,none,none,none]/\ns.Nodup/\∀z,z∈ns↔uz (bk.take i) b z) ⟨rfl,[],_,_,_,_,_,_,rfl,.nil,fun z=>⟨by simp,by rintro⟨x,hx,_⟩;simp at hx⟩⟩ ?_ ?_
 ·rintro i x ρ m hx ⟨rfl,ns,v5,v6,v7,v8,v9,v10,rfl,hN,hm⟩ C B E hC _ _;have hxm:=aw hx;have snoc:∀z,uz (bk.take (i+1)) b z↔uz (bk.take i) b z\/(x.b=b/\∃q∈x.g,q.1=z):=zdj hx;by_cases hxb:x.b=b
  ·walk_at "st";rw[if_pos (aK hxb)];refine⟨.inr rfl,?_⟩;rw[if_neg (by decide)];walk_at "st";refine yf x.g (fun q=>W.d (yD q)) (by rw[az];rfl) (fun j ρ m'=>m'=m/\∃ (ns:List Int) (v9 v10:Option W),ρ=[some (.pen p),some (.d (stD rm)),some (.d (zaJ bk)),some (.d (.int b)),some (.dk (ns.map kvI)),some (.d (.tup (x.g.map yD))),some (.d (.int x.b)),some (.d (.int x.r)),some (.d (.int x.w)),v9,v10,none,none,none,none,none,none]/\ns.Nodup/\∀z,z∈ns↔uz (bk.take i) b z\/∃q∈x.g.take j,q.1=z) ⟨rfl,ns,_,_,rfl,hN,fun z=>by rw[hm z];simp⟩ ?_ ?_
   ·rintro j q ρ m' hq ⟨rfl,ns,v9,v10,rfl,hN,hm'⟩ C' B' E' hC' _ _
    have hl16:ns.length<=16:=few 0 ns hN fun z hz=>by
     rcases (hm' z).mp hz with ⟨y,hy,h⟩ | ⟨q',hq',rfl⟩
     ·exact⟨y,aY hy,h⟩
     ·exact⟨x,hxm,hxb,q',aY hq',rfl⟩
    have key:∀z,(∃q'∈x.g.take (j+1),q'.1=z)↔(∃q'∈x.g.take j,q'.1=z)\/z=q.1:=fun z=>by
     rw[zn hq];constructor
     ·rintro⟨p,hp,e⟩;rcases aN.mp hp with h | h
      ·exact .inl ⟨p,h,e⟩
      ·rw[aC.mp h] at e;exact .inr e.symm
     ·rintro (⟨p,hp,e⟩ | e)
      ·exact⟨p,bj _ hp,e⟩
      ·exact⟨q,aV _ (by simp),e.symm⟩
    walk_at "st";refine⟨by rw[ab];exact aU hl16 (by decide),?_⟩;rw[putI];refine hC' ⟨rfl,if q.1∈ns then ns else ns++[q.1],_,_,rfl,?_,fun z=>?_⟩
    ·split
     ·exact hN
     ·rename_i h;exact List.nodup_append.mpr ⟨hN,by simp,fun a ha c hc e=>h (by rw[<- aC.mp hc,<- e];exact ha)⟩
    ·rw[key z,<- or_assoc,<- hm' z];split
     ·rename_i h;exact⟨.inl,fun z1=>z1.elim id fun e=>e ▸ h⟩
     ·rw[aN,aC]
   ·rintro ρ m' ⟨rfl,ns,v9,v10,rfl,hN,hm'⟩;rw[a9] at hm';walk_at "st";exact hC ⟨rfl,ns,_,_,_,_,_,_,rfl,hN,fun z=>by rw[snoc z,hm' z];exact or_congr Iff.rfl ⟨fun h=>⟨hxb,h⟩,fun h=>h.2⟩⟩
  ·walk_at "st";rw[if_neg (by rw[aS hxb];decide)];refine⟨.inl rfl,?_⟩;rw[if_pos rfl];walk_at "st";refine yf ([]:List Dt) W.d rfl (fun j ρ m'=>m'=m/\∃ (v9 v10:Option W),ρ=[some (.pen p),some (.d (stD rm)),some (.d (zaJ bk)),some (.d (.int b)),some (.dk (ns.map kvI)),some (.d (.tup (x.g.map yD))),some (.d (.int x.b)),some (.d (.int x.r)),some (.d (.int x.w)),v9,v10,none,none,none,none,none,none]) ⟨rfl,_,_,rfl⟩ (fun j q ρ m' hq=>by cases hq) ?_;rintro ρ m' ⟨rfl,v9,v10,rfl⟩;walk_at "st";exact hC ⟨rfl,ns,_,_,_,_,_,_,rfl,hN,fun z=>by rw[snoc z,hm z];exact⟨.inl,fun h=>h.elim id fun h=>absurd h.1 hxb⟩⟩
 ·rintro ρ m ⟨rfl,ns,v5,v6,v7,v8,v9,v10,rfl,hN,hm⟩;rw[a9] at hm;have hns:ns.length<=16:=few 0 ns hN fun z hz=>(hm z).mp hz;have srt:∀cs:List Int,cs.Perm ns->cs.Pairwise (·<=·)->∀l:List Int,l.Pairwise (· < ·)->(∀z,z∈l↔uz bk b z)->cs=l:=fun cs hp hs l h1 h2=>zcO (zbD hs (hp.nodup_iff.mpr hN)) h1 fun z=>(hp.mem_iff.trans (hm z)).trans (h2 z).symm;walk_at "st";refine F_look.i hR hB fun lk hlk1 hlk2=>?_;have hl4:=hlk lk hlk1 hlk2
  have hlr:∀z∈lk,0<=z/\z<rm.length:=fun z hz=>by obtain⟨x,hx,_,q,hq,rfl⟩:=(hlk2 z).mp hz;have:=(hB x hx).giv.ok q hq;exact⟨this.1,this.2.1⟩
  have hlN:lk.Nodup:=hlk1.imp fun h=>by lia
  walk_at "st";refine⟨ns,by rw[az];rfl,?_⟩;walk_at "st";refine⟨ns,rfl,by lia,fun cs hp hs=>?_⟩;obtain rfl:=srt cs hp hs lk hlk1 hlk2;walk_at "st";refine⟨ui,ui,fun c hc=>?_⟩;obtain rfl:c=true:=hc.mpr rfl;walk_at "cf";refine F_cont.i hR hlr (by lia) ?_;walk_at "st";refine⟨zhC _,?_⟩;walk_at "st";refine F_ctx.i hR hlN hlr (by lia) fun cs2 h1 h2=>?_;obtain rfl:cs2=cs:=zcO h1 hlk1 fun z=>h2.mem_iff;refine⟨zhC _,?_⟩;walk_at "st";refine⟨eqGs,eqGs,fun c hc=>?_⟩;obtain rfl:c=true:=hc.mpr rfl;walk_at "cf";have hc1:=zgw hR.box rfl hlr;have hc2:(za8 rm cs2).length<=256:=ao (uR hR.box rfl hlr) (ao (b9 (by decide) hl4) (by decide));rw[ab];refine dc hP (fun u u0 u1=>?_) (by lia) (by lia) (by lia);walk_at "st";refine zn3 u0 (by rw[ab];exact u1) fun y hy=>?_;obtain⟨g,hg,rfl⟩:=ay.mp hy;have hG:=zeX hlk1 hlr hg;have hge:=(uT rfl hg).1;have hgl:=zcp hG hR;walk_at "st";refine⟨⟨by decide,by decide⟩,ze3 (fun k ρ m'=>m'<=m+10+20 * k/\∃v14 v15 v16:Option W,ρ=[some (.pen p),some (.d (stD rm)),some (.d (zaJ bk)),some (.d (.int b)),some (.dk (ns.map kvI)),v5,v6,v7,v8,v9,v10,some (.d (.lst (cs2.map Dt.int))),some (.d (.lst ((za8 rm cs2).map uC))),some (.d (uC g)),v14,v15,v16]) ⟨by lia,_,_,_,rfl⟩ ?_ ?_⟩
  ·rintro k ρ m' hk ⟨hm',v14,v15,v16,rfl⟩ C B E hC _ hE;walk_at "st";refine F_mkst.i hP hR fun st n2 hst hn2=>?_
   have hgs:∀q∈g,0<=q.1/\q.1<st.length:=fun q hq=>by have:=hG.ok q hq;rw[hst.len];exact⟨this.1,this.2.1⟩
   walk_at "st";refine F_put.i hgs hgl (by rw[hst.len];exact h16) ?_;walk_at "st";refine F_prs.i hR hB hG b0 b1 ?_;walk_at "st";refine onA b0 b1 ?_;walk_at "st";refine F_locW.i hR hB hl b0 b1 (by rw[zcI hgs];exact hst.len) ?_;rw[<- zgx hB hG hge hlk2 hst.len];have hp16:=zjA (P:=fun h=>h.all fun q=>decide (q∈g)) (b:=b) hR.box hB;walk_at "st";refine⟨zcv _,zcv _,fun c hc=>?_⟩;obtain rfl:c=true:=hc.mpr rfl;walk_at "cf";walk_at "st";refine⟨by rw[ab];exact aU hp16 (by decide),?_⟩;exact hC ⟨by lia,_,_,_,rfl⟩
  ·rintro ρ m' ⟨hm',v14,v15,v16,rfl⟩;walk_at "st";refine⟨by rw[ab];exact aU hl4 (by decide),?_⟩;walk_at "st";refine F_look.i hR hB fun lk h3 h4=>?_;obtain rfl:lk=cs2:=zcO h3 hlk1 fun z=>(h4 z).trans (hlk2 z).symm;walk_at "st";refine⟨ns,by rw[az];rfl,?_⟩;walk_at "st";refine⟨ns,rfl,by lia,fun cs hp hs=>?_⟩;obtain rfl:=srt cs hp hs lk h3 h4;walk_at "st";refine⟨ui,ui,fun c hc=>?_⟩;obtain rfl:c=true:=hc.mpr rfl;exact r _ (by lia)
theorem zj0 {rm:List Int}(hR:WideOk rm):za3 16 (stD rm)=true:=by show za3 16 (.tup (rm.map .int))=true;rw[zaj,ab,aK hR.pos,aK (show (rm.length:Int)<=16 by have:=hR.few;lia),dH,dH,ba];intro d hd;obtain⟨r,hr,rfl⟩:=ay.mp hd;have:=hR.box r hr;simp[Dt.inBox];lia
theorem zn2 (T:Txt K mg t):FnOk P w K mg base CX0 5 t.f22 t.d22 ["_law_script"] (zil K):=by
 have G5:=zen (P:=P) (w:=w) (base:=base) T;have G8:=u6 (P:=P) (w:=w) (base:=base) T;have G0:FnOk P w K mg base CX0 1 t.f0 t.d0 ["_law_script"] (zjV K):=zel T;have G1:=zP (P:=P) (w:=w) (base:=base) T;have G11:=zcD (P:=P) (w:=w) (base:=base) T;have G12:=yM (P:=P) (w:=w) (base:=base) T;have G14:=uH (P:=P) (w:=w) (base:=base) T;have G15:=zap (P:=P) (w:=w) (base:=base) T;have G20:=zaq (P:=P) (w:=w) (base:=base) T;have G21:=u5 (P:=P) (w:=w) (base:=base) T
 refine zri (S:=[]) (k:=4) (r:=5) [] T.q22.F zad rfl rfl (by decide) fun cdv A outer s H E Pn hr=>⟨_,_,_,rfl,(xI (i:=1) zad.nd rfl (Or.inr rfl) (zjE T.q0 G0 hr (zE (qv 0) yA))),(ze (yU aX rfl (wI xl <| yq rfl T.b_range (zh (JE.bo zB) zo)) (wG zA <| zi (i:=2) zad.nd) (ze (wS zG <| yj (i:=3) zad.nd (wE zu <| xj T.q11 G11 hr (za (kv 1) zf)))
   (ze (wS yK <| zan (JW.t (wW zb5 <| zfL (wT zD <| yV zeq zf5 (JE.bo (wE zu <| xj T.q5 G5 hr (za (kv 3) zf))) (JE.bo zfJ) (yt _)) (uY (.inr rfl) (wT zD <| yV zhI zrS (JE.bo zfJ) (JE.bo (xV (N:=["_law_thing"]) (cix:=[none]) rfl ⟨rfl,by decide +kernel,rfl⟩ (wI yL <| yS K rfl (wE zu <| xj T.q20 G20 hr (za (kv 1) (za (kv 3) zf)))) (fun _ _ _ _=>(wG zA <| zi (i:=0) (show (["_law_thing"]:List Str).Nodup by decide +kernel))) (fun _ _ _ _=>yx) (fun _ _ _ _=>(wE zu <| xj T.q5 G5 hr (za (kv 0) zf))))) (by with_unfolding_all rfl))))) (zk (yi zfJ)) yT)
   (ze (wS yK <| zan (wT zD <| yV zdy zkI (JE.bo (wE zu <| xj T.q1 G1 hr (za (kv 1) (za zB zf)))) (JE.bo zB) (yt _)) (zk (wS zG <| yj (i:=4) zad.nd (wE z8 <| xN (JE.bo (yX yO zbM (by rfl) T.b_tuple bE (zh (JE.bo (wE zu <| xj T.q14 G14 hr (za (kv 1) (za (kv 3) (za zB zf))))) zo))) zK (wO zy <| zL (JE.bo zB))))) (ze (wS zG <| yj (i:=4) zad.nd (yX yO zbM (by rfl) T.b_tuple bE (zh (JE.bo (xV (N:=["_law_k","_law_pen_here","_law_room"]) (cix:=[none,some 1,some 3]) rfl ⟨rfl,by decide +kernel,rfl⟩ (wI xl <| yq rfl T.b_range (zh (JE.bo (wE zu <| xj T.q1 G1 hr (za (kv 1) (za zB zf)))) zo)) (fun _ _ _ _=>(wG zA <| zi (i:=0) (show (["_law_k","_law_pen_here","_law_room"]:List Str).Nodup by decide +kernel))) (fun _ _ _ _=>yx) (fun _ _ _ _=>(wE zu <| xj T.q15 G15 hr (za (kv 1) (za (kv 2) zf)))))) zo)))
   (zk (wS zG <| yj (i:=4) zad.nd (y8 zY yG (kb 4) (JE.bo (wE z8 <| xN (kb 4) zK (wO zy <| zL (JE.bo zB)))))))))
   (zk (yU aX rfl (wI xl <| yq rfl T.b_range (zh (JE.bo zB) zo)) (wG zA <| zi (i:=5) zad.nd) (ze (wS zG <| yj (i:=6) zad.nd (wE zu <| xj T.q1 G1 hr (za (kv 1) (za (z7 y9 zbX (by rfl) T.b_len bi (zh (kb 3) zo)) zf))))
   (zk (wS yK <| zan (JW.t (wW zeg <| zg9 (wT zD <| yV zfP zm3 (JE.bo (z7 y9 zbX (by rfl) T.b_len bi (zh (JE.bo (wE zu <| xj T.q12 G12 hr (za (kv 3) (za (wE zcz <| zi7 (JE.bo (wE zu <| xj T.q8 G8 hr (za (kv 4) (za (kv 6) zf)))) zK (wO zy <| zL (JE.bo zB))) zf)))) zo))) (JE.bo zB) (yt _)) (uY (.inl rfl) (wT zD <| yV zoi u_lt (JE.bo (z7 y9 zbX (by rfl) T.b_len bi (zh (JE.bo (wE zu <| xj T.q8 G8 hr (za (kv 4) (za (kv 6) zf)))) zo))) (JE.bo zB) (yt _))))) (zk (wS yK <| zan (wT x3 <| zay (wT zD <| zaz (JE.bo (wE zu <| xj T.q21 G21 hr (za (kv 1) (za (kv 3) (za (kv 4) (za (kv 6) zf)))))))) (zk (yi zfJ)) yT)) yT)))))))))
   (zk (yi zfJ))),fun p c ns hPn=>?_⟩
 subst hPn;have hP:IsP ⟨some (p,c,ns),J0⟩ p:=⟨c,ns,rfl⟩;refine zo5 ?_;walk_at "st";refine⟨⟨by decide,by decide⟩,ze3 (fun i ρ n=>i<=2/\n<=12000 * i/\∃ (v2 v3 v4 v5 v6:Option W),ρ=[none,some (.pen p),v2,v3,v4,v5,v6]) ⟨by lia,ai _,_,_,_,_,_,rfl⟩ ?_ ?_⟩;rotate_left
 ·rintro ρ n ⟨hi,hn,v2,v3,v4,v5,v6,rfl⟩;walk_at "st"
 rintro i ρ n hi ⟨_,hn,v2,v3,v4,v5,v6,rfl⟩ C B E hC _ _;have hi:i<2:=hi;walk_at "st";refine F_wide.i hP fun rm m1 hR hm1=>?_;walk_at "st";refine F_iswd.i ?_;rw[zj0 hR];walk_at "cf";refine F_noR.i hP hR fun ds m2 hds hdl hm2=>?_;walk_at "st";refine zaw ds (fun d=>W.d d) rfl (fun ρ=>∃u,ρ=[u]) (fun _=>.bl false) (ao hdl (by decide)) ⟨_,rfl⟩ ?_ ?_
 ·rintro d hd ρ2 ⟨u,rfl⟩ D dY;walk_at "st";refine F_iswd.i ?_;rw[hds d hd];exact dY ⟨_,rfl⟩
 walk_at "st";refine⟨ds.map fun _=>false,by rw[az];rfl,?_⟩;rw[zlI];walk_at "st";refine dc hP fun wy c0 c1=>?_;walk_at "st";refine' zrf (fun (bk:List Wi) (n1:Nat)=>zaO rm bk/\bk.length<=120/\n1<=m2+10100) _ (fun yn=>?_) ?_;rotate_left
 ·refine zas (fun h0=>?_) (fun h0=>?_)
  ·walk_at "st";refine F_plB.i hP hR fun bk m3 hB hl hm3=>?_;walk_at "st";rw[xh];have hB2:=hB.cut none (some 120)
   have hl2:(xp bk none (some 120)).length<=120:=by rw[show (120:Int)=((120:Nat):Int) from rfl,L3.uU,aQ];lia
   generalize xp bk none (some 120)=bk2 at hB2 hl2;exact yn bk2 m3 ⟨hB2,hl2,by lia⟩
  ·walk_at "st";refine dc hP fun k9 k0 k1=>?_;walk_at "st";refine⟨⟨by lia,by lia⟩,?_⟩;rw[um];refine zeU (List.range k9.toNat) (fun k:Nat=>W.d (.int (k:Int))) rfl (by rw[aE];exact ao (by lia:_<=100) (by decide)) (fun i ρ' n' acc=>n'<=m2+2+60 * i/\i<=9/\∃ (v:Option W) (bk:List Wi),ρ'=[v,some (.pen p),some (.d (stD rm))]/\acc=bk.map uJ/\zaO rm bk/\bk.length=i) ⟨by lia,by lia,none,[],rfl,rfl,(fun x hx=>by cases hx),rfl⟩ ?_ ?_
   ·rintro i k ρ' n' acc hk ⟨hn',hi,v,bk,rfl,rfl,hB,hl⟩ C hC;have hk1:=(af.mp hk).1;rw[aE] at hk1;walk_at "st";refine F_anyW.i hP hR fun x m3 hx hm3=>?_
    exact hC ⟨by lia,by lia,_,bk++[x],rfl,by rw[aM];rfl,fun y hy=>by
     rcases aN.mp hy with z | z
     ·exact hB y z
     ·rw[aC.mp z];exact hx,by rw[aD,hl];rfl⟩
   rintro ρ' n' acc ⟨hn',hi,v,bk,rfl,rfl,hB,hl⟩;rw[aE] at hn' hi hl;walk_at "st";rw[xh];refine⟨ao (show _<=1000 by rw[ab,ab];have:=xg bk none (some 2);lia) (by decide),?_⟩;rw[<- aM];walk_at "st";have hB2:=hB.app (hB.cut none (some 2))
   have hl2:(bk++xp bk none (some 2)).length<=120:=by rw[aD];have:=xg bk none (some 2);lia
   generalize bk++xp bk none (some 2)=bk2 at hB2 hl2;exact yn bk2 n' ⟨hB2,hl2,by lia⟩
 rintro bk n3 ⟨hB,hl,hn3⟩;have h16:=hR.few;have hpos:=hR.pos;refine⟨⟨by decide,by decide⟩,ze3 (fun k ρ n'=>k<=5/\n'<=n3+150 * k/\∃v5 v6:Option W,ρ=[none,some (.pen p),some (.d (.int (i:Int))),some (.d (stD rm)),some (.d (zaJ bk)),v5,v6]) ⟨by lia,by lia,_,_,rfl⟩ ?_ ?_⟩;rotate_left
 ·rintro ρ n' ⟨hk5,hn',v5,v6,rfl⟩;have hi:i<2:=hi;exact hC ⟨by lia,by lia,_,_,_,_,_,rfl⟩
 rintro k ρ n' hk ⟨hk5,hn',v5,v6,rfl⟩ C' B' E' hC' _ _;have hi:i<2:=hi;have hk:k<5:=hk;walk_at "st";rw[ab];refine dc hP fun b b0 b1=>?_
 have hlr:∀l:List Int,(∀z,z∈l↔uz bk b z)->∀z∈l,0<=z/\z<rm.length:=fun l h z hz=>by obtain⟨x,hx,_,q,hq,rfl⟩:=(h z).mp hz;have:=(hB x hx).giv.ok q hq;exact⟨this.1,this.2.1⟩
 walk_at "st";refine F_look.i hR hB fun l h1 h2=>?_;walk_at "st";rw[xh,show (4:Int)=((4:Nat):Int) from rfl,L3.uU];have hlN:(l.take 4).Nodup:=(h1.imp fun h=>by lia:l.Nodup).sublist (cG _ _);have hl4:(l.take 4).length<=4:=by rw[aQ];lia
 have ht:∀z∈l.take 4,0<=z/\z<rm.length:=fun z hz=>hlr l h2 z (aY hz);refine F_ctx.i hR hlN ht hl4 fun cs hc1 hc2=>?_;walk_at "st";rw[ab];refine zas (fun _=>?_) (fun _=>?_);rotate_left
 ·walk_at "st";exact hC' ⟨by lia,by lia,_,_,rfl⟩
 walk_at "st";refine F_look.i hR hB fun l2 h3 h4=>?_;walk_at "st";rw[ab];refine zas (fun h5=>?_) (fun _=>?_);rotate_left
 ·walk_at "st";exact hC' ⟨by lia,by lia,_,_,rfl⟩
 walk_at "st";refine F_boxR.i hP hR hB (by lia) b0 b1 (fun l5 h6 h7=>?_) fun m7 hm7=>?_
 ·rw[zcO h6 h3 fun z=>(h7 z).trans (h4 z).symm];lia
 walk_at "st";exact hC' ⟨by lia,by lia,_,_,rfl⟩
end
theorem Dm {K:PySem.W.Frag}{h:Heap}{mg:Str->Option Value}{x:Str}{st:Stmt}{ps:List Str}{f:Addr}{oc kV dc pm cd ct:Value}{od an:Option Addr}{sl:Array (Option Value)}(X:K.In h)(G:h.Ns mainGlobals mg)(a:PySem.W.nsIn K mainGlobals x=some (some (.ref f)))(l:K.lookup f=some ⟨oc,od,.func (PySem.W.fnOf x x (uA st) (ym st) (zd st) .none kV dc pm an cd ct),sl⟩)(c:PySem.W.codeIn K cd x=true)(k:PySem.W.keepIn K (.ref f)=true)(b:∀ (kV dc pm:Value) (an:Option Addr) (cd ct:Value) (us:List Value),us.length=ps.length->bindArgs (PySem.W.fnOf x x (uA st) (ym st) (zd st) .none kV dc pm an cd ct) ⟨us,[]⟩=pure (ps.zip us)):Dfn K mg x st ps f (PySem.W.fnOf x x (uA st) (ym st) (zd st) .none kV dc pm an cd ct):=⟨zkf l c k,(zkf l c k).binds b,PySem.W.mg_of X G a⟩
theorem Ym {K:PySem.W.Frag}{h:Heap}{mg:Str->Option Value}{x:Str}{i:Int}{u:Tok}(X:K.In h)(G:h.Ns mainGlobals mg)(a:PySem.W.nsIn K mainGlobals x=some (some (.int i u))):∃v,yo (.int i) v/\mg x=some v:=⟨_,⟨_,rfl⟩,PySem.W.mg_of X G a⟩
theorem fin {l:PySem.W.OpenLaw}{w:World}{K:PySem.W.Frag}{mg:Str->Option Value}{fa:Addr}{t:Ad}(hfa:mg "law" = some (.ref fa))(T:Txt K mg t)(b:∀ (s:Shared) (v:Value),BindsTo s t.d22 ⟨[v],[]⟩ [("_law_script",v)]):∃fd:FuncData,(∀ (s:Shared) (v:Value),BindsTo s fd ⟨[v],[]⟩ [("_law_script",v)])/\∀base:Heap,K.In base->base.Ns mainGlobals mg->FnOk l.prog w K mg base CX0 5 fa fd ["_law_script"] (zil K):=by have e:=hfa.symm.trans T.q22.m;cases e;exact⟨_,b,fun base _ _=>zn2 T⟩
theorem walk {l:PySem.W.OpenLaw}{q:Program}{loose:List Str}{XP:(Str->Option Value)->Heap->Prop}{YP:World->Heap->Prop}{d:DefRec}{K:Params->PySem.W.Frag}(hn:l.most=some 63)(hdf:d.params.defaults=[])
  (hY:∀ (w:World) (h:Heap),YP w h->(K w.params).In h)
  (F:∀ (w:World) (mg:Str->Option Value) (fa:Addr) (h:Heap),(K w.params).In h->h.Ns mainGlobals mg->mg d.name=some (.ref fa)->
   ∃fd:FuncData,(∀ (s:Shared) (u:Value),BindsTo s fd ⟨[u],[]⟩ [("_law_script",u)])/\∀base:Heap,(K w.params).In base->base.Ns mainGlobals mg->FnOk l.prog w (K w.params) mg base CX0 5 fa fd ["_law_script"] (zil (K w.params))) :
  PySem.W.WalkO q loose XP YP l.row.toRowW d [] (fun f vs=>PySem.call f vs):=
 L2.zmV (n:=63) (k:=5) (x := "_law_script") (CX:=fun _=>CX0) (sp:=fun w=>zil (K w.params)) hn (by decide) hdf ⟨rfl,by decide,by decide,rfl⟩ hY F (fun _ _ a ns hl _ hS=>⟨a,ns,rfl,hS,hl,fun _=>rfl⟩) fun _ _ _ _ _ z=>z
end Law
open PySem PySem.W PyProof.Rows
theorem PySem.W.Fast.te6692158174316449697:True:=.intro
set_option maxRecDepth 100000 in
set_option maxHeartbeats 0 in
theorem PySem.Challenge.cw_allelse_k93_looks_and_contexts_holds : PySem.Challenge.rw_allelse_k93_looks_and_contexts.Holds := by
 w_on;refine holds_law (by decide +kernel) fun _=>?_;k_head;(case hw=>w_witness2)
 k_fill
 refine Law.walk (l:=PySem.Challenge.rw_allelse_k93_looks_and_contexts) rfl rfl (fun w h Y=>PySem.W.kIn_of Y) ?F
 case F=>
  intro w mg fa h KX G hmg;refine' Law.fin (t:=⟨_,_,_,_,_,_,_,_,_,_,_,_,_,_,_,_,_,_,_,_,_,_,_,_,_,_,_,_,_,_,_,_,_,_,_,_,_,_,_,_,_,_,_,_,_,_⟩) hmg ⟨?D0,?D1,?D2,?D3,?D4,?D5,?D6,?D7,?D8,?D9,?D10,?D11,?D12,?D13,?D14,?D15,?D16,?D17,?D18,?D19,?D20,?D21,?D22,?z_sorted,?z_list,?z_tuple,?z_enumerate,?z_range,?z_isinstance,?z_int,?z_len,?z_bool,?z_abs,?z_all,?y_LEAST_WORTHS,?y_MOST_WORTHS,?y_MOST_WIDE_BOXES⟩ fun s v=>?b
  (case D0 | D1 | D2 | D3 | D4 | D5 | D6 | D7 | D8 | D9 | D10 | D11 | D12 | D13 | D14 | D15 | D16 | D17 | D18 | D19 | D20 | D21 | D22=>(dsimp only;refine' Law.Dm (by assumption) (by assumption) ?da ?dl ?dc ?dk ?db;(case da=>k_is);(case dl=>k_is);(case dc=>k_is);(case dk=>k_is);(case db=>(intro _ _ _ _ _ _ us hl;first | (obtain⟨_,e⟩:=L2.us_1 hl;subst e;rfl) | (obtain⟨_,_,e⟩:=L2.us_2 hl;subst e;rfl) | (obtain⟨_,_,_,e⟩:=L2.us_3 hl;subst e;rfl) | (obtain⟨_,_,_,_,e⟩:=L2.us_4 hl;subst e;rfl)))))
  (case z_sorted | z_list | z_tuple | z_enumerate | z_range | z_isinstance | z_int | z_len | z_bool | z_abs | z_all=>(refine' PySem.W.mg_none_of (by assumption) (by assumption) ?dz;(case dz=>k_is)))
  (case y_LEAST_WORTHS | y_MOST_WORTHS | y_MOST_WIDE_BOXES=>(refine' Law.Ym (by assumption) (by assumption) ?dz;(case dz=>k_is)))
  (case b=>exact .of_eq rfl)

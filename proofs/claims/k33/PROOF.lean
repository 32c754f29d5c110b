import PyProof.Rows.All
import Wide.All
import OpenK.AllK
import Wide.FinOn
import Lean
import PyProof.EqAt
import PyProof.EqKinds
import PyProof.TupleCall
import PySem.Challenge.RW_allelse_k33_hanging_by_betterings_alone
local macro_rules | `(tactic| walk_at "v") => `(tactic| (first | exact Or.inl rfl | exact Or.inr (Or.inl rfl) | exact Or.inr (Or.inr rfl)))
local macro_rules | `(tactic| walk_at "l") => `(tactic| (first | exact Or.inl rfl | exact Or.inr rfl | assumption))
local macro_rules | `(tactic| walk_at "f") => `(tactic| (exact ⟨rfl, rfl, rfl, by decide +kernel, rfl, by decide +kernel, by decide +kernel⟩))
local macro_rules | `(tactic| walk_at "c") => `(tactic| (exact ⟨rfl, by decide +kernel, rfl⟩))
set_option Elab.async false
set_option linter.all false
set_option maxRecDepth 100000
set_option maxHeartbeats 4000000
namespace L2
open PySem PySem.Spec PyProof.Rows
abbrev aa:=@wpAny_bind
abbrev ab:=@List.length_map
abbrev ae:=@List.getElem?_eq_some_iff
abbrev af:=@wpAny_pure
abbrev ah:=@Nat.le_refl
abbrev ai:=@List.length_append
abbrev aj:=@List.getElem?_eq_getElem
abbrev ak:=@List.mem_cons_self
abbrev am:=@List.map_map
abbrev ao:=@List.mem_cons_of_mem
abbrev aq:=@Heap.get?_push_of_some
abbrev ar:=@Nat.le_trans
abbrev au:=@List.mem_of_getElem?
abbrev aw:=@List.getElem?_map
abbrev ax:=@List.length_range
abbrev ay:=@List.getElem?_set_ne
abbrev az:=@List.map_append
abbrev aA:=@List.map_cons
abbrev aB:=@List.mem_singleton
abbrev aC:=@List.mem_map
abbrev aD:=@Heap.lt_size
abbrev aE:=@Option.map_eq_some_iff
abbrev aF:=@Heap.get?_push_size
abbrev aG:=@List.mem_append
abbrev aH:=@Bool.false_ne_true
abbrev aI:=@PassesOwn.never
abbrev aJ:=@Nat.zero_le
abbrev aK:=@List.mem_cons
abbrev aL:=@Int.toNat_natCast
abbrev aM:=@List.mem_range
abbrev aN:=@List.getElem?_set_self
abbrev aO:=@Nat.lt_of_lt_of_le
abbrev aP:=@Bool.false_eq_true
abbrev aQ:=@List.length_take
abbrev aR:=@PySem.boot_len
abbrev aS:=@wpAny_mono
abbrev aT:=@Array.length_toList
abbrev aU:=@Nat.ne_of_lt
abbrev aV:=@List.mem_append_right
abbrev aW:=@Nat.lt_of_le_of_lt
abbrev aX:=@decide_eq_false
abbrev aY:=@decide_eq_true
abbrev aZ:=@List.size_toArray
abbrev a6:=@Bool.and_eq_true
abbrev a8:=@List.length_cons
abbrev a9:=@List.mem_filter
abbrev ba:=@List.take_length
abbrev bc:=@List.all_eq_true
abbrev be:=@List.mem_append_left
abbrev bf:=@List.length_set
abbrev bg:=@PyProof.Rows.boot_tuple
abbrev bh:=@List.getElem?_append_left
abbrev bi:=@wpAny_call_entry
abbrev bj:=@List.getElem?_append_right
abbrev bm:=@List.eq_nil_of_length_eq_zero
abbrev bn:=@List.dropLast_concat_getLast
abbrev bp:=@wpAny_askSetting
abbrev bq:=@List.find?_cons
abbrev br:=@List.pairwise_map
abbrev bt:=@List.getD_eq_getElem?_getD
abbrev bu:=@wpAny_newObj_type
abbrev bv:=@wpAny_setState_of
abbrev bw:=@List.mem_iff_getElem
abbrev bz:=@wpAny_holding
abbrev bA:=@wpAny_standAt
abbrev bB:=@List.getElem?_cons_succ
abbrev bC:=@of_decide_eq_true
abbrev bD:=@PyProof.Rows.boot_list
abbrev bE:=@Option.some.inj
abbrev bF:=@Array.getElem?_eq_getElem
abbrev bG:=@Classical.byContradiction
abbrev bH:=@sizeLine_eq
abbrev bI:=@Heap.SameBut.update
abbrev bJ:=@List.map_congr_left
abbrev bK:=@List.append_assoc
abbrev bL:=@PySem.F.slot_dict_keyiterator_next
abbrev bM:=@Nat.lt_irrefl
abbrev bN:=@PySem.F.plainAttrs_list
abbrev bO:=@Array.getD_eq_getD_getElem?
abbrev bP:=@List.getElem_range
abbrev bQ:=@List.filter_append
abbrev bR:=@List.mem_of_mem_take
abbrev bS:=@List.filterMap_cons
abbrev bU:=@List.pairwise_iff_getElem
abbrev bV:=@Bool.eq_iff_iff
abbrev bW:=@List.contains_iff_mem
abbrev bX:=@Int.emod_lt_of_pos
abbrev bY:=@List.pairwise_cons
abbrev bZ:=@PyProof.Rows.boot_sorted
abbrev b4:=@List.getElem_inj
abbrev b7:=@wpAny_typeNameOfWhole_keyiter
abbrev b8:=@Nat.lt_trichotomy
abbrev b9:=@PyProof.Rows.callWith_type1
abbrev cb:=@List.take_of_length_le
abbrev ce:=@Array.getElem?_eq_some_iff
abbrev cg:=@List.getElem_mem
abbrev ci:=@List.not_mem_nil
abbrev cj:=@Nat.le_of_lt
abbrev ck:=@Heap.get?_update_self
abbrev cl:=@List.all_cons
abbrev cm:=@Obj.data_mapFields
abbrev cq:=@Nat.pow_le_pow_right
abbrev cr:=@wpAny_passesOwn
abbrev cu:=@List.nodup_cons
abbrev cv:=@Int.emod_nonneg
abbrev cw:=@Nat.not_lt_zero
abbrev cx:=@Nat.le_of_lt_succ
abbrev cy:=@wpAny_typeNameOf_keyiter
abbrev cz:=@PySem.mem_of_lookup
abbrev cA:=@List.any_cons
abbrev cB:=@List.replicate_succ
abbrev cC:=@List.pairwise_singleton
abbrev cD:=@Int.toNat_of_nonneg
abbrev cE:=@List.lookup_cons
abbrev cF:=@List.getElem_map
abbrev cG:=@wpAny_isInstance
abbrev cH:=@List.mem_flatMap
abbrev cI:=@Int.mul_le_mul_of_nonneg_left
abbrev cJ:=@List.mem_filterMap
abbrev cK:=@Int.natCast_nonneg
abbrev cL:=@List.take_append_drop
abbrev cN:=@wpAny_truthy_bool
abbrev cO:=@Bool.and_true
abbrev cP:=@List.reverse_cons
abbrev cQ:=@wpAny_attempt
abbrev cR:=@Array.getElem_toList
abbrev cS:=@Int.mul_le_mul
abbrev cT:=@wpAny_setField
abbrev cU:=@PySem.F.args_dict_keyiterator_next_1
abbrev cV:=@List.length_drop
abbrev cW:=@List.ext_getElem
abbrev cY:=@List.any_eq_true
abbrev cZ:=@PySem.F.entry_dict_keyiterator_next
abbrev c7:=@List.length_pos_iff
abbrev c8:=@List.filter_eq_self
abbrev c9:=@List.getElem?_take_of_lt
abbrev da:=@PySem.F.args_tuple_add_2
abbrev db:=@wpAny_typeOf
abbrev de:=@List.Pairwise.imp_of_mem
abbrev dg:=@List.append_nil
abbrev dh:=@wpAny_Call_Name_kw
abbrev di:=@PySem.F.entry_tuple_add
abbrev dj:=@codeAny_of_tree
abbrev dl:=@List.find?_eq_none
abbrev dn:=@PySem.F.slot_tuple_add
abbrev dq:=@List.take_sublist
abbrev dr:=@List.flatten_cons
abbrev du:=@List.ext_getElem?
abbrev dv:=@List.nodup_append
abbrev dw:=@List.getElem_take
abbrev dy:=@List.flatMap_cons
abbrev dz:=@Bool.and_false
abbrev dA:=@isSubtype_stop
abbrev dB:=@Nat.ne_of_gt
abbrev dC:=@codeAny_mono
abbrev dD:=@List.map_nil
abbrev dE:=@Obj.isFreed_of_fields
abbrev dF:=@PyProof.Rows.boot_abs
abbrev dG:=@List.nodup_range
abbrev dH:=@List.pairwise_append
abbrev dJ:=@wpAny_pyIter_keyiter
abbrev dL:=@Paired.length
abbrev dM:=@List.cons.inj
abbrev dO:=@List.Sublist.eq_of_length_le
abbrev dP:=@call_meets
abbrev dQ:=@wpAny_execs_nil
abbrev dR:=@Nat.le_succ
abbrev dS:=@eq_of_beq
abbrev dU:=@List.cons.injEq
abbrev dW:=@Heap.get?_update_ne
abbrev dX:=@wpAny_setEntries_of
abbrev dZ:=@F.slot_zip_next
abbrev ee:=@List.filter_sublist
abbrev eh:=@List.flatMap_append
abbrev ei:=@List.filterMap_map
abbrev el:=@codeAny_loop
abbrev en:=@Nat.add_sub_cancel
abbrev eo:=@Array.append_empty
abbrev er:=@Nat.succ_pos
abbrev eA:=@List.nodup_nil
abbrev eB:=@List.drop_zero
abbrev eC:=@Nat.mul_le_mul
abbrev eD:=@wpAny_fieldsOf
abbrev eE:=@Nat.mod_lt
abbrev eF:=@Nat.lt_succ_of_le
abbrev eG:=@Obj.cls_mapFields
abbrev eI:=@wpAny_pyIter_slot
abbrev eJ:=@wpAny_dictEntries
abbrev eK:=@wpAny_noted
abbrev eL:=@Int.lt_irrefl
abbrev eM:=@Bool.not_true
abbrev eO:=@wpAny_alloc
abbrev eP:=@noFill_tuple_add
abbrev eQ:=@wpAny_forIn_list
abbrev eR:=@Nat.sub_zero
abbrev eS:=@Nat.sub_self
abbrev eU:=@Nat.succ_mul
abbrev eV:=@typeIs_int
abbrev eW:=@wpAny_rule
abbrev Key:=Sum Int Str
def zfp:Key->Value->Bool
 | .inl k,v=>Value.isInt k v
 | .inr x,v=>Value.isStrOf x v
def keyH (w:World):Key->Int
 | .inl k=>hashInt k
 | .inr x=>hashStr w x
def z6:∀ {k:Key} {v:Value},zfp k v=true->(∃i t,k=Sum.inl i/\v=Value.int i t)\/(∃x t,k=Sum.inr x/\v=Value.str x t)
 | .inl i,v,h=>by obtain⟨t,e⟩:=Value.isInt_shape (k:=i) (v:=v) h;exact .inl ⟨i,t,rfl,e⟩
 | .inr x,v,h=>by obtain⟨t,e⟩:=Value.isStrOf_shape (x:=x) (v:=v) h;exact .inr ⟨x,t,rfl,e⟩
def zfq (i:Int)(t:Tok):zfp (.inl i) (.int i t)=true:=by simp[zfp,Value.isInt]
def zki (x:Str)(t:Tok):zfp (.inr x) (.str x t)=true:=by simp[zfp,Value.isStrOf]
def zr9 (a b:Int):decide ((Sum.inl a:Key)=Sum.inl b)=(a==b):=by grind
def zsc (a b:Str):decide ((Sum.inr a:Key)=Sum.inr b)=decide (a=b):=by grind
def zsa (a:Int)(b:Str):decide ((Sum.inl a:Key)=Sum.inr b)=false:=rfl
def zsb (a:Str)(b:Int):decide ((Sum.inr a:Key)=Sum.inl b)=false:=rfl
def zX (prog:Program)(w:World):PySem.KeyKind prog w Key where
 is:=zfp
 hash:=keyH w
 inj:=λv a b F D=>by
  rcases z6 F with ⟨i,t,rfl,rfl⟩ | ⟨x,t,rfl,rfl⟩
  ·rcases z6 D with ⟨j,u,rfl,e⟩ | ⟨y,u,rfl,e⟩
   ·injection e with q _;rw[q]
   ·exact nomatch e
  ·rcases z6 D with ⟨j,u,rfl,e⟩ | ⟨y,u,rfl,e⟩
   ·exact nomatch e
   ·injection e with q _;rw[q]
 byValue:=λk v h=>by rcases z6 h with ⟨i,t,rfl,rfl⟩ | ⟨x,t,rfl,rfl⟩ <;> rfl
 pyHash:=λB h=>by
  rcases z6 B with ⟨i,t,rfl,rfl⟩ | ⟨x,t,rfl,rfl⟩
  ·exact wpAny_pyHash_int h
  ·exact wpAny_pyHash_str h
 eqBool:=λI B h=>by
  rcases z6 I with ⟨i,t,rfl,rfl⟩ | ⟨x,t,rfl,rfl⟩
  ·rcases z6 B with ⟨j,u,rfl,rfl⟩ | ⟨y,u,rfl,rfl⟩
   ·rw[zr9] at h;exact wpAny_eqBool_int h
   ·rw[zsa] at h;exact SeqAt.EqAt.int_str i t y u _ _ _ _ h
  ·rcases z6 B with ⟨j,u,rfl,rfl⟩ | ⟨y,u,rfl,rfl⟩
   ·rw[zsb] at h;exact SeqAt.EqAt.str_int x t j u _ _ _ _ h
   ·rw[zsc] at h;exact wpAny_eqBool_str h
 «strs»:=λk x t v h=>by
  rcases z6 h with ⟨i,u,rfl,e⟩ | ⟨y,u,rfl,e⟩
  ·exact nomatch e
  ·injection e with q _;subst q;cases v <;> rfl
def ziu (prog:Program)(w:World)(k:Key)(v:Value):(zX prog w).is k v=zfp k v:=rfl
def zgG (prog:Program)(w:World)(i:Int)(t:Tok):(zX prog w).is (.inl i) (.int i t)=true:=zfq i t
def zgH (prog:Program)(w:World)(x:Str)(t:Tok):(zX prog w).is (.inr x) (.str x t)=true:=zki x t
inductive V where
 | non | bl (b:Bool) | int (i:Int) | str (x:Str) | byt (b:Array UInt8) | flt (b:UInt64) | ref (a:Addr) | ty (n:String)
 deriving DecidableEq
def y1:V->Value->Prop
 | .non,u=>u=Value.none
 | .bl b,u=>u=Value.bool b
 | .int i,u=>∃t,u=Value.int i t
 | .str x,u=>∃t,u=Value.str x t
 | .byt b,u=>∃t,u=Value.bytes b t
 | .flt b,u=>∃t,u=Value.float b t
 | .ref a,u=>u=Value.ref a
 | .ty n,u=>u=Value.type n
abbrev yb:List V->List Value->Prop:=Paired y1
def yb.length(r:yb xs q):xs.length=q.length:=dL r
def yb.get:∀ {xs:List V} {q:List Value} {i:Nat} {x:V},yb xs q->xs[i]?=some x->∃u,q[i]?=some u/\y1 x u
 | _,_,_,_,.nil,e=>by simp at e
 | _,_,0,_,.cons r _,e=>by simp_all
 | _,_,i+1,x,.cons _ t,e=>by
  obtain⟨u,h1,h2⟩:=yb.get (i:=i) (x:=x) t (by simpa using e)
  simp_all
def yb.set(r:y1 x u):∀ {xs:List V} {B:List Value} (i:Nat),yb xs B->yb (xs.set i x) (B.set i u)
 | _,_,_,.nil=>.nil
 | _,_,0,.cons _ t=>.cons r t
 | _,_,i+1,.cons q t=>.cons q (yb.set r i t)
def yb.append:∀ {xs ys:List V} {q B:List Value},yb xs q->yb ys B->yb (xs++ys) (q++B)
 | _,_,_,_,.nil,s=>s
 | _,_,_,_,.cons r t,s=>.cons r (yb.append t s)
def yb.take:∀ {xs:List V} {q:List Value} (n:Nat),yb xs q->yb (xs.take n) (q.take n)
 | _,_,0,_=>.nil
 | _,_,_+1,.nil=>.nil
 | _,_,n+1,.cons r t=>.cons r (yb.take n t)
def yb.drop:∀ {xs:List V} {q:List Value} (n:Nat),yb xs q->yb (xs.drop n) (q.drop n)
 | _,_,0,r=>r
 | _,_,_+1,.nil=>.nil
 | _,_,n+1,.cons _ t=>yb.drop n t
def zlS:Option V->Option Value->Prop
 | some v,some u=>y1 v u
 | none,none=>True
 | _,_=>False
def KV {κ:Type}:List (κ×V)->List (κ×Value)->Prop:=Paired λ(p:κ×V) (q:κ×Value)=>p.1=q.1/\y1 p.2 q.2
def kV:Key->V
 | .inl i=>.int i
 | .inr x=>.str x
inductive HO where
  | lst (xs:List V)
  | tup (xs:List V)
  | dK (kvs:List (Key×V)) | dT (kvs:List (List Key×V))
  | set (S:Int->Bool) (n:Nat)
  | ins (C dx:Addr) (fs:List (Str×V))
  | own (x:Addr)
  | xd (fs:List (Str×V))
  | met (f x:Addr)
  | rng (lo hi:Int)
  | frz (o:Obj) (u:HO)
  | tbl (ps:Array Value)
  | ext (φ:Heap->Prop)
abbrev Hp:=Addr->Option HO
def upd (H:Hp)(a:Addr)(o:HO):Hp:=λb=>if b=a then some o else H b
def zk:upd H a o a=some o:=by unfold upd;rw[if_pos rfl]
def zi(h:b≠a):upd H a o b=H b:=by unfold upd;rw[if_neg h]
def zkI {H:Hp}{a b:Addr}{o u:HO}(h:H a=some o)(h':H b=some u)(d:o≠u):a≠b:=by grind
def zd {H:Hp}{a b:Addr}{o:HO}(h:H a=some o)(h':H b=none):a≠b:=by grind
def zar (h:Heap)(a:Addr)(q:Array Value):Prop:=∃o,h.get? a=some o/\o.cls = .type "tuple" /\ (∃n,o.data = .seq q n)/\o.dict=none
def zar.tup(x:zar h a q):IsTup h a q:=let ⟨o,h1,h2,h3,_⟩:=x;⟨o,h1,h2,h3⟩
def zar.lt(x:zar h a q):a<h.objs.size:=x.tup.lt
def zar.new (h:Heap)(q:Array Value):zar (h.push { cls:=.type "tuple",data:=.seq q }) h.objs.size q:=⟨_,aF _ rfl,rfl,⟨_,rfl⟩,rfl⟩
section
variable (P:Program)(w:World)
def y0 (H:Hp)(h:Heap)(a:Addr):HO->Prop
 | .lst xs=>xs.length<=sizeLine/\∃ (its:List Value) (n:Nat),yb xs its/\h.get? a=some { cls:=.type "list",data:=.seq its.toArray n }
 | .tup xs=>xs.length<=sizeLine/\∃its:List Value,yb xs its/\zar h a its.toArray
 | .dK kvs=>kvs.length<=sizeLine/\(a==sysModules)=false/\∃vs,KV kvs vs/\h.DictOf (zX P w) a vs
 | .dT kvs=>kvs.length<=sizeLine/\(a==sysModules)=false/\∃xs:List (List Key×Addr×Value),
   Paired (λ(p:List Key×V) (q:List Key×Addr×Value)=>p.1=q.1/\H q.2.1=some (.tup (p.1.map kV))/\y1 p.2 q.2.2) kvs xs/\
   ∃o es D,h.get? a=some o/\o.ExactDict/\o.data = .dict es D/\es.toList=xs.map (entryOfKey (tupleKind (zX P w)))/\(xs.map (·.1)).Nodup
 | .set S n=>h.SetOf (intKind P w) a S n
 | .ins C dx fs=>H dx=some (.own a)/\fs.length<=1000/\dx≠a/\h.get? a=some (PySem.W.instObj C dx)/\
   ∃mA,h.Ns1 dx mA/\(∀f,zlS (fs.lookup f) (mA f))/\PySem.Within mA (fs.map (·.1))
 | .own _=>∃o,h.get? a=some o
 | .xd fs=>∃mA,h.Ns1 a mA/\∀f,zlS (fs.lookup f) (mA f)
 | .rng lo hi=>∃t u v,h.get? a=some { cls:=.type "range",data:=.fields #[.int lo t,.int hi u,.int 1 v] }
 | .frz o u=>h.get? a=some o/\y0 H h a u
 | .tbl ps=>h.get? a=some { cls:=.none,data:=.fields ps }
 | .met f x=>h.get? a=some (PySem.W.methodObj (.ref f) (.ref x))
 | .ext B=>B h/\(∃o,h.get? a=some o)/\∀h1 h2:Heap,B h1->(∀o,h1.get? a=some o->h2.get? a=some o)->B h2
def HOk (H:Hp)(h:Heap):Prop:=∀a o,H a=some o->y0 P w H h a o
end
section
variable {P:Program}{w:World}{H H':Hp}{h h':Heap}{a:Addr}{o:HO}
def y0.lt (x:y0 P w H h a o):a<h.objs.size:=by
 cases o with
 | lst xs=>obtain⟨_,_,_,_,e⟩:=x;exact aD e
 | tup xs=>obtain⟨_,_,_,p⟩:=x;exact p.lt
 | dK kvs=>obtain⟨_,_,_,_,o,_,_,e,_⟩:=x;exact aD e
 | dT kvs=>obtain⟨_,_,_,_,o,_,_,e,_⟩:=x;exact aD e
 | set S n=>obtain⟨o,_,_,_,e,_⟩:=x;exact aD e
 | ins C dx fs=>obtain⟨_,_,_,e,_⟩:=x;exact aD e
 | own y=>obtain⟨_,e⟩:=x;exact aD e
 | xd fs=>obtain⟨_,⟨_,_,_,e,_⟩,_⟩:=x;exact aD e
 | rng lo hi=>obtain⟨_,_,_,e⟩:=x;exact aD e
 | frz ob u=>obtain⟨e,_⟩:=x;exact aD e
 | tbl ps=>exact aD (show h.get? a=some _ from x)
 | met f y=>exact aD (show h.get? a=some _ from x)
 | ext q=>obtain⟨_,⟨_,e⟩,_⟩:=x;exact aD e
def Paired.mapP {α B:Type}{F G:α->B->Prop}:∀ {l₁:List α} {q:List B},Paired F l₁ q->(∀a b,F a b->G a b)->Paired G l₁ q
 | _,_,.nil,_=>.nil
 | _,_,.cons r t,f=>.cons (f _ _ r) (Paired.mapP t f)
def Paired.imp' {α B:Type}{F G:α->B->Prop}(f:∀a b,F a b->G a b){l₁:List α}{q:List B}(r:Paired F l₁ q):Paired G l₁ q:=Paired.mapP r f
def y0.stay (x:y0 P w H h a o)(k:∀b u,(b=a\/H b=some (.own a))->h.get? b=some u->h'.get? b=some u)
  (F:∀b,H b=some (.own a)->H' b=some (.own a)) (I:∀b xs,H b=some (.tup xs)->H' b=some (.tup xs)):y0 P w H' h' a o:=by
 induction o with
 | lst xs=>obtain⟨z,its,n,r,e⟩:=x;exact⟨z,its,n,r,k _ _ (.inl rfl) e⟩
 | tup xs=>obtain⟨z,its,r,ob,e,c⟩:=x;exact⟨z,its,r,ob,k _ _ (.inl rfl) e,c⟩
 | dK kvs=>obtain⟨z,y,vs,r,ob,es,B,e,c⟩:=x;exact⟨z,y,vs,r,ob,es,B,k _ _ (.inl rfl) e,c⟩
 | dT kvs=>
  obtain⟨z,y,xs,r,ob,es,B,e,c⟩:=x;exact⟨z,y,xs,Paired.mapP r λp q z=>⟨z.1,I _ _ z.2.1,z.2.2⟩,ob,es,B,k _ _ (.inl rfl) e,c⟩
 | set S n=>obtain⟨ob,es,B,t,e,c⟩:=x;exact⟨ob,es,B,t,k _ _ (.inl rfl) e,c⟩
 | ins C dx fs=>
  obtain⟨d,z,J,e,mA,⟨D,es,B,L,c⟩,r⟩:=x;exact⟨F _ d,z,J,k _ _ (.inl rfl) e,mA,⟨D,es,B,k _ _ (.inr d) L,c⟩,r⟩
 | own y=>obtain⟨ob,e⟩:=x;exact⟨ob,k _ _ (.inl rfl) e⟩
 | xd fs=>obtain⟨mA,⟨D,es,B,e,c⟩,r⟩:=x;exact⟨mA,⟨D,es,B,k _ _ (.inl rfl) e,c⟩,r⟩
 | rng lo hi=>obtain⟨t,u,v,e⟩:=x;exact⟨t,u,v,k _ _ (.inl rfl) e⟩
 | frz ob u O=>obtain⟨e,q⟩:=x;exact⟨k _ _ (.inl rfl) e,O q⟩
 | tbl ps=>
  have e:h.get? a=some { cls:=.none,data:=.fields ps }:=x;show h'.get? a=some { cls:=.none,data:=.fields ps };exact k a _ (.inl rfl) e
 | met f y=>
  have e:h.get? a=some (PySem.W.methodObj (.ref f) (.ref y)):=x;show h'.get? a=some (PySem.W.methodObj (.ref f) (.ref y));exact k a _ (.inl rfl) e
 | ext U=>obtain⟨p,⟨o,e⟩,st⟩:=x;exact⟨st _ _ p λo q=>k _ _ (.inl rfl) q,⟨o,k _ _ (.inl rfl) e⟩,st⟩
def HOk.lt (x:HOk P w H h)(e:H a=some o):a<h.objs.size:=(x a o e).lt
def HOk.fresh (x:HOk P w H h)(e:h.objs.size<=a):H a=none:=by
 cases q:H a with
 | none=>rfl
 | some u=>exact absurd (aO (x.lt q) e) (bM _)
def HOk.kept (x:HOk P w H h)(k:∀b u,h.get? b=some u->h'.get? b=some u):HOk P w H h':=λa o e=>
 (x a o e).stay (λb u _ q=>k b u q) (λ_ q=>q) λ_ _ q=>q
def HOk.laid (x:HOk P w H h)(k:∀b u,h.get? b=some u->h'.get? b=some u)(I:h.objs.size<=a)(B:y0 P w (upd H a o) h' a o):HOk P w (upd H a o) h':=λb u e=>by
 have D:=x.fresh I;by_cases F:b=a
 ·subst F;rw[zk] at e;cases e;exact B
 ·rw[zi F] at e;exact (x b u e).stay (λc v _ q=>k c v q) (λc q=>by rw[zi (zd q D)];exact q) λc xs q=>by rw[zi (zd q D)];exact q
end
def Rd (H:Hp)(a:Addr)(u:HO):Prop:=H a=some u\/∃o,H a=some (.frz o u)
def Rd.ok(r:Rd H a u)(x:HOk P w H h):y0 P w H h a u:=by
 rcases r with r | ⟨o,r⟩
 ·exact x a u r
 ·obtain⟨_,q⟩:=x a _ r;exact q
def Mut:Option HO->Prop
 | some (.lst _)=>True
 | some (.dK _)=>True
 | some (.dT _)=>True
 | some (.set _ _)=>True
 | some (.ins _ _ _)=>True
 | some (.ext _)=>True
 | _=>False
section
variable {P:Program}{w:World}{H:Hp}{h h':Heap}{x e:Addr}{o':HO}
def HOk.write (Y:HOk P w H h)(F:Mut (H x))(he:e=x\/H e=some (.own x))(k:∀b u,b≠e->h.get? b=some u->h'.get? b=some u)(I:∃u,h'.get? e=some u)
  (J:y0 P w (upd H x o') h' x o'):HOk P w (upd H x o') h':=λb u q=>by
 have B:∀c y,H c=some (.own y)->c≠x:=λc y r z=>by subst z;rw[r] at F;exact F
 have D:∀c xs,H c=some (.tup xs)->c≠x:=λc xs r z=>by subst z;rw[r] at F;exact F
 by_cases O:b=x
 ·subst O;rw[zk] at q;cases q;exact J
 ·rw[zi O] at q;by_cases L:b=e
  ·have U:H b=some (.own x):=by
    grind
   rw[q] at U;cases U;obtain⟨v,Z⟩:=I;exact⟨v,by rw[L];exact Z⟩
  ·refine (Y b u q).stay (λc v hc r=>k c v ?_ r) (λc r=>by rw[zi (B c b r)];exact r) λc xs r=>by rw[zi (D c xs r)];exact r
   grind
end
structure Un (fs ex:List Addr)(H H':Hp)(h h':Heap):Prop where
 keep:∀b o,h.get? b=some o->H b=none->b∉fs->b∉ex->h'.get? b=some o
 slot:∀b o,h.get? b=some o->H b=none->b∈fs->b∉ex->∃sl,h'.get? b=some { o with slots:=sl }
 free:∀b o,h.get? b=some o->H b=none->b∉ex->H' b=none
 there:∀b o,h.get? b=some o->b∉ex->∃o',h'.get? b=some o'
 tups:∀b xs,H b=some (.tup xs)->H' b=some (.tup xs)
 frzs:∀b o u,H b=some (.frz o u)->H' b=some (.frz o u)
 tbls:∀b ps,H b=some (.tbl ps)->∃more,H' b=some (.tbl (ps++more))
section
variable {fs fs' ex ex':List Addr}{H H1 H2:Hp}{h h1 h2 h':Heap}{a x e:Addr}{o:HO}
def Un.any(u:Un fs ex H H1 h h1)(q:h.get? b=some ob)(n:H b=none)(B:b∉ex):∃F,h1.get? b=some { ob with slots:=F }:=by
 by_cases D:b∈fs
 ·exact u.slot b ob q n D B
 ·exact⟨ob.slots,u.keep b ob q n D B⟩
def Un.kept (k:∀b u,h.get? b=some u->h'.get? b=some u):Un fs ex H H h h':=
 ⟨λb ob q _ _ _=>k b ob q,λb ob q _ _ _=>⟨ob.slots,k b ob q⟩,λ_ _ _ n _=>n,λb ob q _=>⟨ob,k b ob q⟩,λ_ _ q=>q,λ_ _ _ q=>q,λ_ ps q=>⟨#[],by rw[q];simp⟩⟩
def Un.refl:Un fs ex H H h h:=Un.kept λ_ _ q=>q
def Un.laid (k:∀b u,h.get? b=some u->h'.get? b=some u)(D:h.objs.size<=a)(B:H a=none):Un fs ex H (upd H a o) h h' where
 keep:=λb u q _ _ _=>k b u q
 slot:=λb u q _ _ _=>⟨u.slots,k b u q⟩
 free:=λb u q n _=>by rw[zi (aU (aO (aD q) D))];exact n
 there:=λb u q _=>⟨u,k b u q⟩
 tups:=λb xs q=>by rw[zi (zd q B)];exact q
 frzs:=λb u xs q=>by rw[zi (zd q B)];exact q
 tbls:=λb ps q=>⟨#[],by rw[zi (zd q B),q];simp⟩
def Un.write (B:Mut (H x))(L:e=x\/H e=some (.own x))(k:∀b u,b≠e->h.get? b=some u->h'.get? b=some u)(I:∃u,h'.get? e=some u):Un fs ex H (upd H x o) h h':=by
 have J:∀b,H b=none->b≠x:=λb n z=>by subst z;rw[n] at B;exact B
 have F:∀b,H b=none->b≠e:=λb n z=>by grind
 have D:∀b u,H b=some u->¬ Mut (some u)->b≠x:=λb u q nm z=>by subst z;rw[q] at B;exact nm B
 refine⟨λb u q n _ _=>k b u (F b n) q,λb u q n _ _=>⟨u.slots,k b u (F b n) q⟩,λb u q n _=>by rw[zi (J b n)];exact n,λb u q _=>?_,
  λb xs q=>by rw[zi (D b _ q λz=>z)];exact q,λb u xs q=>by rw[zi (D b _ q λz=>z)];exact q,λb ps q=>⟨#[],by rw[zi (D b _ q λz=>z),q];simp⟩⟩
 grind
end
def trk (h:Heap)(H:Hp):List Addr:=(List.range h.objs.size).filter λa=>(H a).isSome
def zmv (h:Heap)(H:Hp):Heap:=PySem.W.hideAll h (trk h H)
def zjT (h:Heap)(H:Hp):(zmv h H).objs.size=h.objs.size:=PySem.W.hideAll_size _ _
def zmw(e:h.get? b=some o)(n:H b=none):(zmv h H).get? b=some o:=
 PySem.W.hideAll_get _ e λB=>by
  have q:(H b).isSome=true:=(a9.mp B).2
  simp_all
def zpH(e:(zmv h H).get? b=some o):h.get? b=some o/\H b=none:=by
 have B:h.get? b=some o:=PySem.W.of_hideAll (trk h H) e;refine⟨B,?_⟩
 cases q:H b with
 | none=>rfl
 | some x=>
  have D:b∈trk h H:=a9.mpr ⟨aM.mpr (aD B),by simp[q]⟩;have z:(zmv h H).get? b=none:=PySem.W.hideAll_none (trk h H) D
  grind
def zoB (g h:Heap)(L:Addr):List (Addr×Obj):=(List.range h.objs.size).filterMap λa=>if a=L\/(g.get? a).isSome=true then none else (h.get? a).map λo=>(a,o)
def yf (g h:Heap)(L d:Addr):List (Addr×Obj):=(zoB g h L).filter λp=>decide (p.1≠d)
structure Mod (K:PySem.W.Frag)(mg:Str->Option Value)(base:Heap):Prop where
 kin:K.In base
 glob:base.Ns mainGlobals mg
 blt:∃mb,base.Ns builtinsNs mb/\∀x:Str,x ≠ "__name__" -> mb x=bootBuiltins x
 nolimit:base.NoLimit
structure Cx where
 prog:Program
 w:World
 K:PySem.W.Frag
 mg:Str->Option Value
 base:Heap
 A:Around
 N:List Str
 s₀:Shared
 H₀:Hp
 env:Env
 outer:List Env
 stack:List Env
 ex:List Addr
 fn:Str->Bool
 calm:Bool
 pn:List (Addr×Obj)
 xe:Value->Shared->Prop
def frs (l:List Env):List Addr:=l.filterMap (·.frame)
abbrev Cx.fs (X:Cx):List Addr:=frs X.outer
def Vis (q:Scope)(x:Str):Prop:=q.names.lookup x=some .local\/q.names.lookup x=some .cell\/q.names.lookup x=some .free
def Loc (q:Scope)(x:Str):Prop:=q.names.lookup x=some .local\/q.names.lookup x=some .cell
def Look (env:Env)(h:Heap)(m:Str->Option Value)(x:Str)(u:Value):Prop:=
 (env.kindOf x=some .local/\m x=some u)\/((env.kindOf x=some .cell\/env.kindOf x=some .free)/\∃c,env.cells.lookup x=some c/\h.IsCell c (some u))
structure Cx.Ok (X:Cx):Prop where
 mod:Mod X.K X.mg X.base
 kind:X.env.scope.kind = .function
 glob:X.env.globals=mainGlobals
 blt:X.env.builtins=builtinsNs
 above:X.s₀.heap.objs.size<=X.env.locals
 inj:∀x y c,X.env.cells.lookup x=some c->X.env.cells.lookup y=some c->x=y
 has:∀x,(X.env.kindOf x=some .cell\/X.env.kindOf x=some .free)->∃c,X.env.cells.lookup x=some c
 cab:∀x c,X.fn x=true->X.env.cells.lookup x=some c->X.s₀.heap.objs.size<=c
 hd:X.calm=true->X.A.handled=none
 frames:X.A.frames=some X.stack
 stk:X.stack=X.outer\/(X.stack=X.env::X.outer/\X.env.frame=some X.env.locals)
 exf:∀b∈X.ex,b≠X.env.locals/\∀x c,X.env.cells.lookup x=some c->c≠b
 bs:∀b o,X.base.get? b=some o->X.s₀.heap.get? b=some o/\X.H₀ b=none
 bsz:X.base.objs.size<=X.s₀.heap.objs.size
 noex:∀b o,X.base.get? b=some o->b∉X.ex
 exfs:∀b∈X.ex,b∉X.fs
 funs:X.s₀.heap.FunFrames X.base X.outer
 frf:∀b∈X.fs,X.H₀ b=none
structure Inv (X:Cx)(pins:List (Addr×Obj))(σ:List (Option V))(H:Hp)(s:Shared):Prop where
 ok:X.Ok
 os:s.os=X.s₀.os
 bare:AllBare s.gens
 base:Un X.fs X.ex X.H₀ H X.s₀.heap s.heap
 loc:∃m,s.heap.Ns X.env.locals m/\∀ (i:Nat) (x:Str) (v:V),X.N[i]?=some x->σ[i]?=some (some v)->Vis X.env.scope x->∃u,y1 v u/\Look X.env s.heap m x u
 cell:∀x c,X.env.cells.lookup x=some c->∃v,s.heap.IsCell c v
 free:H X.env.locals=none
 freeC:∀x c,X.env.cells.lookup x=some c->H c=none
 pin:∀p∈X.pn++pins,s.heap.get? p.1=some p.2/\H p.1=none/\p.1≠X.env.locals/\p.1∉X.fs/\∀v,p.2.data≠.cell v
 hok:HOk X.prog X.w H s.heap
 len:σ.length=X.N.length
section
variable {X:Cx}{pins:List (Addr×Obj)}{σ:List (Option V)}{H H':Hp}{s:Shared}{h':Heap}
def Cx.Ok.nofr(q:X.Ok)(e:X.base.get? b=some o):b∉X.fs:=λB=>by
 have:=(q.funs.mem B).1
 grind
def Inv.bs (I:Inv X pins σ H s):∀b o,X.base.get? b=some o->s.heap.get? b=some o/\H b=none:=λb o e=>
 ⟨I.base.keep b o (I.ok.bs b o e).1 (I.ok.bs b o e).2 (I.ok.nofr e) (I.ok.noex b o e),I.base.free b o (I.ok.bs b o e).1 (I.ok.bs b o e).2 (I.ok.noex b o e)⟩
def Inv.bk (I:Inv X pins σ H s):∀b o,X.base.get? b=some o->s.heap.get? b=some o:=λb o e=>(I.bs b o e).1
def Inv.mod (I:Inv X pins σ H s):Mod X.K X.mg X.base:=I.ok.mod
def Inv.kIn (I:Inv X pins σ H s):X.K.In s.heap:=I.ok.mod.kin.keeps I.bk
def Inv.lt (I:Inv X pins σ H s):X.env.locals<s.heap.objs.size:=let ⟨_,hn,_⟩:=I.loc;hn.lt
def Inv.sz (I:Inv X pins σ H s):X.s₀.heap.objs.size<=s.heap.objs.size:=ar I.ok.above (cj I.lt)
def Inv.nofs (I:Inv X pins σ H s){a:Addr}(h:s.heap.objs.size<=a):a∉X.fs:=λq=>by obtain⟨_,o,B,_⟩:=I.ok.funs.mem q;exact absurd (aO (aD B) (ar I.sz h)) (bM _)
def Inv.cne (I:Inv X pins σ H s):∀x c,X.env.cells.lookup x=some c->c≠X.env.locals:=λx c e z=>by
 obtain⟨v,o,D,F⟩:=I.cell x c e;obtain⟨m,⟨o',es,J,q,B,_⟩,_⟩:=I.loc
 grind
def Inv.funs (I:Inv X pins σ H s):s.heap.FunFrames X.base X.outer:=by
 have all:∀ (l:List Env),(∀b∈frs l,b∈X.fs)->X.s₀.heap.FunFrames X.base l->s.heap.FunFrames X.base l:=by
  intro l
  induction l with
  | nil=>intro _ _;trivial
  | cons env r J=>
   intro F O;obtain⟨U,⟨L,o,q,Y,Z,hd⟩,hr⟩:=O;have B:L∈X.fs:=F L (by unfold frs;rw[bS,q];exact ak);obtain⟨sl,e⟩:=I.base.slot L o Z (I.ok.frf L B) B λz=>I.ok.exfs L z B;exact⟨U,⟨L,_,q,Y,e,hd⟩,J (λb D=>F b (by unfold frs;rw[bS,q];exact ao _ D)) hr⟩
 exact all X.outer (λ_ D=>D) I.ok.funs
def Inv.stack (I:Inv X pins σ H s):s.heap.FunFrames X.base X.stack:=by
 rcases I.ok.stk with e | ⟨e,hf⟩
 ·rw[e];exact I.funs
 ·rw[e];obtain⟨m,q,_⟩:=I.loc;refine .cons (by rw[I.ok.kind];decide) hf q ?_ I.funs;exact Heap.get?_none_of_le (ar I.ok.bsz I.ok.above)
def Inv.stkSub (I:Inv X pins σ H s):∀b∈frs X.stack,b∈X.env.locals::X.fs:=λb q=>by
 rcases I.ok.stk with e | ⟨e,hf⟩
 ·grind
 ·rw[e] at q;unfold frs at q;rw[bS,hf] at q;exact q
def Inv.stkFree (I:Inv X pins σ H s):∀b∈frs X.stack,H b=none:=λb q=>by
 rcases aK.mp (I.stkSub b q) with e | q
 ·rw[e];exact I.free
 ·obtain⟨_,o,B,_⟩:=I.ok.funs.mem q;exact I.base.free b o B (I.ok.frf b q) λz=>I.ok.exfs b z q
def Inv.step {g':Array GenState}{t':Nat}{d':Drawn}{ch:List Addr}(I:Inv X pins σ H s)
  (D:∀b∈ch,(b∈X.ex\/X.s₀.heap.objs.size<=b)/\b≠X.env.locals/\(∀x c,X.env.cells.lookup x=some c->c≠b)/\∀p∈X.pn++pins,p.1≠b)
  (L:∀b o,b≠X.env.locals->b∉X.fs->b∉ch->s.heap.get? b=some o->H b=none->h'.get? b=some o)
  (O:∀b o,b≠X.env.locals->b∈X.fs->b∉ch->s.heap.get? b=some o->H b=none->∃sl,h'.get? b=some { o with slots:=sl }) (F:∀b o,b∉ch->s.heap.get? b=some o->H b=none->H' b=none)
  (al:∀b o,b∉ch->s.heap.get? b=some o->∃o',h'.get? b=some o')
  (ac:∀b xs,H b=some (.tup xs)->H' b=some (.tup xs)) (ad:∀b o u,H b=some (.frz o u)->H' b=some (.frz o u)) (as:∀b ps,H b=some (.tbl ps)->∃more,H' b=some (.tbl (ps++more)))
  (ns:∀m,s.heap.Ns X.env.locals m->h'.Ns X.env.locals m) (an:HOk X.prog X.w H' h') (hg:AllBare g') :
  Inv X pins σ H' { s with heap:=h',gens:=g',drawn:=d',toks:=t' }:=by
 have ag:∀b o,X.s₀.heap.get? b=some o->b≠X.env.locals:=λb o e=>aU (aO (aD e) I.ok.above)
 have U:∀b o,X.s₀.heap.get? b=some o->b∉X.ex->b∉ch:=λb o e B Y=>by
  rcases (D b Y).1 with z | z
  ·exact B z
  ·exact absurd (aO (aD e) z) (bM _)
 have J:∀x c,X.env.cells.lookup x=some c->∀v,s.heap.IsCell c v->h'.IsCell c v:=by
  rintro x c e v ⟨o,ho,hd⟩;have Z:c∉ch:=λz=>(D c z).2.2.1 x c e rfl;by_cases hc:c∈X.fs
  ·obtain⟨sl,q⟩:=O c o (I.cne x c e) hc Z ho (I.freeC x c e);exact⟨_,q,hd⟩
  ·exact⟨o,L c o (I.cne x c e) hc Z ho (I.freeC x c e),hd⟩
 refine⟨I.ok,I.os,hg,⟨λb o e n Y B=>?_,λb o e n Y B=>?_,λb o e n B=>?_,λb o e B=>?_,λb xs e=>ac b xs (I.base.tups b xs e),λb o xs e=>ad b o xs (I.base.frzs b o xs e),λb ps e=>?_⟩,?_,λx c e=>?_,?_,λx c e=>?_,λp hp=>?_,an,I.len⟩
 ·exact L b o (ag b o e) Y (U b o e B) (I.base.keep b o e n Y B) (I.base.free b o e n B)
 ·obtain⟨sl,e1⟩:=I.base.slot b o e n Y B;obtain⟨ap,e2⟩:=O b _ (ag b o e) Y (U b o e B) e1 (I.base.free b o e n B);exact⟨ap,e2⟩
 ·obtain⟨o',e1⟩:=I.base.there b o e B;exact F b o' (U b o e B) e1 (I.base.free b o e n B)
 ·obtain⟨o',e1⟩:=I.base.there b o e B
  simp_all
 ·obtain⟨m1,e1⟩:=I.base.tbls b ps e
  grind
 ·obtain⟨m,hn,hl⟩:=I.loc;refine⟨m,ns m hn,λi x v e1 e2 e3=>?_⟩;obtain⟨u,r,l⟩:=hl i x v e1 e2 e3;refine⟨u,r,?_⟩;rcases l with l | ⟨k,c,e,z⟩
  ·exact .inl l
  ·exact .inr ⟨k,c,e,J x c e _ z⟩
 ·obtain⟨v,z⟩:=I.cell x c e;exact⟨v,J x c e v z⟩
 ·obtain⟨m,⟨o,_,_,ho,_⟩,_⟩:=I.loc;exact F _ o (λz=>(D _ z).2.1 rfl) ho I.free
 ·obtain⟨v,o,ho,hd⟩:=I.cell x c e;exact F c o (λz=>(D c z).2.2.1 x c e rfl) ho (I.freeC x c e)
 ·obtain⟨e,n,ne,nf,d⟩:=I.pin p hp;have Z:p.1∉ch:=λz=>(D p.1 z).2.2.2 p hp rfl
  simp_all
def Inv.un(I:Inv X pins σ H s)(u:Un X.fs [] H H' s.heap h')(B:HOk X.prog X.w H' h'):Inv X pins σ H' { s with heap:=h',toks:=t' }:=by
 obtain⟨m,⟨o,es,Y,J,r⟩,_⟩:=id I.loc;obtain⟨Z,L⟩:=u.any J I.free (by simp)
 exact I.step (g':=s.gens) (d':=s.drawn) (ch:=[]) (λ_ z=>nomatch z) (λb o _ D _ e n=>u.keep b o e n D (by simp)) (λb o _ D _ e n=>u.slot b o e n D (by simp)) (λb o _ e n=>u.free b o e n (by simp)) (λb o _ e=>u.there b o e (by simp)) u.tups u.frzs u.tbls (λm' O=>by obtain⟨o',es',F,q,U⟩:=O;rw[J] at q;cases q;exact⟨_,es',F,L,U⟩) B I.bare
def Inv.call(I:Inv X pins σ H s)(u:Un (frs X.stack) ch H H' s.heap h')(F:HOk X.prog X.w H' h')(U:AllBare g')(B:∀b∈ch,(b∈X.ex\/X.s₀.heap.objs.size<=b)/\b≠X.env.locals/\(∀x c,X.env.cells.lookup x=some c->c≠b)/\∀p∈X.pn++pins,p.1≠b) :
  Inv X pins σ H' { s with heap:=h',gens:=g',drawn:=d',toks:=t' }:=by
 obtain⟨m,⟨o,es,ep,O,r⟩,_⟩:=id I.loc;obtain⟨sl,J⟩:=u.any O I.free λz=>(B _ z).2.1 rfl
 exact I.step (ch:=ch) B (λb o J Y q e n=>u.keep b o e n (λz=>(aK.mp (I.stkSub b z)).elim J Y) q) (λb o _ _ q e n=>u.any e n q) (λb o q e n=>u.free b o e n q) (λb o q e=>u.there b o e q) u.tups u.frzs u.tbls (λm' Z=>by obtain⟨o',es',L,D,r'⟩:=Z;rw[O] at D;cases D;exact⟨_,es',L,J,r'⟩) F U
def Inv.turned(I:Inv X pins σ H s)(k:∀b o,b≠B->s.heap.get? b=some o->h'.get? b=some o)(J:H B=none)(F:B≠X.env.locals)(h1:B∈X.ex\/X.s₀.heap.objs.size<=B)(h2:∀x c,X.env.cells.lookup x=some c->c≠B)(L:∀p∈X.pn++pins,p.1≠B):Inv X pins σ H { s with heap:=h',toks:=t' }:=by
 have O:∀b u,H b=some u->b≠B:=λb u e z=>by rw[z,J] at e;cases e
 refine I.step (g':=s.gens) (d':=s.drawn) (ch:=[B]) (λb U=>?_) (λb o _ _ D e _=>k b o (λz=>D (by simp[z])) e) (λb o _ _ D e _=>⟨o.slots,k b o (λz=>D (by simp[z])) e⟩) (λ_ _ _ _ n=>n)
  (λb o D e=>⟨o,k b o (λz=>D (by simp[z])) e⟩) (λ_ _ e=>e) (λ_ _ _ e=>e) (λb ps e=>⟨#[],by rw[e];simp⟩) (λm Y=>?_) (λb u e=>?_) I.bare
 ·have e:b=B:=by simpa using U
  subst e;exact⟨h1,F,h2,L⟩
 ·obtain⟨o,es,Z,ho,r⟩:=Y;exact⟨o,es,Z,k _ o (Ne.symm F) ho,r⟩
 ·refine (I.hok b u e).stay (λc v D q=>k c v ?_ q) (λ_ q=>q) λ_ _ q=>q
  grind
def Inv.tok (I:Inv X pins σ H s)(t:Nat):Inv X pins σ H { s with toks:=t }:=I.un (h':=s.heap) (t':=t) Un.refl I.hok
def Inv.kept(I:Inv X pins σ H s)(k:∀b u,s.heap.get? b=some u->h'.get? b=some u):Inv X pins σ H { s with heap:=h',toks:=t' }:=I.un (Un.kept k) (I.hok.kept k)
def Inv.laid{a:Addr}(I:Inv X pins σ H s)(k:∀b u,s.heap.get? b=some u->h'.get? b=some u)(q:s.heap.objs.size<=a)(B:y0 X.prog X.w (upd H a o) h' a o) :
  Inv X pins σ (upd H a o) { s with heap:=h',toks:=t' }:=I.un (Un.laid k q (I.hok.fresh q)) (I.hok.laid k q B)
def Inv.write(I:Inv X pins σ H s)(D:Mut (H x))(F:e=x\/H e=some (.own x))(k:∀b u,b≠e->s.heap.get? b=some u->h'.get? b=some u)(q:∃u,h'.get? e=some u)(B:y0 X.prog X.w (upd H x o) h' x o):Inv X pins σ (upd H x o) { s with heap:=h',toks:=t' }:=I.un (Un.write D F k q) (I.hok.write D F k q B)
def Inv.pins_of(I:Inv X pins σ H s)(h:∀p∈q,s.heap.get? p.1=some p.2/\H p.1=none/\p.1≠X.env.locals/\p.1∉X.fs/\∀v,p.2.data≠.cell v):Inv X q σ H s:=
 ⟨I.ok,I.os,I.bare,I.base,I.loc,I.cell,I.free,I.freeC,λp B=>(aG.mp B).elim (λz=>I.pin p (be _ z)) (h p),I.hok,I.len⟩
def zhJ {N:List Str}(q:N.Nodup){i j:Nat}{x:Str}(a:N[i]?=some x)(b:N[j]?=some x):i=j:=by obtain⟨h1,B⟩:=ae.mp a;obtain⟨h2,D⟩:=ae.mp b;exact (b4 q).mp (B.trans D.symm)
def zfX(I:Inv X pins σ H s)(hN:X.N.Nodup)(hi:X.N[i]?=some x)(J:Loc X.env.scope x)(r:y1 v u)(h:∀s',Inv X pins (σ.set i (some v)) H s'->(∃a,Heap.SameBut a s.heap s'.heap/\(a=X.env.locals\/X.env.cells.lookup x=some a))->Q () s')(hf:X.fn x=true\/X.env.scope.names.lookup x=some .local:=by walk_at "l"):wpAny M A (storeName X.env x u) Q E s:=by
 obtain⟨m,hn,hl⟩:=id I.loc;have ad:(X.env.scope.kind==.class || (X.env.scope.kind==.module&&X.env.locals != X.env.globals))=false:=by rw[I.ok.kind];rfl
 have U:i<σ.length:=by rw[I.len];exact (ae.mp hi).1
 have Y:=I.cne
 have D:∀ {a:Addr} {h':Heap},(∃o,s.heap.get? a=some o/\H a=none)->Heap.SameBut a s.heap h'->HOk X.prog X.w H h':=λ{a h'} ha B b ob e=>by
  obtain⟨_,_,an⟩:=ha;refine (I.hok b ob e).stay (λc w' L q=>(B.2 c ?_).trans q) (λ_ q=>q) λ_ _ q=>q
  grind
 rcases J with hk | hk
 ·refine wpAny_storeName_local hk hn (λh' ap B=>?_) ad;obtain⟨oL,_,_,as,_⟩:=id hn;refine h _ ⟨I.ok,I.os,I.bare,⟨λb o e n Z J=>?_,λb o e n Z J=>?_,I.base.free,λb o e J=>?_,I.base.tups,I.base.frzs,I.base.tbls⟩,⟨_,ap,λj y v' F O e3=>?_⟩,λy c e=>?_,I.free,I.freeC,λp hp=>?_,D ⟨oL,as,I.free⟩ B,by simpa using I.len⟩ ⟨_,B,.inl rfl⟩
  ·exact (B.2 b (aU (aO (aD e) I.ok.above))).trans (I.base.keep b o e n Z J)
  ·obtain⟨sl,F⟩:=I.base.slot b o e n Z J;exact⟨sl,(B.2 b (aU (aO (aD e) I.ok.above))).trans F⟩
  ·obtain⟨o',F⟩:=I.base.there b o e J;exact⟨o',(B.2 b (aU (aO (aD e) I.ok.above))).trans F⟩
  ·by_cases hj:j=i
   ·subst hj;rw[hi] at F;cases F;rw[aN U] at O;cases O;exact⟨u,r,.inl ⟨hk,by simp⟩⟩
   ·rw[ay (Ne.symm hj)] at O;obtain⟨u',r',q⟩:=hl j y v' F O e3;refine⟨u',r',?_⟩;rcases q with ⟨k,e⟩ | ⟨k,c,e,z⟩
    ·refine .inl ⟨k,?_⟩;have:y≠x:=λe=>hj (zhJ hN F (e ▸ hi));simp[this,e]
    ·exact .inr ⟨k,c,e,z.sameBut B (Y y c e)⟩
  ·obtain⟨w',z⟩:=I.cell y c e;exact⟨w',z.sameBut B (Y y c e)⟩
  ·obtain⟨e,n,ne,nf,d⟩:=I.pin p hp;exact⟨(B.2 p.1 ne).trans e,n,ne,nf,d⟩
 ·have ac:X.fn x=true:=by
   grind
  obtain⟨c,L⟩:=I.ok.has x (.inl hk);obtain⟨w',z⟩:=I.cell x c L;refine wpAny_storeName_cell I.ok.kind hk L z (λh' ag B=>?_);obtain⟨oc,av,a0⟩:=id z;refine h { s with heap:=h' } ⟨I.ok,I.os,I.bare,⟨λb o e n Z J=>?_,λb o e n Z J=>?_,I.base.free,λb o e J=>?_,I.base.tups,I.base.frzs,I.base.tbls⟩,⟨m,hn.sameBut B (Ne.symm (Y x c L)),λj y v' F O e3=>?_⟩,λy c' e=>?_,I.free,I.freeC,λp hp=>?_,D ⟨oc,av,I.freeC x c L⟩ B,by simpa using I.len⟩ ⟨c,B,.inr L⟩
  ·exact (B.2 b (aU (aO (aD e) (I.ok.cab x c ac L)))).trans (I.base.keep b o e n Z J)
  ·obtain⟨sl,F⟩:=I.base.slot b o e n Z J;exact⟨sl,(B.2 b (aU (aO (aD e) (I.ok.cab x c ac L)))).trans F⟩
  ·obtain⟨o',F⟩:=I.base.there b o e J;exact⟨o',(B.2 b (aU (aO (aD e) (I.ok.cab x c ac L)))).trans F⟩
  ·by_cases hj:j=i
   ·subst hj;rw[hi] at F;cases F;rw[aN U] at O;cases O;exact⟨u,r,.inr ⟨.inl hk,c,L,ag⟩⟩
   ·rw[ay (Ne.symm hj)] at O;obtain⟨u',r',q⟩:=hl j y v' F O e3;refine⟨u',r',?_⟩;rcases q with q | ⟨k,c',e,z'⟩
    ·exact .inl q
    ·refine .inr ⟨k,c',e,z'.sameBut B ?_⟩;rintro rfl;exact hj (zhJ hN F (I.ok.inj _ _ _ e L ▸ hi))
  ·by_cases al:c'=c
   ·subst al;exact⟨_,ag⟩
   ·obtain⟨w2,z2⟩:=I.cell y c' e;exact⟨w2,z2.sameBut B al⟩
  ·obtain⟨e,n,ne,nf,d⟩:=I.pin p hp;refine⟨(B.2 p.1 ?_).trans e,n,ne,nf,d⟩;intro q
   simp_all
def zh4(I:Inv X pins σ H s)(q:X.N.Nodup)(hi:X.N[i]?=some x)(B:Loc X.env.scope x)(r:y1 v u)(h:∀s',Inv X pins (σ.set i (some v)) H s'->Q () s')(D:X.fn x=true\/X.env.scope.names.lookup x=some .local:=by walk_at "l"):wpAny M A (storeName X.env x u) Q E s:=
 zfX I q hi B r (λs' I' _=>h s' I') D
def Inv.call'(I:Inv X pins σ H s)(D:s'.os=s.os)(u:Un (frs X.stack) ch H H' s.heap s'.heap)(q:HOk X.prog X.w H' s'.heap)(F:AllBare s'.gens)(B:∀b∈ch,(b∈X.ex\/X.s₀.heap.objs.size<=b)/\b≠X.env.locals/\(∀x c,X.env.cells.lookup x=some c->c≠b)/\∀p∈X.pn++pins,p.1≠b):Inv X pins σ H' s':=by
 obtain⟨h',g',d',t',o'⟩:=s';have e:o'=s.os:=D;subst e;exact I.call (g':=g') (t':=t') (d':=d') u q F B
end
abbrev XK:=Value->Option Addr->Hp->Prop
abbrev St:=List (Option V)
abbrev VK:=V->Hp->Prop
abbrev TE:=St->Hp->VK->Prop
abbrev TT:=St->Hp->(Bool->Hp->Prop)->Prop
abbrev TA:=St->Hp->(List V->Hp->Prop)->Prop
structure Ends where
 nx:St->Hp->Prop
 rt:VK
 bk:St->Hp->Prop:=λ_ _=>False
 ct:St->Hp->Prop:=λ_ _=>False
abbrev TS:=Ends->St->Hp->Prop
def EP (X:Cx)(pins:List (Addr×Obj))(σ:St)(Q:VK)(u:Value)(s':Shared):Prop:=∃v H',Inv X pins σ H' s'/\y1 v u/\Q v H'
def TP (X:Cx)(pins:List (Addr×Obj))(σ:St)(Q:Bool->Hp->Prop)(b:Bool)(s':Shared):Prop:=∃H',Inv X pins σ H' s'/\Q b H'
def AP (X:Cx)(pins:List (Addr×Obj))(σ:St)(Q:List V->Hp->Prop)(q:List Value)(s':Shared):Prop:=∃vs H',Inv X pins σ H' s'/\yb vs q/\Q vs H'
def SP (X:Cx)(pins:List (Addr×Obj))(D:Ends)(f:Flow)(s':Shared):Prop:=
 match f with
 | .next=>∃ q H',Inv X pins q H' s'/\D.nx q H'
 | .brk=>∃ q H',Inv X pins q H' s'/\D.bk q H'
 | .cont=>∃ q H',Inv X pins q H' s'/\D.ct q H'
 | .ret u=>∃v q H',Inv X pins q H' s'/\y1 v u/\D.rt v H'
def PE (X:Cx)(e:Expr)(t:TE):Prop:=
 ∀ (pins:List (Addr×Obj)) (s:Shared) (σ:St) (H:Hp) (Q:VK),Inv X pins σ H s->t σ H Q->wpAny (model X.prog X.w) X.A (eval e X.env) (EP X pins σ Q) X.xe s
def PT (X:Cx)(e:Expr)(t:TT):Prop:=
 ∀ (pins:List (Addr×Obj)) (s:Shared) (σ:St) (H:Hp) (Q:Bool->Hp->Prop),Inv X pins σ H s->t σ H Q->wpAny (model X.prog X.w) X.A (isTrue e X.env (eval e X.env)) (TP X pins σ Q) X.xe s
def PW (X:Cx)(e:Expr)(t:TT):Prop:=
 ∀ (q:Sem Value) (pins:List (Addr×Obj)) (s:Shared) (σ:St) (H:Hp) (Q:Bool->Hp->Prop),Inv X pins σ H s->t σ H Q->wpAny (model X.prog X.w) X.A (isTrue e X.env q) (TP X pins σ Q) X.xe s
def PW.pt(h:PW X e t):PT X e t:=h _
def PA (X:Cx)(es:List Expr)(t:TA):Prop:=
 ∀ (pos:Pos) (pins:List (Addr×Obj)) (s:Shared) (σ:St) (H:Hp) (Q:List V->Hp->Prop),Inv X pins σ H s->t σ H Q->wpAny (model X.prog X.w) X.A (spliced (backTo pos (starEach es X.env))) (AP X pins σ Q) X.xe s
def PS (X:Cx)(st:Stmt)(t:TS):Prop:=
 ∀ (pins:List (Addr×Obj)) (s:Shared) (σ:St) (H:Hp) (D:Ends),Inv X pins σ H s->t D σ H->wpAny (model X.prog X.w) X.A (exec st X.env) (SP X pins D) X.xe s
def PSs (X:Cx)(st:List Stmt)(t:TS):Prop:=
 ∀ (pins:List (Addr×Obj)) (s:Shared) (σ:St) (H:Hp) (D:Ends),Inv X pins σ H s->t D σ H->wpAny (model X.prog X.w) X.A (execs st X.env) (SP X pins D) X.xe s
def thn{α:Type}{t:Sem α}{Q Q':α->Shared->Prop}(h:wpAny M A t Q E s)(q:∀a s,Q a s->Q' a s):wpAny M A t Q' E s:=aS h q λ_ _ x=>x
section
variable {X:Cx}
def zlW (i:Nat):TE:=λσ H Q=>∃v,σ[i]?=some (some v)/\Q v H
def tC (v:V):TE:=λ_ H Q=>Q v H
def zsO {i:Nat}{x:Str}{pos:Pos}(F:X.N[i]?=some x)(J:Vis X.env.scope x)(B:(x==("__debug__" : Str))=false:=by decide)(D:(x==("__classdict__" : Str))=false:=by decide):PE X (.Name x pos) (zlW i):=by
 intro pins s σ H Q I h;obtain⟨v,e,h⟩:=h;obtain⟨m,L,O⟩:=I.loc;obtain⟨u,r,l⟩:=O i x v F e J;have fin:EP X pins σ Q u s:=⟨v,H,I,r,h⟩;rcases l with ⟨q,hm⟩ | ⟨q,c,hc,hcell⟩
 ·exact wpAny_Name (wpAny_loadName_local I.ok.kind q L hm fin) B
 ·rcases q with q | q
  ·exact wpAny_Name (wpAny_loadName_cell I.ok.kind q hc hcell fin) B
  ·exact wpAny_Name (wpAny_loadName_free I.ok.kind q hc hcell fin D) B
def zoj {i j pos}:PE X (.Constant (.int i) j pos) (tC (.int i)):=λ_ _ _ H _ I h=>wpAny_Constant_int ⟨.int i,H,I.tok _,⟨_,rfl⟩,h⟩
def zvO {b j pos}:PE X (.Constant (.bool b) j pos) (tC (.bl b)):=λ_ _ _ H _ I h=>Constant_bool ⟨.bl b,H,I,rfl,h⟩
def zsL {j pos}:PE X (.Constant .none j pos) (tC .non):=λ_ _ _ H _ I h=>Constant_none ⟨.non,H,I,rfl,h⟩
def zsM {x j pos}:PE X (.Constant (.str x) j pos) (tC (.str x)):=λ_ _ _ H _ I h=>Calls.Constant_str ⟨.str x,H,I.tok _,⟨_,rfl⟩,h⟩
def Gl (X:Cx)(x:Str):Prop:=X.env.kindOf x=some .globalImplicit
def zpo{E:Value->Shared->Prop}{pins:List (Addr×Obj)}{s:Shared}{σ:St}{H:Hp}{x:Str}{u:Value}{Q:Value->Shared->Prop}(I:Inv X pins σ H s)(q:Gl X x)(B:X.mg x=some u)(h:Q u s)(D:(x==("__debug__" : Str))=false:=by decide):wpAny (model X.prog X.w) X.A (eval (.Name x pos) X.env) Q E s:=
 Calls.Name_function_global I.ok.kind q (Calls.loadGlobal_global (by rw[I.ok.glob];exact I.mod.glob.keeps I.bk) B h) D
def zdu {E:Value->Shared->Prop}{pins:List (Addr×Obj)}{s:Shared}{σ:St}{H:Hp}{x:Str}{u:Value}{pos:Pos}{Q:Value->Shared->Prop}(I:Inv X pins σ H s)(q:Gl X x)(B:X.mg x=none)(D:bootBuiltins x=some u)(h:Q u s)
  (F:x ≠ "__name__" := by decide) (J:(x==("__debug__" : Str))=false:=by decide):wpAny (model X.prog X.w) X.A (eval (.Name x pos) X.env) Q E s:=by
 obtain⟨L,h1,h2⟩:=I.mod.blt;exact Calls.Name_function_global I.ok.kind q (Calls.loadGlobal_builtin (by rw[I.ok.glob];exact I.mod.glob.keeps I.bk) B (by rw[I.ok.blt];exact h1.keeps I.bk) ((h2 x F).trans D) h) J
variable {a b:Expr}{ta tb:TE}{pos:Pos}
def PC (X:Cx)(D:CmpOp)(a b:Expr)(t:TE):Prop:=
 ∀ (pins:List (Addr×Obj)) (s:Shared) (σ:St) (H:Hp) (Q:VK),Inv X pins σ H s->t σ H Q->
  wpAny (model X.prog X.w) X.A (eval a X.env) (λv q=>wpAny (model X.prog X.w) X.A (eval b X.env) (λu B=>wpAny (model X.prog X.w) X.A (compareOp D v u) (EP X pins σ Q) X.xe B) X.xe q) X.xe s
def zhI(b:Expr)(h:q≠.In)(h2:q≠.NotIn):behindInMarks q b=false:=by
 have B:(q==CmpOp.In)=false:=by cases q <;> first | rfl | exact absurd rfl h
 have D:(q==CmpOp.NotIn)=false:=by cases q <;> first | rfl | exact absurd rfl h2
 cases b <;> simp[behindInMarks,B,D]
def zqQ (ta:TE):TE:=λσ H Q=>ta σ H λx H1=>Q (.bl (!decide (x = .non))) H1
def y1.none_iff(r:y1 x v):(v==Value.none)=decide (x = .non):=by
 cases x with
 | non=>cases r;rfl
 | bl _=>cases r;rfl
 | int _=>obtain⟨t,rfl⟩:=r;rfl
 | str _=>obtain⟨t,rfl⟩:=r;rfl
 | byt _=>obtain⟨t,rfl⟩:=r;rfl
 | flt _=>obtain⟨t,rfl⟩:=r;rfl
 | ref _=>cases r;rfl
 | ty _=>cases r;rfl
def zpP {j pos'}(q:PE X a ta):PC X .IsNot a (.Constant .none j pos') (zqQ ta):=by intro pins s σ H Q I h;refine thn (q pins s σ H _ I h)  ?_;rintro v F ⟨x,H1,I1,B,D⟩;exact Constant_none (isnot_none_gen ⟨.bl _,H1,I1,by rw[B.none_iff];rfl,D⟩)
def tB (t:TE):TT:=λσ H Q=>t σ H λx H1=>∃c,x = .bl c/\Q c H1
def zs1(h:PC X B a b t)(h1:behindInMarks B b=false:=by first | exact zhI _ (by decide) (by decide) | rfl):PT X (.Compare a [B] [b] pos) (tB t):=by intro pins s σ H Q I D;refine wpAny_isTrue_Compare1 (thn (h pins s σ H _ I D) λv L h1=>thn h1 λu O h2=>thn h2 λc U ⟨x,H1,I1,F,J⟩=>?_) h1;obtain⟨d,rfl,q⟩:=J;cases F;exact cN ⟨H1,I1,q⟩
def zs3(h:PE X e t)(he:∀whole,isTrue e X.env whole=(do let v <- whole;standAt e.pos;holding [v] (truthy v)):=by intro _;rfl):PT X e (tB t):=by intro pins s σ H Q I hw;refine isTrue_plain (thn (h pins s σ H _ I hw) λv s1 ⟨x,H1,I1,r1,q1⟩=>?_) (he _);obtain⟨d,rfl,q⟩:=q1;cases r1;exact cN ⟨H1,I1,q⟩
variable {tA tB':TT}{yf:List Expr}
def zwc (t u:TT):TT:=λσ H Q=>t σ H λc H1=>if c=true then u σ H1 Q else Q false H1
def tOr (t u:TT):TT:=λσ H Q=>t σ H λc H1=>if c=true then Q true H1 else u σ H1 Q
def tNot (t:TT):TT:=λσ H Q=>t σ H λc H1=>Q (!c) H1
def zqb (q:PT X a tA):PW X (.BoolOp .And [a] pos) tA:=by
 intro B pins s σ H Q I h;refine isTrue_and (thn (q pins s σ H Q I h) λc D e=>?_)
 cases c with
 | true=>exact isTrue_and_nil e
 | false=>exact e
def zs5 (q:PT X a tA):PW X (.BoolOp .Or [a] pos) tA:=by
 intro B pins s σ H Q I h;refine isTrue_or (thn (q pins s σ H Q I h) λc D e=>?_)
 cases c with
 | false=>exact isTrue_or_nil e
 | true=>exact e
def zs4 (B:PT X a tA)(D:PW X (.BoolOp .And (b::yf) pos) tB'):PW X (.BoolOp .And (a::b::yf) pos) (zwc tA tB'):=by
 intro F pins s σ H Q I h;refine isTrue_and (thn (B pins s σ H _ I h)  ?_);rintro c J ⟨H1,I1,q⟩
 cases c with
 | true=>exact D F pins J σ H1 Q I1 q
 | false=>exact⟨H1,I1,q⟩
def zvV (B:PT X a tA)(D:PW X (.BoolOp .Or (b::yf) pos) tB'):PW X (.BoolOp .Or (a::b::yf) pos) (tOr tA tB'):=by
 intro F pins s σ H Q I h;refine isTrue_or (thn (B pins s σ H _ I h)  ?_);rintro c J ⟨H1,I1,q⟩
 cases c with
 | true=>exact⟨H1,I1,q⟩
 | false=>exact D F pins J σ H1 Q I1 q
def zs2 (q:PT X a tA):PT X (.UnaryOp .Not a pos) (tNot tA):=by intro pins s σ H Q I h;exact isTrue_not (q pins s σ H (λc H1=>Q (!c) H1) I h)
end
def SqL (K:PySem.W.Frag)(H:Hp)(a:Addr)(xs:List V):Prop:=
 Rd H a (.lst xs)\/
  ∃ (o:Obj) (its:Array Value) (n:Nat),K.lookup a=some o/\o.cls = .type "list" /\ o.dict=none/\o.data = .seq its n/\its.size<=sizeLine/\yb xs its.toList
def SqT (K:PySem.W.Frag)(H:Hp)(a:Addr)(xs:List V):Prop:=
 Rd H a (.tup xs)\/
  ∃ (o:Obj) (its:Array Value) (n:Nat),K.lookup a=some o/\o.cls = .type "tuple" /\ o.data = .seq its n/\its.size<=sizeLine/\yb xs its.toList
def absV:Value->Option V
 | .none=>some .non
 | .bool b=>some (.bl b)
 | .int i _=>some (.int i)
 | .str x _=>some (.str x)
 | .bytes b _=>some (.byt b)
 | .float b _=>some (.flt b)
 | .ref a=>some (.ref a)
 | .type n=>some (.ty n)
 | _=>none
def y1.abs(r:y1 x u):absV u=some x:=by
 cases x with
 | non=>cases r;rfl
 | bl _=>cases r;rfl
 | int _=>obtain⟨t,rfl⟩:=r;rfl
 | str _=>obtain⟨t,rfl⟩:=r;rfl
 | byt _=>obtain⟨t,rfl⟩:=r;rfl
 | flt _=>obtain⟨t,rfl⟩:=r;rfl
 | ref _=>cases r;rfl
 | ty _=>cases r;rfl
def y1.inj(r:y1 x u)(q:y1 y u):x=y:=bE (r.abs.symm.trans q.abs)
def yb.inj:∀ {xs ys:List V} {q:List Value},yb xs q->yb ys q->xs=ys
 | _,_,_,.nil,.nil=>rfl
 | _,_,_,.cons r t,.cons B t'=>by rw[r.inj B,yb.inj t t']
section
variable {X:Cx}{pins:List (Addr×Obj)}{σ:St}{H:Hp}{s:Shared}{a:Addr}{xs ys:List V}
def SqL.of {K:PySem.W.Frag}(h:H a=some (.lst xs)):SqL K H a xs:=.inl (.inl h)
def SqT.of {K:PySem.W.Frag}(h:H a=some (.tup xs)):SqT K H a xs:=.inl (.inl h)
def Inv.list (I:Inv X pins σ H s)(h:SqL X.K H a xs):∃its:List Value,yb xs its/\PlainL s.heap a its.toArray/\xs.length<=sizeLine:=by
 rcases h with h | ⟨o,its,n,hk,hc,hd,hs,hz,r⟩
 ·obtain⟨z,its,n,r,e⟩:=h.ok I.hok;exact⟨its,r,⟨_,n,e,rfl,rfl,rfl⟩,z⟩
 ·refine⟨its.toList,r,⟨o,n,I.kIn a o hk,hc,hd,by simpa using hs⟩,?_⟩;have e:=r.length
  grind
def Inv.tuple (I:Inv X pins σ H s)(h:SqT X.K H a xs):∃its:List Value,yb xs its/\IsTup s.heap a its.toArray/\xs.length<=sizeLine:=by
 rcases h with h | ⟨o,its,n,hk,hc,hs,hz,r⟩
 ·obtain⟨z,its,r,p⟩:=h.ok I.hok;exact⟨its,r,p.tup,z⟩
 ·refine⟨its.toList,r,⟨o,I.kIn a o hk,hc,n,by simpa using hs⟩,?_⟩;have e:=r.length
  grind
def Inv.list_inj (I:Inv X pins σ H s)(h:SqL X.K H a xs)(h':SqL X.K H a ys):xs=ys:=by
 obtain⟨its,r,⟨o,n,e,_,_,d⟩,_⟩:=I.list h;obtain⟨its',B,⟨o',F,q,_,_,d'⟩,_⟩:=I.list h';rw[e] at q;cases q;rw[d] at d';injection d' with D _;have:its=its':=by simpa using congrArg Array.toList D
 subst this;exact r.inj B
def Inv.tuple_inj (I:Inv X pins σ H s)(h:SqT X.K H a xs)(h':SqT X.K H a ys):xs=ys:=by
 obtain⟨its,r,⟨o,e,_,n,d⟩,_⟩:=I.tuple h;obtain⟨its',B,⟨o',q,_,F,d'⟩,_⟩:=I.tuple h';rw[e] at q;cases q;rw[d] at d';injection d' with D _;have:its=its':=by simpa using congrArg Array.toList D
 subst this;exact r.inj B
end
abbrev Cx.wish (X:Cx)(E:Value->Shared->Prop):Cx:={ X with xe:=E }
abbrev Cx.nox (X:Cx):Cx:=X.wish λ_ _=>False
def Cx.Ok.wish {X:Cx}(q:X.Ok)(E:Value->Shared->Prop):(X.wish E).Ok:=
 ⟨q.mod,q.kind,q.glob,q.blt,q.above,q.inj,q.has,q.cab,q.hd,q.frames,q.stk,q.exf,q.bs,q.bsz,q.noex,q.exfs,q.funs,q.frf⟩
def Cx.Ok.unwish{X:Cx}(q:(X.wish E).Ok):X.Ok:=
 ⟨q.mod,q.kind,q.glob,q.blt,q.above,q.inj,q.has,q.cab,q.hd,q.frames,q.stk,q.exf,q.bs,q.bsz,q.noex,q.exfs,q.funs,q.frf⟩
section
variable {X:Cx}{pins:List (Addr×Obj)}{σ:St}{H:Hp}{s:Shared}{E:Value->Shared->Prop}
def Inv.wish (I:Inv X pins σ H s)(E:Value->Shared->Prop):Inv (X.wish E) pins σ H s:=⟨I.ok.wish E,I.os,I.bare,I.base,I.loc,I.cell,I.free,I.freeC,I.pin,I.hok,I.len⟩
def Inv.unwish (I:Inv (X.wish E) pins σ H s):Inv X pins σ H s:=⟨I.ok.unwish,I.os,I.bare,I.base,I.loc,I.cell,I.free,I.freeC,I.pin,I.hok,I.len⟩
def SP.unwish(h:SP (X.wish E) pins D f s'):SP X pins D f s':=by
 cases f with
 | next=>obtain⟨B,H',I,q⟩:=h;exact⟨B,H',I.unwish,q⟩
 | brk=>obtain⟨B,H',I,q⟩:=h;exact⟨B,H',I.unwish,q⟩
 | cont=>obtain⟨B,H',I,q⟩:=h;exact⟨B,H',I.unwish,q⟩
 | ret u=>obtain⟨v,B,H',I,r,q⟩:=h;exact⟨v,B,H',I.unwish,r,q⟩
def PSs.nox{st:List Stmt}(h:PSs X.nox st t):PSs X st t:=λpins s σ H D I B=>
 aS (h pins s σ H D (I.wish _) B) (λ_ _ q=>q.unwish) λ_ _ z=>False.elim z
end
section
variable {X:Cx}{st:Stmt}{yf:List Stmt}{t u:TS}{e:Expr}{te:TE}{pos:Pos}
def ztG:TS:=λD σ H=>D.nx σ H
def zwg (t u:TS):TS:=λD σ H=>t { D with nx:=u D } σ H
def zp6:PSs X [] ztG:=λ_ _ σ H _ I h=>dQ ⟨σ,H,I,h⟩
def zm9 (h1:PS X st t)(h2:PSs X yf u):PSs X (st::yf) (zwg t u):=by
 intro pins s σ H D I h;refine wpAny_execs_cons (thn (h1 pins s σ H { D with nx:=u D } I h) λf F q=>?_)
 cases f with
 | next=>
  obtain⟨B,H',I',q⟩:=q;exact h2 pins F B H' D I' q
 | ret v=>exact q
 | brk=>exact q
 | cont=>exact q
def zp7 (h1:PS X st t):PSs X [st] t:=by
 intro pins s σ H D I h;refine wpAny_execs_cons (thn (h1 pins s σ H D I h) λf B q=>?_)
 cases f with
 | next=>exact dQ q
 | ret v=>exact q
 | brk=>exact q
 | cont=>exact q
def Inv.quiet{pins:List (Addr×Obj)}{σ:St}{H:Hp}(I:Inv X pins σ H s):interactive X.env=false:=by simp[interactive,I.ok.kind]
def znx (te:TE):TS:=λD σ H=>te σ H λ_ H1=>D.nx σ H1
def zp5 (q:PE X e te)(B:swapsWith e none pos.line X.env=pure false:=by rfl):PS X (.Expr e pos) (znx te):=by intro pins s σ H D I h;exact wpAny_Expr_any (thn (q pins s σ H _ I h) <| by rintro v J ⟨x,H1,I1,L,F⟩;exact⟨σ,H1,I1,F⟩) I.quiet B
def zuu (te:TE):TS:=λD σ H=>te σ H D.rt
def zsZ (q:PE X e te):PS X (.Return (some e) pos) (zuu te):=by intro pins s σ H D I h;exact wpAny_Return_some (thn (q pins s σ H _ I h) <| by rintro v J ⟨x,H1,I1,B,F⟩;exact⟨x,σ,H1,I1,B,F⟩)
def tIfS (c:TT)(t u:TS):TS:=λD σ H=>c σ H λb H1=>if b=true then t D σ H1 else u D σ H1
def zvU(F:PT X c tc)(J:PSs X a t)(L:PSs X b u):PS X (.If c a b pos) (tIfS tc t u):=by
 intro pins s σ H D I h;refine wpAny_If (thn (F pins s σ H _ I h)  ?_);rintro d q ⟨H1,I1,B⟩
 cases d with
 | true=>exact J pins q σ H1 D I1 B
 | false=>exact L pins q σ H1 D I1 B
end
abbrev TG:=V->St->Hp->(St->Hp->Prop)->Prop
abbrev TGs:=List V->St->Hp->(St->Hp->Prop)->Prop
def PG (X:Cx)(q:Expr)(t:TG):Prop:=
 ∀ (pins:List (Addr×Obj)) (s:Shared) (σ:St) (H:Hp) (v:V) (u:Value) (Q:St->Hp->Prop),Inv X pins σ H s->y1 v u->t v σ H Q->
  wpAny (model X.prog X.w) X.A (assign q X.env u) (λ_ s'=>∃ B H',Inv X pins B H' s'/\Q B H') X.xe s
def PGs (X:Cx)(D:List Expr)(t:TGs):Prop:=
 ∀ (pins:List (Addr×Obj)) (s:Shared) (σ:St) (H:Hp) (vs:List V) (B:List Value) (Q:St->Hp->Prop),Inv X pins σ H s->yb vs B->t vs σ H Q->
  wpAny (model X.prog X.w) X.A (assignInOrder ((assignEach D X.env).map (·.2)) B) (λ_ s'=>∃ q H',Inv X pins q H' s'/\Q q H') X.xe s
abbrev zuD:=V->V->V->Hp->(Hp->Prop)->Prop
def PSet (X:Cx)(t:zuD):Prop:=
 ∀ (pins:List (Addr×Obj)) (s:Shared) (σ:St) (H:Hp) (o i v:V) (q B u:Value) (Q:Hp->Prop),Inv X pins σ H s->y1 o q->y1 i B->y1 v u->t o i v H Q->
  wpAny (model X.prog X.w) X.A (setItem q B u) (λ_ s'=>∃H',Inv X pins σ H' s'/\Q H') X.xe s
section
variable {X:Cx}{pos:Pos}
def zap (i:Nat):TG:=λv σ H Q=>Q (σ.set i (some v)) H
def zpX(q:X.N.Nodup)(hi:X.N[i]?=some x)(B:Loc X.env.scope x)(D:X.fn x=true\/X.env.scope.names.lookup x=some .local:=by walk_at "l"):PG X (.Name x pos) (zap i):=by intro pins s σ H v u Q I r h;exact wpAny_assign_Name (zh4 I q hi B r (λs' I'=>⟨_,H,I',h⟩) D)
def gNil:TGs:=λvs σ H Q=>vs=[]/\Q σ H
def zrP (t:TG)(u:TGs):TGs:=λvs σ H Q=>∃v r,vs=v::r/\t v σ H λq H'=>u r q H' Q
def zpY:PGs X [] gNil:=by intro pins s σ H vs q Q I r h;obtain⟨e,h⟩:=h;subst e;cases r;exact assignInOrder_nil ⟨σ,H,I,h⟩
def zm4(h1:PG X e t)(h2:PGs X es u)(B:(assignEach (e::es) X.env).map (·.2)=assign e X.env::(assignEach es X.env).map (·.2):=by rfl):PGs X (e::es) (zrP t u):=by
 intro pins s σ H vs O Q I r h;obtain⟨v,U,D,h⟩:=h;subst D
 cases r with
 | cons r F=>
  rw[B];refine assignInOrder_cons (thn (h1 pins s σ H _ _ _ I r h)  ?_);rintro _ J ⟨q,H1,I1,L⟩;exact h2 pins J q H1 _ _ Q I1 F L
def zve (K:PySem.W.Frag)(n:Nat)(t:TGs):TG:=λv σ H Q=>∃a xs,v = .ref a/\SqT K H a xs/\xs.length=n/\t xs σ H Q
def zsV {es:List Expr}{k:Nat}{t:TGs}{n:Nat}(F:X.calm=true)(h:PGs X es t)
  (J:(assignEach es X.env).length=n:=by rfl) (q:(assignEach es X.env).findIdx? (·.1)=none:=by rfl):PG X (.Tuple es k pos) (zve X.K n t):=by
 intro pins s σ H v u Q I r B;obtain⟨a,xs,L,O,U,B⟩:=B;subst L;cases r;obtain⟨its,D,Y,hz⟩:=I.tuple O;refine assign_Tuple_tuple (I.ok.hd F) Y (by simp[J,<- U,D.length]) q λh' Z=>?_;have I1:Inv X pins σ H { s with heap:=h' }:=I.kept (t':=s.toks) λb o e=>Z b o (aU (aD e)) e;exact h pins _ σ H xs _ Q I1 (by simpa using D) B
def gSub (to ti:TE)(t:zuD):TG:=λv σ H Q=>to σ H λo H1=>ti σ H1 λi H2=>t o i v H2 λH3=>Q σ H3
def zsU(ho:PE X o to)(hi:PE X i ti)(hs:PSet X t)(ha:∀v,assign (.Subscript o i pos) X.env v=(do
   let ov <- holding [v] (eval o X.env)
   let iv <- holding [v,ov] (eval i X.env)
   standAt pos
   holding [v,ov,iv] (setItem ov iv v)
   release [v,ov,iv] []):=by intro _;rfl):PG X (.Subscript o i pos) (gSub to ti t):=by
 intro pins s σ H v u Q I r h;rw[ha];refine aa (bz (thn (ho pins s σ H _ I h)  ?_));rintro ov s1 ⟨x,H1,I1,r1,q1⟩;refine aa (bz (thn (hi pins s1 σ H1 _ I1 q1)  ?_));rintro iv s2 ⟨y,H2,I2,r2,q2⟩;refine aa (bA (aa (bz (thn (hs pins s2 σ H2 x y v ov iv u _ I2 r1 r2 r q2)  ?_))));rintro _ s3 ⟨H3,I3,q3⟩;exact wpAny_release ⟨σ,H3,I3,q3⟩
def zg2 (te:TE)(g:TG):TS:=λD σ H=>te σ H λx H1=>g x σ H1 D.nx
def zsX(B:PE X e te)(F:PG X tg g)(J:swapsWithSole [tg] e pos.line X.env=pure false:=by rfl)(L:swappedStores [tg] e X.env=pure none:=by rfl)(h1:(assignEach [tg] X.env).map (·.2)=[assign tg X.env]:=by rfl):PS X (.Assign [tg] e pos) (zg2 te g):=by
 intro pins s σ H D I h;refine wpAny_Assign_stores (thn (B pins s σ H _ I h) λv O ⟨x,H1,I1,U,Y⟩=>?_) J L;rw[h1];exact thn (F pins O σ H1 x v _ I1 U Y) λ_ Z q=>q
def zs0(q:X.N.Nodup)(hi:X.N[i]?=some x)(B:Loc X.env.scope x)(F:PE X e te)(J:swapsWith e (some (.Name x pos')) pos.line X.env=pure false:=by rfl)(L:X.fn x=true\/X.env.scope.names.lookup x=some .local:=by walk_at "l") :
  PS X (.Assign [.Name x pos'] e pos) (zg2 te (zap i)):=by
 intro pins s σ H D I h;refine wpAny_Assign_Name (thn (F pins s σ H _ I h) λv Y ⟨y,H1,I1,O,U⟩=>?_) J;exact zh4 I1 q hi B O (λZ I2=>⟨_,H1,I2,U⟩) L
end
section
variable {X:Cx}{pos:Pos}
def ztL (c:TT)(tb:TS):TS:=λD σ H=>∃W:Nat->St->Hp->Prop,(∃m,W m σ H)/\∀m σ H,W m σ H->
 c σ H λb H1=>if b=true then ∃N:St->Hp->Prop,(∀ q H',N q H'->∃B,B<m/\W B q H')/\tb { D with nx:=N,ct:=N,bk:=D.nx } σ H1 else D.nx σ H1
def zm8(hp:PassesOwn (model X.prog X.w) X.A X.env X.xe)(hc:PT X c tc)(hb:PSs X body tb):PS X (.While c body [] pos) (ztL tc tb):=by
 intro pins s σ H D I h;obtain⟨W,⟨m0,w0⟩,F⟩:=h;refine wpAny_While (codeAny_whileLoop (λn s'=>∃ J H',Inv X pins J H' s'/\W n J H') ?_ m0 ⟨σ,H,I,w0⟩);rintro n s1 ⟨B,H1,I1,w1⟩;refine cr hp (thn (hc pins s1 B H1 _ I1 (F n B H1 w1))  ?_);rintro b s2 ⟨H2,I2,L⟩
 cases b with
 | true=>
  obtain⟨N,hN,L⟩:=L;rw[if_pos rfl];refine cr hp (thn (hb pins s2 B H2 _ I2 L) λf s3 O=>?_)
  cases f with
  | next=>
   obtain⟨q,H3,I3,U⟩:=O;obtain⟨Y,Z,w3⟩:=hN q H3 U;exact⟨Y,Z,q,H3,I3,w3⟩
  | cont=>
   obtain⟨q,H3,I3,U⟩:=O;obtain⟨Y,Z,w3⟩:=hN q H3 U;exact⟨Y,Z,q,H3,I3,w3⟩
  | brk=>exact O
  | ret v=>exact O
 | false=>
  rw[if_neg aH];exact dQ ⟨B,H2,I2,L⟩
end
structure It where
 go:Nat->Hp->Prop
 yld:Nat->Hp->V->Hp->Prop
 stop:Nat->Hp->Prop
def zeP (X:Cx)(pins:List (Addr×Obj))(H:Hp)(b:Addr):Prop:=
 H b=none/\b≠X.env.locals/\b∉X.fs/\(b∈X.ex\/X.s₀.heap.objs.size<=b)/\(∀x c,X.env.cells.lookup x=some c->c≠b)/\∀p∈X.pn++pins,p.1≠b
def Inv.fpOk {X:Cx}{pins:List (Addr×Obj)}{σ:St}{H H':Hp}{s:Shared}{b:Addr}(I:Inv X pins σ H s)(B:s.heap.objs.size<=b)(D:H' b=none):zeP X pins H' b:=by
 refine⟨D,dB (aO I.lt B),I.nofs B,.inr (ar I.sz B),λx c e z=>?_,λp F z=>?_⟩
 ·obtain⟨v,q⟩:=I.cell x c e;exact absurd (aO q.lt (by rw[z];exact B)) (bM _)
 ·exact absurd (aO (aD (I.pin p F).1) (by rw[z];exact B)) (bM _)
structure Turn (P:Program)(w:World)(K:PySem.W.Frag)(tg:Expr)(J:It)(fp:List Addr)(it:Addr)(tn:Nat->Heap->Prop):Prop where
 mem:it∈fp
 obj:∀i h,tn i h->∀b∈fp,∃o,h.get? b=some o/\∀v,o.data≠.cell v
 keep:∀i h h',tn i h->(∀b∈fp,∀o,h.get? b=some o->h'.get? b=some o)->tn i h'
 item:∀ (X:Cx),X.prog=P->X.w=w->X.K=K->X.calm=true->∀ (i:Nat) (pins:List (Addr×Obj)) (s:Shared) (σ:St) (H:Hp) (E:Value->Shared->Prop),Inv X pins σ H s->(∀b∈fp,zeP X pins H b)->tn i s.heap->J.go i H->
  wpAny (model P w) X.A (pyNext (.ref it)) (λr s1=>∃u,r=some u/\
   wpAny (model P w) X.A (letOwnedTupleGo tg (.ref it) u) (λ_ s2=>∃x H',Inv X pins σ H' s2/\y1 x u/\J.yld i H x H'/\tn (i+1) s2.heap/\∀b∈fp,H' b=none) E s1) E s
 done:∀ (X:Cx),X.prog=P->X.w=w->X.K=K->X.calm=true->∀ (i:Nat) (pins:List (Addr×Obj)) (s:Shared) (σ:St) (H:Hp) (E:Value->Shared->Prop),Inv X pins σ H s->(∀b∈fp,zeP X pins H b)->tn i s.heap->J.stop i H->
  wpAny (model P w) X.A (pyNext (.ref it)) (λr s1=>r=none/\Inv X pins σ H s1) E s
 self:∀ (A:Around) (i:Nat) (s:Shared) (Q:Value->Shared->Prop) (E:Value->Shared->Prop),tn i s.heap->Q (.ref it) s->wpAny (model P w) A (pyIter (.ref it)) Q E s
abbrev TI:=St->Hp->(It->Hp->Prop)->Prop
def PIE (X:Cx)(pins:List (Addr×Obj))(σ:St)(tg:Expr)(R:It->Hp->Prop)(q:Value)(B:Shared):Prop:=
 ∃ (D:Addr) (F:List Addr) (I:Nat->Heap->Prop) (J:It) (H':Hp),q = .ref D/\Inv X pins σ H' B/\Turn X.prog X.w X.K tg J F D I/\I 0 B.heap/\(∀b∈F,zeP X pins H' b)/\R J H'
def PI (X:Cx)(tg iter:Expr)(wi:TI):Prop:=
 ∀ (pins:List (Addr×Obj)) (s:Shared) (σ:St) (H:Hp) (R:It->Hp->Prop),Inv X pins σ H s->wi σ H R->
  wpAny (model X.prog X.w) X.A (eval iter X.env) (λv q=>wpAny (model X.prog X.w) X.A (pyIter v) (PIE X pins σ tg R) X.xe q) X.xe s
def zjN(D:s.heap.get? B=some o)(F:o.cls = .type n)(I:o.data = .fields vs)(J:["enumerate","zip","dict_itemiterator","dict_reverseitemiterator","odict_iterator","itertools.zip_longest","itertools.pairwise"].contains n=false)(q:Q () s):wpAny M A (letOwnedTupleGo tg (.ref B) u) Q E s:=by
 unfold letOwnedTupleGo
 cases tg <;> first
  | exact af q
  | (cases u <;> first
    | exact af q
    | (refine aa (wpAny_load D ?_)
       rw[F,I];show wpAny M A (if (["enumerate","zip","dict_itemiterator","dict_reverseitemiterator","odict_iterator","itertools.zip_longest","itertools.pairwise"].contains n&&vs[0]?==some (rawInt _))=true then _ else _) Q E s;rw[if_neg (by lia)];exact af q))
def Itl (K:PySem.W.Frag)(a:Addr):It:=
 ⟨λi H=>∃xs x,SqL K H a xs/\xs[i]?=some x,λi H x H'=>H'=H/\∀xs,SqL K H a xs->xs[i]?=some x,λi H=>∃xs,SqL K H a xs/\xs.length<=i⟩
def Itt (K:PySem.W.Frag)(a:Addr):It:=
 ⟨λi H=>∃xs x,SqT K H a xs/\xs[i]?=some x,λi H x H'=>H'=H/\∀xs,SqT K H a xs->xs[i]?=some x,λi H=>∃xs,SqT K H a xs/\xs.length<=i⟩
def Itr (lo:Int)(n:Nat):It:=⟨λi _=>i<n,λi H x H'=>H'=H/\x = .int (lo+i),λi _=>n<=i⟩
def zlE{P:Program}{w:World}{K:PySem.W.Frag}(a q:Addr):Turn P w K tg (Itl K a) [q] q (λi h=>h.IsListIter q a i) where
 mem:=by simp
 obj:=λi h st b B=>by
  have e:b=q:=by simpa using B
  subst e;obtain⟨o,e,c,d⟩:=st
  simp_all
 keep:=λi h h' st k=>st.at λo e=>k q (by simp) o e
 item:=by intro X L O U hc i pins s σ H E I F st Y;subst L O U;obtain⟨xs,x,J,Z⟩:=Y;obtain⟨its,rv,p,hz⟩:=I.list J;obtain⟨u,hu,ru⟩:=rv.get Z;obtain⟨f0,f1,f2,f3,f4,f5⟩:=F q (by simp);refine wpAny_pyNext_list_item st p.isList (x:=u) (by simpa using hu) λh' D sb=>?_;have I1:Inv X pins σ H { s with heap:=h' }:=I.turned (t':=s.toks) (λb o B e=>(sb.2 b B).trans e) f0 f1 f3 f4 f5;obtain⟨o,e,c,d⟩:=id D;exact⟨u,rfl,zjN (s:={ s with heap:=h' }) e c d (by decide) ⟨x,H,I1,ru,⟨rfl,λys hy=>by rw[I.list_inj hy J];exact Z⟩,D,λb B=>(F b B).1⟩⟩
 done:=by intro X L O U hc i pins s σ H E I F st Y;subst L O U;obtain⟨xs,J,Z⟩:=Y;obtain⟨its,rv,p,hz⟩:=I.list J;obtain⟨f0,f1,f2,f3,f4,f5⟩:=F q (by simp);have hl:=rv.length;exact wpAny_pyNext_list_end (I.ok.hd hc) st p.isList (by simp;lia) λh' eb=>⟨rfl,I.turned (t':=s.toks) (λb o B e=>eb b o B e) f0 f1 f3 f4 f5⟩
 self:=λ_ _ _ _ _ st h=>wpAny_pyIter_listiter st h
def ziK{P:Program}{w:World}{K:PySem.W.Frag}(a q:Addr):Turn P w K tg (Itt K a) [q] q (λi h=>h.IsTupleIter q a i) where
 mem:=by simp
 obj:=λi h st b B=>by
  have e:b=q:=by simpa using B
  subst e;obtain⟨o,e,c,d⟩:=st
  simp_all
 keep:=λi h h' st k=>st.at λo e=>k q (by simp) o e
 item:=by intro X L O U hc i pins s σ H E I F st Y;subst L O U;obtain⟨xs,x,J,Z⟩:=Y;obtain⟨its,rv,p,hz⟩:=I.tuple J;obtain⟨u,hu,ru⟩:=rv.get Z;obtain⟨f0,f1,f2,f3,f4,f5⟩:=F q (by simp);refine wpAny_pyNext_tuple_item st (show s.heap.IsTuple a its.toArray from p) (x:=u) (by simpa using hu) λh' D sb=>?_;have I1:Inv X pins σ H { s with heap:=h' }:=I.turned (t':=s.toks) (λb o B e=>(sb.2 b B).trans e) f0 f1 f3 f4 f5;obtain⟨o,e,c,d⟩:=id D;exact⟨u,rfl,zjN (s:={ s with heap:=h' }) e c d (by decide) ⟨x,H,I1,ru,⟨rfl,λys hy=>by rw[I.tuple_inj hy J];exact Z⟩,D,λb B=>(F b B).1⟩⟩
 done:=by intro X L O U hc i pins s σ H E I F st Y;subst L O U;obtain⟨xs,J,Z⟩:=Y;obtain⟨its,rv,p,hz⟩:=I.tuple J;obtain⟨f0,f1,f2,f3,f4,f5⟩:=F q (by simp);have hl:=rv.length;exact wpAny_pyNext_tuple_end (I.ok.hd hc) st (show s.heap.IsTuple a its.toArray from p) (by simp;lia) λh' eb=>⟨rfl,I.turned (t':=s.toks) (λb o B e=>eb b o B e) f0 f1 f3 f4 f5⟩
 self:=λ_ _ _ _ _ st h=>wpAny_pyIter_tupleiter st h
def ziJ{P:Program}{w:World}{K:PySem.W.Frag}(q:Addr)(lo:Int)(n:Nat):Turn P w K tg (Itr lo n) [q] q (λi h=>IsRangeIter h q (lo+(i:Nat) * 1) ((n:Int) - (i:Nat)) 1) where
 mem:=by simp
 obj:=λi h st b B=>by simp_all
 keep:=λi h h' st k=>k q (by simp) _ st
 item:=by intro X J L O U i pins s σ H E I F st Y;subst J L O;obtain⟨Z,f1,f2,f3,f4,f5⟩:=F q (by simp);have W:=Walks.range (prog:=X.prog) (w:=X.w) (I.ok.hd U) q lo 1 n;refine W.item i s _ _ Y st λv h' tk hv D kk=>?_;obtain⟨t,rfl⟩:=hv;have I1:Inv X pins σ H { s with heap:=h',toks:=tk }:=I.turned (λb o B e=>kk b o (by simpa using B) e) Z f1 f3 f4 f5;refine⟨_,rfl,zjN (s:={ s with heap:=h',toks:=tk }) (n := "range_iterator") D rfl rfl (by decide) ⟨.int (lo+i),H,I1,⟨t,?_⟩,⟨rfl,rfl⟩,D,λb B=>(F b B).1⟩⟩;rw[Int.mul_one]
 done:=by intro X J L O U i pins s σ H E I F st Y;subst J L O;obtain⟨Z,f1,f2,f3,f4,f5⟩:=F q (by simp);exact wpAny_pyNext_range_end (I.ok.hd U) st (by have:n<=i:=Y;lia) λh' eb=>⟨rfl,I.turned (t':=s.toks) (λb o B e=>eb b o B e) Z f1 f3 f4 f5⟩
 self:=λ_ _ _ _ _ st h=>wpAny_pyIter_rangeiter st h
section
variable {X:Cx}{tg:Expr}
def zo6 (K:PySem.W.Frag)(tl:TE):TI:=λσ H R=>tl σ H λx H1=>∃a,x = .ref a/\(∃xs,SqL K H1 a xs)/\R (Itl K a) H1
def zvg (K:PySem.W.Frag)(tl:TE):TI:=λσ H R=>tl σ H λx H1=>∃a,x = .ref a/\(∃xs,SqT K H1 a xs)/\R (Itt K a) H1
def zpZ(D:PE X l tl):PI X tg l (zo6 X.K tl):=by
 intro pins s σ H R I h;refine thn (D pins s σ H _ I h)  ?_;rintro v B ⟨x,H1,I1,F,J⟩;obtain⟨a,e,⟨xs,L⟩,q⟩:=J;subst e;cases F;obtain⟨its,U,p,Y⟩:=I1.list L;refine wpAny_pyIter_list p.isList ?_;refine⟨B.heap.objs.size,[B.heap.objs.size],_,_,H1,rfl,I1.kept (t':=B.toks) λb o e=>aq _ e,zlE a _,⟨_,aF _ rfl,rfl,rfl⟩,λb O=>?_,q⟩;have e:b=B.heap.objs.size:=by simpa using O
 subst e;exact I1.fpOk (ah _) (I1.hok.fresh (ah _))
def zsW(D:PE X l tl):PI X tg l (zvg X.K tl):=by
 intro pins s σ H R I h;refine thn (D pins s σ H _ I h)  ?_;rintro v B ⟨x,H1,I1,F,J⟩;obtain⟨a,e,⟨xs,L⟩,q⟩:=J;subst e;cases F;obtain⟨its,U,p,Y⟩:=I1.tuple L;refine wpAny_pyIter_tuple (show B.heap.IsTuple a its.toArray from p) ?_;refine⟨B.heap.objs.size,[B.heap.objs.size],_,_,H1,rfl,I1.kept (t':=B.toks) λb o e=>aq _ e,ziK a _,⟨_,aF _ rfl,rfl,rfl⟩,λb O=>?_,q⟩;have e:b=B.heap.objs.size:=by simpa using O
 subst e;exact I1.fpOk (ah _) (I1.hok.fresh (ah _))
def zni{pins:List (Addr×Obj)}{σ:St}{H:Hp}{s:Shared}{R:It->Hp->Prop}{E:Value->Shared->Prop}{lo hi:Int}{t u v:Tok}(I:Inv X pins σ H s)(h1:-(2 ^ 62)<=lo)(h2:lo<2 ^ 62)(B:-(2 ^ 62)<=hi)(D:hi<2 ^ 62)(q:R (Itr lo (hi - lo).toNat) H):wpAny (model X.prog X.w) X.A (pyIter (.ref s.heap.objs.size)) (PIE X pins σ tg R) E { s with heap:=s.heap.push { cls:=.type "range",data:=.fields #[.int lo t,.int hi u,.int 1 v] },toks:=tk }:=by
 refine wpAny_pyIter_range (IsRange.new ..) (small_one h1 h2 B D) ?_;have I1:Inv X pins σ H { s with heap:=s.heap.push { cls:=.type "range",data:=.fields #[.int lo t,.int hi u,.int 1 v] },toks:=tk }:=I.kept λb o e=>aq _ e
 refine⟨(s.heap.push { cls:=.type "range",data:=.fields #[.int lo t,.int hi u,.int 1 v] }).objs.size,[(s.heap.push { cls:=.type "range",data:=.fields #[.int lo t,.int hi u,.int 1 v] }).objs.size],_,_,H,rfl,
  I1.kept (t':=tk) λb o e=>aq _ e,ziJ _ lo (hi - lo).toNat,?_,λb F=>?_,q⟩
 ·have J:lo+((0:Nat):Int) * 1=lo:=by simp
  have L:(((hi - lo).toNat:Nat):Int) - ((0:Nat):Int)=Builtin.Range.rangeSize lo hi 1:=by rw[rangeSize_one];split <;> lia
  show IsRangeIter _ _ (lo+((0:Nat):Int) * 1) ((((hi - lo).toNat:Nat):Int) - ((0:Nat):Int)) 1;rw[J,L];exact aF _ rfl
 ·have e:b=(s.heap.push { cls:=.type "range",data:=.fields #[.int lo t,.int hi u,.int 1 v] }).objs.size:=by simpa using F
  subst e;exact I1.fpOk (ah _) (I1.hok.fresh (ah _))
def zrS (ta:TA):TI:=λσ H R=>ta σ H λvs H1=>∃j:Int,vs=[.int j]/\-(2 ^ 62)<=j/\j<2 ^ 62/\R (Itr 0 j.toNat) H1
def zk2(D:Gl X "range")(F:X.mg "range" = none)(J:PA X [a] ta)(L:starEach [a] X.env=[(false,eval a X.env)]:=by rfl):PI X tg (.Call (.Name "range" p) [a] [] pos) (zrS ta):=by
 intro pins s σ H R I h;refine Call_ (zdu I D F boot_range (b9 (thn (J pos pins s σ H _ I h) λZ s1 ⟨vs,H1,I1,O,B⟩=>?_) L rfl));obtain⟨j,e,B,U,q⟩:=B;subst e
 cases O with
 | cons r Y=>
  cases Y;obtain⟨t,rfl⟩:=r;exact call_range_1 (zni I1 (by lia) (by lia) B U (by simpa using q))
def zwe (wi:TI)(g:TG)(tb:TS):TS:=λD σ H=>wi σ H λJ H1=>∃W:Nat->Nat->St->Hp->Prop,(∃m,W 0 m σ H1)/\∀i m σ H,W i m σ H->
 (J.stop i H/\D.nx σ H)\/(J.go i H/\∃N:St->Hp->Prop,(∀ q H',N q H'->∃F,F<m/\W (i+1) F q H')/\∀x H',J.yld i H x H'->g x σ H' λB H2=>tb { D with nx:=N,ct:=N,bk:=D.nx } B H2)
def zfL (q:List Addr)(h:Heap):List (Addr×Obj):=q.filterMap λb=>(h.get? b).map λo=>(b,o)
def zbq(B:b∈q)(e:h.get? b=some o):(b,o)∈zfL q h:=cJ.mpr ⟨b,B,by rw[e];rfl⟩
def zkO(D:p∈zfL B h):p.1∈B/\h.get? p.1=some p.2:=by
 obtain⟨b,F,e⟩:=cJ.mp D
 cases q:h.get? b with
 | none=>rw[q] at e;cases e
 | some o=>
  grind
def Inv.pinned {pins:List (Addr×Obj)}{σ:St}{H:Hp}{s:Shared}{q:List Addr}(I:Inv X pins σ H s)(D:∀b∈q,zeP X pins H b)(F:∀b∈q,∃o,s.heap.get? b=some o/\∀v,o.data≠.cell v):Inv X (pins++zfL q s.heap) σ H s:=
 I.pins_of λp J=>(aG.mp J).elim (λz=>I.pin p (aV _ z)) λz=>by
  obtain⟨B,e⟩:=zkO z;obtain⟨L,O,U,_⟩:=D p.1 B;obtain⟨o,Y,d⟩:=F p.1 B
  simp_all
def Inv.unpinned{pins pl:List (Addr×Obj)}{σ:St}{H:Hp}(I:Inv X (pins++pl) σ H s):Inv X pins σ H s:=I.pins_of λp q=>I.pin p (aV _ (be _ q))
def zsY(hp:PassesOwn (model X.prog X.w) X.A X.env X.xe)(hc:X.calm=true)(hi:PI X tg iter wi)(hg:PG X tg g)(B:PSs X body tb)(hs:∀x,foldedSetIterable iter X.env x=pure x:=by intro _;rfl):PS X (.For tg iter body [] pos) (zwe wi g tb):=by
 intro pins s σ H D I h;refine wpAny_For (thn (hi pins s σ H _ I h) λv s1 h1=>thn h1 λas s2 h2=>?_) hs;obtain⟨it,fp,tn,J,H2,e,I2,T,al,f2,W,⟨m0,w0⟩,ac⟩:=h2;subst e;have F:∀ {H':Hp},(∀b∈fp,H' b=none)->∀b∈fp,zeP X pins H' b:=λhn b B=>⟨hn b B,(f2 b B).2⟩;refine codeAny_forLoop_any (λn s'=>∃i L H',Inv X pins L H' s'/\tn i s'.heap/\(∀b∈fp,H' b=none)/\W i n L H') ?_ m0 ⟨0,σ,H2,I2,al,λb B=>(f2 b B).1,w0⟩;rintro n s3 ⟨i,O,H3,I3,ad,ag,w3⟩;rcases ac i n O H3 w3 with ⟨stop,qn⟩ | ⟨go,N,hN,step⟩
 ·refine cr hp (thn (T.done X rfl rfl rfl hc i pins s3 O H3 X.xe I3 (F ag) ad stop)  ?_);rintro r s4 ⟨hr,I4⟩;subst hr;exact dQ ⟨O,H3,I4,qn⟩
 ·refine cr hp (thn (T.item X rfl rfl rfl hc i pins s3 O H3 X.xe I3 (F ag) ad go)  ?_);rintro r s4 ⟨u,hr,h4⟩;subst hr;refine cr hp (thn h4  ?_);rintro _ s5 ⟨x,H5,I5,r5,y5,Z,an⟩;have I5':=I5.pinned (F an) (T.obj _ _ Z);refine cr hp (thn (hg _ s5 O H5 x u _ I5' r5 (step x H5 y5))  ?_);rintro _ s6 ⟨ap,H6,I6,q6⟩;refine cr hp (thn (B _ s6 ap H6 _ I6 q6) λf s7 Y=>?_)
  have U:∀ {q:St} {H7:Hp},Inv X (pins++zfL fp s5.heap) q H7 s7->N q H7->∃m,m<n/\∃i L H',Inv X pins L H' s7/\tn i s7.heap/\(∀b∈fp,H' b=none)/\W i m L H':=λ{q H7} I7 n7=>by obtain⟨m',hm,w7⟩:=hN q H7 n7;refine⟨m',hm,i+1,q,H7,I7.unpinned,T.keep _ _ _ Z λb B o e=>(I7.pin (b,o) (aV _ (aV _ (zbq B e)))).1,λb B=>?_,w7⟩;obtain⟨o,e,d⟩:=T.obj _ _ Z b B;exact (I7.pin (b,o) (aV _ (aV _ (zbq B e)))).2.1
  cases f with
  | next=>obtain⟨q,H7,I7,n7⟩:=Y;exact U I7 n7
  | cont=>obtain⟨q,H7,I7,n7⟩:=Y;exact U I7 n7
  | brk=>obtain⟨q,H7,I7,Y⟩:=Y;exact⟨q,H7,I7.unpinned,Y⟩
  | ret v=>obtain⟨x7,q,H7,I7,r7,Y⟩:=Y;exact⟨x7,q,H7,I7.unpinned,r7,Y⟩
end
def zms {K:PySem.W.Frag}{a:Addr}{xs:List V}{g:TG}{tb:TS}{D:Ends}{σ:St}{H:Hp}(Pv:Nat->St->Hp->Prop)(L:Pv 0 σ H)(O:∀i σ H,i<=xs.length->Pv i σ H->SqL K H a xs)
  (U:∀i x σ H,xs[i]?=some x->Pv i σ H->g x σ H λB H2=>tb { D with nx:=Pv (i+1),ct:=Pv (i+1),bk:=D.nx } B H2) (Y:∀ σ H,Pv xs.length σ H->D.nx σ H) :
  ∃W:Nat->Nat->St->Hp->Prop,(∃m,W 0 m σ H)/\∀i m σ H,W i m σ H->
   ((Itl K a).stop i H/\D.nx σ H)\/((Itl K a).go i H/\∃N:St->Hp->Prop,(∀ F H',N F H'->∃J,J<m/\W (i+1) J F H')/\∀x H',(Itl K a).yld i H x H'->g x σ H' λB H2=>tb { D with nx:=N,ct:=N,bk:=D.nx } B H2):=by
 refine⟨λi m σ H=>m=xs.length - i/\i<=xs.length/\Pv i σ H,⟨xs.length,by simp,aJ _,L⟩,?_⟩;rintro i m σ H ⟨rfl,hi,p⟩;have q:=O i σ H hi p;by_cases I:i<xs.length
 ·refine .inr ⟨⟨xs,xs[i],q,by simp[I]⟩,Pv (i+1),λF H' Z=>⟨xs.length - (i+1),by lia,rfl,I,Z⟩,λx H' y=>?_⟩;obtain⟨e,y⟩:=y;subst e;exact U i x σ _ (y xs q) p
 ·have e:i=xs.length:=by lia
  subst e;exact .inl ⟨⟨xs,q,ah _⟩,Y σ H p⟩
abbrev R2:=V->V->Hp->VK->Prop
def OpR (X:Cx)(f:Value->Value->Sem Value)(r:R2):Prop:=
 ∀ (pins:List (Addr×Obj)) (s:Shared) (σ:St) (H:Hp) (x y:V) (v u:Value) (Q:VK),Inv X pins σ H s->y1 x v->y1 y u->r x y H Q->
  wpAny (model X.prog X.w) X.A (f v u) (EP X pins σ Q) X.xe s
def UnR (X:Cx)(f:Value->Sem Value)(r:V->Hp->VK->Prop):Prop:=
 ∀ (pins:List (Addr×Obj)) (s:Shared) (σ:St) (H:Hp) (x:V) (v:Value) (Q:VK),Inv X pins σ H s->y1 x v->r x H Q->
  wpAny (model X.prog X.w) X.A (f v) (EP X pins σ Q) X.xe s
def zc1 (X:Cx)(f:Value)(r:List V->Hp->VK->Prop):Prop:=
 ∀ (pins:List (Addr×Obj)) (s:Shared) (σ:St) (H:Hp) (xs:List V) (q:List Value) (Q:VK),Inv X pins σ H s->yb xs q->r xs H Q->
  wpAny (model X.prog X.w) X.A (call f q) (EP X pins σ Q) X.xe s
def TruR (X:Cx)(r:V->Hp->(Bool->Hp->Prop)->Prop):Prop:=
 ∀ (pins:List (Addr×Obj)) (s:Shared) (σ:St) (H:Hp) (x:V) (v:Value) (Q:Bool->Hp->Prop),Inv X pins σ H s->y1 x v->r x H Q->
  wpAny (model X.prog X.w) X.A (truthy v) (TP X pins σ Q) X.xe s
def tOp (r:R2)(ta tb:TE):TE:=λσ H Q=>ta σ H λx H1=>tb σ H1 λy H2=>r x y H2 Q
def tUn (r:V->Hp->VK->Prop)(ta:TE):TE:=λσ H Q=>ta σ H λx H1=>r x H1 Q
def rI (C:Int->Int->Prop)(g:Int->Int->V):R2:=λx y H Q=>∃i j,x = .int i/\y = .int j/\C i j/\Q (g i j) H
def rI0 (g:Int->Int->V):R2:=λx y H Q=>∃i j,x = .int i/\y = .int j/\Q (g i j) H
def rU (g:Int->V):V->Hp->VK->Prop:=λx H Q=>∃i,x = .int i/\Q (g i) H
section
variable {X:Cx}{a b c:Expr}{ta tb tc:TE}{pos:Pos}
def zuG(F:PE X a ta)(J:PE X b tb){pins:List (Addr×Obj)}{σ:St}{H:Hp}{R:V->V->Hp->Prop}(I:Inv X pins σ H s)(h:ta σ H λx H1=>tb σ H1 λy H2=>R x y H2){Q:Value->Shared->Prop}{f:Value->Value->Sem Value}(L:∀v u D x y H2,Inv X pins σ H2 D->y1 x v->y1 y u->R x y H2->wpAny (model X.prog X.w) X.A (f v u) Q X.xe D) :
  wpAny (model X.prog X.w) X.A (eval a X.env) (λv q=>wpAny (model X.prog X.w) X.A (eval b X.env) (λu B=>wpAny (model X.prog X.w) X.A (f v u) Q X.xe B) X.xe q) X.xe s:=by
 refine thn (F pins s σ H _ I h)  ?_;rintro v O ⟨x,H1,I1,U,Y⟩;refine thn (J pins O σ H1 _ I1 Y)  ?_;rintro u D ⟨y,H2,I2,Z,q2⟩;exact L v u D x y H2 I2 U Z q2
def zvR(D:OpR X (binaryOp B) r)(F:PE X a ta)(J:PE X b tb):PE X (.BinOp a B b pos) (tOp r ta tb):=by intro pins s σ H Q I h;exact wpAny_BinOp (zuG F J I h λv u L x y H2 I2 O U q=>D pins L σ H2 x y v u Q I2 O U q)
def zsN(B:UnR X (unaryOp q) r)(D:PE X a ta):PE X (.UnaryOp q a pos) (tUn r ta):=by intro pins s σ H Q I h;exact UnaryOp_ (thn (D pins s σ H _ I h) <| by rintro v F ⟨x,H1,I1,J,L⟩;exact B pins F σ H1 x v Q I1 J L)
def opI{C:Int->Int->Prop}{g:Int->Int->Int}(B:∀ (i j:Int) (t u:Tok) (s:Shared) (Q:Value->Shared->Prop) (E:Value->Shared->Prop),C i j->Q (.int (g i j) s.toks) { s with toks:=s.toks+1 }->wpAny (model X.prog X.w) X.A (f (.int i t) (.int j u)) Q E s) :
  OpR X f (rI C λi j=>.int (g i j)):=by
 intro pins s σ H x y v u Q I D F h;obtain⟨i,j,rfl,rfl,J,q⟩:=h;obtain⟨t,rfl⟩:=D;obtain⟨t',rfl⟩:=F;exact B i j t t' s _ _ J ⟨.int (g i j),H,I.tok _,⟨_,rfl⟩,q⟩
def opI0{g:Int->Int->Int}(B:∀ (i j:Int) (t u:Tok) (s:Shared) (Q:Value->Shared->Prop) (E:Value->Shared->Prop),Q (.int (g i j) s.toks) { s with toks:=s.toks+1 }->wpAny (model X.prog X.w) X.A (f (.int i t) (.int j u)) Q E s) :
  OpR X f (rI0 λi j=>.int (g i j)):=by
 intro pins s σ H x y v u Q I D F h;obtain⟨i,j,rfl,rfl,q⟩:=h;obtain⟨t,rfl⟩:=D;obtain⟨t',rfl⟩:=F;exact B i j t t' s _ _ ⟨.int (g i j),H,I.tok _,⟨_,rfl⟩,q⟩
def zum{g:Int->Int->Bool}(B:∀ (i j:Int) (t u:Tok) (s:Shared) (Q:Value->Shared->Prop) (E:Value->Shared->Prop),Q (.bool (g i j)) s->wpAny (model X.prog X.w) X.A (f (.int i t) (.int j u)) Q E s) :
  OpR X f (rI0 λi j=>.bl (g i j)):=by
 intro pins s σ H x y v u Q I D F h;obtain⟨i,j,rfl,rfl,q⟩:=h;obtain⟨t,rfl⟩:=D;obtain⟨t',rfl⟩:=F;exact B i j t t' s _ _ ⟨.bl (g i j),H,I,rfl,q⟩
def zq5 (i j:Int):Prop:=0<j/\j<1073741824
def CPow (i j:Int):Prop:=0<=j/\j<=1000000/\i.natAbs<2 ^ 64
def zt5 (i j:Int):Prop:=(-(2 ^ 64)<i/\i<2 ^ 64)\/(-(2 ^ 64)<j/\j<2 ^ 64)
def zt5.ok {i j:Int}(h:zt5 i j):IntMulOk i j:=by
 rcases h with ⟨h1,h2⟩ | ⟨h1,h2⟩
 ·exact .of_left (intBits_le_64 h1 h2)
 ·exact .of_right (intBits_le_64 h1 h2)
def zsy:OpR X (binaryOp .Add) (rI0 λi j=>.int (i+j)):=opI0 λ_ _ _ _ _ _ _ q=>add_int q
def zsG:OpR X (binaryOp .Sub) (rI0 λi j=>.int (i - j)):=opI0 λ_ _ _ _ _ _ _ q=>sub_int q
def zsC:OpR X (binaryOp .Mult) (rI zt5 λi j=>.int (i * j)):=opI λ_ _ _ _ _ _ _ B q=>mul_int q B.ok
def zpM:OpR X (binaryOp .FloorDiv) (rI zq5 λi j=>.int (i / j)):=opI λi j _ _ _ _ _ B q=>by have h1:(0:Int)<j:=B.1;have h2:j<1073741824:=B.2;exact floordiv_int (by lia) (by rw[Int.fdiv_eq_ediv_of_nonneg i (by lia)];exact q) (.inl (PyProof.noPylong_small (by lia)))
def zsB:OpR X (binaryOp .Mod) (rI (λ_ j=>0<j) λi j=>.int (i % j)):=opI λi j _ _ _ _ _ B q=>by have h1:(0:Int)<j:=B;exact mod_int' (by lia) (by rw[Int.fmod_eq_emod_of_nonneg i (by lia)];exact q)
def zsE:OpR X (binaryOp .Pow) (rI CPow λi j=>.int (i ^ j.toNat)):=opI λ_ _ _ _ _ _ _ B q=>pow_int_small B.1 B.2.1 B.2.2 q
def unI{g:Int->Int}(B:∀ (i:Int) (t:Tok) (s:Shared) (Q:Value->Shared->Prop) (E:Value->Shared->Prop),Q (.int (g i) s.toks) { s with toks:=s.toks+1 }->wpAny (model X.prog X.w) X.A (f (.int i t)) Q E s) :
  UnR X f (rU λi=>.int (g i)):=by
 intro pins s σ H x v Q I D h;obtain⟨i,rfl,q⟩:=h;obtain⟨t,rfl⟩:=D;exact B i t s _ _ ⟨.int (g i),H,I.tok _,⟨_,rfl⟩,q⟩
def zow:UnR X (unaryOp .USub) (rU λi=>.int (-i)):=unI λ_ _ _ _ _ q=>neg_int q
end
def zv9:V->V->Bool
 | .non,.non=>true | .non,.int _=>true | .int _,.non=>true | .non,.bl _=>true | .bl _,.non=>true | .non,.str _=>true | .str _,.non=>true
 | .int _,.int _=>true | .bl _,.bl _=>true | .str _,.str _=>true | .byt _,.byt _=>true
 | .int _,.str _=>true | .str _,.int _=>true | .bl _,.str _=>true | .str _,.bl _=>true
 | _,_=>false
def rEq:R2:=λx y H Q=>zv9 x y=true/\Q (.bl (decide (x=y))) H
def rNe:R2:=λx y H Q=>zv9 x y=true/\Q (.bl (!decide (x=y))) H
def zjo {i j:Int}:decide (V.int i=V.int j)=(i==j):=by rw[bV];simp
def znX:decide (V.bl i=V.bl j)=(i==j):=by rw[bV];simp
def zjp:decide (V.str i=V.str j)=(i==j):=by rw[bV];simp
def zjn:decide (V.byt i=V.byt j)=(i.toList==j.toList):=by
 rw[bV]
 simp_all
section
variable {X:Cx}{a b c:Expr}{ta tb tc:TE}{pos:Pos}
def z8{pins:List (Addr×Obj)}{σ:St}{H:Hp}{Q:VK}(I:Inv X pins σ H s)(q:Q (.bl k) H)(e:k=B):EP X pins σ Q (.bool B) s:=by subst e;exact⟨.bl k,H,I,rfl,q⟩
def zvF:OpR X (compareOp .Eq) rEq:=by
 intro pins s σ H x y v u Q I F B h;obtain⟨D,q⟩:=h
 cases x with
 | non=>
  cases F
  cases y with
  | non=>cases B;exact PySem.EqNone.eq_none_none (z8 I q (by simp))
  | bl j=>cases B;exact PySem.EqNone.eq_none_bool (z8 I q (by simp))
  | int j=>obtain⟨t',rfl⟩:=B;exact PySem.EqNone.eq_none_int (z8 I q (by simp))
  | str j=>obtain⟨t',rfl⟩:=B;exact PySem.EqNone.eq_none_str (z8 I q (by simp))
  | _=>exact absurd (show false=true from D) aH
 | bl i=>
  cases F
  cases y with
  | non=>cases B;exact PySem.EqNone.eq_bool_none (z8 I q (by simp))
  | bl j=>cases B;exact eq_bool (z8 I q znX)
  | str j=>obtain⟨t',rfl⟩:=B;exact PySem.EqMixed.eq_bool_str (z8 I q (by simp))
  | _=>exact absurd (show false=true from D) aH
 | int i=>
  obtain⟨t,rfl⟩:=F
  cases y with
  | non=>cases B;exact PySem.EqNone.eq_int_none (z8 I q (by simp))
  | int j=>obtain⟨t',rfl⟩:=B;exact eq_int (z8 I q zjo)
  | str j=>obtain⟨t',rfl⟩:=B;exact PySem.EqMixed.eq_int_str (z8 I q (by simp))
  | _=>exact absurd (show false=true from D) aH
 | str i=>
  obtain⟨t,rfl⟩:=F
  cases y with
  | non=>cases B;exact PySem.EqNone.eq_str_none (z8 I q (by simp))
  | bl j=>cases B;exact PySem.EqMixed.eq_str_bool (z8 I q (by simp))
  | int j=>obtain⟨t',rfl⟩:=B;exact PySem.EqMixed.eq_str_int (z8 I q (by simp))
  | str j=>obtain⟨t',rfl⟩:=B;exact eq_str (z8 I q zjp)
  | _=>exact absurd (show false=true from D) aH
 | byt i=>
  obtain⟨t,rfl⟩:=F
  cases y with
  | byt j=>obtain⟨t',rfl⟩:=B;exact PySem.W.eq_bytes (z8 I q zjn)
  | _=>exact absurd (show false=true from D) aH
 | _=>cases y <;> exact absurd (show false=true from D) aH
def zvK:OpR X (compareOp .NotEq) rNe:=by
 intro pins s σ H x y v u Q I F B h;obtain⟨D,q⟩:=h
 cases x with
 | non=>
  cases F
  cases y with
  | non=>cases B;exact PySem.EqNone.ne_none_none (z8 I q (by simp))
  | bl j=>cases B;exact PySem.EqNone.ne_none_bool (z8 I q (by simp))
  | int j=>obtain⟨t',rfl⟩:=B;exact PySem.EqNone.ne_none_int (z8 I q (by simp))
  | str j=>obtain⟨t',rfl⟩:=B;exact PySem.EqNone.ne_none_str (z8 I q (by simp))
  | _=>exact absurd (show false=true from D) aH
 | bl i=>
  cases F
  cases y with
  | non=>cases B;exact PySem.EqNone.ne_bool_none (z8 I q (by simp))
  | bl j=>cases B;exact ne_bool (z8 I q (congrArg not znX))
  | str j=>obtain⟨t',rfl⟩:=B;exact PySem.EqMixed.ne_bool_str (z8 I q (by simp))
  | _=>exact absurd (show false=true from D) aH
 | int i=>
  obtain⟨t,rfl⟩:=F
  cases y with
  | non=>cases B;exact PySem.EqNone.ne_int_none (z8 I q (by simp))
  | int j=>obtain⟨t',rfl⟩:=B;exact ne_int (z8 I q (congrArg not zjo))
  | str j=>obtain⟨t',rfl⟩:=B;exact PySem.EqMixed.ne_int_str (z8 I q (by simp))
  | _=>exact absurd (show false=true from D) aH
 | str i=>
  obtain⟨t,rfl⟩:=F
  cases y with
  | non=>cases B;exact PySem.EqNone.ne_str_none (z8 I q (by simp))
  | bl j=>cases B;exact PySem.EqMixed.ne_str_bool (z8 I q (by simp))
  | int j=>obtain⟨t',rfl⟩:=B;exact PySem.EqMixed.ne_str_int (z8 I q (by simp))
  | str j=>obtain⟨t',rfl⟩:=B;exact ne_str (z8 I q (congrArg not zjp))
  | _=>exact absurd (show false=true from D) aH
 | byt i=>
  obtain⟨t,rfl⟩:=F
  cases y with
  | byt j=>obtain⟨t',rfl⟩:=B;exact PySem.W.ne_bytes (z8 I q (congrArg not zjn))
  | _=>exact absurd (show false=true from D) aH
 | _=>cases y <;> exact absurd (show false=true from D) aH
def zvJ:OpR X (compareOp .Lt) (rI0 λi j=>.bl (decide (i<j))):=zum λ_ _ _ _ _ _ _ q=>lt_int q
def zvI:OpR X (compareOp .LtE) (rI0 λi j=>.bl (decide (i<=j))):=zum λ_ _ _ _ _ _ _ q=>le_int q
def zvH:OpR X (compareOp .Gt) (rI0 λi j=>.bl (decide (j<i))):=zum λ_ _ _ _ _ _ _ q=>gt_int q
def zvG:OpR X (compareOp .GtE) (rI0 λi j=>.bl (decide (j<=i))):=zum λ_ _ _ _ _ _ _ q=>ge_int q
def zC(b:Expr)(h:q≠.In:=by decide)(h2:q≠.NotIn:=by decide):behindInMarks q b=false:=by
 have B:(q==CmpOp.In)=false:=by cases q <;> first | rfl | exact absurd rfl h
 have D:(q==CmpOp.NotIn)=false:=by cases q <;> first | rfl | exact absurd rfl h2
 cases b <;> simp[behindInMarks,B,D]
def zpR(D:OpR X (compareOp B) r)(F:PE X a ta)(J:PE X b tb)(L:behindInMarks B b=false):PE X (.Compare a [B] [b] pos) (tOp r ta tb):=by intro pins s σ H Q I h;exact wpAny_Compare1 (zuG F J I h λv u O x y H2 I2 U Y q=>D pins O σ H2 x y v u Q I2 U Y q) L
def zqS (t:TE):TT:=λσ H Q=>t σ H λx H'=>∃k,x = .bl k/\Q k H'
def zp8(B:OpR X (compareOp q) r)(D:PE X a ta)(F:PE X b tb)(J:behindInMarks q b=false):PT X (.Compare a [q] [b] pos) (zqS (tOp r ta tb)):=by
 intro pins s σ H Q I h
 refine wpAny_isTrue_Compare1 (thn (D pins s σ H _ I h) λv L ⟨x,H1,I1,O,U⟩=>thn (F pins L σ H1 _ I1 U) λu Y ⟨y,H2,I2,Z,q2⟩=>
  thn (B pins Y σ H2 x y v u _ I2 O Z q2) λc s3 ⟨z,H3,I3,r3,k,e,q3⟩=>?_) J
 subst e;cases r3;exact cN ⟨H3,I3,q3⟩
def zuE (K:PySem.W.Frag)(x:V)(H:Hp)(k:Bool):Prop:=
 match x with
 | .non=>k=false
 | .bl b=>k=b
 | .int i=>k=(i != 0)
 | .str y=>y.length<=sizeLine/\k=((y.length:Int) != 0)
 | .byt y=>y.size<=sizeLine/\k=((y.size:Int) != 0)
 | .ref p=>(∃xs,SqL K H p xs/\k = !xs.isEmpty)\/(∃xs,SqT K H p xs/\k = !xs.isEmpty)\/∃kvs,H p=some (.dK kvs)/\k = !kvs.isEmpty
 | _=>False
def zir {κ:Type}{kvs:List (κ×V)}{vs:List (κ×Value)}(r:KV kvs vs):(!vs.isEmpty) = !kvs.isEmpty:=by cases r <;> rfl
def zdr(r:yb xs its):(!its.toArray.isEmpty) = !xs.isEmpty:=by cases r <;> simp
def zfu:(sizeLine:Nat)<2 ^ 63:=by rw[bH];decide
def ztM:TruR X (λx H Q=>∃k,zuE X.K x H k/\Q k H):=by
 intro pins s σ H x v Q I F h;obtain⟨k,e,q⟩:=h;have U:=zfu;have Y:sizeLine=16777216:=bH
 cases x with
 | non=>
  cases F;have B:k=false:=e;subst B;exact truthy_none ⟨H,I,q⟩
 | bl b=>
  cases F;have B:k=b:=e;subst B;exact cN ⟨H,I,q⟩
 | int i=>
  obtain⟨t,rfl⟩:=F;have B:k=(i != 0):=e;subst B;exact PySem.P.truthy_int ⟨H,I,q⟩
 | str y=>
  obtain⟨t,rfl⟩:=F;obtain⟨L,B⟩:y.length<=sizeLine/\k=((y.length:Int) != 0):=e;subst B;exact PySem.P.truthy_str (by lia) ⟨H,I.tok _,q⟩
 | byt y=>
  obtain⟨t,rfl⟩:=F;obtain⟨L,B⟩:y.size<=sizeLine/\k=((y.size:Int) != 0):=e;subst B;exact PySem.W.truthy_bytes (by lia) ⟨H,I.tok _,q⟩
 | ref p=>
  cases F;have B:(∃xs,SqL X.K H p xs/\k = !xs.isEmpty)\/(∃xs,SqT X.K H p xs/\k = !xs.isEmpty)\/∃kvs,H p=some (.dK kvs)/\k = !kvs.isEmpty:=e;rcases B with ⟨xs,hx,B⟩ | ⟨xs,hx,B⟩ | ⟨kvs,hx,B⟩
  ·subst B;obtain⟨its,r,pl,J⟩:=I.list hx;have D:=r.length;exact wpAny_truthy_list pl.isList (by simp only[aZ];lia) ⟨H,I.tok _,by rw[zdr r];exact q⟩
  ·subst B;obtain⟨its,r,pl,J⟩:=I.tuple hx;have D:=r.length;exact truthy_tuple pl (by simp only[aZ];lia) ⟨H,I.tok _,by rw[zdr r];exact q⟩
  ·subst B;obtain⟨J,O,vs,r,m⟩:kvs.length<=sizeLine/\(p==sysModules)=false/\∃vs,KV kvs vs/\s.heap.DictOf (zX X.prog X.w) p vs:=I.hok p _ hx;have D:kvs.length=vs.length:=dL r;exact wpAny_truthy_dict O m (by lia) ⟨H,I.tok _,by rw[zir r];exact q⟩
 | _=>exact (show False from e).elim
def zna (ha:PE X a ta)(he:∀whole,isTrue a X.env whole=(do let v <- whole;standAt a.pos;holding [v] (truthy v))) :
  PT X a (λσ H Q=>ta σ H λx H'=>∃k,zuE X.K x H' k/\Q k H'):=by
 intro pins s σ H Q I h;exact isTrue_plain (thn (ha pins s σ H _ I h) <| by rintro v s1 ⟨x,H1,I1,r1,q1⟩;exact ztM pins s1 σ H1 x v Q I1 r1 q1) (he _)
def zaM(r:yb [x] q):∃u,q=[u]/\y1 x u:=by
 cases r with
 | cons B D=>cases D;exact⟨_,rfl,B⟩
def zl9:zc1 X (.builtin "abs") (λxs H Q=>∃i,xs=[.int i]/\Q (.int (if i<0 then -i else i)) H):=by intro pins s σ H xs B Q I r h;obtain⟨i,rfl,q⟩:=h;obtain⟨u,rfl,t,rfl⟩:=zaM r;exact call_abs_int λu tk=>⟨.int (if i<0 then -i else i),H,I.tok _,⟨_,rfl⟩,q⟩
def zrh (K:PySem.W.Frag)(x:V)(H:Hp)(n:Nat):Prop:=
 match x with
 | .str y=>y.length<=sizeLine/\n=y.length
 | .byt y=>y.size<=sizeLine/\n=y.size
 | .ref p=>(∃xs,SqL K H p xs/\n=xs.length)\/∃xs,SqT K H p xs/\n=xs.length
 | _=>False
def zmb:zc1 X (.builtin "len") (λxs H Q=>∃x n,xs=[x]/\zrh X.K x H n/\Q (.int n) H):=by
 intro pins s σ H xs us Q I r h;obtain⟨x,n,rfl,e,q⟩:=h;obtain⟨u,rfl,rx⟩:=zaM r;have hl:=zfu;have hs:sizeLine=16777216:=bH
 cases x with
 | str y=>
  obtain⟨t,rfl⟩:=rx;obtain⟨hy,e'⟩:y.length<=sizeLine/\n=y.length:=e;subst e';exact len_str (by lia) ⟨.int _,H,I.tok _,⟨_,rfl⟩,q⟩
 | byt y=>
  obtain⟨t,rfl⟩:=rx;obtain⟨hy,e'⟩:y.size<=sizeLine/\n=y.size:=e;subst e';exact PySem.W.len_bytes (by lia) ⟨.int _,H,I.tok _,⟨_,rfl⟩,q⟩
 | ref p=>
  cases rx;have e':(∃xs,SqL X.K H p xs/\n=xs.length)\/∃xs,SqT X.K H p xs/\n=xs.length:=e;rcases e' with ⟨xs,hx,e'⟩ | ⟨xs,hx,e'⟩
  ·subst e';obtain⟨its,r',pl,hz⟩:=I.list hx;have hlen:=r'.length;exact Calls.call_len_list pl.isList (by simp only[aZ];lia) ⟨.int xs.length,H,I.tok _,⟨_,by simp only[aZ];rw[hlen]⟩,q⟩
  ·subst e';obtain⟨its,r',pl,hz⟩:=I.tuple hx;have hlen:=r'.length;exact len_tuple pl (by simp only[aZ];lia) ⟨.int xs.length,H,I.tok _,⟨_,by simp only[aZ];rw[hlen]⟩,q⟩
 | _=>exact (show False from e).elim
end
section
variable {prog:Program}{w:World}{A:Around}{E:Value->Shared->Prop}{s:Shared}{K:PySem.W.Frag}{x dx C f:Addr}{mA:Str->Option Value}{name:Str}{v:Value}
end
def zlS.some_of(r:zlS (some v) o):∃u,o=some u/\y1 v u:=by
 cases o with
 | none=>exact (show False from r).elim
 | some u=>exact⟨u,rfl,r⟩
section
variable {P:Program}{w:World}{H H':Hp}{h h':Heap}{a C dx:Addr}{fs fs':List (Str×V)}
end
section
variable {X:Cx}{pins:List (Addr×Obj)}{σ:St}{H:Hp}{s:Shared}{a C dx:Addr}{fs:List (Str×V)}{f:Str}{v:V}{A:Around}{E:Value->Shared->Prop}
end
section
variable {X:Cx}{o e value:Expr}{f:Str}{pos pos' tpos:Pos}{ta tv:TE}
end
section
variable {X:Cx}{pins:List (Addr×Obj)}{σ:St}{H:Hp}{s:Shared}{A:Around}{E:Value->Shared->Prop}{Q:Value->Shared->Prop}{c:Value}{b:Bool}
end
structure Room (k:Nat)(A:Around):Prop where
 hd:A.handled=none
 dp:A.depth+3 * k+5<recursionLimit
 un:A.units+16 * k+200<cLine
def Room.mono {j k:Nat}{A:Around}(r:Room k A)(h:j<=k):Room j A:=⟨r.hd,by have:=r.dp;lia,by have:=r.un;lia⟩
def Room.deeper(r:Room (k+1) A)(env:Env):Room k (A.deeper env):=
 ⟨r.hd,by have:=r.dp;show A.depth+1+3 * k+5<_;lia,by have:=r.un;show A.units+3+16 * k+200<_;lia⟩
def Room.depth(r:Room k A):A.depth<recursionLimit:=by have:=r.dp;lia
def Room.units(r:Room k A):A.units+64<cLine:=by have:=r.un;lia
def zlV:TA:=λ_ H Q=>Q [] H
def zdg (ta:TE)(q:TA):TA:=λσ H Q=>ta σ H λx H1=>q σ H1 λxs H2=>Q (x::xs) H2
section
variable {X:Cx}{e:Expr}{es:List Expr}{te:TE}{t:TA}{pos:Pos}
def zsJ:PA X [] zlV:=λ_ _ _ _ H Q I h=>Calls.spliced_nil ⟨[],H,I,.nil,h⟩
def zpO (q:PE X e te)(B:PA X es t)(D:starEach (e::es) X.env=(false,eval e X.env)::starEach es X.env:=by rfl):PA X (e::es) (zdg te t):=by intro pos pins s σ H Q I h;rw[D];show wpAny _ _ (spliced ((false,eval e X.env)::backTo pos (starEach es X.env))) _ _ s;refine Calls.spliced_cons (thn (q pins s σ H _ I h)  ?_);rintro u F ⟨x,H1,I1,J,L⟩;exact thn (B pos pins F σ H1 _ I1 L) <| by rintro Y Z ⟨xs,H2,I2,O,U⟩;exact⟨x::xs,H2,I2,.cons J O,U⟩
end
abbrev Sp:=List V->Hp->VK->XK->Prop
abbrev CXT:=List Env->Hp->Shared->XK->Value->Shared->Prop
structure Env0 (P:Program)(w:World)(K:PySem.W.Frag)(mg:Str->Option Value)(base:Heap)(A:Around)(outer:List Env)(s:Shared)(H:Hp):Prop where
 frames:A.frames=some outer
 mod:Mod K mg base
 bs:∀b o,base.get? b=some o->s.heap.get? b=some o/\H b=none
 bsz:base.objs.size<=s.heap.objs.size
 funs:s.heap.FunFrames base outer
 frf:∀b∈frs outer,H b=none
 hok:HOk P w H s.heap
 bare:AllBare s.gens
def CE (q:List Env)(P:Program)(w:World)(H:Hp)(s:Shared)(Q:VK)(u:Value)(s':Shared):Prop:=
 ∃v H',s'.os=s.os/\AllBare s'.gens/\Un (frs q) [] H H' s.heap s'.heap/\HOk P w H' s'.heap/\y1 v u/\Q v H'
def CR (CX:CXT)(q:List Env)(P:Program)(w:World)(H:Hp)(s:Shared)(Q:VK)(E:XK)(r:Result)(s':Shared):Prop:=
 match r with
 | .ok (.ret u)=>CE q P w H s Q u s'
 | .ok _=>False
 | .error e=>CX q H s E e s'
structure FnOk (P:Program)(w:World)(K:PySem.W.Frag)(mg:Str->Option Value)(base:Heap)(CX:CXT)(k:Nat)(f:Addr)(fd:FuncData)(ps:List Str)(sp:Sp):Prop where
 len:∀vs H Q E,sp vs H Q E->vs.length=ps.length
 run:∀ (A:Around) (outer:List Env) (s:Shared) (H:Hp) (args:Args) (us:List Value) (vs:List V) (Q:VK) (E:XK),Room k A->Env0 P w K mg base A outer s H->BindsTo s fd args (ps.zip us)->yb vs us->sp vs H Q E->
  codeAny (model P w) A (.call (.ref f) args) (CR CX outer P w H s Q E) s
def FnOk.mono{P:Program}{w:World}{K:PySem.W.Frag}{mg:Str->Option Value}{base:Heap}{CX:CXT}{f:Addr}{fd:FuncData}{ps:List Str}(F:FnOk P w K mg base CX j f fd ps sp)(h:j<=k) :
  FnOk P w K mg base CX k f fd ps sp:=⟨F.len,λA q s H args B vs Q E D=>F.run A q s H args B vs Q E (D.mono h)⟩
def FnOk.imp{P:Program}{w:World}{K:PySem.W.Frag}{mg:Str->Option Value}{base:Heap}{CX:CXT}{f:Addr}{fd:FuncData}{ps:List Str}{sp D:Sp}(F:FnOk P w K mg base CX k f fd ps sp)(h:∀vs H Q E,D vs H Q E->sp vs H Q E):FnOk P w K mg base CX k f fd ps D:=
 ⟨λvs H Q E q=>F.len vs H Q E (h _ _ _ _ q),λA B s H args I vs Q E J L O U Y=>F.run A B s H args I vs Q E J L O U (h _ _ _ _ Y)⟩
section
variable {X:Cx}{pins:List (Addr×Obj)}{σ:St}{H:Hp}{s s':Shared}
def Inv.env0 (I:Inv X pins σ H s):Env0 X.prog X.w X.K X.mg X.base X.A X.stack s H:=
 ⟨I.ok.frames,I.ok.mod,I.bs,ar I.ok.bsz I.sz,I.stack,I.stkFree,I.hok,I.bare⟩
def Inv.after(I:Inv X pins σ H s)(h:CE X.stack X.prog X.w H s Q u s'):EP X pins σ Q u s':=by obtain⟨v,H',J,B,L,D,r,q⟩:=h;obtain⟨O,g,d,t,F⟩:=s';obtain rfl:F=s.os:=J;exact⟨v,H',I.call (h':=O) (g':=g) (d':=d) (t':=t) (ch:=[]) L D B (λb z=>absurd z (by simp)),r,q⟩
end
def zg3 (sp:Sp)(dvs:List V)(E:XK)(t:TA):TE:=λσ H Q=>t σ H λvs H1=>sp (vs++dvs) H1 Q E
def zia (K:PySem.W.Frag)(fd:FuncData)(ps:List Str)(ds:List Value):Prop:=
 ∀ (s:Shared) (q:List Value),K.In s.heap->(q++ds).length=ps.length->BindsTo s fd ⟨q,[]⟩ (ps.zip (q++ds))
def zia.all {K:PySem.W.Frag}{fd:FuncData}{ps:List Str}(h:∀q:List Value,q.length=ps.length->bindArgs fd ⟨q,[]⟩=pure (ps.zip q)):zia K fd ps []:=λs q _ B=>by rw[dg] at B ⊢;exact .of_eq (h q B)
def ziT (CX:CXT)(X:Cx)(E:XK):Prop:=∀ (pins:List (Addr×Obj)) (σ:St) (H:Hp) (s:Shared) (e:Value) (s':Shared),Inv X pins σ H s->CX X.stack H s E e s'->X.xe e s'
section
variable {X:Cx}{CX:CXT}{k:Nat}{f C:Addr}{fd:FuncData}{ps:List Str}{sp:Sp}{dvs:List V}{ds:List Value}{E:XK}{x m:Str}{p pos apos:Pos}{e o:Expr}{es:List Expr}{ta:TE}{t:TA}
def ztw{pins:List (Addr×Obj)}{σ:St}{H:Hp}{s:Shared}{Q:VK}{vs:List V}(F:FnOk X.prog X.w X.K X.mg X.base CX k f fd ps sp)(J:Room k X.A)(L:zia X.K fd ps ds)(O:yb dvs ds)(U:ziT CX X E)(I:Inv X pins σ H s)(r:yb vs q)(h:sp (vs++dvs) H Q E):wpAny (model X.prog X.w) X.A (call (.ref f) q) (EP X pins σ Q) X.xe s:=by
 have D:yb (vs++dvs) (q++ds):=r.append O;have Y:(q++ds).length=ps.length:=by rw[<- D.length];exact F.len _ _ _ _ h
 refine wpAny_call (dC (F.run X.A X.stack s H ⟨q,[]⟩ (q++ds) (vs++dvs) Q E J I.env0 (L s q I.kIn Y) D h) λr s' B=>?_)
 cases r with
 | error e=>exact U pins σ H s e s' I B
 | ok fl=>
  cases fl with
  | ret u=>exact I.after B
  | next=>exact False.elim B
  | brk=>exact False.elim B
  | cont=>exact False.elim B
def zpQ (F:FnOk X.prog X.w X.K X.mg X.base CX k f fd ps sp)(J:Room k X.A)(L:Gl X x)(O:X.mg x=some (.ref f))(U:PySem.W.keepIn X.K (.ref f)=true)(Y:zia X.K fd ps ds)(Z:yb dvs ds)(hx:ziT CX X E)
  (ha:PA X (e::es) t) (B:(x==("__debug__" : Str))=false:=by decide) (he:starEach (e::es) X.env=(false,eval e X.env)::starEach es X.env:=by rfl) (D:(backTo pos (starEach es X.env)).any (·.1)=false:=by rfl) :
  PE X (.Call (.Name x p) (e::es) [] pos) (zg3 sp dvs E t):=by
 intro pins s σ H Q I h;refine dh (zpo I L O ?_ B);refine PySem.W.callWith_K (h₀:=X.base) I.ok.mod.kin U (thn (ha pos pins s σ H _ I h) λus s1 ⟨vs,H1,I1,r,q⟩=>⟨I1.kIn,?_⟩) he D;exact ztw F J Y Z hx I1 r q
end
section
variable {X:Cx}{CX:CXT}{k:Nat}{f C:Addr}{fd:FuncData}{ps ks:List Str}{sp:Sp}{E:XK}{x m:Str}{p pos apos kpos:Pos}{e o:Expr}{es:List Expr}{kws:List Keyword}{te ta:TE}{t tk:TA}{nm:Option Str}
variable {g:List Value->List Value->List Value}{gV:List V->List V->List V}
end
structure FnScope (N P:List Str)(sc:Scope):Prop where
 kind:sc.kind = .function
 co:sc.isCoroutine=false
 gen:sc.isGenerator=false
 nd:N.Nodup
 pre:N.take P.length=P
 par:∀x∈P,sc.names.lookup x=some .local\/sc.names.lookup x=some .cell
 nofree:∀y∈sc.names,y.2≠.free
def zeY {B:Str->Option NameKind}{x:Str}:∀ {q:List (Str×Value)} {m:Str->Option Value},(∀v,(x,v)∉q)->bindL B q m x=m x
 | [],_,_=>rfl
 | (n,v)::r,m,h=>by
  unfold bindL;rw[zeY λw D=>h w (ao _ D)];split
  all_goals grind
def zeW {B:Str->Option NameKind}{x:Str}:∀ {q:List (Str×Value)} {m:Str->Option Value},(∀v,(x,v)∉q)->bindC B q m x=m x
 | [],_,_=>rfl
 | (n,v)::r,m,h=>by
  unfold bindC;rw[zeW λw D=>h w (ao _ D)];split
  all_goals grind
def zeX {q:Str->Option NameKind}{x:Str}{v:Value}:∀ {P:List Str} {vs:List Value} {i:Nat} {m:Str->Option Value},P.Nodup->P[i]?=some x->vs[i]?=some v->q x=some .local->
  bindL q (P.zip vs) m x=some v
 | [],_,_,_,_,h,_,_=>by simp at h
 | _::_,[],_,_,_,_,h,_=>by simp at h
 | p::P,w::vs,0,m,B,h1,h2,D=>by simp at h1 h2;subst h1;subst h2;show bindL q ((p,w)::P.zip vs) m p=_;unfold bindL;rw[zeY λv F=>(cu.mp B).1 (List.of_mem_zip F).1,if_pos D];simp
 | p::P,w::vs,i+1,m,B,h1,h2,D=>by show bindL q ((p,w)::P.zip vs) m x=_;unfold bindL;exact zeX (i:=i) (cu.mp B).2 (by simpa using h1) (by simpa using h2) D
def zeV {q:Str->Option NameKind}{x:Str}{v:Value}:∀ {P:List Str} {vs:List Value} {i:Nat} {m:Str->Option Value},P.Nodup->P[i]?=some x->vs[i]?=some v->q x≠some .local->
  bindC q (P.zip vs) m x=some v
 | [],_,_,_,_,h,_,_=>by simp at h
 | _::_,[],_,_,_,_,h,_=>by simp at h
 | p::P,w::vs,0,m,B,h1,h2,D=>by simp at h1 h2;subst h1;subst h2;show bindC q ((p,w)::P.zip vs) m p=_;unfold bindC;rw[zeW λv F=>(cu.mp B).1 (List.of_mem_zip F).1,if_neg D];simp
 | p::P,w::vs,i+1,m,B,h1,h2,D=>by show bindC q ((p,w)::P.zip vs) m x=_;unfold bindC;exact zeV (i:=i) (cu.mp B).2 (by simpa using h1) (by simpa using h2) D
def xt (N:List Str)(vs:List V):St:=vs.map some++List.replicate (N.length - vs.length) none
def zdX (CX:CXT)(P:Program)(w:World)(K:PySem.W.Frag)(mg:Str->Option Value)(base:Heap)(N:List Str)(qual:Str)(scope:Scope)(f:Addr)(cd:Value)(A:Around)(outer:List Env)(s:Shared)(H:Hp)(E:XK):Cx where
 prog:=P
 w:=w
 K:=K
 mg:=mg
 base:=base
 A:=A.deeper (envOfC qual scope s.heap.objs.size f cd)
 N:=N
 s₀:=s
 H₀:=H
 env:=envOfC qual scope s.heap.objs.size f cd
 outer:=outer
 stack:=envOfC qual scope s.heap.objs.size f cd::outer
 ex:=[]
 calm:=true
 fn:=λ_=>true
 pn:=[]
 xe:=λe s'=>wpAny (model P w) (A.deeper (envOfC qual scope s.heap.objs.size f cd)) (leaving (envOfC qual scope s.heap.objs.size f cd) e) (λ_ s''=>CX outer H s E e s'') (λe' s''=>CX outer H s E e' s'') s'
def zhh{B:Scope}(h:B.names.lookup x=some .cell):∃c,(cellsFrom n B.names []).lookup x=some c:=by have q:=PySem.W.cellsFrom_some B.names n [] (.inl h);exact Option.isSome_iff_exists.mp q
def zj1{CX:CXT}{P:Program}{w:World}{K:PySem.W.Frag}{mg:Str->Option Value}{base:Heap}{N ps:List Str}{D:Str}{scope:Scope}{f:Addr}{U:Value}{A:Around}{B:List Env}{s Z:Shared}{H:Hp}{E:XK}{vs:List V}(S:FnScope N ps scope)(hd:A.handled=none)(F:Env0 P w K mg base A B s H)(hl:vs.length=ps.length)(r:yb vs Y)(x:InCallC s s.heap.objs.size (bindL (envOfC D scope s.heap.objs.size f U).kindOf (ps.zip Y) λ_=>none) (cellsFrom (s.heap.objs.size+1) scope.names []) (bindC (envOfC D scope s.heap.objs.size f U).kindOf (ps.zip Y) λ_=>none) Z) :
  Inv (zdX CX P w K mg base N D scope f U A B s H E) [] (xt N vs) H Z:=by
 have ac:ps.length<=N.length:=by have:=congrArg List.length S.pre;rw[aQ] at this;lia
 obtain⟨h1,tk,rfl,hk⟩:=x.done;have I:∀b:Addr,b∉(zdX CX P w K mg base N D scope f U A B s H E).ex:=λb z=>absurd (show b∈([]:List Addr) from z) (by simp)
 refine⟨⟨F.mod,S.kind,rfl,rfl,ah _,λy z c h1 h2=>?_,λy J=>?_,λy c _ h=>?_,λ_=>hd,Around.frames_deeper F.frames,.inr ⟨rfl,rfl⟩,λb z=>absurd z (I b),F.bs,F.bsz,λb _ _=>I b,λb z=>absurd z (I b),F.funs,F.frf⟩,
  rfl,F.bare,Un.kept hk,⟨_,x.toInCall.ns,λi y v h1 h2 h3=>?_⟩,λy c h=>⟨_,x.cell y c h⟩,F.hok.fresh (ah _),λy c h=>?_,λp L=>absurd (show p∈([]:List (Addr×Obj)) from L) (by simp),F.hok.kept hk,?_⟩
 ·exact name_of_addr x.apart (cz h1) (cz h2)
 ·have J:scope.names.lookup y=some .cell\/scope.names.lookup y=some .free:=J;rcases J with J | J
  ·exact zhh J
  ·exact absurd rfl (S.nofree _ (cz J))
 ·exact cj (x.above y c (cz h))
 ·have hi:i<vs.length:=by
   unfold xt at h2;by_cases hi:i<vs.length
   ·exact hi
   ·rw[bj (by simpa using hi)] at h2;rw[List.getElem?_replicate] at h2
    simp_all
  have ha:vs[i]?=some v:=by
   unfold xt at h2;rw[bh (by simpa using hi),aw] at h2
   simp_all
  obtain⟨u,hu,rv⟩:=r.get ha
  have L:ps[i]?=some y:=by rw[<- S.pre,c9 (by lia)];exact h1
  have O:ps.Nodup:=by rw[<- S.pre];exact S.nd.sublist (dq _ _)
  refine⟨u,rv,?_⟩;rcases S.par y (au L) with k | k
  ·exact .inl ⟨k,zeX O L hu k⟩
  ·obtain⟨c,e⟩:=zhh (n:=s.heap.objs.size+1) k;refine .inr ⟨.inl k,c,e,?_⟩;have q:=x.cell y c e;rw[zeV O L hu (by show scope.names.lookup y≠_;rw[k];decide)] at q;exact q
 ·exact F.hok.fresh (cj (x.above y c (cz h)))
 ·unfold xt;show _=N.length
  grind
def zvc{CX:CXT}{P:Program}{w:World}{K:PySem.W.Frag}{mg:Str->Option Value}{base:Heap}{f:Addr}{name D:Str}{L:Arguments}{body:List Stmt}{scope:Scope}{dV kV ac pm F ct oc:Value}{an od:Option Addr}{N ps:List Str}{sp:Sp}(lk:K.lookup f=some ⟨oc,od,.func (PySem.W.fnOf name D L body scope dV kV ac pm an F ct),al⟩)(ap:PySem.W.codeIn K F D=true)(S:FnScope N ps scope)(ad:∀vs H Q E,sp vs H Q E->vs.length=ps.length)(U:∀ (A:Around) (B:List Env) (s:Shared) (H:Hp) (vs:List V) (Q:VK) (E:XK),Room k (A.deeper (envOfC D scope s.heap.objs.size f F))->sp vs H Q E->
   ∃t,PSs (zdX CX P w K mg base N D scope f F A B s H E) body t/\t { nx:=λ_ H'=>Q .non H',rt:=Q } (xt N vs) H) :
  FnOk P w K mg base CX (k+1) f (PySem.W.fnOf name D L body scope dV kV ac pm an F ct) ps sp:=by
 refine⟨ad,λA B s H args us vs Q E hr e0 hb r ag=>?_⟩;have hl:=ad _ _ _ _ ag;have KX:K.In s.heap:=e0.mod.kin.keeps λb o e=>(e0.bs b o e).1;have lim:s.heap.NoLimit:=e0.mod.nolimit.keeps λb o e=>(e0.bs b o e).1
 have Y:∀y∈ps.zip us,scope.names.lookup y.1=some .local\/(scope.names.lookup y.1=some .cell/\((cellsFrom (s.heap.objs.size+1) scope.names []).lookup y.1).isSome=true):=by
  rintro⟨n,v⟩ hy;rcases S.par n (List.of_mem_zip hy).1 with q | q
  ·exact .inl q
  ·exact .inr ⟨q,PySem.W.cellsFrom_some _ _ _ (.inl q)⟩
 refine codeAny_call_function hr.depth (KX _ _ lk) rfl S.co S.gen rfl (PySem.W.codeRec_of KX ap) (hb _ _ _ _ ?_);refine wpAny_newFunctionEnv_cells S.kind Y λenv he s1 x=>?_;subst he;refine⟨lim.keeps x.toInCall.keep,codeAny_func ?_⟩;obtain⟨t,ht,hq⟩:=U A B s H vs Q E (hr.deeper _) ag;have I:Inv (zdX CX P w K mg base N D scope f F A B s H E) [] (xt N vs) H s1:=zj1 S hr.hd e0 hl r x;refine aS (ht [] s1 (xt N vs) H _ I hq) (λfl s' Z=>?_) λe s' Z=>Z
 have fin:∀ {O:St} {H':Hp} {v:V} {u:Value},Inv (zdX CX P w K mg base N D scope f F A B s H E) [] O H' s'->y1 v u->Q v H'->CE B P w H s Q u s':=
  λ{O H' v u} J rv q=>⟨v,H',J.os,J.bare,J.base,J.hok,rv,q⟩
 cases fl with
 | ret u=>
  obtain⟨v,O,H',J,rv,q⟩:=Z;exact fin J rv q
 | next=>
  obtain⟨O,H',J,q⟩:=Z;exact fin (v:=V.non) (u:=Value.none) J rfl q
 | brk=>
  obtain⟨_,_,_,q⟩:=Z;exact False.elim q
 | cont=>
  obtain⟨_,_,_,q⟩:=Z;exact False.elim q
section
variable {X:Cx}{x:Str}{p pos:Pos}{e:Expr}{es:List Expr}{t:TA}{id T:String}{r:List V->Hp->VK->Prop}
def tCB (r:List V->Hp->VK->Prop)(t:TA):TE:=λσ H Q=>t σ H λvs H1=>r vs H1 Q
def zm0 (D:zc1 X (.builtin id) r)(F:Gl X x)(J:X.mg x=none)(L:bootBuiltins x=some (.builtin id))(O:PA X (e::es) t)(U:x ≠ "__name__" := by decide)(q:(x==("__debug__" : Str))=false:=by decide)
  (Y:starEach (e::es) X.env=(false,eval e X.env)::starEach es X.env:=by rfl) (B:(backTo pos (starEach es X.env)).any (·.1)=false:=by rfl):PE X (.Call (.Name x p) (e::es) [] pos) (tCB r t):=by
 intro pins s σ H Q I h;refine dh (zdu I F J L ?_ U q);exact PyProof.Rows.callWith_builtin1 (thn (O pos pins s σ H _ I h) <| by rintro Z s1 ⟨vs,H1,I1,r1,q1⟩;exact D pins s1 σ H1 vs Z Q I1 r1 q1) Y B
def zkY (D:zc1 X (.type T) r)(F:Gl X x)(J:X.mg x=none)(L:bootBuiltins x=some (.type T))(O:PA X (e::es) t)(U:x ≠ "__name__" := by decide)(q:(x==("__debug__" : Str))=false:=by decide)
  (Y:starEach (e::es) X.env=(false,eval e X.env)::starEach es X.env:=by rfl) (B:(backTo pos (starEach es X.env)).any (·.1)=false:=by rfl):PE X (.Call (.Name x p) (e::es) [] pos) (tCB r t):=by
 intro pins s σ H Q I h;refine dh (zdu I F J L ?_ U q);exact b9 (thn (O pos pins s σ H _ I h) <| by rintro Z s1 ⟨vs,H1,I1,r1,q1⟩;exact D pins s1 σ H1 vs Z Q I1 r1 q1) Y B
def ziz (B:zc1 X (.type T) r)(D:Gl X x)(F:X.mg x=none)(J:bootBuiltins x=some (.type T))(L:x ≠ "__name__" := by decide)(q:(x==("__debug__" : Str))=false:=by decide) :
  PE X (.Call (.Name x p) [] [] pos) (tCB r zlV):=by
 intro pins s σ H Q I h;refine dh (zdu I D F J ?_ L q);exact PyProof.Rows.callWith_type0 (B pins s σ H [] [] Q I .nil h)
end
section
variable {κ:Type}[DecidableEq κ]
def zbh (kvs:List (κ×V))(k:κ):Option V:=(kvs.find? λkv=>decide (kv.1=k)).map (·.2)
def zal (kvs:List (κ×V))(k:κ)(v:V):List (κ×V):=
 if (kvs.any λkv=>decide (kv.1=k))=true then kvs.map (λkv=>if kv.1=k then (kv.1,v) else kv) else kvs++[(k,v)]
def xw{p:κ×V}(e:p.1=k):zbh (p::r) k=some p.2:=by simp[zbh,bq,e]
def xO{p:κ×V}{r:List (κ×V)}(e:¬ p.1=k):zbh (p::r) k=zbh r k:=by simp[zbh,bq,e]
def zh7 (k:κ):∀kvs:List (κ×V),(kvs.any λkv=>decide (kv.1=k))=(zbh kvs k).isSome
 | []=>rfl
 | p::r=>by
  rw[cA];by_cases e:p.1=k
  ·simp only[xw e,aY e,Bool.true_or,Option.isSome_some]
  ·rw[xO e,aX e,Bool.false_or];exact zh7 k r
def xW (kvs:List (κ×V))(k:κ)(v:V):(zal kvs k v).length<=kvs.length+1:=by
 unfold zal;split
 all_goals simp_all
def zlS.isSome_eq(r:zlS o u):o.isSome=u.isSome:=by
 cases o with
 | none=>cases u with
  | none=>rfl
  | some _=>exact (show False from r).elim
 | some _=>cases u with
  | none=>exact (show False from r).elim
  | some _=>rfl
def KV.val(r:KV kvs vs)(k:κ):zlS (zbh kvs k) (valueAt vs k):=by
 unfold KV at r
 induction r with
 | nil=>exact True.intro
 | @cons p q ps B h t F=>
  obtain⟨h1,h2⟩:=h;by_cases e:p.1=k
  ·have D:q.1=k:=h1.symm.trans e;have b:valueAt (q::B) k=some q.2:=by simp[valueAt,bq,D]
   rw[xw e,b];exact h2
  ·have D:¬ q.1=k:=λz=>e (h1.trans z);have b:valueAt (q::B) k=valueAt B k:=by simp[valueAt,bq,D]
   rw[xO e,b];exact F
def KV.any(r:KV kvs vs)(k:κ):(kvs.any λkv=>decide (kv.1=k))=vs.any λkv=>decide (kv.1=k):=by
 unfold KV at r
 induction r with
 | nil=>rfl
 | cons h t q=>rw[cA,cA,q,h.1]
def KV.repl {kvs:List (κ×V)}{vs:List (κ×Value)}(r:KV kvs vs)(k:κ){y:V}{u:Value}(D:y1 y u) :
  KV (kvs.map λkv=>if kv.1=k then (kv.1,y) else kv) (vs.map λkv=>if kv.1=k then (kv.1,u) else kv):=by
 unfold KV at r ⊢
 induction r with
 | nil=>exact .nil
 | @cons p q ps F h t B=>
  rw[aA,aA];refine .cons ?_ B
  grind
def KV.put(r:KV kvs vs)(k:κ)(q:y1 y u):KV (zal kvs k y) (stored vs k u):=by
 unfold zal stored;rw[r.any k];by_cases e:(vs.any λkv=>decide (kv.1=k))=true
 ·rw[if_pos e,if_pos e];exact r.repl k q
 ·rw[if_neg e,if_neg e];exact Paired.snoc r ⟨rfl,q⟩
def KV.length {kvs:List (κ×V)}{vs:List (κ×Value)}(r:KV kvs vs):kvs.length=vs.length:=dL r
end
def zkg(r:y1 (kV k) u):(zX P w).is k u=true:=by
 cases k with
 | inl i=>obtain⟨t,e⟩:=(show ∃t,u=Value.int i t from r);subst e;exact zgG P w i t
 | inr x=>obtain⟨t,e⟩:=(show ∃t,u=Value.str x t from r);subst e;exact zgH P w x t
def zfk:∀ {ks:List Key} {q:List Value},yb (ks.map kV) q->ItemsAre (zX P w) ks q
 | [],_,r=>by rw[dD] at r;cases r;exact .nil
 | k::ks,_,r=>by
  rw[aA] at r
  cases r with
  | cons h t=>exact .cons (zkg h) (zfk t)
abbrev KT (H:Hp):List (List Key×V)->List (List Key×Addr×Value)->Prop:=Paired λp q=>p.1=q.1/\H q.2.1=some (.tup (p.1.map kV))/\y1 p.2 q.2.2
def KT.val(r:KT H kvs xs)(k:List Key):zlS (zbh kvs k) ((atKey xs k).map (·.2)):=by
 induction r with
 | nil=>exact True.intro
 | @cons p q ps B h t F=>
  obtain⟨h1,_,h2⟩:=h;by_cases e:p.1=k
  ·have D:q.1=k:=h1.symm.trans e;have b:atKey (q::B) k=some q.2:=by simp[atKey,bq,D]
   rw[xw e,b];exact h2
  ·have D:¬ q.1=k:=λz=>e (h1.trans z);have b:atKey (q::B) k=atKey B k:=by simp[atKey,bq,D]
   rw[xO e,b];exact F
def KT.repl(r:KT H kvs xs)(k:List Key)(D:y1 y u) :
  KT H (kvs.map λkv=>if kv.1=k then (kv.1,y) else kv) (xs.map (putAt k u)):=by
 induction r with
 | nil=>exact .nil
 | @cons p q ps F h t B=>
  rw[aA,aA];refine .cons ?_ B;obtain⟨h1,h2,I⟩:=h;unfold putAt;by_cases e:p.1=k
  all_goals simp_all
def KT.put(r:KT H kvs xs)(k:List Key)(D:H b=some (.tup (k.map kV)))(B:y1 y u) :
  KT H (zal kvs k y) (storedH xs k b u):=by
 have e:(kvs.any λkv=>decide (kv.1=k))=(atKey xs k).isSome:=by rw[zh7,(r.val k).isSome_eq,Option.isSome_map]
 unfold zal storedH;rw[e];by_cases q:(atKey xs k).isSome=true
 ·rw[if_pos q,if_pos q];exact r.repl k B
 ·rw[if_neg q,if_neg q];exact Paired.snoc r ⟨rfl,D,B⟩
def KT.keeps(r:KT H kvs xs)(q:∀b ys,H b=some (.tup ys)->H' b=some (.tup ys)):KT H' kvs xs:=
 Paired.mapP r λ_ _ z=>⟨z.1,q _ _ z.2.1,z.2.2⟩
section
variable {P:Program}{w:World}{H:Hp}{h:Heap}{a:Addr}
def zqx(q:HOk P w H h)(e:Rd H a u):y0 P w H h a u:=e.ok q
def zjs(q:HOk P w H h)(e:Rd H a (.dK kvs)):kvs.length<=sizeLine/\(a==sysModules)=false/\∃vs,KV kvs vs/\h.DictOf (zX P w) a vs:=
 show y0 P w H h a (.dK kvs) from zqx q e
def zoO(q:HOk P w H h)(e:H a=some (.dK kvs)):kvs.length<=sizeLine/\(a==sysModules)=false/\∃vs,KV kvs vs/\h.DictOf (zX P w) a vs:=zjs q (.inl e)
def zhE(q:HOk P w H h)(e:H a=some (.tup (ks.map kV))):(tupleKind (zX P w)).is h ks a:=by obtain⟨_,its,r,o,h1,h2,⟨n,B⟩,_⟩:=(show y0 P w H h a (.tup (ks.map kV)) from q a _ e);exact⟨o,its.toArray,n,h1,h2,B,by simpa using zfk r⟩
def zoP(D:HOk P w H h)(e:Rd H a (.dT kvs)):kvs.length<=sizeLine/\(a==sysModules)=false/\
  ∃xs,KT H kvs xs/\h.DictOfH (tupleKind (zX P w)) a xs:=by
 obtain⟨z,y,xs,r,o,es,F,h1,h2,I,J,L⟩:=(show y0 P w H h a (.dT kvs) from zqx D e);refine⟨z,y,xs,r,o,es,F,h1,h2,I,J,λx B=>?_,L⟩
 have all:∀ {l:List (List Key×V)} {m:List (List Key×Addr×Value)},KT H l m->∀x∈m,(tupleKind (zX P w)).is h x.1 x.2.1:=by
  intro l m q
  induction q with
  | nil=>intro x B;exact nomatch B
  | @cons p q ps U Y t O=>
   intro x B;rcases aK.mp B with e | B
   ·subst e;exact zhE D (by simp_all)
   ·exact O x B
 exact all r x B
def zrH(q:HOk P w H h)(e:H a=some (.dT kvs)):kvs.length<=sizeLine/\(a==sysModules)=false/\
  ∃xs,KT H kvs xs/\h.DictOfH (tupleKind (zX P w)) a xs:=zoP q (.inl e)
end
def zc2 (H:Hp)(a:Addr)(y:V)(r:Option V):Prop:=
 (∃kvs k,Rd H a (.dK kvs)/\y=kV k/\r=zbh kvs k)\/∃kvs k b,Rd H a (.dT kvs)/\y = .ref b/\H b=some (.tup (k.map kV))/\r=zbh kvs k
def zdK (H:Hp)(a:Addr)(y v:V)(H':Hp):Prop:=
 (∃kvs k,H a=some (.dK kvs)/\y=kV k/\kvs.length<sizeLine/\H'=upd H a (.dK (zal kvs k v)))\/
 ∃kvs k b,H a=some (.dT kvs)/\y = .ref b/\H b=some (.tup (k.map kV))/\kvs.length<sizeLine/\H'=upd H a (.dT (zal kvs k v))
def zc2.k {H:Hp}{a:Addr}{kvs:List (Key×V)}{k:Key}(e:H a=some (.dK kvs)):zc2 H a (kV k) (zbh kvs k):=.inl ⟨kvs,k,.inl e,rfl,rfl⟩
def zc2.t {H:Hp}{a b:Addr}{kvs:List (List Key×V)}{k:List Key}(e:H a=some (.dT kvs))(q:H b=some (.tup (k.map kV))):zc2 H a (.ref b) (zbh kvs k):=.inr ⟨kvs,k,b,.inl e,rfl,q,rfl⟩
def zdK.k {H:Hp}{a:Addr}{kvs:List (Key×V)}{k:Key}{v:V}(e:H a=some (.dK kvs))(q:kvs.length<sizeLine):zdK H a (kV k) v (upd H a (.dK (zal kvs k v))):=.inl ⟨kvs,k,e,rfl,q,rfl⟩
def zdK.t {H:Hp}{a b:Addr}{kvs:List (List Key×V)}{k:List Key}{v:V}(e:H a=some (.dT kvs))(q:H b=some (.tup (k.map kV)))(B:kvs.length<sizeLine) :
  zdK H a (.ref b) v (upd H a (.dT (zal kvs k v))):=.inr ⟨kvs,k,b,e,rfl,q,B,rfl⟩
section
variable {X:Cx}{pins:List (Addr×Obj)}{σ:St}{H:Hp}{s:Shared}{a:Addr}{y v:V}{u r:Value}{o:Option V}{A:Around}{E:Value->Shared->Prop}
def Inv.big (I:Inv X pins σ H s):sysModules<s.heap.objs.size:=by have h:mainGlobals<s.heap.objs.size:=(I.mod.glob.keeps I.bk).lt;exact Nat.lt_trans (by decide) h
def zjl(O:A.units+1<cLine)(I:Inv X pins σ H s)(g:zc2 H a y (some v))(L:y1 y u)(h:∀w' s',Inv X pins σ H s'->y1 v w'->Q w' s') :
  wpAny (model X.prog X.w) A (getItem (.ref a) u) Q E s:=by
 rcases g with ⟨kvs,k,e,ey,l⟩ | ⟨kvs,k,b,e,ey,eb,l⟩
 ·subst ey;obtain⟨z,U,vs,q,D⟩:=zjs I.hok e;obtain⟨w',F,B⟩:=zlS.some_of (v:=v) (o:=valueAt vs k) (by rw[l];exact q.val k);exact wpAny_getItem_of (zkg L) D.mapOf F (h w' _ (I.tok _) B)
 ·subst ey;cases (show u=Value.ref b from L);obtain⟨z,U,xs,q,D⟩:=zoP I.hok e;obtain⟨w',F,B⟩:=zlS.some_of (v:=v) (o:=(atKey xs k).map (·.2)) (by rw[l];exact q.val k);obtain⟨p,Y,J⟩:=aE.mp F;refine wpAny_getItem_heap (tupleKind_room_in1 O) (zhE I.hok eb) D Y ?_;rw[J];exact h w' _ (I.tok _) B
def zcb(I:Inv X pins σ H s)(D:Mut (H a))(F:Heap.SameBut a s.heap h')(J:∃q,h'.get? a=some q)(B:y0 X.prog X.w (upd H a ob) h' a ob) :
  Inv X pins σ (upd H a ob) { s with heap:=h',toks:=t' }:=
 I.write (x:=a) (e:=a) D (.inl rfl) (λb q L z=>(F.2 b L).trans z) J B
def zjr(z:kvs.length<=sizeLine)(B:(a==sysModules)=false)(q:KV kvs vs)(D:h'.DictOf (zX P w) a vs) :
  y0 P w H' h' a (.dK kvs):=⟨z,B,vs,q,D⟩
def zjm(hu:A.units+1<cLine)(I:Inv X pins σ H s)(g:zdK H a y v H')(Z:y1 y u)(rv:y1 v r)(h:∀s',Inv X pins σ H' s'->Q () s') :
  wpAny (model X.prog X.w) A (setItem (.ref a) u r) Q E s:=by
 rcases g with ⟨kvs,k,e,ey,l,eH⟩ | ⟨kvs,k,b,e,ey,eb,l,eH⟩
 ·subst ey eH;obtain⟨z,J,vs,B,L⟩:=zoO I.hok e;have O:vs.length<=sizeLine:=by rw[<- B.length];exact z
  have U:(zal kvs k v).length<=sizeLine:=by have:=xW kvs k v;lia
  refine wpAny_setItem_pairs (hsz:=O) (zkg Z) L λh' D Y=>h _ ?_;have he:∃q,h'.get? a=some q:=let ⟨q,_,_,F,_⟩:=D;⟨q,F⟩;exact zcb I (by rw[e];exact True.intro) Y he (zjr U J (B.put k rv) D)
 ·subst ey eH;cases (show u=Value.ref b from Z);obtain⟨z,J,xs,B,L⟩:=zrH I.hok e;have O:xs.length<=sizeLine:=by rw[<- dL B];exact z
  have U:(zal kvs k v).length<=sizeLine:=by have:=xW kvs k v;lia
  refine wpAny_setItem_heap (hsz:=O) (tupleKind_room_in1 hu) (zhE I.hok eb) L λh' D Y=>h _ ?_;obtain⟨q,es,ep,F,h2,h3,h4,_,h5⟩:=D;refine zcb I (by rw[e];exact True.intro) Y ⟨q,F⟩ ⟨U,J,_,(B.put k eb rv).keeps λc ys ec=>?_,q,es,ep,F,h2,h3,h4,h5⟩;rw[zi (by grind)];exact ec
end
section
variable {X:Cx}{pins:List (Addr×Obj)}{σ:St}{H:Hp}{s:Shared}{a:Addr}{kvs:List (Key×V)}{k:Key}{u:Value}{A:Around}{E:Value->Shared->Prop}
def zuZ(I:Inv X pins σ H s)(e:Rd H a (.dK kvs))(h:∀t s',Inv X pins σ H s'->Q (.int kvs.length t) s'):wpAny (model X.prog X.w) A (call (.builtin "len") [.ref a]) Q E s:=by obtain⟨z,B,vs,q,D⟩:=zjs I.hok e;refine call_len_dict B D (by rw[<- q.length];rw[bH] at z;lia) ?_;rw[<- q.length];exact h _ _ (I.tok _)
end
def zoy (i:Expr):Prop:=∀q B,subscripted i false q B=operate [q,B] (getItem q B)
def zqO {prog:Program}{w:World}{A:Around}{E:Value->Shared->Prop}{s:Shared}{env:Env}{value q:Expr}{pos:Pos}{T id:String}{Q:Value->Shared->Prop}
  (U:typeLookup (.type T) "__getitem__" = pure (some (.builtin id))) (Y:zoy q)
  (h:wpAny (model prog w) A (eval value env) (λo F=>wpAny (model prog w) A (eval q env) (λi B=>B.TypeIs o T/\wpAny (model prog w) A (getItem o i) Q E B) E F) E s) :
  wpAny (model prog w) A (eval (.Subscript value q pos) env) Q E s:=by
 refine Subscript_ (aS h (λo F J=>aS J (λi B D=>?_) λ_ _ x=>x) λ_ _ x=>x);obtain⟨O,D⟩:=D;unfold subscriptTail;refine aa ?_;rw[getitemInPython_of_ne O.not_modules];refine aa (wpAny_specialOf O U ?_)
 have fin:wpAny (model prog w) A (subscripted q false o i) (λr I=>wpAny (model prog w) A (letTemporaryGo value o r >>= λ_=>pure r) Q E I) E B:=by rw[Y o i];exact wpAny_operating (aS D (λr I L=>aa (wpAny_letTemporaryGo (af L))) λ_ _ x=>x)
 first
  | exact af (aa fin)
  | exact aa (by grind)
  | exact aa fin
def zgj{X:Cx}{pins:List (Addr×Obj)}{σ:St}{H:Hp}{s:Shared}{a:Addr}{y:V}(I:Inv X pins σ H s)(g:zc2 H a y o):s.TypeIs (.ref a) "dict" := by
 rcases g with ⟨kvs,k,e,_,_⟩ | ⟨kvs,k,b,e,_,_,_⟩
 ·obtain⟨_,_,vs,_,q⟩:=zjs I.hok e;exact q.typeIs
 ·obtain⟨_,_,xs,_,q⟩:=zoP I.hok e;exact q.typeIs
def ztC (td ty:TE):TE:=λσ H Q=>td σ H λx H1=>ty σ H1 λy H2=>∃a v,x = .ref a/\zc2 H2 a y (some v)/\Q v H2
def ztx (td ty tv:TE):TS:=λD σ H=>tv σ H λv H1=>td σ H1 λx H2=>ty σ H2 λy H3=>∃a H4,x = .ref a/\zdK H3 a y v H4/\D.nx σ H4
section
variable {X:Cx}{o i e value:Expr}{pos pos' tpos:Pos}{td ty tv:TE}
def zpS (B:X.A.units+1<cLine)(D:PE X o td)(hi:PE X i ty)(J:zoy i):PE X (.Subscript o i pos) (ztC td ty):=by intro pins s σ H Q I h;refine zqO PySem.F.slot_dict_getitem.lookup J (thn (D pins s σ H _ I h) λu L ⟨x,H1,I1,O,U⟩=>thn (hi pins L σ H1 _ I1 U)  ?_);rintro iv s2 ⟨y,H2,I2,Y,a,v,ex,g,Z⟩;subst ex;obtain rfl:u=Value.ref a:=O;exact⟨zgj I2 g,zjl B I2 g Y λw' s3 I3 q=>⟨v,H2,I3,q,Z⟩⟩
def zp4 (q:X.A.units+1<cLine)(B:PE X o td)(hi:PE X i ty)(F:PE X value tv)(J:swapsWith value (some (.Subscript o i pos')) pos.line X.env=pure false) :
  PS X (.Assign [.Subscript o i pos'] value pos) (ztx td ty tv):=by
 intro pins s σ H D I h;refine wpAny_Assign_Subscript (thn (F pins s σ H _ I h) λr L ⟨v,H1,I1,O,U⟩=>thn (B pins L σ H1 _ I1 U) λu Y ⟨x,H2,I2,Z,q2⟩=>thn (hi pins Y σ H2 _ I2 q2) λiv s3 ⟨y,H3,I3,ry,a,H4,ex,g,q3⟩=>?_) J;subst ex;obtain rfl:u=Value.ref a:=Z;exact zjm q I3 g ry O λs4 I4=>⟨σ,H4,I4,q3⟩
end
def zho(h:Heap)(q:sysModules<h.objs.size):y0 P w H (h.push { cls:=.type "dict",data:=.dict #[] }) h.objs.size (.dK []):=
 ⟨aJ _,beq_eq_false_iff_ne.mpr (Ne.symm (aU q)),[],.nil,Heap.DictOf.new h⟩
def zhp(h:Heap)(q:sysModules<h.objs.size):y0 P w H (h.push { cls:=.type "dict",data:=.dict #[] }) h.objs.size (.dT []):=
 ⟨aJ _,beq_eq_false_iff_ne.mpr (Ne.symm (aU q)),[],.nil,_,#[],0,aF _ rfl,⟨rfl,rfl,rfl⟩,rfl,rfl,eA⟩
def ztD:TE:=λ_ H Q=>∀p,H p=none->Q (.ref p) (upd H p (.dT []))
section
variable {X:Cx}{pos:Pos}
def zm1:PE X (.Dict [] [] pos) ztD:=λpins s σ H Q I h=>
 wpAny_Dict_empty ⟨.ref s.heap.objs.size,_,I.laid (a:=s.heap.objs.size) (o:=.dT []) (t':=s.toks) (λ_ _ q=>aq _ q) (ah _) (zhp s.heap I.big),rfl,h _ (I.hok.fresh (ah _))⟩
end
def zlB:List (TE×TE)->St->Hp->(List (V×V)->Hp->Prop)->Prop
 | [],_,H,Q=>Q [] H
 | (tk,tv)::r,σ,H,Q=>tk σ H λx H1=>tv σ H1 λy H2=>zlB r σ H2 λps H3=>Q ((x,y)::ps) H3
abbrev VV:List (V×V)->List (Value×Value)->Prop:=Paired λp q=>y1 p.1 q.1/\y1 p.2 q.2
def PPs (X:Cx)(pos:Pos)(B:List (Option Expr))(q:List Expr)(D:List (TE×TE)):Prop:=
 ∀ (pins:List (Addr×Obj)) (s:Shared) (σ:St) (H:Hp) (Q:List (V×V)->Hp->Prop),Inv X pins σ H s->zlB D σ H Q->
  wpAny (model X.prog X.w) X.A (evalPairs (pairTrees B q X.env pos)) (λvs s'=>∃ps H',Inv X pins σ H' s'/\VV ps vs/\Q ps H') X.xe s
def zp3:PPs X pos [] [] []:=λpins s σ H Q I h=>pairTrees_nil_walk ⟨[],H,I,.nil,h⟩
def zm7(D:PE X k tk)(F:PE X v tv)(J:PPs X pos ks vs q) :
  PPs X pos (some k::ks) (v::vs) ((tk,tv)::q):=λpins s σ H Q I h=>
 pairTrees_cons_walk (thn (D pins s σ H _ I h) λu L ⟨x,H1,I1,O,U⟩=>thn (F pins L σ H1 _ I1 U) λw2 Y ⟨y,H2,I2,Z,q2⟩=>
  thn (J pins Y σ H2 _ I2 q2) <| by rintro ws s3 ⟨ps,H3,I3,B,q3⟩;exact⟨(x,y)::ps,H3,I3,.cons ⟨O,Z⟩ B,q3⟩)
def zcy (kvs more:List (Key×V)):List (Key×V):=more.foldl (λacc kv=>zal acc kv.1 kv.2) kvs
def KV.merge:∀ {more:List (Key×V)} {B:List (Key×Value)} {kvs:List (Key×V)} {vs:List (Key×Value)},KV more B->KV kvs vs->KV (zcy kvs more) (merged vs B):=by
 intro more B kvs vs r;unfold KV at r
 induction r generalizing kvs vs with
 | nil=>intro q;exact q
 | @cons p q ps I h t D=>
  intro F
  have e:KV (zal kvs p.1 p.2) (stored vs q.1 q.2):=by
   have:=F.put p.1 h.2
   simp_all
  exact D e
def za0:∀ (more kvs:List (Key×V)),(zcy kvs more).length<=kvs.length+more.length
 | [],kvs=>by show kvs.length<=kvs.length+0;lia
 | p::r,kvs=>by
  have h1:=za0 r (zal kvs p.1 p.2);have h2:=xW kvs p.1 p.2;show (zcy (zal kvs p.1 p.2) r).length<=_
  grind
def zdn:∀ {kvs:List (Key×V)} {D:List (Value×Value)},VV (kvs.map λkv=>(kV kv.1,kv.2)) D->∃B,Carries (zX P w) D B/\KV kvs B
 | [],_,r=>by rw[dD] at r;cases r;exact⟨[],True.intro,.nil⟩
 | p::kvs,_,r=>by
  rw[aA] at r
  cases r with
  | @cons a b as I h t=>
   obtain⟨B,c,q⟩:=zdn (P:=P) (w:=w) t;obtain⟨J,F⟩:=b;exact⟨(p.1,F)::B,⟨zkg h.1,rfl,c⟩,.cons ⟨rfl,h.2⟩ q⟩
def ztE (q:List (TE×TE)):TE:=λσ H Q=>∀p,H p=none->zlB q σ (upd H p (.dK [])) λps H2=>H2 p=some (.dK [])/\∃kvs:List (Key×V),ps=kvs.map (λkv=>(kV kv.1,kv.2))/\kvs.length<=15/\Q (.ref p) (upd H2 p (.dK (zcy [] kvs)))
def zpT(h:PPs X pos B D F)(J:B.all (·.isSome)=true)(Y:B.length=D.length)(Z:B≠[])(O:B.length<=15):PE X (.Dict B D pos) (ztE F):=by
 intro pins s σ H Q I q;have hn:=I.hok.fresh (ah s.heap.objs.size);have I1:=I.laid (a:=s.heap.objs.size) (o:=.dK []) (h':=s.heap.push { cls:=.type "dict",data:=.dict #[] }) (t':=s.toks) (λ_ _ q=>aq _ q) (ah _) (zho s.heap I.big);refine wpAny_Dict_walk (knd:=zX X.prog X.w) J Y Z O (thn (h pins _ σ _ _ I1 (q _ hn))  ?_);rintro ws s2 ⟨ps,H2,I2,U,e,kvs,ep,lk,q2⟩;subst ep;obtain⟨rs,c,rk⟩:=zdn (P:=X.prog) (w:=X.w) U;obtain⟨z,hd,ac,r0,dd⟩:=zoO I2.hok e;cases r0;refine⟨rs,c,dd,λh' L hs=>⟨.ref s.heap.objs.size,_,?_,rfl,q2⟩⟩
 have hz:(zcy [] kvs).length<=sizeLine:=by have h1:=za0 kvs [];rw[List.length_nil] at h1;rw[bH];lia
 have he:∃q,h'.get? s.heap.objs.size=some q:=let ⟨q,_,_,hq,_⟩:=L;⟨q,hq⟩;exact zcb I2 (by rw[e];exact True.intro) hs he (zjr hz hd (rk.merge .nil) L)
section
variable {X:Cx}{pins:List (Addr×Obj)}{σ:St}{H:Hp}{s:Shared}{a:Addr}{y d:V}{u r:Value}{o:Option V}{A:Around}{E:Value->Shared->Prop}
end
section
variable {X:Cx}{o e f:Expr}{apos cpos:Pos}{td ty tx:TE}
end
section
variable {X:Cx}{pins:List (Addr×Obj)}{σ:St}{H:Hp}{s:Shared}{a:Addr}{kvs:List (Key×V)}{A:Around}{E:Value->Shared->Prop}
end
section
variable {X:Cx}{pins:List (Addr×Obj)}{σ:St}{H:Hp}{s:Shared}{a:Addr}{y:V}{u:Value}{A:Around}{E:Value->Shared->Prop}
end
end L2
namespace HT
open PySem PyProof.Rows
def lexLt:List Int->List Int->Bool
 | [],[]=>false
 | [],_::_=>true
 | _::_,[]=>false
 | x::xs,y::ys=>if x=y then lexLt xs ys else decide (x<y)
section
open PySem.SeqAt
open PySem.AutoSeq1 (wpAny_loadPart')
open PySem.MeetsSeq PySem.MeetsSeq2 PySem.MeetsSeq3
end
section
variable {prog:Program}{w:World}{A:Around}{E:Value->Shared->Prop}{s:Shared}
def cat_tup(ht:IsTup s.heap t vs.toArray)(hb:IsTup s.heap b q.toArray)(Z:vs≠[])(h1:q=[]->Q (.ref t) s)(h2:q≠[]->Q (.ref s.heap.objs.size) { s with heap:=s.heap.push { cls:=.type "tuple",data:=.seq (vs++q).toArray } })(hsz:vs.length+q.length<=sizeLine):wpAny (model prog w) A (binaryOp .Add (.ref t) (.ref b)) Q E s:=by
 obtain⟨⟨cls,dd,data,sl⟩,O,hc,n,hd⟩:=id ht;obtain⟨⟨ac,D,Y,I⟩,B,J,n2,L⟩:=id hb;simp only at hc hd J L;subst hc hd J L;have e:vs.toArray++q.toArray=(vs++q).toArray:=by simp
 by_cases U:q=[]
 ·exact concat_meets ⟨_,O,rfl⟩ ⟨_,B,rfl⟩ noFill_tuple_add seq_tuple_add PySem.F.slot_tuple_add PySem.F.entry_tuple_add (PySem.F.args_tuple_add_2 _ _)
   (tuple_addW1 t b vs.toArray q.toArray n n2 dd D sl I (by simpa using Z) (by simp[U])) ⟨O,B,h1 U⟩
 ·refine concat_meets ⟨_,O,rfl⟩ ⟨_,B,rfl⟩ noFill_tuple_add seq_tuple_add PySem.F.slot_tuple_add PySem.F.entry_tuple_add (PySem.F.args_tuple_add_2 _ _)
   (tuple_addW2 t b vs.toArray q.toArray n n2 dd D sl I (by simpa using Z) (by simpa using U) (by simp_all)) ⟨O,B,?_⟩
  rw[e];exact h2 U
def sIx (n d:Nat):Option Int->Nat
 | none=>d
 | some v=>if v<0 then (v+(n:Int)).toNat else min v.toNat n
def sIx_none (n d:Nat):sIx n d none=d:=rfl
def sIx_nat (n d k:Nat):sIx n d (some (k:Int))=min k n:=by show (if (k:Int)<0 then ((k:Int)+(n:Int)).toNat else min (k:Int).toNat n)=min k n;rw[if_neg (by lia),Int.toNat_natCast]
def zty (n d:Nat)(B:d<=n)(o:Option Int):sIx n d o<=n:=by
 cases o with
 | none=>exact B
 | some v=>
  show (if v<0 then (v+(n:Int)).toNat else min v.toNat n)<=n;by_cases q:v<0
  ·rw[if_pos q];lia
  ·rw[if_neg q];exact Nat.min_le_right _ _
def zi6 (v:Int)(n d:Nat):(if v<0 then max (v+(n:Int)) 0 else min v (n:Int))=((sIx n d (some v):Nat):Int):=by
 show (if v<0 then max (v+(n:Int)) 0 else min v (n:Int))=(((if v<0 then (v+(n:Int)).toNat else min v.toNat n):Nat):Int)
 grind
def zid (lo hi:Option Int)(n:Nat):Builtin.Slice.sliceAdjust lo hi 1 (n:Int)=(((sIx n 0 lo:Nat):Int),((sIx n n hi:Nat):Int)):=by
 have h1:¬ ((1:Int)<0):=by lia
 unfold Builtin.Slice.sliceAdjust;simp only[h1,if_false];refine Prod.ext ?_ ?_
 ·cases lo with
  | none=>rfl
  | some v=>exact zi6 v n 0
 ·cases hi with
  | none=>rfl
  | some v=>exact zi6 v n n
def ziA (i j:Nat):Builtin.Slice.slicePlaces (i:Int) (j:Int) 1=j - i:=by
 unfold Builtin.Slice.slicePlaces;have h1:(1:Int) > 0:=by lia
 simp only[h1,if_true,Int.ediv_one];split <;> lia
def zdI{o:Option Int}{Q:Option Int->Shared->Prop}(p:IsPart v o)(h:Q o s):wpAny (model prog w) A (Builtin.Slice.slicePartIndex v) Q E s:=by
 cases p with
 | none=>exact slicePart_none h
 | int i t=>exact slicePart_int h
def uV{lo hi:Option Int}{Q:Int×Int×Nat->Shared->Prop}(J:s.heap.IsSliceOf I D F .none)(pl:IsPart D lo)(L:IsPart F hi)(h:Q (((sIx n 0 lo:Nat):Int),1,sIx n n hi - sIx n 0 lo) s):wpAny (model prog w) A (Builtin.Slice.sliceApplied (.ref I) (pure (n:Int))) Q E s:=by
 obtain⟨U,q,O,B⟩:=id J;unfold Builtin.Slice.sliceApplied Builtin.Slice.sliceFields;refine wpAny_bind (wpAny_bind (wpAny_field q B (x:=D) rfl (wpAny_bind (wpAny_field q B (x:=F) rfl (wpAny_bind (wpAny_field q B (x:=.none) rfl (wpAny_pure ?_)))))));refine wpAny_bind (slicePart_none ?_);show wpAny _ _ (if ((1:Int)==0)=true then _ else _) _ _ s;rw[if_neg (by decide)];refine wpAny_bind (zdI pl (wpAny_bind (zdI L (wpAny_bind (wpAny_pure ?_)))));show wpAny _ _ (match Builtin.Slice.sliceAdjust lo hi 1 (n:Int) with | (lo,hi)=>pure (lo,(1:Int),Builtin.Slice.slicePlaces lo hi 1)) _ _ s;rw[zid lo hi n];show wpAny _ _ (pure (((sIx n 0 lo:Nat):Int),(1:Int),Builtin.Slice.slicePlaces ((sIx n 0 lo:Nat):Int) ((sIx n n hi:Nat):Int) 1)) _ _ s;rw[ziA];exact wpAny_pure h
def zm6 (xs:Array Value)(i k:Nat):((List.range k).filterMap λ(m:Nat)=>xs[((i:Int)+(m:Int) * 1).toNat]?).toArray=((xs.toList.drop i).take k).toArray:=by
 have e:(λ(m:Nat)=>xs[((i:Int)+(m:Int) * 1).toNat]?)=λm=>xs[i+m]?:=by
  funext m;have:((i:Int)+(m:Int) * 1).toNat=i+m:=by lia
  rw[this]
 rw[e];have:=pick_run xs i k;rw[List.filterMap_map] at this;have q:((λx=>xs[x]?) ∘ λx=>i+x)=λm=>xs[i+m]?:=rfl
 simp_all
def getItem_tuple_cut{lo hi:Option Int}(D:IsTup s.heap t q)(Z:s.heap.IsSliceOf F U Y .none)(pl:IsPart U lo)(pu:IsPart Y hi)(hw:¬ (sIx q.size 0 lo=0/\sIx q.size q.size hi=q.size))(h:Q (.ref s.heap.objs.size) { s with heap:=s.heap.push { cls:=.type "tuple",data:=.seq ((q.toList.drop (sIx q.size 0 lo)).take (sIx q.size q.size hi - sIx q.size 0 lo)).toArray } })(hsz:q.size<=sizeLine):wpAny (model prog w) A (getItem (.ref t) (.ref F)) Q E s:=by
 have B:sizeOk (.seq ((q.toList.drop (sIx q.size 0 lo)).take (sIx q.size q.size hi - sIx q.size 0 lo)).toArray):=by show ((q.toList.drop (sIx q.size 0 lo)).take (sIx q.size q.size hi - sIx q.size 0 lo)).toArray.size<=sizeLine;rw[List.size_toArray,List.length_take,List.length_drop,Array.length_toList];lia
 have hj:sIx q.size q.size hi<=q.size:=zty _ _ (Nat.le_refl _) hi;obtain⟨os,I,J,ac⟩:=id Z;have L:s.TypeIs (.ref F) "slice" := ⟨os,I,J⟩;unfold getItem;try with_reducible refine wpAny_holding ?_
 first | refine wpAny_bind (wpAny_pure ?_) | skip
 refine wpAny_bind (wpAny_sequenceKey D.typeIs (by decide) ?_)
 refine wpAny_bind (wpAny_callSpecial?_slot (name:=Str.ofString "__getitem__") D.typeIs PyProof.Rows.slot_tuple_getitem
  (wpAny_call_entry PyProof.Rows.slot_tuple_getitem D.typeIs entry_tuple_getitem ?_ (args_tuple_getitem _ _)))
 show wpAny _ _ (Builtin.Tuple.tupleItemsOf (.ref t) >>= _) _ _ s;refine wpAny_bind (tupleItemsOf_ D ?_);refine wpAny_bind (wpAny_typeOf L ?_);rw[if_pos (by decide)];refine wpAny_bind (uV Z pl pu ?_)
 have O:¬ ((((sIx q.size 0 lo:Nat):Int)==0&&(1:Int)==1&&(sIx q.size q.size hi - sIx q.size 0 lo)==q.size)=true):=by grind
 show wpAny _ _ (if (((sIx q.size 0 lo:Nat):Int)==0&&(1:Int)==1&&(sIx q.size q.size hi - sIx q.size 0 lo)==q.size)=true then _ else _) _ _ s;rw[if_neg O,zm6]
 first
  | exact wpAny_bind (m:=Builtin.Tuple.tupleExact _) (wpAny_newObj_type (wpAny_pure ⟨_,rfl,wpAny_pure h⟩) B)
  | exact wpAny_bind (by grind) (by grind)
  | exact wpAny_bind (by grind)
  | exact wpAny_bind (by grind)
end
end HT
namespace L2
open PySem PySem.Spec PyProof.Rows
abbrev TO:=St->Hp->(Option Int->Hp->Prop)->Prop
def PO (X:Cx)(e:Option Expr)(t:TO):Prop:=
 ∀ (pins:List (Addr×Obj)) (s:Shared) (σ:St) (H:Hp) (Q:Option Int->Hp->Prop),Inv X pins σ H s->t σ H Q->
  wpAny (model X.prog X.w) X.A (evalPart e X.env) (λu s'=>∃o H',Inv X pins σ H' s'/\IsPart u o/\Q o H') X.xe s
def zlA:TO:=λ_ H Q=>Q none H
def ztH (t:TE):TO:=λσ H Q=>t σ H λx H1=>∃i,x = .int i/\Q (some i) H1
section
variable {X:Cx}{e:Expr}{te:TE}{lo hi:Option Expr}{tl th:TO}{pos p2:Pos}
def zp1:PO X none zlA:=by intro pins s σ H Q I h;rw[evalPart_none];exact af ⟨none,H,I,.none,h⟩
def zp2 (h:PE X e te):PO X (some e) (ztH te):=by intro pins s σ H Q I B;rw[evalPart_some];refine thn (h pins s σ H _ I B)  ?_;rintro u J ⟨x,H1,I1,D,F⟩;obtain⟨i,rfl,q⟩:=F;obtain⟨t,rfl⟩:=D;exact⟨some i,H1,I1,.int i t,q⟩
def SlR (X:Cx)(r:V->Option Int->Option Int->Hp->VK->Prop):Prop:=
 ∀ (pins:List (Addr×Obj)) (s:Shared) (σ:St) (H:Hp) (x:V) (v q B:Value) (lo hi:Option Int) (D:Addr) (Q:VK),Inv X pins σ H s->y1 x v->s.heap.IsSliceOf D q B .none->IsPart q lo->IsPart B hi->r x lo hi H Q->
  ∃T id,typeLookup (.type T) "__getitem__" = pure (some (.builtin id))/\s.TypeIs v T/\wpAny (model X.prog X.w) X.A (getItem v (.ref D)) (EP X pins σ Q) X.xe s
def tSl (r:V->Option Int->Option Int->Hp->VK->Prop)(te:TE)(tl th:TO):TE:=λσ H Q=>te σ H λx H1=>tl σ H1 λl H2=>th σ H2 λu H3=>r x l u H3 Q
def zm2 {r:V->Option Int->Option Int->Hp->VK->Prop}(J:SlR X r)(L:PE X e te)(O:PO X lo tl)(U:PO X hi th):PE X (.Subscript e (.Slice lo hi none p2) pos) (tSl r te tl th):=by intro pins s σ H Q I h;refine Subscript_ (thn (L pins s σ H _ I h)  ?_);rintro v Y ⟨x,H1,I1,Z,q1⟩;refine wpAny_Slice (thn (O pins Y σ H1 _ I1 q1) λD s2 ⟨l,H2,I2,pl,q2⟩=>thn (U pins s2 σ H2 _ I2 q2)  ?_);rintro F B ⟨u,H3,I3,pu,q3⟩;rw[evalPart_none];refine af ?_;have I4:Inv X pins σ H3 { B with heap:=B.heap.push { cls:=.type "slice",data:=.fields #[D,F,.none] } }:=I3.kept (t':=B.toks) λb ob q=>aq _ q;obtain⟨T,id,hT,ht,hg⟩:=J pins { B with heap:=B.heap.push { cls:=.type "slice",data:=.fields #[D,F,.none] } } σ H3 x v D F l u B.heap.objs.size Q I4 Z (Heap.IsSliceOf.new ..) pl pu q3;show wpAny (model X.prog X.w) X.A (subscriptTail e (.Slice lo hi none p2) v (.ref B.heap.objs.size)) (EP X pins σ Q) X.xe { B with heap:=B.heap.push { cls:=.type "slice",data:=.fields #[D,F,.none] } };exact tail_any (ops:=[.ref B.heap.objs.size,v]) ht hT hg (by with_unfolding_all rfl)
def zc5 (xs:List V)(lo hi:Option Int):List V:=(xs.drop (HT.sIx xs.length 0 lo)).take (HT.sIx xs.length xs.length hi - HT.sIx xs.length 0 lo)
def zb9 (xs:List V)(lo hi:Option Int):(zc5 xs lo hi).length<=xs.length:=by unfold zc5;rw[aQ,cV];lia
def rSlT (K:PySem.W.Frag):V->Option Int->Option Int->Hp->VK->Prop:=λx lo hi H Q=>∃a xs,x = .ref a/\SqT K H a xs/\
 ¬ (HT.sIx xs.length 0 lo=0/\HT.sIx xs.length xs.length hi=xs.length)/\∀p,H p=none->Q (.ref p) (upd H p (.tup (zc5 xs lo hi)))
def ztA:SlR X (rSlT X.K):=by
 intro pins s σ H x v Z vu lo hi sl Q I J L pl O h;obtain⟨a,xs,rfl,U,Y,q⟩:=h;cases J;obtain⟨its,r,D,F⟩:=I.tuple U;have B:its.toArray.size=xs.length:=by rw[aZ];exact r.length.symm
 refine⟨"tuple",_,PyProof.Rows.slot_tuple_getitem.lookup,D.typeIs,?_⟩;refine HT.getItem_tuple_cut D L pl O (by rw[B];exact Y) ?_ (by rw[B];exact F);rw[B];refine⟨.ref s.heap.objs.size,_,I.laid (t':=s.toks) (o:=.tup (zc5 xs lo hi)) (λb ob q=>aq _ q) (ah _) ?_,rfl,q _ (I.hok.fresh (ah _))⟩;exact⟨ar (zb9 xs lo hi) F,_,(r.drop (HT.sIx xs.length 0 lo)).take (HT.sIx xs.length xs.length hi - HT.sIx xs.length 0 lo),zar.new _ _⟩
def zv0 (K:PySem.W.Frag):R2:=λx y H Q=>∃a b xs ys,x = .ref a/\y = .ref b/\SqT K H a xs/\SqT K H b ys/\xs≠[]/\xs.length+ys.length<=sizeLine/\
 (ys=[]->Q (.ref a) H)/\(ys≠[]->∀p,H p=none->Q (.ref p) (upd H p (.tup (xs++ys))))
def yb.nil_iff(r:yb xs q):q=[]↔xs=[]:=by
 cases r with
 | nil=>simp
 | cons _ _=>simp
def zpL:OpR X (binaryOp .Add) (zv0 X.K):=by intro pins s σ H x y v u Q I J L h;obtain⟨a,b,xs,ys,rfl,rfl,O,U,Y,Z,q1,q2⟩:=h;cases J;cases L;obtain⟨its,D,p1,_⟩:=I.tuple O;obtain⟨F,B,p2,_⟩:=I.tuple U;refine HT.cat_tup p1 p2 (λz=>Y (D.nil_iff.mp z)) (λz=>⟨.ref a,H,I,rfl,q1 (B.nil_iff.mp z)⟩) (λz=>?_) (by rw[<- D.length,<- B.length];exact Z);refine⟨.ref s.heap.objs.size,_,I.laid (t':=s.toks) (o:=.tup (xs++ys)) (λb ob q=>aq _ q) (ah _) ?_,rfl,q2 (λw=>z (B.nil_iff.mpr w)) _ (I.hok.fresh (ah _))⟩;exact⟨by simp_all,_,D.append B,zar.new _ _⟩
end
def ixN (n:Nat)(i:Int):Option Nat:=if 0<=i then (if i<n then some i.toNat else none) else if -(n:Int)<=i then some (i+n).toNat else none
def atI {α:Type}(xs:List α)(i:Int):Option α:=(ixN xs.length i).bind λj=>xs[j]?
def zgw {n:Nat}{i:Int}{j:Nat}(h:ixN n i=some j):seqIndex? i n=some j/\j<n/\-(n:Int)<=i/\i<n:=by
 unfold ixN at h;by_cases q:0<=i
 ·rw[if_pos q] at h;by_cases h1:i<n
  ·rw[if_pos h1] at h;have e:i.toNat=j:=bE h;exact⟨by rw[seqIndex_of q h1,e],by lia,by lia,h1⟩
  ·simp_all
 ·rw[if_neg q] at h;by_cases h1:-(n:Int)<=i
  ·rw[if_pos h1] at h;have e:(i+n).toNat=j:=bE h;exact⟨by rw[seqIndex_neg (by lia) h1,e],by lia,h1,by lia⟩
  ·simp_all
def ziZ {α:Type}{xs:List α}{i:Int}{v:α}(h:atI xs i=some v):∃j,seqIndex? i xs.length=some j/\xs[j]?=some v/\j<xs.length/\-(xs.length:Int)<=i/\i<xs.length:=by
 unfold atI at h
 cases e:ixN xs.length i with
 | none=>rw[e] at h;cases h
 | some j=>
  rw[e] at h;obtain⟨h1,h2,q,B⟩:=zgw e;exact⟨j,h1,h,h2,q,B⟩
def zi0 {α:Type}{xs:List α}{j:Nat}{v:α}(h:xs[j]?=some v):atI xs (j:Int)=some v:=by
 have q:j<xs.length:=(ae.mp h).1
 have e:ixN xs.length (j:Int)=some j:=by
  unfold ixN
  simp_all
 unfold atI;rw[e];exact h
def zf9 (b:Expr):Prop:=∀o i,subscripted b false o i=operate [o,i] (getItem o i)
def IxR (X:Cx)(r:R2):Prop:=
 ∀ (value q:Expr) (pins:List (Addr×Obj)) (s:Shared) (σ:St) (H:Hp) (x y:V) (v u:Value) (Q:VK),Inv X pins σ H s->y1 x v->y1 y u->r x y H Q->
  subscripted q false v u=operate [v,u] (getItem v u)->wpAny (model X.prog X.w) X.A (subscriptTail value q v u) (EP X pins σ Q) X.xe s
def MtR (X:Cx)(id:String)(r:V->List V->Hp->VK->Prop):Prop:=
 ∀ (pins:List (Addr×Obj)) (s:Shared) (σ:St) (H:Hp) (x:V) (xs:List V) (v:Value) (q:List Value) (Q:VK),Inv X pins σ H s->y1 x v->yb xs q->r x xs H Q->
  wpAny (model X.prog X.w) X.A (call (.builtin id) (v::q)) (EP X pins σ Q) X.xe s
section
variable {X:Cx}{a b:Expr}{ta tb:TE}{pos:Pos}
def zvQ(B:IxR X r)(D:PE X a ta)(F:PE X b tb)(J:zf9 b):PE X (.Subscript a b pos) (tOp r ta tb):=by intro pins s σ H Q I h;exact Subscript_ (zuG D F I h λv u L x y H2 I2 O U q=>B a b pins L σ H2 x y v u Q I2 O U q (J _ _))
def zuo (K:PySem.W.Frag):R2:=λx y H Q=>∃p xs i v,x = .ref p/\y = .int i/\SqL K H p xs/\atI xs i=some v/\Q v H
def zup (K:PySem.W.Frag):R2:=λx y H Q=>∃p xs i v,x = .ref p/\y = .int i/\SqT K H p xs/\atI xs i=some v/\Q v H
def zpc:IxR X (zuo X.K):=by
 intro value B pins s σ H x y v u Q I U Y h J;obtain⟨p,xs,i,z,rfl,rfl,Z,he,q⟩:=h;cases U;obtain⟨t,rfl⟩:=Y;obtain⟨its,r,pl,hz⟩:=I.list Z;obtain⟨j,h1,h2,h3,h4,h5⟩:=ziZ he;obtain⟨w,L,D⟩:=r.get h2;have hl:=r.length;have hn:=zfu;have fin:EP X pins σ Q w s:=⟨z,H,I,D,q⟩;by_cases O:0<=i
 ·have F:i.toNat=j:=by
   rw[seqIndex_of O h5] at h1
   simp_all
  exact item_listR pl.isList O (by lia) (by rw[F];simpa using L) fin J
 ·have F:(i+(its.toArray.size:Int)).toNat=j:=by
   rw[seqIndex_neg (by lia) h4] at h1
   simp_all
  exact subscriptTail_builtinR (x:=w) pl.isList.typeIs slot_list_getitem.lookup
   (wpAny_getItem_list_neg (Q:=λr s'=>r=w/\EP X pins σ Q r s') pl.isList (by lia) (by simp_all) (by lia) (by rw[F];simpa using L) ⟨rfl,fin⟩) J
def zrX:IxR X (zup X.K):=by
 intro value B pins s σ H x y v u Q I F J h L;obtain⟨p,xs,i,z,rfl,rfl,O,U,q⟩:=h;cases F;obtain⟨t,rfl⟩:=J;obtain⟨its,r,pl,Z⟩:=I.tuple O;obtain⟨j,h1,h2,h3,h4,h5⟩:=ziZ U;obtain⟨w,Y,D⟩:=r.get h2;have hl:=r.length;have hn:=zfu;have fin:EP X pins σ Q w s:=⟨z,H,I,D,q⟩
 exact subscriptTail_builtinR (x:=w) pl.typeIs slot_tuple_getitem.lookup
  (getItem_tuple (j:=j) (Q:=λr s'=>r=w/\EP X pins σ Q r s') pl (by lia) (by lia) (by simp_all) (by simpa using Y) ⟨rfl,fin⟩) L
def zit (its:List Value)(n j:Nat)(u:Value):Obj.mapSeq (·.setIfInBounds j u) { cls:=.type "list",data:=.seq its.toArray n }={ cls:=.type "list",data:=.seq (its.set j u).toArray n }:=by simp[Obj.mapSeq]
def Inv.lst {pins:List (Addr×Obj)}{σ:St}{H:Hp}{s:Shared}{p:Addr}{xs:List V}(I:Inv X pins σ H s)(h:H p=some (.lst xs)) :
  ∃ (its:List Value) (n:Nat),yb xs its/\s.heap.get? p=some { cls:=.type "list",data:=.seq its.toArray n }/\xs.length<=sizeLine:=by
 obtain⟨z,its,n,r,e⟩:=I.hok p _ h;exact⟨its,n,r,e,z⟩
def Inv.lstUpd{pins:List (Addr×Obj)}{σ:St}{H:Hp}{s:Shared}{p:Addr}{xs ys:List V}{its its':List Value}{f:Obj->Obj}(I:Inv X pins σ H s)(h:H p=some (.lst xs))(F:s.heap.get? p=some { cls:=.type "list",data:=.seq its.toArray n })(D:f { cls:=.type "list",data:=.seq its.toArray n }={ cls:=.type "list",data:=.seq its'.toArray B })(r:yb ys its')(J:ys.length<=sizeLine)(t:Nat) :
  Inv X pins σ (upd H p (.lst ys)) { s with heap:=s.heap.update p f,toks:=t }:=by
 have e:(s.heap.update p f).get? p=some { cls:=.type "list",data:=.seq its'.toArray B }:=by rw[ck f F (by rw[D] <;> rfl),D]
 refine I.write (x:=p) (e:=p) (by rw[h];trivial) (.inl rfl) (λb u L q=>(Heap.get?_update_other _ _ (Ne.symm L)).trans q) ⟨_,e⟩ ?_;exact⟨J,its',B,r,e⟩
def zv2:V->V->V->Hp->(Hp->Prop)->Prop:=λo i v H Q=>∃p xs k j,o = .ref p/\i = .int k/\H p=some (.lst xs)/\ixN xs.length k=some j/\Q (upd H p (.lst (xs.set j v)))
def znu:PSet X zv2:=by
 intro pins s σ H o i v ov iv u Q I L O U h;obtain⟨p,xs,k,j,rfl,rfl,F,Y,q⟩:=h;cases L;obtain⟨t,rfl⟩:=O;obtain⟨its,n,r,B,hz⟩:=I.lst F;obtain⟨h1,h2,Z,h4⟩:=zgw Y;have hl:=r.length;have hn:=zfu
 have I':Inv X pins σ (upd H p (.lst (xs.set j v))) { s with heap:=s.heap.update p (Obj.mapSeq (·.setIfInBounds j u)) }:=
  I.lstUpd F B (zit its n j u) (r.set U j) (by simp_all) s.toks
 by_cases J:0<=k
 ·have D:k.toNat=j:=by
   rw[seqIndex_of J h4] at h1
   simp_all
  exact PySem.W.ki_setAt B J (by lia) (by simp_all) (by rw[D];exact⟨_,I',q⟩)
 ·have D:(k+(its.toArray.size:Int)).toNat=j:=by
   rw[seqIndex_neg (by lia) Z] at h1
   simp_all
  exact PySem.W.ki_setBack B (by lia) (by simp_all) (by lia) (by rw[D];exact⟨_,I',q⟩)
def zfV (lo hi:Option Int)(n:Nat):(sliceBounds lo hi none n).1=((HT.sIx n 0 lo:Nat):Int)/\(sliceBounds lo hi none n).2.1=((HT.sIx n n hi:Nat):Int)/\(sliceBounds lo hi none n).2.2=1:=by
 refine⟨?_,?_,rfl⟩
 ·cases lo with
  | none=>simp[sliceBounds,HT.sIx]
  | some i=>
   simp only[sliceBounds,HT.sIx,Option.getD_none,show (1:Int) > 0 by decide,if_true];by_cases h:i<0
   ·simp only[h,if_true] <;> lia
   ·simp only[h,if_false] <;> lia
 ·cases hi with
  | none=>simp[sliceBounds,HT.sIx]
  | some i=>
   simp only[sliceBounds,HT.sIx,Option.getD_none,show (1:Int) > 0 by decide,if_true];by_cases h:i<0
   ·simp only[h,if_true] <;> lia
   ·simp only[h,if_false] <;> lia
def zeD (its:List Value)(lo hi:Option Int):slicePick its.toArray lo hi none=((its.drop (HT.sIx its.length 0 lo)).take (HT.sIx its.length its.length hi - HT.sIx its.length 0 lo)).toArray:=by obtain⟨h1,h2,q⟩:=zfV lo hi its.toArray.size;unfold slicePick;rw[h1,h2,q];simp only[sliceRange_one,pick_run,aZ] <;> rfl
def rSlL (K:PySem.W.Frag):V->Option Int->Option Int->Hp->VK->Prop:=λx lo hi H Q=>∃a xs,x = .ref a/\SqL K H a xs/\∀p,H p=none->Q (.ref p) (upd H p (.lst (zc5 xs lo hi)))
def zqI:SlR X (rSlL X.K):=by intro pins s σ H x v Y Z lo hi sl Q I F J pl L h;obtain⟨a,xs,rfl,O,q⟩:=h;cases F;obtain⟨its,r,D,U⟩:=I.list O;have B:=r.length;refine⟨"list",_,slot_list_getitem.lookup,D.isList.typeIs,?_⟩;refine wpAny_getItem_list_slice D.isList J pl L .none (by simp) ?_ (by grind);rw[zeD,<- B];refine⟨.ref s.heap.objs.size,_,I.laid (t':=s.toks) (o:=.lst (zc5 xs lo hi)) (λb ob q=>aq _ q) (ah _) ?_,rfl,q _ (I.hok.fresh (ah _))⟩;exact⟨ar (zb9 xs lo hi) U,_,0,(r.drop (HT.sIx xs.length 0 lo)).take (HT.sIx xs.length xs.length hi - HT.sIx xs.length 0 lo),aF _ rfl⟩
def zd1:V->Bool
 | .non=>true
 | .bl _=>true
 | .int _=>true
 | .str _=>true
 | _=>false
def eqV:V->V->Bool
 | .non,.non=>true
 | .bl a,.bl b=>a==b
 | .bl a,.int b=>(if a then 1 else 0)==b
 | .int a,.bl b=>a==(if b then 1 else 0)
 | .int a,.int b=>a==b
 | .str a,.str b=>a==b
 | _,_=>false
def zrJ(B:y1 y u)(q:y1 x v)(F:zd1 y=true)(D:zd1 x=true):SeqAt.EqAt A s u v (eqV y x):=by
 cases y with
 | non=>
  cases B
  cases x with
  | non=>cases q;exact SeqAt.EqAt.same _
  | bl b=>cases q;exact SeqAt.EqAt.none_bool b
  | int b=>obtain⟨t,rfl⟩:=q;exact SeqAt.EqAt.none_int b t
  | str b=>obtain⟨t,rfl⟩:=q;exact SeqAt.EqAt.none_str b t
  | _=>exact absurd (show false=true from D) aH
 | bl a=>
  cases B
  cases x with
  | non=>cases q;exact SeqAt.EqAt.bool_none a
  | bl b=>cases q;exact SeqAt.EqAt.bool_bool a b
  | int b=>obtain⟨t,rfl⟩:=q;exact SeqAt.EqAt.bool_int a b t
  | str b=>obtain⟨t,rfl⟩:=q;exact SeqAt.EqAt.bool_str a b t
  | _=>exact absurd (show false=true from D) aH
 | int a=>
  obtain⟨t',rfl⟩:=B
  cases x with
  | non=>cases q;exact SeqAt.EqAt.int_none a t'
  | bl b=>cases q;exact SeqAt.EqAt.int_bool a t' b
  | int b=>obtain⟨t,rfl⟩:=q;exact SeqAt.EqAt.int_int a t' b t
  | str b=>obtain⟨t,rfl⟩:=q;exact SeqAt.EqAt.int_str a t' b t
  | _=>exact absurd (show false=true from D) aH
 | str a=>
  obtain⟨t',rfl⟩:=B
  cases x with
  | non=>cases q;exact SeqAt.EqAt.str_none a t'
  | bl b=>cases q;exact SeqAt.EqAt.str_bool a t' b
  | int b=>obtain⟨t,rfl⟩:=q;exact SeqAt.EqAt.str_int a t' b t
  | str b=>obtain⟨t,rfl⟩:=q;exact SeqAt.EqAt.str_str a t' b t
  | _=>exact absurd (show false=true from D) aH
 | _=>exact absurd (show false=true from F) aH
def eqU (x:V)(u:Value):Bool:=match u with
 | .none=>eqV .non x
 | .bool b=>eqV (.bl b) x
 | .int i _=>eqV (.int i) x
 | .str z _=>eqV (.str z) x
 | _=>false
def znY(r:y1 y u)(f:zd1 y=true):eqU x u=eqV y x:=by
 cases y with
 | non=>cases r;rfl
 | bl b=>cases r;rfl
 | int i=>obtain⟨t,rfl⟩:=r;rfl
 | str z=>obtain⟨t,rfl⟩:=r;rfl
 | _=>exact absurd (show false=true from f) aH
def zb5:∀ {xs:List V} {q:List Value},yb xs q->xs.all zd1=true->q.any (eqU x)=xs.any λy=>eqV y x
 | _,_,.nil,_=>rfl
 | y::xs,u::q,.cons r t,f=>by rw[cl,a6] at f;rw[cA,cA,znY r f.1,zb5 t f.2]
def za3 {A:Around}{s:Shared}{x:V}{v:Value}(D:y1 x v)(F:zd1 x=true):∀ {xs:List V} {q:List Value},yb xs q->xs.all zd1=true->∀u∈q,SeqAt.EqAt A s u v (eqU x u)
 | _,_,.nil,_=>by grind
 | y::xs,u::q,.cons r t,f=>λI B=>by
  rw[cl,a6] at f;rcases aK.mp B with rfl | B
  ·rw[znY r f.1];exact zrJ r D f.1 F
  ·exact za3 D F t f.2 I B
def inV (x:V)(xs:List V):Bool:=xs.any λy=>eqV y x
def rIn (K:PySem.W.Frag)(q:Bool):R2:=λx y H Q=>∃p xs,y = .ref p/\(SqL K H p xs\/SqT K H p xs)/\zd1 x=true/\xs.all zd1=true/\Q (.bl (if q then !inV x xs else inV x xs)) H
def zkU:OpR X (compareOp .In) (rIn X.K false):=by
 intro pins s σ H x y v u Q I F L h;obtain⟨p,xs,rfl,B,J,fs,q⟩:=h;cases L;rcases B with B | B
 ·obtain⟨its,r,pl,O⟩:=I.list B;refine SeqAt.in_listAt (eqU x) pl.isList (λw D=>za3 F J r fs w (by simpa using D)) ⟨.bl _,H,I,rfl,?_⟩;rw[show its.toArray.any (eqU x)=its.any (eqU x) by simp,zb5 r fs];exact q
 ·obtain⟨its,r,pl,O⟩:=I.tuple B;refine SeqAt.in_tupleAt (eqU x) pl (λw D=>za3 F J r fs w (by simpa using D)) ⟨.bl _,H,I,rfl,?_⟩;rw[show its.toArray.any (eqU x)=its.any (eqU x) by simp,zb5 r fs];exact q
def zfG:OpR X (compareOp .NotIn) (rIn X.K true):=by
 intro pins s σ H x y v u Q I F L h;obtain⟨p,xs,rfl,B,J,fs,q⟩:=h;cases L;rcases B with B | B
 ·obtain⟨its,r,pl,O⟩:=I.list B;refine SeqAt.notIn_listAt (eqU x) pl.isList (λw D=>za3 F J r fs w (by simpa using D)) ⟨.bl _,H,I,rfl,?_⟩;rw[show its.toArray.any (eqU x)=its.any (eqU x) by simp,zb5 r fs];exact q
 ·obtain⟨its,r,pl,O⟩:=I.tuple B;refine SeqAt.notIn_tupleAt (eqU x) pl (λw D=>za3 F J r fs w (by simpa using D)) ⟨.bl _,H,I,rfl,?_⟩;rw[show its.toArray.any (eqU x)=its.any (eqU x) by simp,zb5 r fs];exact q
def zeZ:zc1 X (.type "list") (λxs H Q=>∃p ys,xs=[.ref p]/\(SqL X.K H p ys\/SqT X.K H p ys)/\∀l,H l=none->Q (.ref l) (upd H l (.lst ys))):=by
 intro pins s σ H xs us Q I r h;obtain⟨p,ys,rfl,F,q⟩:=h;obtain⟨u,rfl,rx⟩:=zaM r;cases rx
 have fin:∀ (its:List Value),yb ys its->ys.length<=sizeLine->∀ (h':Heap) (B:Nat),(∀b o',s.heap.get? b=some o'->h'.get? b=some o')->
   h'.get? s.heap.objs.size=some { cls:=.type "list",dict:=none,data:=.seq its.toArray B,slots:=#[] }->EP X pins σ Q (.ref s.heap.objs.size) { s with heap:=h' }:=λits D J h' B L e=>
  ⟨.ref s.heap.objs.size,_,I.laid (t':=s.toks) L (ah _) (show y0 X.prog X.w _ h' _ (.lst ys) from ⟨J,its,B,D,e⟩),rfl,q _ (I.hok.fresh (ah _))⟩
 rcases F with F | F
 ·obtain⟨its,D,pl,J⟩:=I.list F;have O:=D.length;obtain⟨o,U,Y,n,Z⟩:=pl.isList;exact call_list_seq p (.inl rfl) U Y Z (λh' B L e=>fin its D J h' B L e) (by grind)
 ·obtain⟨its,D,pl,J⟩:=I.tuple F;have O:=D.length;obtain⟨o,U,Y,n,Z⟩:=pl;exact call_list_seq p (.inr rfl) U Y Z (λh' B L e=>fin its D J h' B L e) (by grind)
def zdR:zc1 X (.type "tuple") (λxs H Q=>∃p ys,xs=[.ref p]/\((SqL X.K H p ys/\∀l,H l=none->Q (.ref l) (upd H l (.tup ys)))\/(SqT X.K H p ys/\Q (.ref p) H))):=by
 intro pins s σ H xs O Q I r h;obtain⟨p,ys,rfl,h⟩:=h;obtain⟨u,rfl,J⟩:=zaM r;cases J;rcases h with ⟨hq,q⟩ | ⟨hq,q⟩
 ·obtain⟨its,B,pl,D⟩:=I.list hq;have F:=B.length;refine call_tuple_list pl.isList (λh' L=>?_) (by grind);have I1:Inv X pins σ H { s with heap:=h' }:=I.kept (t':=s.toks) L
  have I2:Inv X pins σ (upd H h'.objs.size (.tup ys)) { s with heap:=h'.push { cls:=.type "tuple",data:=.seq its.toArray } }:=
   I1.laid (t':=s.toks) (λb o e=>aq _ e) (ah _) (show y0 X.prog X.w _ _ _ (.tup ys) from ⟨D,its,B,zar.new _ _⟩)
  exact⟨.ref h'.objs.size,_,I2,rfl,q _ (I1.hok.fresh (ah _))⟩
 ·obtain⟨its,B,pl,D⟩:=I.tuple hq;exact call_tuple_same pl ⟨.ref p,H,I,rfl,q⟩
def tyV (K:PySem.W.Frag)(T:String)(x:V)(H:Hp):Prop:=match x with
 | .str _=>T = "str"
 | .int _=>T = "int"
 | .ref p=>(T = "list" /\ ∃xs,SqL K H p xs)\/(T = "tuple" /\ ∃o,K.lookup p=some o/\o.cls = .type "tuple" /\ o.dict=none)\/
   (T = "dict" /\ ((∃kvs,H p=some (.dK kvs))\/∃kvs,H p=some (.dT kvs)))\/(T = "set" /\ ∃S n,H p=some (.set S n))
 | _=>False
def ztO {pins:List (Addr×Obj)}{σ:St}{H:Hp}{s:Shared}{T:String}{x:V}{v:Value}(I:Inv X pins σ H s)(r:y1 x v)(ty:tyV X.K T x H) :
  s.TypeIs v T/\∀a,v = .ref a->∃ob,s.heap.get? a=some ob/\ob.dict=none:=by
 cases x with
 | str z=>
  obtain⟨t,rfl⟩:=r;cases (show T = "str" from ty);exact⟨typeIs_str s z t,λ_ e=>nomatch e⟩
 | int i=>
  obtain⟨t,rfl⟩:=r;cases (show T = "int" from ty);exact⟨eV s i t,λ_ e=>nomatch e⟩
 | ref p=>
  cases r;rcases ty with ⟨rfl,xs,hq⟩ | ⟨rfl,o,q,hc,B⟩ | ⟨rfl,q⟩ | ⟨rfl,S,n,q⟩
  ·obtain⟨its,_,pl,_⟩:=I.list hq;refine⟨pl.isList.typeIs,λa e=>?_⟩;cases e;obtain⟨o,n,e,c,B,_⟩:=pl;exact⟨o,e,B⟩
  ·refine⟨⟨o,I.kIn p o q,hc⟩,λa e=>?_⟩;cases e;exact⟨o,I.kIn _ o q,B⟩
  ·have z:∃o,s.heap.get? p=some o/\o.ExactDict:=by
    rcases q with ⟨kvs,q⟩ | ⟨kvs,q⟩
    ·obtain⟨_,_,_,_,o,_,_,e,ex,_⟩:=I.hok p _ q;exact⟨o,e,ex⟩
    ·obtain⟨_,_,_,_,o,_,_,e,ex,_⟩:=I.hok p _ q;exact⟨o,e,ex⟩
   obtain⟨o,e,ex⟩:=z;refine⟨⟨o,e,ex.1⟩,λa D=>?_⟩;cases D;exact⟨o,e,ex.2.1⟩
  ·obtain⟨o,_,_,_,e,ex,_⟩:=I.hok p _ q;refine⟨⟨o,e,ex.1⟩,λa D=>?_⟩;cases D;exact⟨o,e,ex.2.1⟩
 | _=>exact False.elim ty
def tBM (K:PySem.W.Frag)(T:String)(r:V->List V->Hp->VK->Prop)(to:TE)(t:TA):TE:=λσ H Q=>to σ H λx H1=>tyV K T x H1/\t σ H1 λxs H2=>r x xs H2 Q
variable {o e:Expr}{es:List Expr}{to:TE}{t:TA}{name:Str}{apos cpos:Pos}{T id:String}{r:V->List V->Hp->VK->Prop}
def zsK (Y:PlainAttrs T)(F:Slot T name id)(L:typeOf (.builtin id)=pure (.type "method_descriptor"))(Z:MtR X id r)(ho:PE X o to)(ha:PA X (e::es) t)
  (B:attributeBase o name X.env (eval o X.env)=eval o X.env:=by rfl)
  (J:((backTo cpos (starEach (e::es) X.env)).all (λx=>!x.1)&&(backToKw cpos (keywordEach [] X.env)).all (λx=>x.1.isSome)
   && decide ((e::es).length+([]:List Keyword).length+(if ([]:List Keyword).isEmpty then 0 else 1)<30))=true:=by rfl)
  (D:(apos.endLine==cpos.line)=true:=by rfl) (hs:starEach (e::es) X.env=(false,eval e X.env)::starEach es X.env:=by rfl) (q:(backTo cpos (starEach es X.env)).any (·.1)=false:=by rfl) :
  PE X (.Call (.Attribute o name apos) (e::es) [] cpos) (tBM X.K T r to t):=by
 intro pins s σ H Q I h;refine wpAny_Call_method_late B J D rfl (thn (ho pins s σ H _ I h)  ?_);rintro v s1 ⟨x,H1,I1,O,ty,q1⟩;obtain⟨h1,h2⟩:=ztO I1 O ty;refine⟨T,id,Y,F,L,h1,h2,?_⟩;have U:=ha cpos pins s1 σ H1 _ I1 q1;rw[hs] at U ⊢;refine Calls.callWith_builtin (by show (false || (backTo cpos (starEach es X.env)).any (·.1))=false;rw[q] <;> rfl) (Calls.evalArgs_plain ?_);exact thn U <| by rintro us s2 ⟨vs,H2,I2,r2,q2⟩;exact Z pins s2 σ H2 x vs v us Q I2 O r2 q2
end
def MtM (X:Cx)(id:String)(r:V->List V->Hp->VK->Prop):Prop:=
 ∀ (pins:List (Addr×Obj)) (s:Shared) (σ:St) (H:Hp) (x:V) (xs:List V) (v:Value) (q:List Value) (Q:VK),Inv X pins σ H s->y1 x v->yb xs q->r x xs H Q->
  wpAny (model X.prog X.w) X.A (call (.builtin id) (v::q)) (EP X pins σ Q) X.xe s
def yb.one:∀ {x:V} {q:List Value},yb [x] q->∃u,q=[u]/\y1 x u
 | _,_,.cons r .nil=>⟨_,rfl,r⟩
def yb.eraseIdx:∀ {xs:List V} {q:List Value} (i:Nat),yb xs q->yb (xs.eraseIdx i) (q.eraseIdx i)
 | _,_,_,.nil=>.nil
 | _,_,0,.cons _ t=>t
 | _,_,i+1,.cons r t=>.cons r (yb.eraseIdx i t)
def yb.rep(h:yb xs q):∀k:Nat,yb (List.replicate k xs).flatten (List.replicate k q).flatten
 | 0=>.nil
 | k+1=>by rw[cB,cB,dr,dr];exact yb.append h (yb.rep h k)
def zft {α:Type}:∀ (l:List α) (i:Nat),(l.eraseIdx i).length<=l.length
 | [],_=>ah _
 | _::_,0=>dR _
 | _::r,i+1=>Nat.succ_le_succ (zft r i)
def zfb (its:List Value):∀ (k:Nat) (acc:List Value),
  List.foldl (λx1 q=>x1++q) acc.toArray (List.replicate k its.toArray)=(acc++(List.replicate k its).flatten).toArray
 | 0,acc=>by simp
 | k+1,acc=>by
  have e:acc.toArray++its.toArray=(acc++its).toArray:=by simp
  have B:(acc++its)++(List.replicate k its).flatten=acc++(List.replicate (k+1) its).flatten:=by grind
  rw[<- B,<- zfb its k (acc++its),<- e,cB,List.foldl_cons]
section
variable {X:Cx}{pins:List (Addr×Obj)}{σ:St}{H:Hp}{s:Shared}{l b:Addr}{xs ys zs:List V}
def Inv.lset{its its':List Value}{f:Array Value->Array Value}(I:Inv X pins σ H s)(B:H l=some (.lst xs))(e:s.heap.get? l=some { cls:=.type "list",data:=.seq its.toArray n })(D:f its.toArray=its'.toArray)(F:yb ys its')(J:ys.length<=sizeLine) :
  Inv X pins σ (upd H l (.lst ys)) { s with heap:=s.heap.update l (Obj.mapSeq f),toks:=t' }:=by
 have q:=PySem.IsL.update e f;rw[D] at q;refine I.write (x:=l) (e:=l) (by rw[B];exact trivial) (.inl rfl) (λU u L O=>(Heap.get?_update_other s.heap (Obj.mapSeq f) (Ne.symm L)).trans O) ⟨_,q⟩ ?_;exact⟨J,its',_,F,q⟩
def Inv.lnew(I:Inv X pins σ H s)(B:yb ys its)(D:ys.length<=sizeLine) :
  Inv X pins σ (upd H s.heap.objs.size (.lst ys)) { s with heap:=s.heap.push { cls:=.type "list",data:=.seq its.toArray },toks:=t' }:=
 I.laid (λ_ _ q=>aq _ q) (ah _) ⟨D,its,0,B,aF _ rfl⟩
def Inv.fresh (I:Inv X pins σ H s):H s.heap.objs.size=none:=I.hok.fresh (ah _)
def Inv.lstM (I:Inv X pins σ H s)(q:H l=some (.lst xs)):xs.length<=sizeLine/\∃ (its:List Value) (n:Nat),yb xs its/\xs.length=its.length/\s.heap.get? l=some { cls:=.type "list",data:=.seq its.toArray n }:=by obtain⟨z,its,n,r,e⟩:=I.hok l _ q;exact⟨z,its,n,r,r.length,e⟩
def zhK(h:n<=sizeLine):Builtin.List.listTooLong n=false:=by
 unfold Builtin.List.listTooLong
 simp_all
end
section
variable {X:Cx}
def zgS:V->List V->Hp->VK->Prop:=λx vs H Q=>∃l xs y,x = .ref l/\vs=[y]/\H l=some (.lst xs)/\xs.length<sizeLine/\Q .non (upd H l (.lst (xs++[y])))
def zfy:MtM X "list.append" zgS:=by intro pins s σ H x vs v O Q I D J h;obtain⟨l,xs,y,rfl,rfl,B,U,q⟩:=h;cases D;obtain⟨u,rfl,L⟩:=J.one;obtain⟨z,its,n,r,Y,e⟩:=I.lstM B;refine dP F.slot_list_append ⟨_,e,rfl⟩ F.entry_list_append (F.args_list_append_2 _ _) (PySem.list_append l its.toArray n u (by grind)) ⟨e,?_⟩;refine⟨.non,_,I.lset (its':=its++[u]) B e (by simp) (r.append (.cons L .nil)) ?_,rfl,q⟩;rw[ai,List.length_singleton];lia
def zqu:V->List V->Hp->VK->Prop:=λx vs H Q=>∃l b xs zs,x = .ref l/\vs=[.ref b]/\H l=some (.lst xs)/\H b=some (.lst zs)/\xs.length+zs.length<=sizeLine/\Q .non (upd H l (.lst (xs++zs)))
def zkF:MtM X "list.extend" zqu:=by
 intro pins s σ H x vs v us Q I L O h;obtain⟨l,b,xs,zs,rfl,rfl,J,U,hz,q⟩:=h;cases L;obtain⟨u,rfl,Y⟩:=O.one;cases Y;obtain⟨z,its,n,r,hl,e⟩:=I.lstM J;obtain⟨z2,B,Z,r2,ac,e2⟩:=I.lstM U;have hsz:its.toArray.size+B.toArray.size<=sizeLine:=by rw[aZ,aZ];lia
 have D:¬ (!its.toArray.isEmpty&&Builtin.List.listTooLong (its.toArray.size+B.toArray.size))=true:=by
  rw[zhK hsz,dz]
  grind
 refine dP F.slot_list_extend ⟨_,e,rfl⟩ F.entry_list_extend (F.args_list_extend_2 _ _)
  (AutoSeq1.list_extend_list_list_0 l its.toArray n b B.toArray Z D (by lia) (by lia)) ⟨e,e2,?_⟩
 refine⟨.non,_,I.lset (its':=its++B) J e (by simp) (r.append r2) ?_,rfl,q⟩
 simp_all
def zoo:V->List V->Hp->VK->Prop:=λx vs H Q=>∃l xs i k y,x = .ref l/\vs=[.int i]/\H l=some (.lst xs)/\-(2 ^ 63)<=i/\i<2 ^ 63/\seqIndex? i xs.length=some k/\xs[k]?=some y/\Q y (upd H l (.lst (xs.eraseIdx k)))
def zhH:MtM X "list.pop" zoo:=by
 intro pins s σ H x vs v Y Q I J L h;obtain⟨l,xs,i,k,y,rfl,rfl,D,h1,h2,Z,O,q⟩:=h;cases J;obtain⟨u,rfl,U⟩:=L.one;obtain⟨t,rfl⟩:=U;obtain⟨z,its,n,r,hl,e⟩:=I.lstM D;obtain⟨w,hw,B⟩:=r.get O
 refine dP F.slot_list_pop ⟨_,e,rfl⟩ F.entry_list_pop (F.args_list_pop_2 _ _)
  (MeetsSeq.list_pop_at l its.toArray n i t k w (fitsIndex_both h1 h2) (by simp_all) (by simp_all) (by simp_all)) ⟨e,?_⟩
 refine⟨y,_,I.lset (its':=its.eraseIdx k) D e ?_ (r.eraseIdx k) ?_,B,q⟩
 ·simp_all
 ·have:=zft xs k;lia
def rCat:R2:=λx y H Q=>∃l b xs zs,x = .ref l/\y = .ref b/\H l=some (.lst xs)/\H b=some (.lst zs)/\xs.length+zs.length<=sizeLine/\∀p,H p=none->Q (.ref p) (upd H p (.lst (xs++zs)))
def zsz:OpR X (binaryOp .Add) rCat:=by
 intro pins s σ H x y v u Q I D F h;obtain⟨l,b,xs,zs,rfl,rfl,J,L,hz,q⟩:=h;cases D;cases F;obtain⟨z,its,n,r,hl,e⟩:=I.lstM J;obtain⟨z2,B,n2,O,U,Y⟩:=I.lstM L;refine PySem.P.add_list e Y ?_ (by simp_all);have Z:its.toArray++B.toArray=(its++B).toArray:=by simp
 rw[Z];exact⟨.ref _,_,I.lnew (t':=s.toks) (r.append O) (by simp_all),rfl,q _ I.fresh⟩
def zur:R2:=λx y H Q=>∃l k xs,x = .ref l/\y = .int k/\H l=some (.lst xs)/\-(2 ^ 63)<=k/\k<2 ^ 63/\xs.length * k.toNat<=sizeLine/\
 ∀p,H p=none->Q (.ref p) (upd H p (.lst (List.replicate k.toNat xs).flatten))
def zpp {α:Type}(xs:List α)(k:Nat):(List.replicate k xs).flatten.length=k * xs.length:=by simp_all
def zsF:OpR X (binaryOp .Mult) zur:=by
 intro pins s σ H x y v u Q I rx ry h;obtain⟨l,k,xs,rfl,rfl,hH,h1,h2,hz,q⟩:=h;cases rx;obtain⟨t,rfl⟩:=ry;obtain⟨z,its,n,r,hl,e⟩:=I.lstM hH;have hlen:its.toArray.size * k.toNat<=sizeLine:=by rw[aZ,<- hl];exact hz
 have hcap:¬ its.toArray.size * k.toNat > (2 ^ 63 - 1) / 8:=by
  have:(sizeLine:Nat)<=(2 ^ 63 - 1) / 8:=by decide
  lia
 have hfit:¬ (!Builtin.List.listFitsIndex k)=true:=by
  rw[fitsIndex_both h1 h2]
  grind
 have hlong:¬ Builtin.List.listTooLong (its.toArray.size * k.toNat)=true:=by
  rw[zhK hlen]
  grind
 have hnew:List.foldl (λx1 x2=>x1++x2) #[] (List.replicate (if its.toArray.isEmpty=true then 0 else k.toNat) its.toArray)=(List.replicate k.toNat its).flatten.toArray:=by
  have f0:∀m:Nat,List.foldl (λx1 x2=>x1++x2) #[] (List.replicate m its.toArray)=(List.replicate m its).flatten.toArray:=λm=>by
   have:=zfb its m []
   simp_all
  rw[f0]
  cases its with
  | nil=>simp
  | cons a r'=>rw[if_neg (by simp)]
 refine wpAny_binaryOp_repeat_ref (T := "list") (U := "int") (by decide) ⟨_,e,rfl⟩ (λs'=>eV s' k t) noFill_list_mul F.fills_int_mul F.slot_int_rmul repeat_list F.slot_int_index.lookup
  (dP F.slot_int_rmul (eV s k t) F.entry_int_rmul (F.args_int_rmul_2 _ _) (int___rmul___int_list k t l its.toArray n)
   ⟨e,rfl,⟨_,e,rfl⟩,dP F.slot_list_mul ⟨_,e,rfl⟩ F.entry_list_mul (F.args_list_mul_2 _ _) (AutoListH.list___mul___list_int_3 l its.toArray n k t hfit hcap hlong) ⟨e,?_⟩⟩)
 rw[hnew];exact⟨.ref _,_,I.lnew (t':=s.toks) (r.rep k.toNat) (by rw[zpp,Nat.mul_comm];exact hz),rfl,q _ I.fresh⟩
end
section
variable {prog:Program}{w:World}{A:Around}{E:Value->Shared->Prop}{s:Shared}
end
section
variable {X:Cx}
end
end L2
namespace Att
open PySem PySem.W PySem.Calls PyProof.Rows
def zco:∀ (ns:List Int) (vs:List Value),WellAll P h vs (ns.map WData.int)->IntsAre vs ns:=by
 intro ns
 induction ns with
 | nil=>
  intro vs w;rw[List.map_nil] at w;cases w;exact .nil
 | cons n ns q=>
  intro vs w;rw[List.map_cons] at w
  cases w with
  | cons a b=>
   cases a;exact .cons _ _ (q _ b)
def zlt{l:OpenLaw}(hn:l.most=some n){P:Params}{h:Heap}{q:List Value}(B:l.row.toRowW.claim.pre args=true)(I:WellAll P h q args) :
  ∃a vs ns,q=[Value.ref a]/\args=[WData.list (ns.map WData.int)]/\h.get? a=some { cls:=.type "list",data:=.seq vs.toArray }/\IntsAre vs ns/\ns.length<=n:=by
 have J:WShape.hasAll [] args [.list .int]=true:=(pre_splitW B).1;have L:l.pre.holds [] { args:=args }=true:=(pre_splitW B).2;obtain⟨d,r,rfl,h1,h2⟩:=hasAllW_cons J;obtain rfl:=hasAllW_nil h2;obtain⟨xs,rfl,U⟩:=hasW_list h1;obtain⟨ns,rfl⟩:=items_int U
 have D:ns.length<=n:=by
  unfold OpenLaw.pre at L
  have O:(WTm.not (.lt (.lit (.int (n:Int))) (.len (.arg 0)))).holds [] { args:=[.list (ns.map .int)] }=true:=by
   have O:=(holds_andW L).1
   simp_all
  have h5:=condW_of O (w_not (w_lt w_lit (w_len_list (w_arg rfl))))
  grind
 cases I with
 | cons Y Z=>
  cases Z
  cases Y with
  | list ho F=>exact⟨_,_,ns,rfl,rfl,ho,zco ns _ F,D⟩
def zk3 (l:OpenLaw)(args:List WData):l.row.toRowW.claim.post args (.bool true) args=true:=
 postW_of (r:=l.row.toRowW) (X:=(true==true))
  (show WShape.has [] (.bool true) .bool=true by first | rfl | decide | simp[WShape.has,WShape.arms,WShape.armsAll])
  (show (WTm.eq .res (.lit (.bool true))).value [] { args:=args,res:=some (.bool true),after:=args }=some (.bool (true==true)) from w_eq_bool (w_res rfl) w_lit) rfl
def attach_call{l:OpenLaw}{q:Program}{D:List Str}{XP:(Str->Option Value)->Heap->Prop}{YP:World->Heap->Prop}{d:DefRec}(hn:l.most=some n)(ac:d.params.defaults=[])(L:∀ (w:World) (F B:Shared) (mg mb:Str->Option Value) (fa:Addr) (o:Obj) (pm cd I:Value) (a:Addr) (vs:List Value) (ns:List Int),
   Ground q D [] XP w F mg mb B.heap->YP w B.heap->
   B.heap.get? fa=some o->o.data = .func (docDef d.name d.params d.body d.scope pm cd I)->B.heap.CodeRec cd d.name->mg d.name=some (.ref fa)->
   B.heap.get? a=some { cls:=.type "list",data:=.seq vs.toArray }->IntsAre vs ns->ns.length<=n->B.gens = #[]->
   codeAny (model l.prog w) callerA (.call (.ref fa) ⟨[.ref a],[]⟩) (λr s'=>r = .ok (.ret (.bool true))/\OldK B.heap s'.heap/\s'.os=B.os/\AllBare s'.gens) B) :
  WalkO q D XP YP l.row.toRowW d [] (λf vs=>PySem.call f vs):=by
 intro w F B mg mb G Y fa o pm cd I dV kV ho hd ad hD ag hg args an as O ap av al a0;obtain rfl:dV = .none:=Dflts.none hD ac;obtain rfl:kV = .none:=Dflts.noKw hD;obtain⟨a,vs,ns,rfl,rfl,U,J,Z⟩:=zlt hn O al;refine enter_call (codeAny_mono (L w F B mg mb fa o pm cd I a vs ns G Y ho (fd_plain hd) ad ag U J Z hg) λr s' hq=>?_);obtain⟨rfl,h2,h3,h4⟩:=hq;exact⟨.inl ⟨.bool true,.bool true,[],rfl,λ_=>rfl,.bool true,zk3 l _,λ_=>⟨List.Pairwise.nil,λ_ hm=>(nomatch hm)⟩⟩,h2,h3,h4⟩
section
variable {prog:Program}{w:World}{A:Around}{E:Value->Shared->Prop}{s:Shared}{K:Frag}
def ledger (h:Heap)(L d:Addr):List (Addr×Obj):=(List.range h.objs.size).filterMap λa=>if a=L\/a=d then none else (h.get? a).map λo=>(a,o)
end
end Att
namespace L2
open PySem PySem.Spec PyProof.Rows
def zf2:∀ {vs:List Value} {ns:List Int},IntsAre vs ns->yb (ns.map V.int) vs
 | _,_,.nil=>.nil
 | _,_,.cons n t h=>.cons ⟨t,rfl⟩ (zf2 h)
def zuB (H:Hp):Prop:=∀b,H b=none\/∃o xs,H b=some (.frz o (.lst xs))
def zmK{P:Program}{w:World}{K:PySem.W.Frag}{mg mb:Str->Option Value}{CX:CXT}{fa a:Addr}{fd:FuncData}{sp:Sp}{B:Shared}{vs:List Value}{ns:List Int}(KX:K.In B.heap)(U:B.heap.Ns mainGlobals mg)(I:B.heap.Ns builtinsNs mb)(al:∀x:Str,x ≠ "__name__" -> mb x=bootBuiltins x)(Y:B.heap.NoLimit)(hg:B.gens = #[])(ha:B.heap.get? a=some { cls:=.type "list",data:=.seq vs.toArray })(hi:IntsAre vs ns)(hl:ns.length<=sizeLine)(hr:Room k callerA)(F:∀base:Heap,K.In base->base.Ns mainGlobals mg->FnOk P w K mg base CX k fa fd [x] sp)(O:∀ (s:Shared) (u:Value),BindsTo s fd ⟨[u],[]⟩ [(x,u)])(an:∀H:Hp,zuB H->SqL K H a (ns.map V.int)->sp [.ref a] H (λv _=>v = .bl true) λ_ _ _=>False)(ap:∀H e s',CX [] H B (λ_ _ _=>False) e s'->False) :
  codeAny (model P w) callerA (.call (.ref fa) ⟨[.ref a],[]⟩) (λr s'=>r = .ok (.ret (.bool true))/\OldK B.heap s'.heap/\s'.os=B.os/\AllBare s'.gens) B:=by
 have rv:=zf2 hi;have av:=hi.length
 have L:∀H:Hp,zuB H->SqL K H a (ns.map V.int)->HOk P w H B.heap->(∀b,H b≠none->b=a)->(H a≠none->K.lookup a=none)->
   codeAny (model P w) callerA (.call (.ref fa) ⟨[.ref a],[]⟩) (λr s'=>r = .ok (.ret (.bool true))/\OldK B.heap s'.heap/\s'.os=B.os/\AllBare s'.gens) B:=by
  intro H hO hS Z hA hK;have D:∀ {b:Addr} {o:Obj},B.heap.get? b=some o->H b=none->(zmv B.heap H).get? b=some o:=λe n=>zmw e n
  have as:∀ {b:Addr} {o:Obj} {es:Array DictEntry} {ep:Nat},B.heap.get? b=some o->o.data = .dict es ep->H b=none:=λ{b o es ep} e d=>by grind
  have J:∀ {b:Addr} {m:Str->Option Value},B.heap.Ns b m->(zmv B.heap H).Ns b m:=λ{b m} ⟨o,es,ep,e,d,r⟩=>⟨o,es,ep,D e (as e d),d,r⟩;have ac:K.In (zmv B.heap H):=λb o e=>D (KX b o e) (by grind);have hM:Mod K mg (zmv B.heap H):=⟨ac,J U,⟨mb,J I,al⟩,let ⟨mc,h1,h2⟩:=Y;⟨mc,J h1,h2⟩⟩;have e0:Env0 P w K mg (zmv B.heap H) callerA [] B H:=⟨rfl,hM,λb o e=>zpH e,Nat.le_of_eq (zjT _ _),trivial,λb I=>absurd (show b∈([]:List Addr) from I) (by simp),Z,.of_eq hg⟩;refine dC ((F _ ac (J U)).run callerA [] B H ⟨[.ref a],[]⟩ [.ref a] [.ref a] _ _ hr e0 (O B (.ref a)) (.cons rfl .nil) (an H hO hS)) λr s' h=>?_
  cases r with
  | error e=>exact (ap H e s' h).elim
  | ok fl=>
   cases fl with
   | next=>exact False.elim h
   | brk=>exact False.elim h
   | cont=>exact False.elim h
   | ret u=>
    obtain⟨v,H',os,ad,un,ag,r',q⟩:=h;have q':v = .bl true:=q;subst q';obtain rfl:u=Value.bool true:=r';refine⟨rfl,OldK.of_keep λb o e=>?_,os,ad⟩
    cases q:H b with
    | none=>exact un.keep b o e q (by intro z;exact absurd (show b∈([]:List Addr) from z) (by simp)) (by simp)
    | some u=>
     rcases hO b with z | ⟨ob,xs,z⟩
     ·grind
     ·have z2:=un.frzs b ob _ z;obtain⟨e1,_⟩:=Z b _ z;obtain⟨e2,_⟩:=ag b _ z2
      grind
 cases hk:K.lookup a with
 | some o=>
  have e:=KX a o hk;rw[ha] at e;cases e;refine L (λ_=>none) (λ_=>.inl rfl) (.inr ⟨_,vs.toArray,_,hk,rfl,rfl,rfl,by simp_all,by simpa using rv⟩) (λb u z=>by lia) (by grind) λz=>absurd rfl z
 | none=>
  refine L (λb=>if b=a then some (.frz { cls:=.type "list",data:=.seq vs.toArray } (.lst (ns.map V.int))) else none) (λb=>?_) (.inl (.inr ⟨{ cls:=.type "list",data:=.seq vs.toArray },if_pos rfl⟩)) (λb u z=>?_) (λb z=>?_) λ_=>hk
  ·by_cases I:b=a
   ·exact .inr ⟨_,_,if_pos I⟩
   ·exact .inl (if_neg I)
  ·by_cases I:b=a
   ·have z':=(if_pos I).symm.trans z;cases z';subst I;exact⟨ha,by simp_all,vs,_,rv,ha⟩
   ·simp_all
  ·grind
def zq4{l:PySem.W.OpenLaw}{q:Program}{D:List Str}{XP:(Str->Option Value)->Heap->Prop}{YP:World->Heap->Prop}{d:DefRec}{K:Params->PySem.W.Frag}{CX:World->CXT}{sp:World->Sp}(hn:l.most=some n)(O:n<=sizeLine)(U:d.params.defaults=[])(hr:Room k callerA)(hY:∀ (w:World) (h:Heap),YP w h->(K w.params).In h)(F:∀ (w:World) (mg:Str->Option Value) (fa:Addr) (h:Heap),(K w.params).In h->h.Ns mainGlobals mg->mg d.name=some (.ref fa)->
   ∃fd:FuncData,(∀ (s:Shared) (u:Value),BindsTo s fd ⟨[u],[]⟩ [(x,u)])/\
    ∀base:Heap,(K w.params).In base->base.Ns mainGlobals mg->FnOk l.prog w (K w.params) mg base (CX w) k fa fd [x] (sp w))(Z:∀ (w:World) (H:Hp) (a:Addr) (ns:List Int),ns.length<=n->zuB H->SqL (K w.params) H a (ns.map V.int)->sp w [.ref a] H (λv _=>v = .bl true) λ_ _ _=>False)(ac:∀ (w:World) (H:Hp) (s:Shared) (e:Value) (s':Shared),CX w [] H s (λ_ _ _=>False) e s'->False) :
  PySem.W.WalkO q D XP YP l.row.toRowW d [] (λf vs=>PySem.call f vs):=by
 refine Att.attach_call hn U λw ag J mg mb fa o pm cd al a vs ns G Y ho hd an ad L I B hg=>?_;have KX:=hY w _ Y;obtain⟨fd,hb,hF⟩:=F w mg fa _ KX G.T.g ad;exact zmK KX G.T.g G.T.b G.T.builtins G.T.nolimit hg L I (ar B O) hr hF hb (λH hO hS=>Z w H a ns B hO hS) λH e s'=>ac w H J e s'
def zaI (s:Stmt):Arguments:=match s with
 | .FunctionDef _ a _ _ _ _ _ _ _ _=>a
 | _=>{ posonlyargs:=[],args:=[],vararg:=none,kwonlyargs:=[],kw_defaults:=[],kwarg:=none,defaults:=[] }
def yt (s:Stmt):List Stmt:=match s with
 | .FunctionDef _ _ b _ _ _ _ _ _ _=>b
 | _=>[]
def zg (s:Stmt):Scope:=match s with
 | .FunctionDef _ _ _ _ _ _ q _ _ _=>q
 | _=>{ kind:=.function,names:=[],isGenerator:=false,isCoroutine:=false }
abbrev CX0:CXT:=λ_ _ _ _ _ _=>False
abbrev E0:XK:=λ_ _ _=>False
def zvN:ziT CX0 X E0:=λ_ _ _ _ _ _ _ h=>h.elim
structure Fun (K:PySem.W.Frag)(x qual:Str)(st:Stmt)(f:Addr)(fd:FuncData):Prop where
 ex:∃ (oc:Value) (od:Option Addr) (kV doc pm:Value) (an:Option Addr) (cdv ct:Value) (osl:Array (Option Value)),
  fd=PySem.W.fnOf x qual (zaI st) (yt st) (zg st) .none kV doc pm an cdv ct/\K.lookup f=some ⟨oc,od,.func fd,osl⟩/\PySem.W.codeIn K cdv qual=true
 kp:PySem.W.keepIn K (.ref f)=true
section
variable {P:Program}{w:World}{K:PySem.W.Frag}{mg:Str->Option Value}{base:Heap}
def Fun.ok{x D:Str}{st:Stmt}{f:Addr}{fd:FuncData}{N ps:List Str}{sp:Sp}(F:Fun K x D st f fd)(S:FnScope N ps (zg st))(L:∀vs H Q E,sp vs H Q E->vs.length=ps.length)(J:∀ (I:Value) (A:Around) (B:List Env) (s:Shared) (H:Hp) (vs:List V) (Q:VK) (E:XK),Room k (A.deeper (envOfC D (zg st) s.heap.objs.size f I))->sp vs H Q E->
   ∃t,PSs (zdX CX0 P w K mg base N D (zg st) f I A B s H E).nox (yt st) t/\t { nx:=λ_ H'=>Q .non H',rt:=Q } (xt N vs) H):FnOk P w K mg base CX0 (k+1) f fd ps sp:=by
 obtain⟨oc,od,kV,Y,pm,an,I,ct,Z,rfl,lk,O⟩:=F.ex;refine zvc lk O S L λA B s H vs Q E hr U=>?_;obtain⟨t,h,q⟩:=J I A B s H vs Q E hr U;exact⟨t,h.nox,q⟩
def Fun.binds {x q:Str}{st:Stmt}{f:Addr}{fd:FuncData}{ps:List Str}(F:Fun K x q st f fd)
  (h:∀ (kV B I:Value) (J:Option Addr) (D ct:Value) (L:List Value),L.length=ps.length->bindArgs (PySem.W.fnOf x q (zaI st) (yt st) (zg st) .none kV B I J D ct) ⟨L,[]⟩=pure (ps.zip L)):zia K fd ps []:=by
 obtain⟨Y,Z,kV,B,I,J,D,ct,O,rfl,lk,U⟩:=F.ex;exact .all (h kV B I J D ct)
def zn0{x q:Str}{st:Stmt}{f:Addr}{O I:Option Addr}{F:Array (Option Value)}{kV D J B ct:Value}(l:K.lookup f=some ⟨L,O,.func (PySem.W.fnOf x q (zaI st) (yt st) (zg st) .none kV D J I B ct),F⟩)(c:PySem.W.codeIn K B q=true)(k:PySem.W.keepIn K (.ref f)=true):Fun K x q st f (PySem.W.fnOf x q (zaI st) (yt st) (zg st) .none kV D J I B ct):=⟨⟨L,O,kV,D,J,I,B,ct,F,rfl,l,c⟩,k⟩
end
def uF(q:Room k A):A.units+1<cLine:=aW (Nat.add_le_add_left (by decide:1<=64) _) q.units
def zcW(h:n<=1000):n<sizeLine:=aW h (by decide)
section
variable {X:Cx}
def zi4:zc1 X (.builtin "len") (λxs H Q=>∃a kvs,xs=[V.ref a]/\H a=some (.dK kvs)/\Q (.int kvs.length) H):=by intro pins s σ H xs F Q I r h;obtain⟨a,kvs,rfl,B,q⟩:=h;obtain⟨u,rfl,D⟩:=zaM r;cases D;exact zuZ I (.inl B) λt s' I'=>⟨.int kvs.length,H,I',⟨t,rfl⟩,q⟩
end
def iteF {A B:Prop}(h:B):if false=true then A else B:=by grind
def zuf {c A B:Prop}[Decidable c](h1:c->A)(h2:¬ c->B):if c then A else B:=by grind
def xm (H H':Hp):Prop:=∀b o,H b=some o->H' b=some o
def xm.trans(a:xm H H1)(b:xm H1 H2):xm H H2:=λc o h=>b c o (a c o h)
def xm.free(e:xm H H')(h:H' l=Option.none):H l=Option.none:=by
 cases q:H l with
 | none=>rfl
 | some o=>
  rw[e l o q] at h;cases h
def xm.seq{K:PySem.W.Frag}{H H':Hp}{a:Addr}(e:xm H H')(h:SqL K H a xs):SqL K H' a xs:=by
 rcases h with (h | ⟨o,h⟩) | h
 ·exact .inl (.inl (e _ _ h))
 ·exact .inl (.inr ⟨o,e _ _ h⟩)
 ·exact .inr h
section
variable {κ:Type}[DecidableEq κ]
end
section
variable {X:Cx}
def zlc (K:PySem.W.Frag):R2:=λx y H Q=>∃a b xs ys,x = .ref a/\y = .ref b/\H a=some (.tup xs)/\H b=some (.tup ys)/\xs.length+ys.length<=sizeLine/\
 ∀p H',H' p=some (.tup (xs++ys))->xm H H'->Q (.ref p) H'
def zpK:OpR X (binaryOp .Add) (zlc X.K):=by
 intro pins s σ H x y v u Q I Z ry h;obtain⟨a,b,xs,ys,rfl,rfl,ha,L,hz,q⟩:=h;by_cases hx:xs=[]
 ·subst hx;cases Z;cases ry;obtain⟨its,r1,p1,_⟩:=I.tuple (.of ha);obtain⟨B,r2,p2,_⟩:=I.tuple (.of L);obtain⟨⟨cls,dd,data,sl⟩,ho,hc,n,hd⟩:=id p1;obtain⟨⟨ac,O,U,Y⟩,D,F,n2,J⟩:=id p2;simp only at hc hd F J;subst hc hd F J;have hi:its=[]:=r1.nil_iff.mpr rfl
  exact concat_meets ⟨_,ho,rfl⟩ ⟨_,D,rfl⟩ eP seq_tuple_add dn di (da _ _)
   (tuple_addW0 a b its.toArray B.toArray n n2 dd O sl Y (by simp[hi])) ⟨ho,D,⟨.ref b,H,I,rfl,q b H L λ_ _ e=>e⟩⟩
 ·refine zpL pins s σ H _ _ v u Q I Z ry ⟨a,b,xs,ys,rfl,rfl,.of ha,.of L,hx,hz,λe=>?_,λe p hp=>?_⟩
  ·subst e;exact q a H (by simp_all) λ_ _ e=>e
  ·exact q p _ zk λc o e=>by rw[zi (zd e hp)];exact e
end
section
variable {X:Cx}
end
end L2
namespace HT
open PySem PySem.Spec PyProof.Rows
section
variable {prog:Program}{w:World}{A:Around}{E:Value->Shared->Prop}{s:Shared}
def getItem_tuple_whole{lo hi:Option Int}(B:IsTup s.heap t q)(Y:s.heap.IsSliceOf F O U .none)(pl:IsPart O lo)(Z:IsPart U hi)(hw:sIx q.size 0 lo=0/\sIx q.size q.size hi=q.size)(h:Q (.ref t) s)(hsz:q.size<=sizeLine):wpAny (model prog w) A (getItem (.ref t) (.ref F)) Q E s:=by
 obtain⟨os,I,J,ac⟩:=id Y;have L:s.TypeIs (.ref F) "slice" := ⟨os,I,J⟩;unfold getItem;try with_reducible refine wpAny_holding ?_
 first | refine wpAny_bind (wpAny_pure ?_) | skip
 refine wpAny_bind (wpAny_sequenceKey B.typeIs (by decide) ?_)
 refine wpAny_bind (wpAny_callSpecial?_slot (name:=Str.ofString "__getitem__") B.typeIs PyProof.Rows.slot_tuple_getitem
  (wpAny_call_entry PyProof.Rows.slot_tuple_getitem B.typeIs entry_tuple_getitem ?_ (args_tuple_getitem _ _)))
 show wpAny _ _ (Builtin.Tuple.tupleItemsOf (.ref t) >>= _) _ _ s;refine wpAny_bind (tupleItemsOf_ B ?_);refine wpAny_bind (wpAny_typeOf L ?_);rw[if_pos (by decide)];refine wpAny_bind (uV Y pl Z ?_)
 have D:(((sIx q.size 0 lo:Nat):Int)==0&&(1:Int)==1&&(sIx q.size q.size hi - sIx q.size 0 lo)==q.size)=true:=by simp_all
 show wpAny _ _ (if (((sIx q.size 0 lo:Nat):Int)==0&&(1:Int)==1&&(sIx q.size q.size hi - sIx q.size 0 lo)==q.size)=true then _ else _) _ _ s;rw[if_pos D];unfold Builtin.Tuple.tupleIsExact;refine wpAny_bind (wpAny_bind (wpAny_typeOf B.typeIs ?_));refine wpAny_pure ?_;rw[if_pos (by decide)];refine wpAny_bind (wpAny_rule ?_);exact wpAny_pure ⟨_,rfl,wpAny_pure h⟩
end
end HT
namespace L2
open PySem PySem.Spec PyProof.Rows
section
variable {X:Cx}
def rSlA:V->Option Int->Option Int->Hp->VK->Prop:=λx lo hi H Q=>∃a xs,x = .ref a/\H a=some (.tup xs)/\∀p H',H' p=some (.tup (zc5 xs lo hi))->xm H H'->Q (.ref p) H'
def zqJ:SlR X rSlA:=by
 intro pins s σ H x v Y Z lo hi sl Q I D F pl J h;obtain⟨a,xs,rfl,L,q⟩:=h;by_cases O:HT.sIx xs.length 0 lo=0/\HT.sIx xs.length xs.length hi=xs.length
 ·cases D;obtain⟨its,r,U,hz⟩:=I.tuple (.of L);have B:its.toArray.size=xs.length:=by rw[aZ];exact r.length.symm
  refine⟨"tuple",_,PyProof.Rows.slot_tuple_getitem.lookup,U.typeIs,?_⟩;refine HT.getItem_tuple_whole U F pl J (by rw[B];exact O) ⟨.ref a,H,I,rfl,q a H ?_ λ_ _ e=>e⟩ (by rw[B];exact hz);unfold zc5
  grind
 ·exact ztA pins s σ H _ v Y Z lo hi sl Q I D F pl J ⟨a,xs,rfl,.of L,O,λp hp=>q p _ zk λc o e=>by rw[zi (zd e hp)];exact e⟩
inductive Dt where
 | non | bl (b:Bool) | int (i:Int) | str (x:Str) | tup (l:List Dt) | lst (l:List Dt) | dct
mutual
def Is (H:Hp):Dt->V->Prop
 | .non,v=>v = .non
 | .bl b,v=>v = .bl b
 | .int i,v=>v = .int i
 | .str x,v=>v = .str x
 | .tup l,v=>∃a xs,v = .ref a/\H a=some (.tup xs)/\IsL H l xs
 | .lst l,v=>∃a xs,v = .ref a/\H a=some (.lst xs)/\IsL H l xs
 | .dct,v=>∃a kvs,v = .ref a/\H a=some (.dK kvs)/\zbh kvs (Sum.inr "at" : Key)=none
def IsL (H:Hp):List Dt->List V->Prop
 | [],xs=>xs=[]
 | d::ds,xs=>∃x r,xs=x::r/\Is H d x/\IsL H ds r
end
def zv (H H':Hp):Prop:=∀b o,H b=some o->(∀kvs,o = .dK kvs->zbh kvs (Sum.inr "at" : Key)=none)->H' b=some o
def zv.refl (H:Hp):zv H H:=λ_ _ e _=>e
def zv.trans(a:zv H H1)(b:zv H1 H2):zv H H2:=λc o e n=>b c o (a c o e n) n
def zv.same(a:xm H H1):zv H H1:=λc o e _=>a c o e
def zv.upd(h:H p=none):zv H (upd H p o):=λc u e _=>by rw[zi (zd e h)];exact e
def xm.upd(h:H p=none):xm H (upd H p o):=λc u e=>by rw[zi (zd e h)];exact e
def zv.tup(a:zv H H1)(h:H p=some (.tup xs)):H1 p=some (.tup xs):=a _ _ h λ_ e=>by cases e
def zv.lst(a:zv H H1)(h:H p=some (.lst xs)):H1 p=some (.lst xs):=a _ _ h λ_ e=>by cases e
mutual
def Is.stay {H H1:Hp}(a:zv H H1):∀ {d:Dt} {v:V},Is H d v->Is H1 d v
 | .non,_,h=>h
 | .bl _,_,h=>h
 | .int _,_,h=>h
 | .str _,_,h=>h
 | .tup l,v,h=>by obtain⟨p,xs,e,hp,hl⟩:=h;exact⟨p,xs,e,a.tup hp,IsL.stay a hl⟩
 | .lst l,v,h=>by obtain⟨p,xs,e,hp,hl⟩:=h;exact⟨p,xs,e,a.lst hp,IsL.stay a hl⟩
 | .dct,v,h=>by obtain⟨p,kvs,e,hp,hl⟩:=h;exact⟨p,kvs,e,a _ _ hp λkvs' e=>by cases e;exact hl,hl⟩
def IsL.stay {H H1:Hp}(a:zv H H1):∀ {ds:List Dt} {xs:List V},IsL H ds xs->IsL H1 ds xs
 | [],_,h=>h
 | d::ds,xs,h=>by obtain⟨x,r,e,h1,h2⟩:=h;exact⟨x,r,e,Is.stay a h1,IsL.stay a h2⟩
end
def IsL.length:∀ {ds:List Dt} {xs:List V},IsL H ds xs->xs.length=ds.length
 | [],_,h=>by cases h;rfl
 | d::ds,xs,h=>by obtain⟨x,r,rfl,_,h2⟩:=h;rw[a8,a8,IsL.length h2]
def IsL.get:∀ {ds:List Dt} {xs:List V} {i:Nat} {x:V},IsL H ds xs->xs[i]?=some x->∃d,ds[i]?=some d/\Is H d x
 | [],_,_,_,h,e=>by cases h;simp at e
 | d::ds,xs,i,x,h,e=>by
  obtain⟨y,r,rfl,h1,h2⟩:=h
  cases i with
  | zero=>simp at e;subst e;exact⟨d,rfl,h1⟩
  | succ i=>
   obtain⟨d',q,B⟩:=IsL.get (i:=i) (x:=x) h2 (by simpa using e)
   simp_all
def IsL.getD:∀ {ds:List Dt} {xs:List V} {i:Nat} {d:Dt},IsL H ds xs->ds[i]?=some d->∃x,xs[i]?=some x/\Is H d x
 | [],_,_,_,_,e=>by simp at e
 | d::ds,xs,i,x,h,e=>by
  obtain⟨y,r,rfl,h1,h2⟩:=h
  cases i with
  | zero=>simp at e;subst e;exact⟨y,rfl,h1⟩
  | succ i=>
   obtain⟨d',q,B⟩:=IsL.getD (i:=i) (d:=x) h2 (by simpa using e)
   simp_all
def IsL.append:∀ {ds es:List Dt} {xs ys:List V},IsL H ds xs->IsL H es ys->IsL H (ds++es) (xs++ys)
 | [],_,_,_,h,k=>by cases h;exact k
 | d::ds,es,xs,ys,h,k=>by obtain⟨y,r,rfl,h1,h2⟩:=h;exact⟨y,r++ys,rfl,h1,IsL.append h2 k⟩
def IsL.take:∀ {ds:List Dt} {xs:List V} (n:Nat),IsL H ds xs->IsL H (ds.take n) (xs.take n)
 | _,_,0,_=>by simp[IsL]
 | [],_,n+1,h=>by cases h;simp[IsL]
 | d::ds,xs,n+1,h=>by obtain⟨y,r,rfl,h1,h2⟩:=h;exact⟨y,r.take n,rfl,h1,IsL.take n h2⟩
def IsL.drop:∀ {ds:List Dt} {xs:List V} (n:Nat),IsL H ds xs->IsL H (ds.drop n) (xs.drop n)
 | _,_,0,h=>h
 | [],_,n+1,h=>by cases h;simp[IsL]
 | d::ds,xs,n+1,h=>by obtain⟨y,r,rfl,h1,h2⟩:=h;exact IsL.drop n h2
def IsL.one(h:Is H d x):IsL H [d] [x]:=⟨x,[],rfl,h,rfl⟩
def IsL.ints:∀ {ns:List Int},IsL H (ns.map .int) (ns.map .int)
 | []=>rfl
 | n::ns=>⟨_,_,rfl,rfl,IsL.ints⟩
def IsL.of_ints:∀ {ns:List Int} {xs:List V},IsL H (ns.map .int) xs->xs=ns.map .int
 | [],_,h=>h
 | n::ns,xs,h=>by obtain⟨y,r,rfl,h1,h2⟩:=h;cases h1;rw[IsL.of_ints h2];rfl
@[reducible] def Dt.isTup:Dt->Bool
 | .tup _=>true | _=>false
@[reducible] def Dt.isLst:Dt->Bool
 | .lst _=>true | _=>false
@[reducible] def Dt.isInt:Dt->Bool
 | .int _=>true | .bl _=>true | _=>false
@[reducible] def Dt.isBl:Dt->Bool
 | .bl _=>true | _=>false
def Dt.isWhole:Dt->Bool
 | .int _=>true | _=>false
end
def zc3 (env:Env):List (Str×NameKind)->List (Str×Addr)->List (Str×Addr)
 | [],cs=>cs
 | x::r,cs=>zc3 env r (if (x.2==NameKind.free)=true then (x.1,(env.cells.lookup x.1).getD 0)::cs else cs)
def zif(h:∀x∈scope.names,x.2 = .free->∃c,env.cells.lookup x.1=some c):closureFor scope env=pure (zc3 env scope.names []):=by
 have gen:∀ (names:List (Str×NameKind)) (cs:List (Str×Addr)),(∀x∈names,x.2 = .free->∃c,env.cells.lookup x.1=some c)->
   (forIn names cs (λx r=>match x with
    | (name,kind)=>if (kind==NameKind.free)=true then do let a <- cellOf env name;pure (ForInStep.yield ((name,a)::r)) else pure (ForInStep.yield r)):Sem (List (Str×Addr)))=pure (zc3 env names cs):=by
  intro names
  induction names with
  | nil=>intro cs _;rfl
  | cons x r ih=>
   intro cs hh;obtain⟨n,k⟩:=x;rw[List.forIn_cons];by_cases hk:(k==NameKind.free)=true
   ·obtain⟨c,hc⟩:=hh (n,k) ak (dS hk);have hc':env.cells.lookup n=some c:=hc;have e:cellOf env n=pure c:=by unfold cellOf;rw[hc']
    simp only[hk,if_true,e,pure_bind];rw[ih _ λy hy=>hh y (ao _ hy)];show pure _=pure (zc3 env r (if (k==NameKind.free)=true then (n,(env.cells.lookup n).getD 0)::cs else cs))
    simp_all
   ·simp only[hk,pure_bind]
    have e2:zc3 env ((n,k)::r) cs=zc3 env r cs:=by show zc3 env r (if (k==NameKind.free)=true then _ else cs)=_;rw[if_neg hk]
    simp_all
 unfold closureFor;have:=gen scope.names [] h;simpa using this
def uY:∀ {names:List (Str×NameKind)} {cs:List (Str×Addr)} {x:Str} {c:Addr},(∀y∈names,y.2 = .free->∃c,env.cells.lookup y.1=some c)->(zc3 env names cs).lookup x=some c->env.cells.lookup x=some c\/cs.lookup x=some c
 | [],_,_,_,_,h=>.inr h
 | (n,k)::r,cs,x,c,B,h=>by
  have q:=uY (names:=r) (x:=x) (c:=c) (λy D=>B y (ao _ D)) h;rcases q with q | q
  ·exact .inl q
  ·by_cases F:(k==NameKind.free)=true
   ·obtain⟨I,J⟩:=B (n,k) ak (dS F)
    grind
   ·simp_all
def zdm:∀ {names:List (Str×NameKind)} {cs:List (Str×Addr)} {x:Str},(∃c,cs.lookup x=some c)->∃c,(zc3 env names cs).lookup x=some c
 | [],_,_,h=>h
 | (n,k)::r,cs,x,h=>by
  refine zdm (names:=r) ?_
  grind
def zai:∀ {names:List (Str×NameKind)} {cs:List (Str×Addr)} {x:Str},names.lookup x=some .free->∃c,(zc3 env names cs).lookup x=some c
 | [],_,_,h=>by simp at h
 | (n,k)::r,cs,x,h=>by
  rw[cE] at h
  cases e:x==n with
  | true=>
   rw[e] at h;have h':some k=some NameKind.free:=h;cases h';refine zdm (names:=r) ?_
   simp_all
  | false=>
   rw[e] at h;exact zai (names:=r) h
def y3 {env:Env}:∀ {names:List (Str×NameKind)} {x:Str} {k:NameKind},(∀y∈names,y.2≠.cell)->
  (names.map λ(n,k)=>if (k==NameKind.free&&env.scope.kind==.function&&env.kindOf n==some .cell) then (n,NameKind.cell) else (n,k)).lookup x=some k->(k = .cell\/k = .free)->names.lookup x=some .free
 | [],_,_,_,h,_=>by simp at h
 | (n,k)::r,x,q,B,h,F=>by
  have I:=@y3 env r x q (λy D=>B y (ao _ D))
  grind
def y4 {env:Env}:∀ {names:List (Str×NameKind)} {x:Str},names.lookup x=some .free->
  (names.map λ(n,k)=>if (k==NameKind.free&&env.scope.kind==.function&&env.kindOf n==some .cell) then (n,NameKind.cell) else (n,k)).lookup x=some .cell\/
  (names.map λ(n,k)=>if (k==NameKind.free&&env.scope.kind==.function&&env.kindOf n==some .cell) then (n,NameKind.cell) else (n,k)).lookup x=some .free
 | [],_,h=>by simp at h
 | (n,k)::r,x,h=>by
  have q:=@y4 env r x
  grind
def zu (X:Cx)(scope:Scope)(N:List Str)(C:Addr)(s:Shared)(H:Hp)(ex:List Addr):Cx where
 prog:=X.prog
 w:=X.w
 K:=X.K
 mg:=X.mg
 base:=X.base
 A:=X.A
 N:=N
 s₀:=s
 H₀:=H
 env:=compEnvC scope (zc3 X.env scope.names []) C X.env
 outer:=X.stack
 stack:=X.stack
 ex:=ex
 fn:=λ_=>false
 calm:=X.calm
 pn:=[]
 xe:=λ_ _=>False
def caps (XN:List Str)(Xnames names:List (Str×NameKind))(N:List Str)(cix:List (Option Nat)):Bool:=
 N.length==cix.length&&(names.all λy=>y.2 != .cell)&&((N.zip cix).all λp=>match p.2 with
  | none=>true
  | some i=>XN[i]?==some p.1&&names.lookup p.1==some .free&&(Xnames.lookup p.1==some .cell || Xnames.lookup p.1==some .free)) &&
 (names.all λy=>y.2 != .free || (Xnames.lookup y.1==some .cell || Xnames.lookup y.1==some .free))
def x6 (σ:St)(cix:List (Option Nat)):St:=cix.map λo=>match o with
 | none=>none
 | some i=>(σ[i]?).join
structure CompOk (X:Cx)(scope:Scope)(N:List Str)(cix:List (Option Nat)):Prop where
 kind:scope.kind = .function
 names:∀x∈scope.names,x.2 = .local->scope.names.lookup x.1=some .local
 caps:caps X.N X.env.scope.names scope.names N cix=true
section
variable {X:Cx}{pins:List (Addr×Obj)}{σ:St}{H:Hp}{s:Shared}{scope:Scope}{N:List Str}{cix:List (Option Nat)}
def CompOk.cell (c:CompOk X scope N cix):∀y∈scope.names,y.2≠.cell:=λy q e=>by
 have h:=c.caps;unfold L2.caps at h;rw[a6,a6,a6] at h;have:=bc.mp h.1.1.2 y q
 simp_all
def CompOk.len (c:CompOk X scope N cix):N.length=cix.length:=by
 have h:=c.caps;unfold L2.caps at h
 simp_all
def CompOk.cells (c:CompOk X scope N cix)(B:X.Ok):∀x∈scope.names,x.2 = .free->∃a,X.env.cells.lookup x.1=some a:=λx D e=>by
 have h:=c.caps;unfold L2.caps at h;rw[a6] at h;have q:=bc.mp h.2 x D;rw[e] at q;have F:(X.env.scope.names.lookup x.1==some NameKind.cell || X.env.scope.names.lookup x.1==some NameKind.free)=true:=by simpa using q
 rcases Bool.or_eq_true_iff.mp F with q | q
 ·exact B.has _ (.inl (dS q))
 ·exact B.has _ (.inr (dS q))
def CompOk.cap (c:CompOk X scope N cix){j i:Nat}{x:Str}(h1:N[j]?=some x)(h2:cix[j]?=some (some i)):X.N[i]?=some x/\scope.names.lookup x=some .free/\(X.env.scope.names.lookup x=some .cell\/X.env.scope.names.lookup x=some .free):=by
 have h:=c.caps;unfold L2.caps at h;rw[a6,a6] at h
 have B:(x,some i)∈N.zip cix:=by refine au (i:=j) ?_;rw[List.getElem?_zip_eq_some];exact⟨h1,h2⟩
 have q:=bc.mp h.1.2 _ B
 grind
def zmy {Z:List Addr}{h':Heap}{tk:Nat}{m:Str->Option Value}(I:Inv X pins σ H s)(c:CompOk X scope N cix)(U:∀b∈Z,zeP X pins H b)(ac:∀b∈Z,b<s.heap.objs.size)
  (hn:h'.Ns s.heap.objs.size m) (Y:∀b o,s.heap.get? b=some o->h'.get? b=some o) :
  Inv (zu X scope N s.heap.objs.size s H Z) [] (x6 σ cix) H { s with heap:=h',toks:=tk }:=by
 have ad:=c.cells I.ok
 have B:∀x a,(zc3 X.env scope.names []).lookup x=some a->X.env.cells.lookup x=some a:=λx a e=>by
  rcases uY ad e with z | z
  ·exact z
  ·simp at z
 refine⟨⟨I.mod,c.kind,I.ok.glob,I.ok.blt,ah _,λx y a e1 e2=>I.ok.inj x y a (B x a e1) (B y a e2),λx hx=>?_,λx a z _=>absurd (show (false:Bool)=true from z) (by decide),I.ok.hd,I.ok.frames,.inl rfl,
  λb F=>⟨aU (ac b F),λx a e=>(U b F).2.2.2.2.1 x a (B x a e)⟩,I.bs,ar I.ok.bsz I.sz,λb o e F=>?_,λb F z=>?_,I.stack,I.stkFree⟩,
  I.os ▸ rfl,I.bare,Un.kept Y,⟨m,hn,λj x v h1 h2 h3=>?_⟩,λx a e=>?_,I.hok.fresh (ah _),λx a e=>I.freeC x a (B x a e),λp hp=>absurd (show p∈([]:List (Addr×Obj)) from hp) (by simp),I.hok.kept Y,?_⟩
 ·have ag:((relabel scope X.env).names.lookup x=some .cell\/(relabel scope X.env).names.lookup x=some .free):=hx;rcases ag with z | z
  ·exact zai (y3 c.cell z (.inl rfl))
  ·exact zai (y3 c.cell z (.inr rfl))
 ·rcases (U b F).2.2.2.1 with z | z
  ·exact I.ok.noex b o e z
  ·exact absurd (aO (aD e) (ar I.ok.bsz z)) (bM _)
 ·rcases aK.mp (I.stkSub b z) with e | e
  ·exact (U b F).2.1 e
  ·exact (U b F).2.2.1 e
 ·have al:N[j]?=some x:=h1;unfold x6 at h2;rw[aw] at h2
  cases e:cix[j]? with
  | none=>rw[e] at h2;cases h2
  | some o=>
   rw[e] at h2
   cases o with
   | none=>cases h2
   | some i=>
    have D:(σ[i]?).join=some v:=bE h2
    have L:σ[i]?=some (some v):=by
     cases q:σ[i]? with
     | none=>rw[q] at D;cases D
     | some z=>rw[q] at D;have:z=some v:=D;rw[this]
    obtain⟨q1,q2,q3⟩:=c.cap al e;obtain⟨m0,ap,an⟩:=I.loc;obtain⟨u,ru,hu⟩:=an i x v q1 L (q3.elim (λz=>.inr (.inl z)) λz=>.inr (.inr z));refine⟨u,ru,.inr ⟨y4 q2,?_⟩⟩;rcases hu with ⟨z,_⟩ | ⟨_,a,ha,hcell⟩
    ·have z':X.env.scope.names.lookup x=some .local:=z
     simp_all
    ·obtain⟨a',O⟩:=zai (env:=X.env) (cs:=[]) q2;have:a'=a:=by have:=(B x a' O).symm.trans ha;exact bE this
     subst this;obtain⟨oc,J,hd⟩:=hcell;exact⟨a',O,oc,Y _ _ J,hd⟩
 ·obtain⟨v,oc,J,hd⟩:=I.cell x a (B x a e);exact⟨v,oc,Y _ _ J,hd⟩
 ·show (x6 σ cix).length=N.length;unfold x6;rw[ab,c.len]
def zck(x:HOk P w H h)(D:H a=none)(B:Heap.SameBut a h h'):HOk P w H h':=λb o e=>by
 refine (x b o e).stay (λc u F q=>(B.2 c ?_).trans q) (λ_ q=>q) λ_ _ q=>q
 grind
def ziq{U:St}{H':Hp}{s':Shared}(I:Inv X pins σ H s)(J:∀b∈O,zeP X pins H b)(I':Inv (zu X scope N s.heap.objs.size s H O) [] U H' s')(L:Heap.SameBut s.heap.objs.size s'.heap D) :
  Inv X pins σ H' { s' with heap:=D }:=by
 have Y:∀b o,s.heap.get? b=some o->b≠s.heap.objs.size:=λb o e=>aU (aD e);have u:=I'.base;refine Inv.call' (ch:=O) I I'.os ⟨λb o e n B F=>?_,λb o e n B F=>?_,u.free,λb o e F=>?_,u.tups,u.frzs,u.tbls⟩ (zck I'.hok I'.free L) I'.bare λb B=>⟨(J b B).2.2.2.1,(J b B).2.1,(J b B).2.2.2.2.1,(J b B).2.2.2.2.2⟩
 ·exact (L.2 b (Y b o e)).trans (u.keep b o e n B F)
 ·obtain⟨Z,q⟩:=u.slot b o e n B F;exact⟨Z,(L.2 b (Y b o e)).trans q⟩
 ·obtain⟨o',q⟩:=u.there b o e F;exact⟨o',(L.2 b (Y b o e)).trans q⟩
end
section
variable {prog:Program}{w:World}{A:Around}{R:Result->Shared->Prop}{s:Shared}
def zdV(I:Nat->Shared->Prop)(turn:∀n s,I n s->wpAny (model prog w) A (pyNext it) (λr s₁=>match r with
   | none=>R (.ok .next) s₁
   | some v=>wpAny (model prog w) A (letOwnedTupleGo target it v) (λ_ s₂=>wpAny (model prog w) A (assign target env v) (λ_ s₃=>
     wpAny (model prog w) A (forIn ifs true λc r=>if r=true then do let ok <- isTrue c env (eval c env);pure (ForInStep.yield ok) else pure (ForInStep.yield r)) (λok s₄=>
      if ok=true then wpAny (model prog w) A (eval elt env) (λx s₅=>
       wpAny (model prog w) A (call (.builtin "list.append") [acc,x]) (λ_ s₆=>∃m,m<n/\I m s₆) (λ_ _=>False) s₅) (λ_ _=>False) s₄
      else ∃m,m<n/\I m s₄) (λ_ _=>False) s₃) (λ_ _=>False) s₂) (λ_ _=>False) s₁) (λ_ _=>False) s)(n:Nat)(h:I n s) :
  codeAny (model prog w) A (.compLoop (.ListComp elt [⟨target,iter,ifs,0⟩] scope pos) 0 it acc env) R s:=by
 refine el rfl I (λn s hI=>?_) n h;show wpAny _ A ((compTurn (.ListComp elt [⟨target,iter,ifs,0⟩] scope pos) 0 it acc env).onRaise (λx=>do noteFrame x env;theTreesLotGoes x)) _ _ s;refine eK ?_;rw[compTurn_list];refine aa (bA (aa (aS (turn n s hI) (λr s₁ h₁=>?_) λ_ _ h'=>h'.elim)))
 cases r with
 | none=>exact af h₁
 | some v=>
  refine aa (aS h₁ (λ_ s₂ h₂=>?_) λ_ _ h'=>h'.elim);refine aa (aS h₂ (λ_ s₃ h₃=>aa (aS h₃ (λok s₄ h₄=>?_) λ_ _ h'=>h'.elim)) λ_ _ h'=>h'.elim)
  cases ok with
  | false=>exact af ⟨rfl,h₄⟩
  | true=>
   exact aa (aa (aS h₄ (λx s₅ h₅=>aa (aS h₅ (λ_ s₆ h₆=>af (af ⟨rfl,h₆⟩)) λ_ _ h'=>h'.elim)) λ_ _ h'=>h'.elim))
end
def PTs (X:Cx)(ifs:List Expr)(t:TT):Prop:=
 ∀ (pins:List (Addr×Obj)) (s:Shared) (σ:St) (H:Hp) (Q:Bool->Hp->Prop),Inv X pins σ H s->t σ H Q->
  wpAny (model X.prog X.w) X.A (forIn ifs true λc r=>if r=true then do let ok <- isTrue c X.env (eval c X.env);pure (ForInStep.yield ok) else pure (ForInStep.yield r)) (TP X pins σ Q) X.xe s
def zby:TT:=λ_ H Q=>Q true H
def zp9:PTs X [] zby:=λpins s σ H Q I h=>wpAny_tests_nil ⟨H,I,h⟩
def zqa(h:PT X c t):PTs X [c] t:=λpins s σ H Q I q=>wpAny_tests_one (h pins s σ H Q I q)
def zwd (wi:TI)(g:TG)(ti:TT)(te:TE)(cix:List (Option Nat)):TE:=λσ H Q=>wi σ H λJ H1=>∀acc,H1 acc=none->∃W:Nat->Nat->St->Hp->Prop,(∃m,W 0 m (x6 σ cix) (upd H1 acc (.lst [])))/\
 ∀i m B H',W i m B H'->(J.stop i H'/\Q (.ref acc) H')\/(J.go i H'/\∃N:St->Hp->Prop,(∀ D H2,N D H2->∃F,F<m/\W (i+1) F D H2)/\
  ∀x H2,J.yld i H' x H2->g x B H2 λq H3=>ti q H3 λI H4=>if I=true then te q H4 λv H5=>∃xs,H5 acc=some (.lst xs)/\xs.length<sizeLine/\N q (upd H5 acc (.lst (xs++[v]))) else N q H4)
def zgf (g:TG)(ti:TT)(te:TE)(acc:Addr)(N:St->Hp->Prop)(x:V)(σ:St)(H:Hp):Prop:=
 g x σ H λq H3=>ti q H3 λB H4=>if B=true then te q H4 λv H5=>∃xs,H5 acc=some (.lst xs)/\xs.length<sizeLine/\N q (upd H5 acc (.lst (xs++[v]))) else N q H4
def znI (M:Model)(A:Around)(e:Expr)(k:Nat)(tg:Expr)(ifs:List Expr)(it acc:Value)(env:Env)(B:(Shared->Prop)->Shared->Prop):Prop:=
 ∀ (R:Result->Shared->Prop) (s:Shared) (I:Nat->Shared->Prop),(∀n s,I n s->wpAny M A (pyNext it) (λr s₁=>match r with
   | none=>R (.ok .next) s₁
   | some v=>wpAny M A (letOwnedTupleGo tg it v) (λ_ s₂=>wpAny M A (assign tg env v) (λ_ s₃=>
     wpAny M A (forIn ifs true λc r=>if r=true then do let ok <- isTrue c env (eval c env);pure (ForInStep.yield ok) else pure (ForInStep.yield r)) (λok s₄=>
      if ok=true then B (λs'=>∃m,m<n/\I m s') s₄ else ∃m,m<n/\I m s₄) (λ_ _=>False) s₃) (λ_ _=>False) s₂) (λ_ _=>False) s₁) (λ_ _=>False) s)->
  ∀n,I n s->codeAny M A (.compLoop e k it acc env) R s
def zfw{X:Cx}{ifs:List Expr}{it acc:Addr}{F:List Addr}{tn:Nat->Heap->Prop}{J:It}{g:TG}{ti:TT}{tb:(St->Hp->Prop)->St->Hp->Prop}{B:(Shared->Prop)->Shared->Prop}{pl:List (Addr×Obj)}{Fin:St->Hp->Prop}{R:Result->Shared->Prop}{W:Nat->Nat->St->Hp->Prop}{σ0:St}{H0:Hp}{s0:Shared}(L:znI (model X.prog X.w) X.A e k tg ifs (.ref it) (.ref acc) X.env B)(hc:X.calm=true)(xX:X.xe=λ_ _=>False)(T:Turn X.prog X.w X.K tg J F it tn)(f4:∀ {H':Hp},(∀b∈F,H' b=none)->∀b∈F,zeP X pl H' b)(hg:PG X tg g)(ht:PTs X ifs ti)(I:∀pl' s σ H (Nx:St->Hp->Prop) (P:Shared->Prop),Inv X (pl++pl') σ H s->tb Nx σ H->(∀ q H' s',Inv X (pl++pl') q H' s'->Nx q H'->P s')->B P s)(Y:∀i n σ H,W i n σ H->(J.stop i H/\Fin σ H)\/(J.go i H/\∃Nx:St->Hp->Prop,(∀ q H',Nx q H'->∃m,m<n/\W (i+1) m q H')/\∀x H',J.yld i H x H'->g x σ H' λO H2=>ti O H2 λb H3=>if b=true then tb Nx O H3 else Nx O H3))(fin:∀ σ H s,Inv X pl σ H s->Fin σ H->R (.ok .next) s)(I0:Inv X pl σ0 H0 s0)(al:tn 0 s0.heap)(an:∀b∈F,H0 b=none)(w0:W 0 m0 σ0 H0) :
  codeAny (model X.prog X.w) X.A (.compLoop e k (.ref it) (.ref acc) X.env) R s0:=by
 refine L R s0 (λn s'=>∃i q H',Inv X pl q H' s'/\tn i s'.heap/\(∀b∈F,H' b=none)/\W i n q H') ?_ m0 ⟨0,σ0,H0,I0,al,an,w0⟩;rintro n s5 ⟨i,D,H5,I5,Z,ac,w5⟩;rcases Y i n D H5 w5 with ⟨stop,qn⟩ | ⟨go,Nx,hN,step⟩
 ·refine thn (T.done X rfl rfl rfl hc i pl s5 D H5 (λ_ _=>False) I5 (f4 ac) Z stop) ?_;rintro r s6 ⟨hr,I6⟩;subst hr;exact fin D H5 s6 I6 qn
 ·refine thn (T.item X rfl rfl rfl hc i pl s5 D H5 (λ_ _=>False) I5 (f4 ac) Z go) ?_;rintro r s6 ⟨u,hr,h6⟩;subst hr;refine thn h6 ?_;rintro _ s7 ⟨x,H7,I7,r7,y7,U,ap⟩;have I7':=I7.pinned (f4 ap) (T.obj _ _ U);have a7:=hg _ s7 D H7 x u _ I7' r7 (step x H7 y7);rw[xX] at a7;refine thn a7 ?_;rintro _ s8 ⟨ad,H8,I8,q8⟩;have t8:=ht _ s8 ad H8 _ I8 q8;rw[xX] at t8;refine thn t8 ?_;rintro ok s9 ⟨H9,I9,q9⟩
  have ag:∀ q H' s',Inv X (pl++zfL F s7.heap) q H' s'->Nx q H'->∃m,m<n/\∃i q H',Inv X pl q H' s'/\tn i s'.heap/\(∀b∈F,H' b=none)/\W i m q H':=λq H' s' J' n'=>by
   obtain⟨m',hm,w'⟩:=hN q H' n'
   have pn:∀b∈F,∀o,s7.heap.get? b=some o->s'.heap.get? b=some o/\H' b=none:=λb I o e=>by
    have:=J'.pin (b,o) (aV _ (aV _ (zbq I e)))
    simp_all
   refine⟨m',hm,i+1,q,H',J'.unpinned,T.keep _ _ _ U λb I o e=>(pn b I o e).1,λb I=>?_,w'⟩;obtain⟨o,e,_⟩:=T.obj _ _ U b I
   simp_all
  cases ok with
  | false=>exact ag _ _ _ I9 q9
  | true=>exact I _ s9 ad H9 _ _ I9 q9 ag
structure Inn (X X':Cx)(pins:List (Addr×Obj))(σ:St)(fp:List Addr)(C:Addr):Prop where
 pX:X'.prog=X.prog
 wX:X'.w=X.w
 KX:X'.K=X.K
 AX:X'.A=X.A
 cX:X'.calm=X.calm
 xX:X'.xe=λ_ _=>False
 lX:X'.env.locals=C
 f4:∀ {H':Hp},(∀b∈fp,H' b=none)->∀b∈fp,zeP X' [] H' b
 back:∀ {σ':St} {H':Hp} {s':Shared} {h'':Heap},Inv X' [] σ' H' s'->Heap.SameBut C s'.heap h''->Inv X pins σ H' { s' with heap:=h'' }
structure Opn (X:Cx)(scope:Scope)(cix:List (Option Nat))(Fam:Cx->Prop):Prop where
 kind:scope.kind = .function
 names:∀x∈scope.names,x.2 = .local->scope.names.lookup x.1=some .local
 cells:X.Ok->∀x∈scope.names,x.2 = .free->∃a,X.env.cells.lookup x.1=some a
 run:∀ (pins:List (Addr×Obj)) (σ:St) (H3:Hp) (s3:Shared) (fp:List Addr) (Q:Env->Shared->Prop),Inv X pins σ H3 s3->(∀b∈fp,zeP X pins H3 b)->(∀b∈fp,b<s3.heap.objs.size)->
  (∀X' cenv s4,Fam X'->Inn X X' pins σ fp s3.heap.objs.size->cenv.locals=s3.heap.objs.size->X'.env={ cenv with scope:=relabel scope X.env }->Inv X' [] (x6 σ cix) H3 s4->(∀b o,s3.heap.get? b=some o->s4.heap.get? b=some o)->Q cenv s4)->
  wpAny (model X.prog X.w) X.A (newFunctionEnv scope X.env.globals (zc3 X.env scope.names []) [] X.env.qual none .none (some X.env)) Q X.xe s3
def zaP{X:Cx}{Fam:Cx->Prop}{scope:Scope}{cix:List (Option Nat)}{use:Option (Value->Sem Unit)}{Qp:Value->Shared->Prop}{ifs:List Expr}{pos:Pos}{F:Sem Value}{o0:Addr->HO}{B:Cx->Addr->(Shared->Prop)->Shared->Prop}{tb:Addr->(St->Hp->Prop)->St->Hp->Prop}{Fin:Addr->Hp->Prop}{wi:TI}{g:TG}{ti:TT}{Kk:It->Hp->Prop}{pins:List (Addr×Obj)}{σ:St}{H:Hp}{s:Shared}(O:Opn X scope cix Fam)(hc:X.calm=true)(a3:clausesOf e=⟨tg,iter,ifs,0⟩::gs)(hs:∀x,foldedSetIterable iter X.env x=pure x)(a4:∀ (R:Result->Shared->Prop) (s:Shared) (Z acc:Value) (env:Env),codeAny (model X.prog X.w) X.A (.compLoop e 0 Z acc env) R s->wpAny (model X.prog X.w) X.A (pyIter Z) (λa5 s'=>codeAny (model X.prog X.w) X.A (.compLoop e 0 a5 acc env) R s') (notedBy (model X.prog X.w) X.A env λx s'=>R (.error x) s') s->codeAny (model X.prog X.w) X.A (.compStart e 0 Z acc env) R s)(hL:∀X',Fam X'->∀Z acc,znI (model X'.prog X'.w) X'.A e 0 tg ifs Z (.ref acc) X'.env (B X' acc))(al:∀ (s:Shared) (Q:Value->Shared->Prop),Q (.ref s.heap.objs.size) { s with heap:=s.heap.push ob }->wpAny (model X.prog X.w) X.A F Q X.xe s)(a7:∀ {pins σ H s},Inv X pins σ H s->∀H',y0 X.prog X.w H' (s.heap.push ob) s.heap.objs.size (o0 s.heap.objs.size))(hi:PI X tg iter wi)(hg:∀X',Fam X'->PG X' tg g)(ht:∀X',Fam X'->PTs X' ifs ti)(L:∀X',Fam X'->X'.prog=X.prog->X'.w=X.w->X'.A=X.A->X'.calm=true->X'.xe=(λ_ _=>False)->∀acc pl s σ H (Nx:St->Hp->Prop) (P:Shared->Prop),Inv X' pl σ H s->tb acc Nx σ H->(∀ U H' s',Inv X' pl U H' s'->Nx U H'->P s')->B X' acc P s)(I:Inv X pins σ H s)(h:wi σ H Kk)(hK:∀J H1 acc,Kk J H1->H1 acc=none->∃W:Nat->Nat->St->Hp->Prop,(∃m,W 0 m (x6 σ cix) (upd H1 acc (o0 acc)))/\∀i n σ H,W i n σ H->(J.stop i H/\Fin acc H)\/(J.go i H/\∃Nx:St->Hp->Prop,(∀ U H',Nx U H'->∃m,m<n/\W (i+1) m U H')/\∀x H',J.yld i H x H'->g x σ H' λac H2=>ti ac H2 λb H3=>if b=true then tb acc Nx ac H3 else Nx ac H3))(an:∀acc C H5 s6,zeP X pins H5 C->(∃m,s6.heap.Ns C m)->(∀ad,Heap.SameBut C s6.heap ad->Inv X pins σ H5 { s6 with heap:=ad })->Fin acc H5->compPost (model X.prog X.w) X.A X.xe use Qp (.ref acc) C (.ok .next) s6) :
  wpAny (model X.prog X.w) X.A (comprehension e scope X.env pos F false (eval iter X.env) use) Qp X.xe s:=by
 refine wpAny_comprehension_free (use:=use) a3 hs (zif (O.cells I.ok)) O.kind O.names (thn (hi pins s σ H _ I h) λxv s1 h1=>thn h1 λbk D h2=>?_);obtain⟨Z,fp,tn,J,H2,e,I2,T,ap,f2,q2⟩:=h2;subst e;refine al D _ ?_;have ag:=I2.hok.fresh (ah D.heap.objs.size);obtain⟨W,⟨m0,w0⟩,as⟩:=hK J H2 D.heap.objs.size q2 ag;have av:∀b o,D.heap.get? b=some o->(D.heap.push ob).get? b=some o:=λb u e=>aq _ e;have I3:Inv X pins σ (upd H2 D.heap.objs.size (o0 D.heap.objs.size)) { D with heap:=D.heap.push ob,toks:=D.toks }:=I2.laid (t':=D.toks) av (ah _) (a7 I2 _)
 have a0:∀b∈fp,b<D.heap.objs.size:=λb L=>by obtain⟨o,ho,_⟩:=T.obj _ _ ap b L;exact aD ho
 have fn:∀b∈fp,upd H2 D.heap.objs.size (o0 D.heap.objs.size) b=none:=λb L=>by rw[zi (aU (a0 b L))];exact (f2 b L).1
 refine O.run pins σ _ _ fp _ I3 (λb L=>⟨fn b L,(f2 b L).2⟩) (λb L=>Nat.lt_trans (a0 b L) (by simp)) λX' bd s4 hF N hl hE I4 kp=>?_;rw[<- hE,hl];have a1:tn 0 s4.heap:=T.keep _ _ _ ap λb L o e=>kp b o (av b o e);have cX:=N.cX.trans hc;have Y:=zfw (X:=X') (R:=compPost (model X.prog X.w) X.A X.xe use Qp (.ref D.heap.objs.size) (D.heap.push ob).objs.size) (Fin:=λ_ H=>Fin D.heap.objs.size H) (pl:=[]) (hL X' hF (.ref Z) D.heap.objs.size) cX N.xX (by rw[N.pX,N.wX,N.KX];exact T) N.f4 (hg X' hF) (ht X' hF) (L X' hF N.pX N.wX N.AX cX N.xX D.heap.objs.size) as (λbl H5 s6 I6 q=>?_) I4 a1 fn w0
 ·rw[N.pX,N.wX,N.AX] at Y;exact a4 _ _ _ _ _ Y (T.self X.A 0 _ _ _ a1 Y)
 ·have bb:H5 (D.heap.push ob).objs.size=none:=by have:=I6.free;rwa[N.lX] at this
  obtain⟨m6,a2,_⟩:=I6.loc;rw[N.lX] at a2;exact an _ _ H5 s6 (I3.fpOk (ah _) bb) ⟨m6,a2⟩ (λad hs=>N.back I6 hs) q
section
variable {X:Cx}{scope:Scope}{N:List Str}{cix:List (Option Nat)}{z:Str}
def zab (c:CompOk X scope N cix):Opn X scope cix (λX'=>∃C s H ex,X'=zu X scope N C s H ex) where
 kind:=c.kind
 names:=c.names
 cells:=c.cells
 run:=λpins σ H3 L U Q I3 B D k=>by
  refine wpAny_newFunctionEnv c.cell (by simp) (λY F J=>?_) c.kind;have O:∀b o,L.heap.get? b=some o->Y.get? b=some o:=λb o e=>J.extBut b o (aU (aD e)) (aq _ e);refine k (zu X scope N L.heap.objs.size L H3 U) _ _ ⟨_,_,_,_,rfl⟩ ⟨rfl,rfl,rfl,rfl,rfl,rfl,rfl,λ{H'} Z b q=>⟨Z b q,aU (D b q),λy=>?_,.inl q,λx a e=>?_,λp hp=>?_⟩,λI' hs=>ziq I3 B I' hs⟩ rfl rfl (zmy I3 c B D F O) O
  ·rcases aK.mp (I3.stkSub b y) with e | e
   ·exact (B b q).2.1 e
   ·exact (B b q).2.2.1 e
  ·rcases uY (c.cells I3.ok) e with y | y
   ·exact (B b q).2.2.2.2.1 x a y
   ·simp at y
  ·exact absurd (show p∈([]:List (Addr×Obj))++[] from hp) (by simp)
def zaR {pins:List (Addr×Obj)}{σ:St}{Q:VK}{acc C:Addr}{H5:Hp}{D:Shared}(I:∃m,D.heap.Ns C m)(J:∀B,Heap.SameBut C D.heap B->Inv X pins σ H5 { D with heap:=B })(q:Q (.ref acc) H5):compPost (model X.prog X.w) X.A X.xe none (EP X pins σ Q) (.ref acc) C (.ok .next) D:=
 let ⟨m,hn⟩:=I;⟨m,hn,λL F=>⟨.ref acc,H5,J L F,rfl,q⟩⟩
def zhe{pos spos px:Pos}{nx:Str}{B first:Sem Value}{D:Ends}{pins:List (Addr×Obj)}{σ:St}{s:Shared}(O:X.N.Nodup)(Y:X.N[ix]?=some nx)(J:X.env.scope.names.lookup nx=some .local)(Z:swapsWithSole [.Name nx px] e spos.line X.env=pure true)(ac:(assignEach [.Name nx px] X.env).map (·.2)=[assign (.Name nx px) X.env])(ad:∀U,evalThenUse e X.env U=comprehension e scope X.env pos B false first (some U) >>= λ_=>pure ())(h:∀ (U:Value->Sem Unit) (Qp:Value->Shared->Prop),(∀acc C H5 I,zeP X pins H5 C->(∃m,I.heap.Ns C m)->(∀L,Heap.SameBut C I.heap L->Inv X pins σ H5 { I with heap:=L })->D.nx (σ.set ix (some (.ref acc))) H5->compPost (model X.prog X.w) X.A X.xe (some U) Qp (.ref acc) C (.ok .next) I)->wpAny (model X.prog X.w) X.A (comprehension e scope X.env pos B false first (some U)) Qp X.xe s) :
  wpAny (model X.prog X.w) X.A (exec (.Assign [.Name nx px] e spos) X.env) (SP X pins D) X.xe s:=by
 rw[exec_Assign_arm];refine aa (bA ?_);rw[Z];refine aa (af ?_);rw[if_pos rfl];refine aa ?_;rw[ad];refine aa ?_;refine h _ _ λacc C H5 I F hm ag q=>?_;have IX:=ag _ ⟨rfl,λ_ _=>rfl⟩;show wpAny _ _ (assignAll _ ((assignEach [.Name nx px] X.env).map (·.2))) _ _ I;rw[ac];refine wpAny_assign_Name (x:=nx) (pos:=px) ?_;refine zfX IX O Y (Or.inl J) (v:=.ref acc) rfl (λs7 I7 ⟨a7,al,an⟩=>?_) (.inr J)
 have ap:C≠a7:=by
  intro z;rcases an with e | e
  ·exact F.2.1 (z.trans e)
  ·exact F.2.2.2.2.1 nx a7 e z.symm
 obtain⟨m6,oC,as,av,a0,rC⟩:=hm;refine⟨m6,⟨oC,as,av,(al.2 _ ap).trans a0,rC⟩,λh8 a1=>af (af ?_)⟩;exact⟨_,H5,I7.turned (t':=s7.toks) (λb o hb e=>(a1.2 b hb).trans e) F.1 F.2.1 F.2.2.2.1 F.2.2.2.2.1 F.2.2.2.2.2,q⟩
end
section
variable {X:Cx}{Fam:Cx->Prop}{scope:Scope}{N:List Str}{cix:List (Option Nat)}{z:Str}{use:Option (Value->Sem Unit)}{Qp:Value->Shared->Prop}{elt tg iter:Expr}{ifs:List Expr}{pos ipos spos px:Pos}{wi:TI}{g:TG}{ti:TT}{te:TE}{pins:List (Addr×Obj)}{σ:St}{H:Hp}{s:Shared}{Fin:Addr->Hp->Prop}
def zhd {P:Shared->Prop}{acc:Addr}{Nx:St->Hp->Prop}(he:PE X elt te)(Y:X.xe=λ_ _=>False)(I:Inv X pins σ H s)(q:te σ H λv H'=>∃xs,H' acc=some (.lst xs)/\xs.length<sizeLine/\Nx σ (upd H' acc (.lst (xs++[v]))))(k:∀ B H' s',Inv X pins B H' s'->Nx B H'->P s') :
  wpAny (model X.prog X.w) X.A (eval elt X.env) (λx s5=>wpAny (model X.prog X.w) X.A (call (.builtin "list.append") [.ref acc,x]) (λ_ s6=>P s6) (λ_ _=>False) s5) (λ_ _=>False) s:=by
 have Z:=he pins s σ H _ I q;rw[Y] at Z;refine thn Z ?_;rintro u2 F ⟨v,H10,I10,J,xs,L,O,nx⟩;have D:=zfy (X:=X) _ F σ H10 (.ref acc) [v] (.ref acc) [u2] (λ_ H'=>Nx σ H') I10 rfl (.cons J .nil) ⟨_,xs,v,rfl,rfl,L,O,nx⟩;rw[Y] at D;refine thn D (by rintro _ ac ⟨_,H11,I11,_,U⟩;exact k _ _ _ I11 U)
def zcw (O:Opn X scope cix Fam)(Z:X.calm=true)(hi:PI X tg iter wi)(hg:∀X',Fam X'->PG X' tg g)(ht:∀X',Fam X'->PTs X' ifs ti)(he:∀X',Fam X'->PE X' elt te)(hs:∀x,foldedSetIterable iter X.env x=pure x)(I:Inv X pins σ H s)
  (h:wi σ H λJ H1=>∀acc,H1 acc=none->∃W:Nat->Nat->St->Hp->Prop,(∃m,W 0 m (x6 σ cix) (upd H1 acc (.lst [])))/\∀i n σ H,W i n σ H->(J.stop i H/\Fin acc H)\/(J.go i H/\∃Nx:St->Hp->Prop,(∀ F H',Nx F H'->∃m,m<n/\W (i+1) m F H')/\∀x H',J.yld i H x H'->zgf g ti te acc Nx x σ H'))
  (L:∀acc C H5 D,zeP X pins H5 C->(∃m,D.heap.Ns C m)->(∀U,Heap.SameBut C D.heap U->Inv X pins σ H5 { D with heap:=U })->Fin acc H5->compPost (model X.prog X.w) X.A X.xe use Qp (.ref acc) C (.ok .next) D) :
  wpAny (model X.prog X.w) X.A (comprehension (.ListComp elt [⟨tg,iter,ifs,0⟩] scope pos) scope X.env ipos (newList []) false (eval iter X.env) use) Qp X.xe s:=
 zaP (ob:={ cls:=.type "list",dict:=none,data:=.seq ([]:List Value).toArray }) (o0:=λ_=>.lst []) (B:=λX' acc P s=>wpAny (model X'.prog X'.w) X'.A (eval elt X'.env) (λx s5=>wpAny (model X'.prog X'.w) X'.A (call (.builtin "list.append") [.ref acc,x]) (λ_ D=>P D) (λ_ _=>False) s5) (λ_ _=>False) s) (tb:=λacc Nx σ H=>te σ H λv H'=>∃xs,H' acc=some (.lst xs)/\xs.length<sizeLine/\Nx σ (upd H' acc (.lst (xs++[v])))) O Z rfl hs (λ_ _ _ _ _ h0 h1=>codeAny_compStart_list h0 h1) (λ_ _ _ _ _ _ I Y n h=>zdV I Y n h) (λs Q h=>bu h) (λ_ _=>⟨aJ _,[],0,.nil,aF _ rfl⟩) hi hg ht (λX' hF _ _ _ _ xX _ _ _ _ _ _ _ I q k=>zhd (he X' hF) xX I q k) I h (λJ H1 acc q hn=>q acc hn) L
end
section
variable {X:Cx}{scope:Scope}{N:List Str}{z:Str}
def zdo {P:Cx->Prop}(h:∀C s H ex,P (zu X scope N C s H ex)):∀X',(∃C s H ex,X'=zu X scope N C s H ex)->P X':=by simp_all
abbrev zuw (X:Cx)(pins:List (Addr×Obj))(σ:St)(use:Option (Value->Sem Unit))(Qp:Value->Shared->Prop)(Q:VK):Prop:=∀acc C H5 B,zeP X pins H5 C->(∃m,B.heap.Ns C m)->(∀q,Heap.SameBut C B.heap q->Inv X pins σ H5 { B with heap:=q })->Q (.ref acc) H5->compPost (model X.prog X.w) X.A X.xe use Qp (.ref acc) C (.ok .next) B
end
structure Dfn (K:PySem.W.Frag)(mg:Str->Option Value)(x:Str)(st:Stmt)(ps:List Str)(f:Addr)(fd:FuncData):Prop where
 F:Fun K x x st f fd
 b:zia K fd ps []
 m:mg x=some (.ref f)
section
variable {X:Cx}
def zvP{x:Str}{st:Stmt}{ps:List Str}{f:Addr}{fd:FuncData}{sp:Sp}{es:List Expr}{p pos:Pos}(D:Dfn X.K X.mg x st ps f fd)(G:FnOk X.prog X.w X.K X.mg X.base CX0 j f fd ps sp)(J:Room k X.A)(L:PA X (e::es) t)(q:j<=k:=by decide)(O:Gl X x:=by rfl)(B:(x==("__debug__" : Str))=false:=by decide)(U:starEach (e::es) X.env=(false,eval e X.env)::starEach es X.env:=by rfl)(I:(backTo pos (starEach es X.env)).any (·.1)=false:=by rfl) :
  PE X (.Call (.Name x p) (e::es) [] pos) (zg3 sp [] E0 t):=
 zpQ G (J.mono q) O D.m D.F.kp D.b .nil zvN L B U I
def zlh {q:List Bool}:((List.range q.length).all λi=>q.getD i true)=q.all id:=by
 rw[bV,bc,bc];constructor
 ·intro h b D;obtain⟨i,hi,e⟩:=bw.mp D
  simp_all
 ·intro h i hi;have B:=aM.mp hi;have:=h q[i] (cg B)
  simp_all
def zma (Y:X.calm=true):zc1 X (.builtin "all") (λxs H Q=>∃ (p:Addr) (B:List Bool),xs=[.ref p]/\H p=some (.lst (B.map V.bl))/\Q (.bl (B.all id)) H):=by
 intro pins s σ H xs us Q I r h;obtain⟨p,B,rfl,Z,q⟩:=h;obtain⟨u,rfl,ru⟩:=zaM r;cases ru;obtain⟨its,O,pl,hz⟩:=I.list (.of Z);have D:=O.length;rw[ab] at D
 have W:Walks X.prog X.w X.A.in1 s.heap.objs.size [s.heap.objs.size,p] [s.heap.objs.size] its.toArray.size (λi v=>its.toArray[i]?=some v) (λi h=>h.IsListIter s.heap.objs.size p i/\h.IsList p its.toArray):=by refine Walks.list (A:=X.A.in1) (I.ok.hd Y) s.heap.objs.size p ?_ its.toArray;obtain⟨o,_,ho,_⟩:=pl;exact aU (aD ho)
 refine call_all_walk (wpAny_pyIter_list pl.isList ⟨s.heap.objs.size,_,_,_,_,_,λi=>B.getD i true,rfl,W,⟨?_,?_⟩,?_,?_⟩)
 ·exact⟨_,aF _ rfl,rfl,rfl⟩
 ·exact pl.isList.at λo e=>aq _ e
 ·intro i v s' Q' E' hP J;have L:its[i]?=some v:=by simpa using hP
  have hi:i<B.length:=by grind
  have hb:(B.map V.bl)[i]?=some (V.bl B[i]):=by simp[hi]
  obtain⟨u',F,rb⟩:=O.get hb;rw[L] at F;cases F;cases rb;have:B.getD i true=B[i]:=by simp[hi]
  dsimp only at J;rw[this] at J;exact cN J
 ·intro h' tk hk
  have e:(List.range its.toArray.size).all (λi=>B.getD i true)=B.all id:=by rw[aZ,<- D];exact zlh
  rw[e];exact⟨.bl _,H,I.kept (t':=tk) λb o U=>hk b o (by simp;exact aU (aD U)) (aq _ U),rfl,q⟩
end
structure QE (X:Cx)(e:Expr)(t:TE):Prop where
 run:PE X e t
structure QT (X:Cx)(e:Expr)(t:TT):Prop where
 run:PT X e t
structure QW (X:Cx)(e:Expr)(t:TT):Prop where
 run:PW X e t
structure QC (X:Cx)(op:CmpOp)(a b:Expr)(t:TE):Prop where
 run:PC X op a b t
structure QA (X:Cx)(es:List Expr)(t:TA):Prop where
 run:PA X es t
structure QS (X:Cx)(s:Stmt)(t:TS):Prop where
 run:PS X s t
structure QSs (X:Cx)(s:List Stmt)(t:TS):Prop where
 run:PSs X s t
structure QG (X:Cx)(e:Expr)(t:TG):Prop where
 run:PG X e t
structure QGs (X:Cx)(es:List Expr)(t:TGs):Prop where
 run:PGs X es t
structure QI (X:Cx)(tg e:Expr)(t:TI):Prop where
 run:PI X tg e t
structure QO (X:Cx)(e:Option Expr)(t:TO):Prop where
 run:PO X e t
structure QP (X:Cx)(pos:Pos)(ks:List (Option Expr))(vs:List Expr)(t:List (TE×TE)):Prop where
 run:PPs X pos ks vs t
structure QTs (X:Cx)(es:List Expr)(t:TT):Prop where
 run:PTs X es t
structure OpQ (X:Cx)(f:Value->Value->Sem Value)(r:R2):Prop where
 run:OpR X f r
structure UnQ (X:Cx)(f:Value->Sem Value)(r:V->Hp->VK->Prop):Prop where
 run:UnR X f r
structure CallQ (X:Cx)(f:Value)(r:List V->Hp->VK->Prop):Prop where
 run:zc1 X f r
structure IxQ (X:Cx)(r:R2):Prop where
 run:IxR X r
structure SlQ (X:Cx)(r:V->Option Int->Option Int->Hp->VK->Prop):Prop where
 run:SlR X r
section
variable {X:Cx}{e a b c:Expr}{es:List Expr}{te ta tb tc:TE}{t u:TT}{pos p:Pos}
def qv(i:Nat)(B:X.N[i]?=some x:=by rfl)(D:Vis X.env.scope x:=by walk_at "v")(F:(x==("__debug__" : Str))=false:=by decide)(q:(x==("__classdict__" : Str))=false:=by decide):QE X (.Name x pos) (zlW i):=⟨zsO B D F q⟩
def yG{i:Int}:QE X (.Constant (.int i) j pos) (tC (.int i)):=⟨zoj⟩
def zvW:QE X (.Constant (.bool k) j pos) (tC (.bl k)):=⟨zvO⟩
def zs9:QE X (.Constant .none j pos) (tC .non):=⟨zsL⟩
def x3:QE X (.Constant (.str x) j pos) (tC (.str x)):=⟨zsM⟩
def xi:OpQ X (binaryOp .Add) (rI0 λi j=>.int (i+j)):=⟨zsy⟩
def zoi:OpQ X (binaryOp .Sub) (rI0 λi j=>.int (i - j)):=⟨zsG⟩
def zcE:OpQ X (binaryOp .Mult) (rI zt5 λi j=>.int (i * j)):=⟨zsC⟩
def zeq:OpQ X (binaryOp .FloorDiv) (rI zq5 λi j=>.int (i / j)):=⟨zpM⟩
def za6:OpQ X (binaryOp .Mod) (rI (λ_ j=>0<j) λi j=>.int (i % j)):=⟨zsB⟩
def zkX:OpQ X (binaryOp .Pow) (rI CPow λi j=>.int (i ^ j.toNat)):=⟨zsE⟩
def yE:OpQ X (binaryOp .Add) (zlc X.K):=⟨zpK⟩
def zsH:OpQ X (binaryOp .Add) rCat:=⟨zsz⟩
def zoh:OpQ X (binaryOp .Mult) zur:=⟨zsF⟩
def zkV:OpQ X (compareOp .Lt) (rI0 λi j=>.bl (decide (i<j))):=⟨zvJ⟩
def zsI:OpQ X (compareOp .LtE) (rI0 λi j=>.bl (decide (i<=j))):=⟨zvI⟩
def zpN:OpQ X (compareOp .Gt) (rI0 λi j=>.bl (decide (j<i))):=⟨zvH⟩
def zvL:OpQ X (compareOp .GtE) (rI0 λi j=>.bl (decide (j<=i))):=⟨zvG⟩
def x8:OpQ X (compareOp .Eq) rEq:=⟨zvF⟩
def zix:OpQ X (compareOp .NotEq) rNe:=⟨zvK⟩
def zfH:OpQ X (compareOp .In) (rIn X.K false):=⟨zkU⟩
def uf:OpQ X (compareOp .NotIn) (rIn X.K true):=⟨zfG⟩
def ztW:UnQ X (unaryOp .USub) (rU λi=>.int (-i)):=⟨zow⟩
def xc(B:OpQ X (binaryOp q) r)(D:QE X a ta)(F:QE X b tb):QE X (.BinOp a q b pos) (tOp r ta tb):=⟨zvR B.run D.run F.run⟩
def zvX(B:UnQ X (unaryOp q) r)(D:QE X a ta):QE X (.UnaryOp q a pos) (tUn r ta):=⟨zsN B.run D.run⟩
def zqd(B:OpQ X (compareOp q) r)(D:QE X a ta)(F:QE X b tb)(I:behindInMarks q b=false):QE X (.Compare a [q] [b] pos) (tOp r ta tb):=⟨zpR B.run D.run F.run I⟩
def zcJ(B:OpQ X (compareOp q) r)(D:QE X a ta)(F:QE X b tb)(I:behindInMarks q b=false):QT X (.Compare a [q] [b] pos) (zqS (tOp r ta tb)):=⟨zp8 B.run D.run F.run I⟩
def zqc(q:QE X a ta):QC X .IsNot a (.Constant .none j pos') (zqQ ta):=⟨zpP q.run⟩
def ztc(h:QC X q a b te)(h1:behindInMarks q b=false:=by first | exact zhI _ (by decide) (by decide) | rfl):QT X (.Compare a [q] [b] pos) (tB te):=⟨zs1 h.run h1⟩
def zte (h:QE X e te)(he:∀whole,isTrue e X.env whole=(do let v <- whole;standAt e.pos;holding [v] (truthy v)):=by intro _;rfl):QT X e (tB te):=⟨zs3 h.run he⟩
def znh (h:QE X e te)(he:∀whole,isTrue e X.env whole=(do let v <- whole;standAt e.pos;holding [v] (truthy v)):=by intro _;rfl):QT X e (λσ H Q=>te σ H λx H'=>∃k,zuE X.K x H' k/\Q k H'):=⟨zna h.run he⟩
def ztd (h:QT X a t):QT X (.UnaryOp .Not a pos) (tNot t):=⟨zs2 h.run⟩
def zlb (h:QT X a t):QW X (.BoolOp .And [a] pos) t:=⟨zqb h.run⟩
def ztf (h:QT X a t):QW X (.BoolOp .Or [a] pos) t:=⟨zs5 h.run⟩
def zon {yf:List Expr}(h:QT X a t)(h':QW X (.BoolOp .And (b::yf) pos) u):QW X (.BoolOp .And (a::b::yf) pos) (zwc t u):=⟨zs4 h.run h'.run⟩
def zvZ {yf:List Expr}(h:QT X a t)(h':QW X (.BoolOp .Or (b::yf) pos) u):QW X (.BoolOp .Or (a::b::yf) pos) (tOr t u):=⟨zvV h.run h'.run⟩
def QW.pt (h:QW X e t):QT X e t:=⟨h.run.pt⟩
def yB:QA X [] zlV:=⟨zsJ⟩
def zK(B:QE X e te)(D:QA X es q)(F:starEach (e::es) X.env=(false,eval e X.env)::starEach es X.env:=by rfl):QA X (e::es) (zdg te q):=⟨zpO B.run D.run F⟩
def zqq:QP X pos [] [] []:=⟨zp3⟩
def zex(B:QE X k tk)(D:QE X v tv)(F:QP X pos ks vs q):QP X pos (some k::ks) (v::vs) ((tk,tv)::q):=⟨zm7 B.run D.run F.run⟩
def zqf(h:QP X pos q B D)(F:q.all (·.isSome)=true)(J:q.length=B.length)(L:q≠[])(I:q.length<=15):QE X (.Dict q B pos) (ztE D):=⟨zpT h.run F J L I⟩
def zk9:QO X none zlA:=⟨zp1⟩
def zla (h:QE X e te):QO X (some e) (ztH te):=⟨zp2 h.run⟩
def zqM:SlQ X rSlA:=⟨zqJ⟩
def zly:SlQ X (rSlL X.K):=⟨zqI⟩
def zeu{r:V->Option Int->Option Int->Hp->VK->Prop}{lo hi:Option Expr}{tl th:TO}(q:SlQ X r)(B:QE X e te)(D:QO X lo tl)(F:QO X hi th):QE X (.Subscript e (.Slice lo hi none p2) pos) (tSl r te tl th):=⟨zm2 q.run B.run D.run F.run⟩
def xk:IxQ X (zuo X.K):=⟨zpc⟩
def xl:IxQ X (zup X.K):=⟨zrX⟩
def zs8(q:IxQ X r)(B:QE X a ta)(D:QE X b tb)(F:zf9 b):QE X (.Subscript a b pos) (tOp r ta tb):=⟨zvQ q.run B.run D.run F⟩
def xH (q:X.A.units+1<cLine)(B:QE X a ta)(D:QE X b tb)(F:zoy b):QE X (.Subscript a b pos) (ztC ta tb):=⟨zpS q B.run D.run F⟩
def yo:CallQ X (.builtin "len") (λxs H Q=>∃x n,xs=[x]/\zrh X.K x H n/\Q (.int n) H):=⟨zmb⟩
def zjc:CallQ X (.builtin "abs") (λxs H Q=>∃i,xs=[.int i]/\Q (.int (if i<0 then -i else i)) H):=⟨zl9⟩
def znO (B:X.calm=true):CallQ X (.builtin "all") (λxs H Q=>∃ (p:Addr) (q:List Bool),xs=[.ref p]/\H p=some (.lst (q.map V.bl))/\Q (.bl (q.all id)) H):=⟨zma B⟩
def zii:CallQ X (.type "list") (λxs H Q=>∃p ys,xs=[.ref p]/\(SqL X.K H p ys\/SqT X.K H p ys)/\∀l,H l=none->Q (.ref l) (upd H l (.lst ys))):=⟨zeZ⟩
def zgh:CallQ X (.type "tuple") (λxs H Q=>∃p ys,xs=[.ref p]/\((SqL X.K H p ys/\∀l,H l=none->Q (.ref l) (upd H l (.tup ys)))\/(SqT X.K H p ys/\Q (.ref p) H))):=⟨zdR⟩
def xN {id:String}{r:List V->Hp->VK->Prop}{x:Str}{D:TA}(F:CallQ X (.builtin id) r)(I:Gl X x)(J:X.mg x=none)(L:bootBuiltins x=some (.builtin id))(O:QA X (e::es) D)(U:x ≠ "__name__" := by decide)(q:(x==("__debug__" : Str))=false:=by decide)
  (Y:starEach (e::es) X.env=(false,eval e X.env)::starEach es X.env:=by rfl) (B:(backTo pos (starEach es X.env)).any (·.1)=false:=by rfl):QE X (.Call (.Name x p) (e::es) [] pos) (tCB r D):=⟨zm0 F.run I J L O.run U q Y B⟩
def zba(F:CallQ X (.type T) r)(I:Gl X x)(J:X.mg x=none)(L:bootBuiltins x=some (.type T))(O:QA X (e::es) D)(U:x ≠ "__name__" := by decide)(q:(x==("__debug__" : Str))=false:=by decide)(Y:starEach (e::es) X.env=(false,eval e X.env)::starEach es X.env:=by rfl)(B:(backTo pos (starEach es X.env)).any (·.1)=false:=by rfl):QE X (.Call (.Name x p) (e::es) [] pos) (tCB r D):=⟨zkY F.run I J L O.run U q Y B⟩
def znc{x:Str}{st:Stmt}{ps:List Str}{f:Addr}{fd:FuncData}{sp:Sp}(D:Dfn X.K X.mg x st ps f fd)(G:FnOk X.prog X.w X.K X.mg X.base CX0 j f fd ps sp)(J:Room k X.A)(L:QA X (e::es) I)(q:j<=k:=by decide)(O:Gl X x:=by rfl)(B:(x==("__debug__" : Str))=false:=by decide)(U:starEach (e::es) X.env=(false,eval e X.env)::starEach es X.env:=by rfl)(F:(backTo pos (starEach es X.env)).any (·.1)=false:=by rfl) :
  QE X (.Call (.Name x p) (e::es) [] pos) (zg3 sp [] E0 I):=⟨zvP D G J L.run q O B U F⟩
def zcH(q:X.N.Nodup)(hi:X.N[i]?=some x)(B:Loc X.env.scope x)(D:X.fn x=true\/X.env.scope.names.lookup x=some .local:=by walk_at "l"):QG X (.Name x pos) (zap i):=⟨zpX q hi B D⟩
def zqm:QGs X [] gNil:=⟨zpY⟩
def znd(h1:QG X e g)(h2:QGs X es gs)(q:(assignEach (e::es) X.env).map (·.2)=assign e X.env::(assignEach es X.env).map (·.2):=by rfl):QGs X (e::es) (zrP g gs):=⟨zm4 h1.run h2.run q⟩
def zta {k:Nat}{gs:TGs}{n:Nat}(B:X.calm=true)(h:QGs X es gs)(D:(assignEach es X.env).length=n:=by rfl)(q:(assignEach es X.env).findIdx? (·.1)=none:=by rfl):QG X (.Tuple es k pos) (zve X.K n gs):=⟨zsV B h.run D q⟩
def zew(q:QE X e te):QI X tg e (zo6 X.K te):=⟨zpZ q.run⟩
def ztb(q:QE X e te):QI X tg e (zvg X.K te):=⟨zsW q.run⟩
def zk8(B:Gl X "range")(D:X.mg "range" = none)(F:QA X [a] q)(I:starEach [a] X.env=[(false,eval a X.env)]:=by rfl):QI X tg (.Call (.Name "range" p) [a] [] pos) (zrS q):=⟨zk2 B D F.run I⟩
def zeA:QTs X [] zby:=⟨zp9⟩
def zqs (h:QT X c t):QTs X [c] t:=⟨zqa h.run⟩
def zqe(B:X.calm=true)(c:CompOk X scope N cix)(hi:QI X tg iter wi)(D:∀C s H ex,QG (zu X scope N C s H ex) tg g)(F:∀C s H ex,QTs (zu X scope N C s H ex) ifs ti)(J:∀C s H ex,QE (zu X scope N C s H ex) elt te)(L:∀x,foldedSetIterable iter X.env x=pure x:=by intro _;rfl):QE X (.ListComp elt [⟨tg,iter,ifs,0⟩] scope pos) (zwd wi g ti te cix):=⟨λpins s σ H Q I h=>by
 rw[eval_ListComp];exact zcw (Fin:=λacc H=>Q (.ref acc) H) (zab c) B hi.run (zdo λC s H ex=>(D C s H ex).run) (zdo λC s H ex=>(F C s H ex).run) (zdo λC s H ex=>(J C s H ex).run) L I h λ_ _ _ _ _ O U q=>zaR O U q⟩
end
section
variable {X:Cx}{st:Stmt}{sts body a b:List Stmt}{t u:TS}{e o i:Expr}{te td ty tv:TE}{pos:Pos}
def zez:QSs X [] ztG:=⟨zp6⟩
def yd (h1:QS X st t)(h2:QSs X sts u):QSs X (st::sts) (zwg t u):=⟨zm9 h1.run h2.run⟩
def uL (h1:QS X st t):QSs X [st] t:=⟨zp7 h1.run⟩
def zcI (q:QE X e te)(B:swapsWith e none pos.line X.env=pure false:=by rfl):QS X (.Expr e pos) (znx te):=⟨zp5 q.run B⟩
def zbb (q:QE X e te):QS X (.Return (some e) pos) (zuu te):=⟨zsZ q.run⟩
def zng(q:QT X c tc)(B:QSs X a t)(D:QSs X b u):QS X (.If c a b pos) (tIfS tc t u):=⟨zvU q.run B.run D.run⟩
def ug {i:Nat}{x:Str}{pos':Pos}(q:X.N.Nodup)(hi:X.N[i]?=some x)(B:Loc X.env.scope x)(D:QE X e te)(F:swapsWith e (some (.Name x pos')) pos.line X.env=pure false:=by rfl)(I:X.fn x=true\/X.env.scope.names.lookup x=some .local:=by walk_at "l") :
  QS X (.Assign [.Name x pos'] e pos) (zg2 te (zap i)):=⟨zs0 q hi B D.run F I⟩
def zol(q:QE X e te)(B:QG X tg g)(D:swapsWithSole [tg] e pos.line X.env=pure false:=by rfl)(F:swappedStores [tg] e X.env=pure none:=by rfl)(h1:(assignEach [tg] X.env).map (·.2)=[assign tg X.env]:=by rfl):QS X (.Assign [tg] e pos) (zg2 te g):=⟨zsX q.run B.run D F h1⟩
def zey(q:X.A.units+1<cLine)(B:QE X o td)(hi:QE X i ty)(D:QE X e tv)(F:swapsWith e (some (.Subscript o i pos')) pos.line X.env=pure false):QS X (.Assign [.Subscript o i pos'] e pos) (ztx td ty tv):=⟨zp4 q B.run hi.run D.run F⟩
def zom(q:PassesOwn (model X.prog X.w) X.A X.env X.xe)(B:X.calm=true)(hi:QI X tg iter wi)(D:QG X tg g)(F:QSs X body t)(I:∀x,foldedSetIterable iter X.env x=pure x:=by intro _;rfl):QS X (.For tg iter body [] pos) (zwe wi g t):=⟨zsY q B hi.run D.run F.run I⟩
end
def Fun.okQ{P:Program}{w:World}{K:PySem.W.Frag}{mg:Str->Option Value}{base:Heap}{x B:Str}{st:Stmt}{f:Addr}{fd:FuncData}{N ps:List Str}{sp:Sp}(F:Fun K x B st f fd)(S:FnScope N ps (zg st))(J:∀vs H Q E,sp vs H Q E->vs.length=ps.length)(I:∀ (D:Value) (A:Around) (q:List Env) (s:Shared) (H:Hp) (vs:List V) (Q:VK) (E:XK),Room k (A.deeper (envOfC B (zg st) s.heap.objs.size f D))->sp vs H Q E->
   ∃t,QSs (zdX CX0 P w K mg base N B (zg st) f D A q s H E).nox (yt st) t/\t { nx:=λ_ H'=>Q .non H',rt:=Q } (xt N vs) H):FnOk P w K mg base CX0 (k+1) f fd ps sp:=
 F.ok S J λD A q s H vs Q E L h=>by obtain⟨t,h1,h2⟩:=I D A q s H vs Q E L h;exact⟨t,h1.run,h2⟩
def s_ca:¬ (("cells" : Str) = "at"):=by decide +kernel
def s_cl:¬ (("cells" : Str) = "left"):=by decide +kernel
def s_al:¬ (("at" : Str) = "left"):=by decide +kernel
def zvl:¬ (Sum.inr "cells" : Key)=(Sum.inr "at" : Key):=λz=>s_ca (Sum.inr.inj z)
def zvm:¬ (Sum.inr "cells" : Key)=(Sum.inr "left" : Key):=λz=>s_cl (Sum.inr.inj z)
def zug:¬ (Sum.inr "at" : Key)=(Sum.inr "left" : Key):=λz=>s_al (Sum.inr.inj z)
def za7 (c:Addr)(a l:Int):List (Key×V):=[(Sum.inr "cells",.ref c),(Sum.inr "at",.int a),(Sum.inr "left",.int l)]
def zvS (c:Addr)(a l:Int):zbh (za7 c a l) (Sum.inr "cells" : Key)=some (.ref c):=xw rfl
def zkZ (c:Addr)(a l:Int):zbh (za7 c a l) (Sum.inr "at" : Key)=some (.int a):=by unfold za7;rw[xO zvl,xw rfl]
def zvT (c:Addr)(a l:Int):zbh (za7 c a l) (Sum.inr "left" : Key)=some (.int l):=by unfold za7;rw[xO zvm,xO zug,xw rfl]
def zsR (c:Addr)(a l b:Int):zal (za7 c a l) (Sum.inr "at" : Key) (.int b)=za7 c b l:=by unfold zal za7;have q:=zvl;have B:¬ (Sum.inr "left" : Key)=(Sum.inr "at" : Key):=λz=>zug z.symm;simp[q,B]
def zsS (c:Addr)(a l b:Int):zal (za7 c a l) (Sum.inr "left" : Key) (.int b)=za7 c a b:=by unfold zal za7;have q:=zvm;have B:=zug;simp[q,B]
def zsQ (c:Addr)(a l:Int):zcy [] (za7 c a l)=za7 c a l:=by unfold zcy za7;have q:=zvl;have B:=zvm;have D:=zug;simp[zal,q,B,D]
structure Pen (H:Hp)(p c:Addr)(ns:List Int)(n:Nat):Prop where
 ob:∃a l:Int,H p=some (.dK (za7 c a l))/\0<=a/\a<=n/\0<=l
 ls:H c=some (.lst (ns.map V.int))
 len:ns.length<=63
def Pen.same{ns:List Int}(P:Pen H p c ns n)(h:xm H H'):Pen H' p c ns n:=by obtain⟨⟨a,l,h1,h2,q,B⟩,D,F⟩:=P;exact⟨⟨a,l,h _ _ h1,h2,q,B⟩,h _ _ D,F⟩
def zeI{a l:Int}(h:H p=some (.dK (za7 c a l))):zv H (upd H p o):=λb u e n=>by
 by_cases q:b=p
 ·subst q;rw[h] at e;cases e;have:=n _ rfl;rw[zkZ] at this;cases this
 ·rw[zi q];exact e
section
variable {H:Hp}{p c:Addr}{a l:Int}
def zhR (h:H p=some (.dK (za7 c a l))):zc2 H p (.str "cells") (some (.ref c)):=by have:=zc2.k (k:=(Sum.inr "cells" : Key)) h;rw[zvS] at this;exact this
def zsP (h:H p=some (.dK (za7 c a l))):zc2 H p (.str "at") (some (.int a)):=by have:=zc2.k (k:=(Sum.inr "at" : Key)) h;rw[zkZ] at this;exact this
def zk0 (h:H p=some (.dK (za7 c a l))):zc2 H p (.str "left") (some (.int l)):=by have:=zc2.k (k:=(Sum.inr "left" : Key)) h;rw[zvT] at this;exact this
def zsT (h:H p=some (.dK (za7 c a l)))(b:Int):zdK H p (.str "at") (.int b) (upd H p (.dK (za7 c b l))):=by have:=zdK.k (k:=(Sum.inr "at" : Key)) (v:=.int b) h (by show 3<sizeLine;decide);rw[zsR] at this;exact this
def zok (h:H p=some (.dK (za7 c a l)))(b:Int):zdK H p (.str "left") (.int b) (upd H p (.dK (za7 c a b))):=by have:=zdK.k (k:=(Sum.inr "left" : Key)) (v:=.int b) h (by show 3<sizeLine;decide);rw[zsS] at this;exact this
end
def zrn (ns:List Int)(a:Int)(h:0<((ns.map V.int).length:Int)):∃z,atI (ns.map V.int) (a % ((ns.map V.int).length:Int))=some (.int z):=by
 have q:=cv a (show ((ns.map V.int).length:Int)≠0 by lia);have h1:=bX a h;generalize D:a % ((ns.map V.int).length:Int)=m at q h1;obtain⟨j,rfl⟩:∃j:Nat,m=j:=⟨m.toNat,by lia⟩;have B:j<ns.length:=by rw[ab] at h1;lia
 exact⟨ns[j],zi0 (by simp[B])⟩
def znw {a:Int}{n:Nat}(q:0<=a)(h1:a<=n)(h2:n<=1000000):0<=60013 * a * a/\60013 * a * a<=60013000000000000:=by have e:60013 * a * a=60013 * (a * a):=Int.mul_assoc _ _ _;have B:0<=a * a:=Int.mul_nonneg q q;have D:a * a<=1000000 * 1000000:=cS (by lia) (by lia) q (by lia);rw[e];lia
def meet {α:Type}{G:Prop}(P:α->Prop)(h:(∀a,P a)->G)(r:∀a,P a):G:=h r
def zvC {G:Prop}(P:Prop)(h:P->G)(r:P):G:=h r
def zlw:Sp:=λvs H Q _=>∃ (p c:Addr) (ns:List Int) (n:Nat) (z9:Int),vs=[.ref p,.int z9]/\Pen H p c ns n/\n<=1000000/\1<=z9/\z9<1073741824/\
 ∀ (r:Int) (H':Hp),0<=r->r<z9->Pen H' p c ns (n+1)->zv H H'->Q (.int r) H'
def znv (K:PySem.W.Frag):Sp:=λvs H Q _=>∃ (a:Addr) (ns:List Int),vs=[.ref a]/\SqL K H a (ns.map V.int)/\ns.length<=63/\∀ (p c:Addr) (H':Hp),Pen H' p c ns 0->xm H H'->Q (.ref p) H'
def yI (ns:List Int):Int:=ns.foldl (· * ·) 1
def ux (ns:List Int)(n:Int):yI (ns++[n])=yI ns * n:=by unfold yI;rw[List.foldl_append];rfl
def zl{α:Type}{l:List α}{x:α}(h:l[i]?=some x):l.take (i+1)=l.take i++[x]:=by rw[List.take_succ,h];rfl
def zlx (K:PySem.W.Frag):Sp:=λvs H Q _=>∃ (a:Addr) (ns:List Int),vs=[.ref a]/\SqL K H a (ns.map V.int)/\ns.length<=63/\∀H',Q (.bl true) H'
def zoc {g:TG}{x:V}{σ:St}{H:Hp}{A B:St->Hp->Prop}(h:g x σ H A):g x σ H λq H3=>zby q H3 λD H4=>if D=true then A q H4 else B q H4:=by
 have e:(λq H3=>zby q H3 λD H4=>if D=true then A q H4 else B q H4)=A:=by funext q H3;show (if true=true then A q H3 else B q H3)=A q H3;rw[if_pos rfl]
 rw[e];exact h
section
variable {prog:Program}{w:World}{A:Around}{E:Value->Shared->Prop}{s:Shared}
end
mutual
def Dt.toW:Dt->PySem.W.Dat
 | .non=>.none
 | .bl b=>.bool b
 | .int i=>.int i
 | .str x=>.str x
 | .tup l=>.tuple (Dt.toWs l)
 | .lst l=>.list (Dt.toWs l)
 | .dct=>.bytes #[]
def Dt.toWs:List Dt->List PySem.W.Dat
 | []=>[]
 | d::ds=>d.toW::Dt.toWs ds
end
mutual
def zg4:∀ {d e:Dt},d.toW=e.toW->d=e
 | .non,e,h=>by cases e <;> simp[Dt.toW] at h ⊢
 | .bl b,e,h=>by cases e <;> simp[Dt.toW] at h ⊢;exact h
 | .int b,e,h=>by cases e <;> simp[Dt.toW] at h ⊢;exact h
 | .str b,e,h=>by cases e <;> simp[Dt.toW] at h ⊢;exact h
 | .tup l,e,h=>by
  cases e with
  | tup m=>simp only[Dt.toW,PySem.W.Dat.tuple.injEq] at h;rw[zeK h]
  | _=>simp[Dt.toW] at h
 | .lst l,e,h=>by
  cases e with
  | lst m=>simp only[Dt.toW,PySem.W.Dat.list.injEq] at h;rw[zeK h]
  | _=>simp[Dt.toW] at h
 | .dct,e,h=>by cases e <;> simp[Dt.toW] at h ⊢
def zeK:∀ {l m:List Dt},Dt.toWs l=Dt.toWs m->l=m
 | [],m,h=>by cases m <;> simp[Dt.toWs] at h ⊢
 | d::l,m,h=>by
  cases m with
  | nil=>simp[Dt.toWs] at h
  | cons e m=>
   simp only[Dt.toWs,dU] at h;rw[zg4 h.1,zeK h.2]
end
def Dt.eqOk (d:Dt):Prop:=PySem.W.kqdOk 8 d.toW=true
section
variable {P:Program}{w:World}{H:Hp}{h:Heap}
mutual
def uc (ok:HOk P w H h):∀ (n:Nat) {d:Dt} {v:V} {u:Value},Is H d v->y1 v u->PySem.W.kqdOk n d.toW=true->∃as,Reads h u (PySem.W.kqdP d.toW) as
 | _,.non,_,_,h1,r,_=>by cases h1;cases r;exact⟨_,Reads.none⟩
 | n,.bl b,_,_,_,_,k=>by cases n <;> simp[Dt.toW,PySem.W.kqdOk] at k
 | _,.int i,_,_,h1,r,_=>by cases h1;obtain⟨t,rfl⟩:=r;exact⟨_,Reads.int i t⟩
 | _,.str x,_,_,h1,r,_=>by cases h1;obtain⟨t,rfl⟩:=r;exact⟨_,Reads.str x t⟩
 | 0,.tup l,_,_,_,_,k=>by simp[Dt.toW,PySem.W.kqdOk] at k
 | n+1,.tup l,_,_,h1,r,k=>by obtain⟨a,xs,rfl,ha,hl⟩:=h1;cases r;obtain⟨_,its,rv,o,ho,hc,⟨m,hd⟩,_⟩:=ok a _ ha;obtain⟨as,q⟩:=zaL ok n hl rv (by simpa [Dt.toW,PySem.W.kqdOk] using k);exact⟨as,reads_tuple_at ho hc hd (by simpa using q)⟩
 | 0,.lst l,_,_,_,_,k=>by simp[Dt.toW,PySem.W.kqdOk] at k
 | n+1,.lst l,_,_,h1,r,k=>by obtain⟨a,xs,rfl,ha,hl⟩:=h1;cases r;obtain⟨_,its,m,rv,e⟩:=ok a _ ha;obtain⟨as,q⟩:=zaL ok n hl rv (by simpa [Dt.toW,PySem.W.kqdOk] using k);exact⟨_,reads_list_at e rfl rfl (by simpa using q)⟩
 | n,.dct,_,_,_,_,k=>by cases n <;> simp[Dt.toW,PySem.W.kqdOk] at k
def zaL (ok:HOk P w H h):∀ (n:Nat) {ds:List Dt} {xs:List V} {us:List Value},IsL H ds xs->yb xs us->(∀d∈Dt.toWs ds,PySem.W.kqdOk n d=true)->∃as,ReadsAll h us (PySem.W.kqdPs (Dt.toWs ds)) as
 | _,[],_,_,h1,r,_=>by cases h1;cases r;exact⟨_,ReadsAll.nil⟩
 | n,d::ds,_,_,h1,r,k=>by
  obtain⟨x,xr,rfl,hd,hr⟩:=h1
  cases r with
  | cons rx rr=>
   obtain⟨as,q⟩:=uc ok n hd rx (k _ (by simp[Dt.toWs]));obtain⟨bs,q2⟩:=zaL ok n hr rr λe he=>k e (by simp[Dt.toWs,he]);exact⟨_,ReadsAll.cons q q2⟩
end
end
def uE {d:Dt}(h:d.eqOk):SeqAt.shaped (PySem.W.kqdP d.toW)=true:=by
 have l:=PySem.W.kqd_lay 8 _ h;unfold SeqAt.shaped
 grind
def zun:R2:=λx y H Q=>∃d e,Is H d x/\Is H e y/\d.eqOk/\e.eqOk/\∀b:Bool,(b=true↔d=e)->Q (.bl b) H
def zuq:R2:=λx y H Q=>∃d e,Is H d x/\Is H e y/\d.eqOk/\e.eqOk/\∀b:Bool,(b=true↔d=e)->Q (.bl (!b)) H
section
variable {X:Cx}
def zjz {d e:Dt}(h1:d.eqOk)(h2:e.eqOk):PyData.eqv (PySem.W.kqdP d.toW) (PySem.W.kqdP e.toW)=true↔d=e:=
 (PySem.W.kqd_eqv 8 d.toW e.toW 8 h1 h2).trans ⟨zg4,λz=>by rw[z]⟩
def zsA (D:X.A.units+64<cLine):OpR X (compareOp .Eq) zun:=by intro pins s σ H x y v u Q I F J h;obtain⟨d,e,L,O,B,ke,q⟩:=h;obtain⟨as,U⟩:=uc I.hok 8 L F B;obtain⟨Z,Y⟩:=uc I.hok 8 O J ke;exact eq_dataH U Y (uE B) (uE ke) D ⟨.bl _,H,I,rfl,q _ (zjz B ke)⟩
def zsD (D:X.A.units+64<cLine):OpR X (compareOp .NotEq) zuq:=by intro pins s σ H x y v u Q I F J h;obtain⟨d,e,L,O,B,ke,q⟩:=h;obtain⟨as,U⟩:=uc I.hok 8 L F B;obtain⟨Z,Y⟩:=uc I.hok 8 O J ke;exact ne_dataH U Y (uE B) (uE ke) D ⟨.bl _,H,I,rfl,q _ (zjz B ke)⟩
def zhO (q:X.A.units+64<cLine):OpQ X (compareOp .Eq) zun:=⟨zsA q⟩
def zfI (q:X.A.units+64<cLine):OpQ X (compareOp .NotEq) zuq:=⟨zsD q⟩
def zs6{to:TE}{t:TA}{apos cpos:Pos}(J:QE X o to)(L:QA X [e] t)(B:attributeBase o "append" X.env (eval o X.env)=eval o X.env:=by rfl)(I:((backTo cpos (starEach [e] X.env)).all (λx=>!x.1)&&(backToKw cpos (keywordEach [] X.env)).all (λx=>x.1.isSome)&&decide (([e]:List Expr).length+([]:List Keyword).length+(if ([]:List Keyword).isEmpty then 0 else 1)<30))=true:=by rfl)(D:(apos.endLine==cpos.line)=true:=by rfl)(O:starEach [e] X.env=(false,eval e X.env)::starEach [] X.env:=by rfl)(q:(backTo cpos (starEach [] X.env)).any (·.1)=false:=by rfl) :
  QE X (.Call (.Attribute o "append" apos) [e] [] cpos) (tBM X.K "list" zgS to t):=⟨zsK bN PySem.F.slot_list_append PySem.F.type_list_append zfy J.run L.run B I D O q⟩
end
def zcd {ns:List Int}:(Dt.tup (ns.map .int)).eqOk:=by
 have e:∀ns:List Int,(Dt.toWs (ns.map .int)).all (PySem.W.kqdOk 7)=true:=by
  intro ns
  induction ns with
  | nil=>rfl
  | cons n ns q=>simp only[aA,Dt.toWs,cl,q,cO];rfl
 exact e ns
def z9 (rm:List Int)(i:Int):Int:=rm.getD i.toNat 0
@[reducible] def yn (q:Int×Int):Dt:=.tup [.int q.1,.int q.2]
structure Giv (rm:List Int)(g:List (Int×Int)):Prop where
 ok:∀q∈g,0<=q.1/\q.1<rm.length/\0<=q.2/\q.2<z9 rm q.1
 up:g.Pairwise λa b=>a.1<b.1
def ziU (H H':Hp):Prop:=∀b xs,H b=some (.tup xs)->H' b=some (.tup xs)
def ziU.app {H:Hp}{a:Addr}{xs ys:List V}(h:H a=some (.lst xs)):ziU H (upd H a (.lst ys)):=λb zs e=>by
 by_cases q:b=a
 ·grind
 ·rw[zi q];exact e
mutual
def Dt.noL:Dt->Bool
 | .tup l=>Dt.noLs l
 | .lst _=>false
 | .dct=>false
 | _=>true
def Dt.noLs:List Dt->Bool
 | []=>true
 | d::ds=>d.noL&&Dt.noLs ds
end
mutual
def Is.stayT {H H1:Hp}(a:ziU H H1):∀ {d:Dt} {v:V},d.noL=true->Is H d v->Is H1 d v
 | .non,_,_,h=>h
 | .bl _,_,_,h=>h
 | .int _,_,_,h=>h
 | .str _,_,_,h=>h
 | .tup l,_,n,h=>by obtain⟨p,xs,e,hp,hl⟩:=h;exact⟨p,xs,e,a _ _ hp,IsL.stayT a (by simpa [Dt.noL] using n) hl⟩
 | .lst l,_,n,_=>by simp[Dt.noL] at n
 | .dct,_,n,_=>by simp[Dt.noL] at n
def IsL.stayT {H H1:Hp}(a:ziU H H1):∀ {ds:List Dt} {xs:List V},Dt.noLs ds=true->IsL H ds xs->IsL H1 ds xs
 | [],_,_,h=>h
 | d::ds,_,n,h=>by
  obtain⟨x,r,e,hd,hr⟩:=h;have n':d.noL=true/\Dt.noLs ds=true:=by simpa [Dt.noLs] using n
  exact⟨x,r,e,Is.stayT a n'.1 hd,IsL.stayT a n'.2 hr⟩
end
def Giv.snoc {rm:List Int}{g:List (Int×Int)}{i w:Int}(h:Giv rm g)(B:∀q∈g,q.1<i)(J:0<=i)(h1:i<rm.length)(h2:0<=w)(L:w<z9 rm i):Giv rm (g++[(i,w)]):=by
 refine⟨λq D=>?_,dH.mpr ⟨h.up,cC _ _,λa F b I=>?_⟩⟩
 ·rcases aG.mp D with z | z
  ·exact h.ok q z
  ·simp_all
 ·rw[aB.mp I];exact B a F
def Pen.app{ns:List Int}(P:Pen H p c ns n)(q:H fa=some (.lst xs))(B:c≠fa):Pen (upd H fa (.lst ys)) p c ns n:=by
 obtain⟨⟨a,l,h1,h2,D,F⟩,I,J⟩:=P;have L:p≠fa:=λe=>by subst e;rw[q] at h1;cases h1
 exact⟨⟨a,l,by rw[zi L];exact h1,h2,D,F⟩,by rw[zi B];exact I,J⟩
def New (H:Hp)(o:HO)(R:V->Hp->Prop):Prop:=∀ (p:Addr) (H':Hp),H p=none->H' p=some o->xm H H'->R (.ref p) H'
def New.at(h:New H o R)(q:H p=none):R (.ref p) (upd H p o):=h p _ q zk (xm.upd q)
def ztK (t:TA):TE:=λσ H Q=>t σ H λxs H1=>xs.length<=sizeLine/\New H1 (.tup xs) Q
def ztF (t:TA):TE:=λσ H Q=>t σ H λxs H1=>xs.length<=sizeLine/\New H1 (.lst xs) Q
section
variable {X:Cx}{es:List Expr}{t:TA}{pos:Pos}
def zpW {x1}(h:PA X es t):PE X (.Tuple es x1 pos) (ztK t):=by intro pins s σ H Q I D;refine wpAny_Tuple_spliced (thn (h pos pins s σ H _ I D) λF B ⟨xs,H1,I1,r,z,q⟩=>⟨by rw[<- r.length];exact z,?_⟩);have J:H1 B.heap.objs.size=none:=I1.hok.fresh (ah _);refine⟨.ref B.heap.objs.size,upd H1 B.heap.objs.size (.tup xs),I1.laid (t':=B.toks) (λb u e=>aq _ e) (ah _) ?_,rfl,q.at J⟩;exact⟨z,F,r,⟨_,aF _ rfl,rfl,⟨_,rfl⟩,rfl⟩⟩
def zpU (h:PA X es t):PE X (.List es pos) (ztF t):=by intro pins s σ H Q I D;refine wpAny_List_spliced (thn (h pos pins s σ H _ I D) λF B ⟨xs,H1,I1,r,z,q⟩=>⟨by rw[<- r.length];exact z,?_⟩);have J:H1 B.heap.objs.size=none:=I1.hok.fresh (ah _);refine⟨.ref B.heap.objs.size,upd H1 B.heap.objs.size (.lst xs),I1.laid (t':=B.toks) (λb u e=>aq _ e) (ah _) ?_,rfl,q.at J⟩;exact⟨z,F,0,r,aF _ rfl⟩
def zev {x1}(h:QA X es t):QE X (.Tuple es x1 pos) (ztK t):=⟨zpW h.run⟩
def zk7 (h:QA X es t):QE X (.List es pos) (ztF t):=⟨zpU h.run⟩
def CallQ.weak(h:CallQ X f r)(k:∀xs H Q,q xs H Q->r xs H Q):CallQ X f q:=⟨λpins s σ H xs B Q I D z=>h.run pins s σ H xs B Q I D (k _ _ _ z)⟩
def OpQ.weak(h:OpQ X f r)(k:∀x y H Q,q x y H Q->r x y H Q):OpQ X f q:=⟨λpins s σ H x y v u Q I B D z=>h.run pins s σ H x y v u Q I B D (k _ _ _ _ z)⟩
def zle (K:PySem.W.Frag):List V->Hp->VK->Prop:=λxs H Q=>∃p ys,xs=[.ref p]/\(SqL K H p ys\/SqT K H p ys)/\New H (.lst ys) Q
def zgT (K:PySem.W.Frag):List V->Hp->VK->Prop:=λxs H Q=>∃p ys,xs=[.ref p]/\((SqL K H p ys/\New H (.tup ys) Q)\/(SqT K H p ys/\Q (.ref p) H))
def uD:CallQ X (.type "list") (zle X.K):=zii.weak <| by rintro xs H Q ⟨p,ys,e,h,n⟩;exact⟨p,ys,e,h,λl q=>n.at q⟩
def z0:CallQ X (.type "tuple") (zgT X.K):=zgh.weak <| by rintro xs H Q ⟨p,ys,e,h⟩;exact⟨p,ys,e,h.elim (by rintro⟨a,n⟩;exact .inl ⟨a,λl q=>n.at q⟩) .inr⟩
def zqt:R2:=λx y H Q=>∃l b xs zs,x = .ref l/\y = .ref b/\H l=some (.lst xs)/\H b=some (.lst zs)/\xs.length+zs.length<=sizeLine/\New H (.lst (xs++zs)) Q
def zgP:OpQ X (binaryOp .Add) zqt:=zsH.weak <| by rintro x y H Q ⟨l,b,xs,zs,q,B,h1,h2,z,n⟩;exact⟨l,b,xs,zs,q,B,h1,h2,z,λp D=>n.at D⟩
end
def zrt (J:It)(g:TG)(ti:TT)(te:TE)(acc:Addr)(Q:VK)(σ:St)(H:Hp):Prop:=∃W:Nat->Nat->St->Hp->Prop,(∃m,W 0 m σ H)/\
 ∀i m q H',W i m q H'->(J.stop i H'/\Q (.ref acc) H')\/(J.go i H'/\∃N:St->Hp->Prop,(∀ B H2,N B H2->∃D,D<m/\W (i+1) D B H2)/\∀x H2,J.yld i H' x H2->zgf g ti te acc N x q H2)
def zh6 (wi:TI)(g:TG)(ti:TT)(te:TE)(cix:List (Option Nat)):TE:=λσ H Q=>wi σ H λJ H1=>∀acc,H1 acc=none->zrt J g ti te acc Q (x6 σ cix) (upd H1 acc (.lst []))
def zhU(q:X.calm=true)(c:CompOk X scope N cix)(hi:QI X tg iter wi)(B:∀C s H ex,QG (zu X scope N C s H ex) tg g)(D:∀C s H ex,QTs (zu X scope N C s H ex) ifs ti)(F:∀C s H ex,QE (zu X scope N C s H ex) elt te)(I:∀x,foldedSetIterable iter X.env x=pure x:=by intro _;rfl):QE X (.ListComp elt [⟨tg,iter,ifs,0⟩] scope pos) (zh6 wi g ti te cix):=zqe q c hi B D F I
section
variable {K:PySem.W.Frag}{a acc:Addr}{xs:List V}{g:TG}{ti:TT}{te:TE}{σ:St}{H:Hp}{Q:VK}
def zi8 (B:H acc=none)(Pv:Nat->St->Hp->Prop)(F:∀H',H' acc=some (.lst [])->xm H H'->Pv 0 σ H')(I:∀i σ H,i<=xs.length->Pv i σ H->SqL K H a xs)
  (J:∀i x σ H,xs[i]?=some x->Pv i σ H->zgf g ti te acc (Pv (i+1)) x σ H) (L:∀ σ H,Pv xs.length σ H->Q (.ref acc) H):zrt (Itl K a) g ti te acc Q σ (upd H acc (.lst [])):=by
 refine⟨λi m σ H=>m=xs.length - i/\i<=xs.length/\Pv i σ H,⟨xs.length,by simp,aJ _,F _ zk (xm.upd B)⟩,?_⟩;rintro i m σ H ⟨rfl,hi,p⟩;have q:=I i σ H hi p;by_cases D:i<xs.length
 ·refine .inr ⟨⟨xs,xs[i],q,by simp[D]⟩,Pv (i+1),λO H' U=>⟨xs.length - (i+1),by lia,rfl,D,U⟩,λx H' y=>?_⟩;obtain⟨e,y⟩:=y;subst e;exact J i x σ _ (y xs q) p
 ·have e:i=xs.length:=by lia
  subst e;exact .inl ⟨⟨xs,q,ah _⟩,L σ H p⟩
end
def znN(h:g x σ H λq H3=>te q H3 λv H5=>∃xs,H5 acc=some (.lst xs)/\xs.length<sizeLine/\N q (upd H5 acc (.lst (xs++[v])))):zgf g zby te acc N x σ H:=zoc h
def znp(h:H acc=none)(s:xm H H1):xm H (upd H1 acc o):=λb u e=>by rw[zi (zd e h)];exact s b u e
def zh3(h:H acc=none)(s:zv H H1):zv H (upd H1 acc o):=λb u e q=>by rw[zi (zd e h)];exact s b u e q
section
variable {X:Cx}(K:PySem.W.Frag)(h:X.K=K)
include h
def zoI:CallQ X (.builtin "len") (λxs H Q=>∃x n,xs=[x]/\zrh K x H n/\Q (.int n) H):=h ▸ yo
def zmV:OpQ X (binaryOp .Add) (zlc K):=h ▸ yE
end
def zql {X:Cx}(K:PySem.W.Frag)(B:X.K=K){es:List Expr}{pos:Pos}{k:Nat}{gs:TGs}{n:Nat}(D:X.calm=true)(h:QGs X es gs)(F:(assignEach es X.env).length=n:=by rfl)(q:(assignEach es X.env).findIdx? (·.1)=none:=by rfl):QG X (.Tuple es k pos) (zve K n gs):=B ▸ zta D h F q
def zqo(K:PySem.W.Frag)(q:X.K=K)(B:QE X e te):QI X tg e (zvg K te):=q ▸ ztb B
def zhV(K:PySem.W.Frag)(q:X.K=K)(B:QE X e te):QI X tg e (zo6 K te):=q ▸ zew B
structure Wi where
 g:List (Int×Int)
 b:Int
 r:Int
 w:Int
@[reducible] def zQ (x:Wi):Dt:=.tup [.tup (x.g.map yn),.int x.b,.int x.r,.int x.w]
structure WishOk (rm:List Int)(x:Wi):Prop where
 giv:Giv rm x.g
 b0:0<=x.b
 b1:x.b<rm.length
 apart:∀q∈x.g,q.1≠x.b
 r0:0<=x.r
 r1:x.r<z9 rm x.b
 w0:0<=x.w
 w1:x.w<z9 rm x.b
 ne:x.r≠x.w
section
variable {H H':Hp}{R:Dt->Prop}{xs ys:List V}
end
def znH (rm:List Int)(d:Dt):Prop:=∃x,d=zQ x/\WishOk rm x
def zmJ (x:Wi):PySem.W.kqdOk 7 (zQ x).toW=true:=by
 have e:∀g:List (Int×Int),(Dt.toWs (g.map yn)).all (PySem.W.kqdOk 5)=true:=by
  intro g
  induction g with
  | nil=>rfl
  | cons n ns q=>simp only[aA,Dt.toWs,cl,q,cO];rfl
 show ((Dt.toWs (x.g.map yn)).all (PySem.W.kqdOk 5)&&_)=true;rw[e];rfl
def zaJ{rm:List Int}(h:∀d∈ds,znH rm d):(Dt.tup ds).eqOk/\(Dt.lst ds).eqOk:=by
 have e:∀ds:List Dt,(∀d∈ds,znH rm d)->(Dt.toWs ds).all (PySem.W.kqdOk 7)=true:=by
  intro ds
  induction ds with
  | nil=>intro _;rfl
  | cons n ns q=>
   intro h;obtain⟨x,rfl,_⟩:=h n ak;simp only[Dt.toWs,cl,q λd B=>h d (ao _ B),zmJ x,cO]
 exact⟨e ds h,e ds h⟩
def zhw (b:Int)(ns:List Int):inV (.int b) (ns.map V.int)=ns.contains b:=by
 unfold inV
 induction ns with
 | nil=>rfl
 | cons n ns q=>
  rw[aA,cA,q,List.contains_cons];show ((n==b) || _)=((b==n) || _);rw[show (n==b)=(b==n) from BEq.comm]
def zfa (ns:List Int):(ns.map V.int).all zd1=true:=by rw[bc];intro x q;obtain⟨n,_,rfl⟩:=aC.mp q;rfl
def zd2 {m:Int}:∀ {g:List (Int×Int)} {lo:Int},(∀q∈g,lo<=q.1/\q.1<m)->(g.Pairwise λa b=>a.1<b.1)->lo<=m->(g.length:Int)<=m - lo
 | [],lo,_,_,h=>by simp;lia
 | q::g,lo,h,F,I=>by
  have h1:=h q ak;have B:=bY.mp F;have J:=zd2 (g:=g) (lo:=q.1+1) (λx D=>⟨by have:=B.1 x D;lia,(h x (ao _ D)).2⟩) B.2 (by lia)
  grind
def zjM {rm:List Int}{g:List (Int×Int)}(h:Giv rm g)(D:rm.length<=8):g.length<=100:=by have:=zd2 (g:=g) (lo:=0) (m:=rm.length) (λq B=>⟨(h.ok q B).1,(h.ok q B).2.1⟩) h.up (by lia);lia
def zjf (xs:List V)(k:Nat):zc5 xs none (some (k:Int))=xs.take k:=by
 have e:HT.sIx xs.length xs.length (some (k:Int))=min k xs.length:=by simp[HT.sIx];try lia
 unfold zc5;rw[e,show HT.sIx xs.length 0 none=0 from rfl,eB,eR]
 grind
def zje (xs:List V)(k:Nat):zc5 xs (some (k:Int)) none=xs.drop k:=by
 have e:HT.sIx xs.length 0 (some (k:Int))=min k xs.length:=by simp[HT.sIx];try lia
 unfold zc5;rw[e,show HT.sIx xs.length xs.length none=xs.length from rfl];by_cases h:k<=xs.length
 ·rw[Nat.min_eq_left h,cb (by simp)]
 ·rw[Nat.min_eq_right (by lia),List.drop_eq_nil_of_le (as:=xs) (i:=xs.length) (by lia),List.drop_eq_nil_of_le (as:=xs) (i:=k) (by lia),List.take_nil]
section
variable {rm:List Int}{g b r w:Dt}
end
end L2
namespace HT
open PySem PySem.Spec PyProof.Rows
section
variable {prog:Program}{w:World}{A:Around}{E:Value->Shared->Prop}{s:Shared}
def fm_congr {α q:Type}{f g:α->Option q}:∀ {l:List α},(∀m∈l,f m=g m)->l.filterMap f=l.filterMap g
 | [],_=>rfl
 | a::l,h=>by rw[List.filterMap_cons,List.filterMap_cons,h a List.mem_cons_self,fm_congr λm B=>h m (List.mem_cons_of_mem _ B)]
def pick_rev (xs:Array Value):((List.range xs.size).filterMap λ(m:Nat)=>xs[((xs.size:Int) - 1+(m:Int) * (-1)).toNat]?).toArray=xs.toList.reverse.toArray:=by
 congr 1
 have e:∀m∈List.range xs.size,xs[((xs.size:Int) - 1+(m:Int) * (-1)).toNat]?=some (xs.toList.reverse.getD m .none):=by
  intro m q;have B:=List.mem_range.mp q;have D:((xs.size:Int) - 1+(m:Int) * (-1)).toNat=xs.size - 1 - m:=by lia
  simp_all
 rw[fm_congr e];rw[List.filterMap_eq_map' (f:=λm=>xs.toList.reverse.getD m .none)];refine List.ext_getElem? λi=>?_;rw[List.getElem?_map];by_cases hi:i<xs.size
 all_goals simp_all
end
end HT
namespace L2
open PySem PySem.Spec PyProof.Rows
section
variable {X:Cx}{e:Expr}{te:TE}{pos p2 p3 p4:Pos}{j:Nat}
def zf5(r:yb xs q):yb xs.reverse q.reverse:=by
 induction r with
 | nil=>exact .nil
 | cons h _ B=>rw[cP,cP];exact B.append (.cons h .nil)
def zeE (xs:Array Value):slicePick xs none none (some (-1))=xs.toList.reverse.toArray:=by
 rw[<- HT.pick_rev];unfold slicePick;congr 1;have q:sliceBounds none none (some (-1)) xs.size=((xs.size:Int) - 1,-1,-1):=by simp[sliceBounds]
 rw[q];unfold sliceRange
 have B:(if (-1:Int) > 0 then (if (xs.size:Int) - 1 < -1 then (-1 - ((xs.size:Int) - 1)+-1 - 1) / -1 else 0) else if (xs.size:Int) - 1 > -1 then ((xs.size:Int) - 1 - -1 - -1 - 1) / - -1 else 0).toNat=xs.size:=by grind
 show List.filterMap (λx=>xs[x]?) (List.map _ (List.range (if (-1:Int) > 0 then (if (xs.size:Int) - 1 < -1 then (-1 - ((xs.size:Int) - 1)+-1 - 1) / -1 else 0) else if (xs.size:Int) - 1 > -1 then ((xs.size:Int) - 1 - -1 - -1 - 1) / - -1 else 0).toNat))=_;rw[B,ei];refine HT.fm_congr λm D=>?_
 grind
def ztI (te:TE):TE:=λσ H Q=>te σ H λx H1=>∃a xs,x = .ref a/\H1 a=some (.lst xs)/\New H1 (.lst xs.reverse) Q
def zpV (J:PE X e te):PE X (.Subscript e (.Slice none none (some (.UnaryOp .USub (.Constant (.int 1) j p4) p3)) p2) pos) (ztI te):=by intro pins s σ H Q I h;refine Subscript_ (thn (J pins s σ H _ I h)  ?_);rintro v L ⟨x,H1,I1,O,U⟩;obtain⟨a,xs,rfl,Y,q⟩:=U;cases O;refine wpAny_Slice ?_;rw[evalPart_none];refine af (af ?_);rw[evalPart_some];refine thn (zsN (zow (X:=X)) (zoj (X:=X)) pins L σ H1 (λz H2=>z = .int (-1)/\H2=H1) I1 ⟨1,rfl,rfl,rfl⟩)  ?_;rintro u B ⟨z,H2,I2,Z,e1,e2⟩;subst e1 e2;obtain⟨tk,rfl⟩:=Z;have I3:Inv X pins σ H2 { B with heap:=B.heap.push { cls:=.type "slice",data:=.fields #[.none,.none,.int (-1) tk] } }:=I2.kept (t':=B.toks) λb ob q=>aq _ q;obtain⟨its,r,D,hz⟩:=I3.list (.of Y);have F:=r.length;show wpAny (model X.prog X.w) X.A (subscriptTail e _ (.ref a) (.ref B.heap.objs.size)) (EP X pins σ Q) X.xe { B with heap:=B.heap.push { cls:=.type "slice",data:=.fields #[.none,.none,.int (-1) tk] } };refine tail_any (ops:=[.ref a,.ref B.heap.objs.size]) D.isList.typeIs slot_list_getitem.lookup ?_ (by with_unfolding_all rfl);refine wpAny_getItem_list_slice D.isList (Heap.IsSliceOf.new ..) .none .none (.int (-1) tk) (by simp) ?_ (by grind);rw[zeE];refine⟨.ref _,_,I3.laid (t':=B.toks) (o:=.lst xs.reverse) (λb ob q=>aq _ q) (ah _) ?_,rfl,q.at (I3.hok.fresh (ah _))⟩;exact⟨by simp_all,its.reverse,0,zf5 r,aF _ rfl⟩
def zqi (q:QE X e te):QE X (.Subscript e (.Slice none none (some (.UnaryOp .USub (.Constant (.int 1) j p4) p3)) p2) pos) (ztI te):=⟨zpV q.run⟩
def zv3:V->V->V->Hp->(Hp->Prop)->Prop:=λo i v H Q=>∃p xs k,o = .ref p/\i = .int k/\H p=some (.lst xs)/\0<=k/\k<xs.length/\Q (upd H p (.lst (xs.set k.toNat v)))
def zqk(ho:QE X o to)(hi:QE X i ti)(ha:∀v,assign (.Subscript o i pos) X.env v=(do
   let ov <- holding [v] (eval o X.env)
   let iv <- holding [v,ov] (eval i X.env)
   standAt pos
   holding [v,ov,iv] (setItem ov iv v)
   release [v,ov,iv] []):=by intro _;rfl):QG X (.Subscript o i pos) (gSub to ti zv3):=
 ⟨zsU ho.run hi.run (by rintro pins s σ H o i v ov iv u Q I ro ri rv ⟨p,xs,k,e1,e2,hp,h0,h1,q⟩;exact znu pins s σ H o i v ov iv u Q I ro ri rv ⟨p,xs,k,k.toNat,e1,e2,hp,by unfold ixN;rw[if_pos h0,if_pos h1],q⟩) ha⟩
end
section
variable {X:Cx}
end
def chg (st:List Int)(b w:Int):List Int:=st.take b.toNat++[w]++st.drop (b.toNat+1)
def zoG (st:List Int){b w:Int}(q:0<=b):zc5 (st.map V.int) none (some b)++[.int w]++zc5 (st.map V.int) (some (b+1)) none=(chg st b w).map V.int:=by
 obtain⟨j,rfl⟩:∃j:Nat,b=j:=⟨b.toNat,by lia⟩;rw[zjf,show ((j:Int)+1)=((j+1:Nat):Int) by lia,zje];unfold chg
 simp_all
def zaG {st:List Int}{b w:Int}(q:0<=b)(h1:b<st.length):(chg st b w).length=st.length:=by
 unfold chg
 grind
def xU {st:List Int}{b w c:Int}(B:0<=b)(h1:b<st.length)(D:0<=c):z9 (chg st b w) c=if c=b then w else z9 st c:=by
 obtain⟨j,rfl⟩:∃j:Nat,b=j:=⟨b.toNat,by lia⟩;obtain⟨k,rfl⟩:∃k:Nat,c=k:=⟨c.toNat,by lia⟩;have F:j<st.length:=by lia
 unfold z9 chg;simp only[aL,bt];have q:(st.take j).length=j:=by rw[aQ];lia
 rcases b8 k j with h | h | h
 ·rw[if_neg (by lia),bK,bh (by rw[q];exact h),c9 h]
 ·simp_all
 ·rw[if_neg (by lia),bK,bj (by rw[q];lia),q];obtain⟨m,rfl⟩:∃m,k=j+1+m:=⟨k - (j+1),by lia⟩;rw[show j+1+m - j=m+1 by lia]
  simp_all
def yY (st:List Int)(g:List (Int×Int)):Bool:=g.all λq=>decide (z9 st q.1=q.2)
def zaK (st:List Int)(x:Wi):Bool:=decide (z9 st x.b=x.w)&&yY st x.g
def ztN (x:Wi):Wi:={ x with r:=x.w,w:=x.r }
def zP (st:List Int)(j:Nat):z9 st (j:Int)=st.getD j 0:=by unfold z9;simp
def zbF {st:List Int}{r b:Int}(B:0<=b)(h1:b<st.length):z9 (st++[r]) b=z9 st b:=by
 obtain⟨j,rfl⟩:∃j:Nat,b=j:=⟨b.toNat,by lia⟩;have q:j<st.length:=by lia
 rw[zP,zP,bt,bt,bh q]
def zbE {st:List Int}{r:Int}:z9 (st++[r]) (st.length:Int)=r:=by rw[zP,bt,bj (ah _),eS];rfl
def zgF {st:List Int}{i:Nat}{m:Int}(h:st[i]?=some m):z9 st (i:Int)=m:=by rw[zP,bt,h];rfl
def yk {rm:List Int}(B:∀r∈rm,2<=r/\r<=4){b:Int}(D:0<=b)(h1:b<rm.length):2<=z9 rm b/\z9 rm b<=4:=by
 obtain⟨j,rfl⟩:∃j:Nat,b=j:=⟨b.toNat,by lia⟩;have q:j<rm.length:=by lia
 rw[zgF (aj q)]
 simp_all
def zfz:∀st:List Int,Dt.noLs (st.map .int)=true
 | []=>rfl
 | _::st=>by show (true&&Dt.noLs (st.map .int))=true;rw[zfz st];rfl
def zmH (st:List Int):PySem.W.kqdOk 7 (Dt.tup (st.map .int)).toW=true:=by
 have e:∀ns:List Int,(Dt.toWs (ns.map .int)).all (PySem.W.kqdOk 6)=true:=by
  intro ns
  induction ns with
  | nil=>rfl
  | cons n ns q=>simp only[aA,Dt.toWs,cl,q,cO];rfl
 exact e st
def zqr{X:Cx}{ifs:List Expr}{scope:Scope}{pos spos:Pos}{wi:TI}{g:TG}{ti:TT}{te:TE}{N:List Str}{nx:Str}(q:X.N.Nodup)(B:X.N[ix]?=some nx)(F:X.env.scope.names.lookup nx=some .local)(O:X.calm=true)(c:CompOk X scope N cix)(hi:QI X tg iter wi)(Y:∀C s H ex,QG (zu X scope N C s H ex) tg g)(Z:∀C s H ex,QTs (zu X scope N C s H ex) ifs ti)(he:∀C s H ex,QE (zu X scope N C s H ex) elt te)(J:swapsWithSole [.Name nx px] (.ListComp elt [⟨tg,iter,ifs,0⟩] scope pos) spos.line X.env=pure true:=by rfl)(hs:∀x,foldedSetIterable iter X.env x=pure x:=by intro _;rfl)(L:(assignEach [.Name nx px] X.env).map (·.2)=[assign (.Name nx px) X.env]:=by rfl):QS X (.Assign [.Name nx px] (.ListComp elt [⟨tg,iter,ifs,0⟩] scope pos) spos) (zg2 (zh6 wi g ti te cix) (zap ix)):=⟨λpins s σ H D I h=>zhe q B F J L (λ_=>rfl) λU Qp hf=>zcw (Fin:=λacc H=>D.nx (σ.set ix (some (.ref acc))) H) (zab c) O hi.run (zdo λC s H ex=>(Y C s H ex).run) (zdo λC s H ex=>(Z C s H ex).run) (zdo λC s H ex=>(he C s H ex).run) hs I h hf⟩
section
variable {prog:Program}{w:World}{A:Around}{E:Value->Shared->Prop}{s:Shared}
end
section
variable {X:Cx}
end
section
variable {prog:Program}{w:World}{A:Around}{R:Result->Shared->Prop}{s:Shared}
def zbS(I:Nat->Shared->Prop)(turn:∀n s,I n s->wpAny (model prog w) A (pyNext it) (λr s₁=>match r with
   | none=>R (.ok .next) s₁
   | some v=>wpAny (model prog w) A (letOwnedTupleGo target it v) (λ_ s₂=>wpAny (model prog w) A (assign target env v) (λ_ s₃=>
     wpAny (model prog w) A (forIn ifs true λc r=>if r=true then do let ok <- isTrue c env (eval c env);pure (ForInStep.yield ok) else pure (ForInStep.yield r)) (λok s₄=>
      if ok=true then wpAny (model prog w) A (eval elt env) (λx s₅=>
       wpAny (model prog w) A (call (.builtin "list.append") [acc,x]) (λ_ s₆=>∃m,m<n/\I m s₆) (λ_ _=>False) s₅) (λ_ _=>False) s₄
      else ∃m,m<n/\I m s₄) (λ_ _=>False) s₃) (λ_ _=>False) s₂) (λ_ _=>False) s₁) (λ_ _=>False) s)(n:Nat)(h:I n s) :
  codeAny (model prog w) A (.compLoop (.ListComp elt [c1,⟨target,iter,ifs,0⟩] scope pos) 1 it acc env) R s:=by
 refine el rfl I (λn s hI=>?_) n h;show wpAny _ A ((compTurn (.ListComp elt [c1,⟨target,iter,ifs,0⟩] scope pos) 1 it acc env).onRaise (λx=>do noteFrame x env;theTreesLotGoes x)) _ _ s;refine eK ?_;unfold compTurn;refine aa (bA (aa (aS (turn n s hI) (λr s₁ h₁=>?_) λ_ _ h'=>h'.elim)))
 cases r with
 | none=>exact af h₁
 | some v=>
  refine aa (aS h₁ (λ_ s₂ h₂=>?_) λ_ _ h'=>h'.elim);refine aa (aS h₂ (λ_ s₃ h₃=>aa (aS h₃ (λok s₄ h₄=>?_) λ_ _ h'=>h'.elim)) λ_ _ h'=>h'.elim)
  cases ok with
  | false=>exact af ⟨rfl,h₄⟩
  | true=>
   exact aa (aa (aS h₄ (λx s₅ h₅=>aa (aS h₅ (λ_ s₆ h₆=>af (af ⟨rfl,h₆⟩)) λ_ _ h'=>h'.elim)) λ_ _ h'=>h'.elim))
def zaH(h1:codeAny (model prog w) A (.compLoop (.ListComp elt [c1,⟨target,iter,ifs,0⟩] scope pos) 1 it acc env) R s)(h2:wpAny (model prog w) A (pyIter it) (λit' s'=>codeAny (model prog w) A (.compLoop (.ListComp elt [c1,⟨target,iter,ifs,0⟩] scope pos) 1 it' acc env) R s') (λ_ _=>False) s) :
  codeAny (model prog w) A (.compStart (.ListComp elt [c1,⟨target,iter,ifs,0⟩] scope pos) 1 it acc env) R s:=by
 refine dj ?_;show wpAny _ A ((compStart (.ListComp elt [c1,⟨target,iter,ifs,0⟩] scope pos) 1 it acc env).onRaise (λx=>do noteFrame x env;standAt theWindowsPlace)) _ _ s;refine wpAny_onRaise ?_;unfold compStart;rw[if_neg (by show ¬ ((0 != 0)=true);decide)];refine aa (bp ?_);split
 ·exact af ⟨rfl,h1⟩
 ·refine aa (eW ?_);refine aa (bA ?_);refine aa (aS h2 (λit' s' h'=>af ⟨rfl,h'⟩) λ_ _ h'=>h'.elim)
def zbl(hf:∀x,foldedSetIterable it2 env x=pure x)(I:Nat->Shared->Prop)(turn:∀n s,I n s->wpAny (model prog w) A (pyNext it) (λr s₁=>match r with
   | none=>R (.ok .next) s₁
   | some v=>wpAny (model prog w) A (letOwnedTupleGo target it v) (λ_ s₂=>wpAny (model prog w) A (assign target env v) (λ_ s₃=>
     wpAny (model prog w) A (forIn ifs true λc r=>if r=true then do let ok <- isTrue c env (eval c env);pure (ForInStep.yield ok) else pure (ForInStep.yield r)) (λok s₄=>
      if ok=true then wpAny (model prog w) A (eval it2 env) (λx s₅=>wpAny (model prog w) A (pyIter x) (λiv s₆=>
       codeAny (model prog w) A (.compStart (.ListComp elt [⟨target,iter,ifs,0⟩,⟨t2,it2,ifs2,0⟩] scope pos) 1 iv acc env) (λr s₇=>match r with
        | .ok _=>∃m,m<n/\I m s₇
        | .error _=>False) s₆) (λ_ _=>False) s₅) (λ_ _=>False) s₄
      else ∃m,m<n/\I m s₄) (λ_ _=>False) s₃) (λ_ _=>False) s₂) (λ_ _=>False) s₁) (λ_ _=>False) s)(n:Nat)(h:I n s) :
  codeAny (model prog w) A (.compLoop (.ListComp elt [⟨target,iter,ifs,0⟩,⟨t2,it2,ifs2,0⟩] scope pos) 0 it acc env) R s:=by
 refine el rfl I (λn s hI=>?_) n h;show wpAny _ A ((compTurn (.ListComp elt [⟨target,iter,ifs,0⟩,⟨t2,it2,ifs2,0⟩] scope pos) 0 it acc env).onRaise (λx=>do noteFrame x env;theTreesLotGoes x)) _ _ s;refine eK ?_;unfold compTurn;refine aa (bA (aa (aS (turn n s hI) (λr s₁ h₁=>?_) λ_ _ h'=>h'.elim)))
 cases r with
 | none=>exact af h₁
 | some v=>
  refine aa (aS h₁ (λ_ s₂ h₂=>?_) λ_ _ h'=>h'.elim);refine aa (aS h₂ (λ_ s₃ h₃=>aa (aS h₃ (λok s₄ h₄=>?_) λ_ _ h'=>h'.elim)) λ_ _ h'=>h'.elim)
  cases ok with
  | false=>exact af ⟨rfl,h₄⟩
  | true=>
   refine aa (aS h₄ (λx s₅ h₅=>?_) λ_ _ h'=>h'.elim);refine aa (bA ?_);show wpAny _ _ (foldedSetIterable it2 env x >>= _) _ _ _;rw[hf];refine aa (af ?_);show wpAny _ _ (holding [x] (pyIter x) >>= _) _ _ _;refine aa (bz (aS h₅ (λiv s₆ h₆=>?_) λ_ _ h'=>h'.elim));refine aa (wpAny_runOwn (h:=none) ?_);refine dC (show codeAny (model prog w) (A.mark none) _ _ s₆ from h₆) λr s₇ h₇=>?_
   cases r with
   | ok f=>exact af ⟨rfl,h₇⟩
   | error e=>exact h₇.elim
end
def zjX (J:It)(g:TG)(ti:TT)(te:TE)(acc:Addr)(N:St->Hp->Prop)(σ:St)(H:Hp):Prop:=∃W:Nat->Nat->St->Hp->Prop,(∃m,W 0 m σ H)/\
 ∀i m q H',W i m q H'->(J.stop i H'/\N q H')\/(J.go i H'/\∃N2:St->Hp->Prop,(∀ B H2,N2 B H2->∃D,D<m/\W (i+1) D B H2)/\∀x H2,J.yld i H' x H2->zgf g ti te acc N2 x q H2)
def zi7 (g:TG)(ti:TT)(wi2:TI)(g2:TG)(ti2:TT)(te:TE)(acc:Addr)(N:St->Hp->Prop)(x:V)(σ:St)(H:Hp):Prop:=
 g x σ H λq H3=>ti q H3 λB H4=>if B=true then wi2 q H4 λJ2 H5=>zjX J2 g2 ti2 te acc N q H5 else N q H4
def znL (J:It)(g:TG)(ti:TT)(wi2:TI)(g2:TG)(ti2:TT)(te:TE)(acc:Addr)(Q:VK)(σ:St)(H:Hp):Prop:=∃W:Nat->Nat->St->Hp->Prop,(∃m,W 0 m σ H)/\
 ∀i m q H',W i m q H'->(J.stop i H'/\Q (.ref acc) H')\/(J.go i H'/\∃N:St->Hp->Prop,(∀ B H2,N B H2->∃D,D<m/\W (i+1) D B H2)/\∀x H2,J.yld i H' x H2->zi7 g ti wi2 g2 ti2 te acc N x q H2)
def zlz (wi:TI)(g:TG)(ti:TT)(wi2:TI)(g2:TG)(ti2:TT)(te:TE)(cix:List (Option Nat)):TE:=λσ H Q=>wi σ H λJ H1=>∀acc,H1 acc=none->znL J g ti wi2 g2 ti2 te acc Q (x6 σ cix) (upd H1 acc (.lst []))
section
variable {X:Cx}{Fam:Cx->Prop}{scope:Scope}{N:List Str}{cix:List (Option Nat)}{z:Str}{use:Option (Value->Sem Unit)}{Qp:Value->Shared->Prop}{elt ke ve tg iter tg2 iter2:Expr}{ifs ifs2:List Expr}{pos ipos spos px:Pos}{wi wi2:TI}{g g2:TG}{ti ti2:TT}{te tk tv:TE}{pins:List (Addr×Obj)}{σ:St}{H:Hp}{s:Shared}{Q:VK}{o0:HO}
def zig (O:Opn X scope cix Fam)(hc:X.calm=true)(hi:PI X tg iter wi)(hg:∀X',Fam X'->PG X' tg g)(ht:∀X',Fam X'->PTs X' ifs ti)(ac:∀X',Fam X'->PI X' tg2 iter2 wi2)(ad:∀X',Fam X'->PG X' tg2 g2)(ag:∀X',Fam X'->PTs X' ifs2 ti2)(he:∀X',Fam X'->PE X' elt te)
  (hs:∀x,foldedSetIterable iter X.env x=pure x) (al:∀X',Fam X'->∀x,foldedSetIterable iter2 X'.env x=pure x) (I:Inv X pins σ H s) (h:zlz wi g ti wi2 g2 ti2 te cix σ H Q) (U:zuw X pins σ use Qp Q) :
  wpAny (model X.prog X.w) X.A (comprehension (.ListComp elt [⟨tg,iter,ifs,0⟩,⟨tg2,iter2,ifs2,0⟩] scope pos) scope X.env ipos (newList []) false (eval iter X.env) use) Qp X.xe s:=
 zaP (ob:={ cls:=.type "list",dict:=none,data:=.seq ([]:List Value).toArray }) (o0:=λ_=>.lst []) (Fin:=λacc H=>Q (.ref acc) H)
  (B:=λX' acc P s=>wpAny (model X'.prog X'.w) X'.A (eval iter2 X'.env) (λx s5=>wpAny (model X'.prog X'.w) X'.A (pyIter x) (λiv s6=>codeAny (model X'.prog X'.w) X'.A (.compStart (.ListComp elt [⟨tg,iter,ifs,0⟩,⟨tg2,iter2,ifs2,0⟩] scope pos) 1 iv (.ref acc) X'.env) (λr s7=>match r with | .ok _=>P s7 | .error _=>False) s6) (λ_ _=>False) s5) (λ_ _=>False) s) (tb:=λacc Nx σ H=>wi2 σ H λJ2 H5=>zjX J2 g2 ti2 te acc Nx σ H5)
  O hc rfl hs (λ_ _ _ _ _ h0 h1=>codeAny_compStart_list h0 h1) (λX' L _ _ _ _ I D n h=>zbl (al X' L) I D n h) (λs Q h=>bu h) (λ_ _=>⟨aJ _,[],0,.nil,aF _ rfl⟩) hi hg ht (λX' L pX wX AX cX xX acc pl s σ H Nx P I q k=>by
  have e9:=ac X' L pl s σ H _ I q;rw[xX] at e9;refine thn e9 λxv s1 h1=>thn h1 λap s2 h2=>?_;obtain⟨it,fp,tn,J,H2,e,I2,T,Y,f2,W,⟨m0,w0⟩,D⟩:=h2;subst e
  have F:=zfw (X:=X') (e:=.ListComp elt [⟨tg,iter,ifs,0⟩,⟨tg2,iter2,ifs2,0⟩] scope pos) (pl:=pl) (R:=λr s7=>match r with | .ok _=>P s7 | .error _=>False) (k:=1) (B:=λP s=>wpAny (model X'.prog X'.w) X'.A (eval elt X'.env) (λx s5=>wpAny (model X'.prog X'.w) X'.A (call (.builtin "list.append") [.ref acc,x]) (λ_ s6=>P s6) (λ_ _=>False) s5) (λ_ _=>False) s) (tb:=λNx σ H=>te σ H λv H'=>∃xs,H' acc=some (.lst xs)/\xs.length<sizeLine/\Nx σ (upd H' acc (.lst (xs++[v]))))
   (λ_ _ I D n h=>zbS I D n h) cX xX T (λhn b Z=>⟨hn b Z,(f2 b Z).2⟩) (ad X' L) (ag X' L) (λ_ _ _ _ _ _ I q k=>zhd (he X' L) xX I q k) D (λan H' s' I' q'=>k an H' s' I' q') I2 Y (λb Z=>(f2 b Z).1) w0
  exact zaH F (T.self X'.A 0 _ _ _ Y F)) I h (λJ H1 acc q hn=>q acc hn) U
end
def zhW{X:Cx}{ifs ifs2:List Expr}{scope:Scope}{pos spos:Pos}{wi wi2:TI}{g g2:TG}{ti ti2:TT}{te:TE}{N:List Str}{nx:Str}(q:X.N.Nodup)(B:X.N[ix]?=some nx)(F:X.env.scope.names.lookup nx=some .local)(hc:X.calm=true)(c:CompOk X scope N cix)(hi:QI X tg iter wi)(hg:∀C s H ex,QG (zu X scope N C s H ex) tg g)(ht:∀C s H ex,QTs (zu X scope N C s H ex) ifs ti)(J:∀C s H ex,QI (zu X scope N C s H ex) tg2 iter2 wi2)(L:∀C s H ex,QG (zu X scope N C s H ex) tg2 g2)(O:∀C s H ex,QTs (zu X scope N C s H ex) ifs2 ti2)(he:∀C s H ex,QE (zu X scope N C s H ex) elt te)(Y:swapsWithSole [.Name nx px] (.ListComp elt [⟨tg,iter,ifs,0⟩,⟨tg2,iter2,ifs2,0⟩] scope pos) spos.line X.env=pure true:=by rfl)(hs:∀x,foldedSetIterable iter X.env x=pure x:=by intro _;rfl)(Z:∀C s H ex x,foldedSetIterable iter2 (zu X scope N C s H ex).env x=pure x:=by intro _ _ _ _ _;rfl)(ac:(assignEach [.Name nx px] X.env).map (·.2)=[assign (.Name nx px) X.env]:=by rfl):QS X (.Assign [.Name nx px] (.ListComp elt [⟨tg,iter,ifs,0⟩,⟨tg2,iter2,ifs2,0⟩] scope pos) spos) (zg2 (zlz wi g ti wi2 g2 ti2 te cix) (zap ix)):=⟨λpins s σ H D I h=>zhe q B F Y ac (λ_=>rfl) λU Qp hf=>zig (Q:=λv H=>D.nx (σ.set ix (some v)) H) (zab c) hc hi.run (zdo λC s H ex=>(hg C s H ex).run) (zdo λC s H ex=>(ht C s H ex).run) (zdo λC s H ex=>(J C s H ex).run) (zdo λC s H ex=>(L C s H ex).run) (zdo λC s H ex=>(O C s H ex).run) (zdo λC s H ex=>(he C s H ex).run) hs (zdo λC s H ex=>Z C s H ex) I h hf⟩
section
variable {K:PySem.W.Frag}{a acc:Addr}{xs:List V}{g:TG}{ti:TT}{wi2:TI}{g2:TG}{ti2:TT}{te:TE}{σ:St}{H:Hp}{Q:VK}{N:St->Hp->Prop}
def zih (B:H acc=none)(Pv:Nat->St->Hp->Prop)(F:∀H',H' acc=some (.lst [])->xm H H'->Pv 0 σ H')(I:∀i σ H,i<=xs.length->Pv i σ H->SqL K H a xs)
  (J:∀i x σ H,xs[i]?=some x->Pv i σ H->zi7 g ti wi2 g2 ti2 te acc (Pv (i+1)) x σ H) (L:∀ σ H,Pv xs.length σ H->Q (.ref acc) H):znL (Itl K a) g ti wi2 g2 ti2 te acc Q σ (upd H acc (.lst [])):=by
 refine⟨λi m σ H=>m=xs.length - i/\i<=xs.length/\Pv i σ H,⟨xs.length,by simp,aJ _,F _ zk (xm.upd B)⟩,?_⟩;rintro i m σ H ⟨rfl,hi,p⟩;have q:=I i σ H hi p;by_cases D:i<xs.length
 ·refine .inr ⟨⟨xs,xs[i],q,by simp[D]⟩,Pv (i+1),λO H' U=>⟨xs.length - (i+1),by lia,rfl,D,U⟩,λx H' y=>?_⟩;obtain⟨e,y⟩:=y;subst e;exact J i x σ _ (y xs q) p
 ·have e:i=xs.length:=by lia
  subst e;exact .inl ⟨⟨xs,q,ah _⟩,L σ H p⟩
def zio (Pv:Nat->St->Hp->Prop)(D:Pv 0 σ H)(F:∀i σ H,i<=xs.length->Pv i σ H->SqL K H a xs)
  (I:∀i x σ H,xs[i]?=some x->Pv i σ H->zgf g ti te acc (Pv (i+1)) x σ H) (J:∀ σ H,Pv xs.length σ H->N σ H):zjX (Itl K a) g ti te acc N σ H:=by
 refine⟨λi m σ H=>m=xs.length - i/\i<=xs.length/\Pv i σ H,⟨xs.length,by simp,aJ _,D⟩,?_⟩;rintro i m σ H ⟨rfl,hi,p⟩;have q:=F i σ H hi p;by_cases B:i<xs.length
 ·refine .inr ⟨⟨xs,xs[i],q,by simp[B]⟩,Pv (i+1),λL H' O=>⟨xs.length - (i+1),by lia,rfl,B,O⟩,λx H' y=>?_⟩;obtain⟨e,y⟩:=y;subst e;exact I i x σ _ (y xs q) p
 ·have e:i=xs.length:=by lia
  subst e;exact .inl ⟨⟨xs,q,ah _⟩,J σ H p⟩
end
section
variable {X:Cx}
def zmg:CallQ X (.type "range") (λxs H Q=>∃n,xs=[.int n]/\New H (.rng 0 n) Q):=⟨by
 intro pins s σ H xs D Q I r h;obtain⟨n,rfl,q⟩:=h;obtain⟨u,rfl,B⟩:=zaM r;obtain⟨t,rfl⟩:=B;refine call_range_1 ?_;refine⟨.ref s.heap.objs.size,_,I.laid (t':=s.toks+1+1) (o:=.rng 0 n) (λb ob q=>aq _ q) (ah _) ?_,rfl,q.at (I.hok.fresh (ah _))⟩;exact⟨_,_,_,aF _ rfl⟩⟩
def zhY (n:Nat):Builtin.Range.rangeSize 0 (n:Int) 1=n:=by
 unfold Builtin.Range.rangeSize
 grind
def zlO:∀ {xs:List V} {q:List Value},xs.length=q.length->(∀ (i:Nat) x u,xs[i]?=some x->q[i]?=some u->y1 x u)->yb xs q
 | [],[],_,_=>.nil
 | [],_::_,h,_=>by simp at h
 | _::_,[],h,_=>by simp at h
 | x::xs,u::q,h,k=>.cons (k 0 x u rfl rfl) (zlO (by simpa using h) λi y v B D=>k (i+1) y v B D)
def zgg (O:X.calm=true):CallQ X (.type "list") (λxs H Q=>∃ (p:Addr) (n:Nat),xs=[.ref p]/\H p=some (.rng 0 n)/\n<=1000/\New H (.lst ((List.range n).map λi:Nat=>V.int i)) Q):=⟨by
 intro pins s σ H xs us Q I r h;obtain⟨p,n,rfl,U,J,q⟩:=h;obtain⟨u,rfl,Y⟩:=zaM r;cases Y;obtain⟨t,u,v,Z⟩:=I.hok p _ U;have F:n<sizeLine:=zcW J;refine call_list_range (a:=0) (b:=n) (c:=1) (n:=n) (I.ok.hd O) Z ?_ ?_ (ar J (by decide)) λh' tk B c' kp hg D=>?_
 ·have e:=zhY n;unfold Builtin.Range.small;rw[e];simp[Builtin.Range.rangeFitsLong];lia
 ·exact zhY n
 ·have hv:yb ((List.range n).map λi:Nat=>V.int i) B.toList:=by
   refine zlO (by rw[ab,ax,aT,D.1]) λj x u L hu=>?_;rw[aw] at L;obtain⟨k,hk,rfl⟩:=aE.mp L;obtain⟨ac,e⟩:=ae.mp hk;have:k=j:=by simpa using e.symm
   subst this;obtain⟨t',rfl⟩:=D.2 k u (by simpa using hu);exact⟨t',by lia⟩
  refine⟨.ref s.heap.objs.size,_,I.laid (t':=tk) (o:=.lst ((List.range n).map λi:Nat=>V.int i)) kp (ah _) ?_,rfl,q.at (I.hok.fresh (ah _))⟩;exact⟨by rw[ab,ax];exact cj F,B.toList,c',hv,by simpa using hg⟩⟩
end
def zj (m:Int):List Int:=(List.range m.toNat).map λi:Nat=>(i:Int)
def xV (q:List (List Int))(B:List Int):List (List Int):=q.flatMap λr=>B.map λw=>r++[w]
def yQ (cs:List (List Int)):List (List Int):=cs.foldl xV [[]]
def xf (cs:List (List Int))(c:List Int):yQ (cs++[c])=xV (yQ cs) c:=by
 unfold yQ
 simp_all
@[reducible] def stD (st:List Int):Dt:=.tup (st.map .int)
def ue:∀sts:List (List Int),Dt.noLs (sts.map stD)=true
 | []=>rfl
 | st::sts=>by show ((stD st).noL&&Dt.noLs (sts.map stD))=true;rw[ue sts,show (stD st).noL=true from zfz st];rfl
def zgz (sts:List (List Int)):(Dt.lst (sts.map stD)).eqOk:=by
 have e:∀sts:List (List Int),(Dt.toWs (sts.map stD)).all (PySem.W.kqdOk 7)=true:=by
  intro sts
  induction sts with
  | nil=>rfl
  | cons m B q=>simp only[aA,Dt.toWs,cl,q,show PySem.W.kqdOk 7 (stD m).toW=true from zmH m,cO]
 exact e sts
def zri (H:Hp)(xs:List V)(cs:List (List Int)):Prop:=xs.length=cs.length/\∀ (i:Nat) c,cs[i]?=some c->∃a,xs[i]?=some (.ref a)/\H a=some (.lst (c.map V.int))
def zdJ (K:PySem.W.Frag):Sp:=λvs H Q _=>∃ (q:Addr) (xs:List V) (cs:List (List Int)),vs=[.ref q]/\H q=some (.lst xs)/\zri H xs cs/\cs.length<=8/\(∀c∈cs,c.length<=4)/\
 ∀ (a:Addr) (ys:List V) (H':Hp),H a=none->H' a=some (.lst ys)->IsL H' ((yQ cs).map stD) ys->xm H H'->Q (.ref a) H'
def zb8 (q:List (List Int))(r B:List Int):xV (q++[r]) B=xV q B++B.map λw=>r++[w]:=by
 unfold xV
 simp_all
def uu (q:List (List Int))(B:List Int):(xV q B).length=q.length * B.length:=by
 unfold xV;rw[List.length_flatMap]
 induction q with
 | nil=>simp
 | cons r q D=>rw[aA,List.sum_cons,D,ab,a8,eU,Nat.add_comm]
def zdO:∀ (cs:List (List Int)) (q:List Int),q∈yQ cs->q.length=cs.length:=by
 intro cs
 have:∀ (n:Nat) (cs:List (List Int)),cs.length=n->∀q,q∈yQ cs->q.length=cs.length:=by
  intro n
  induction n with
  | zero=>
   intro cs h q B;have:cs=[]:=bm h;subst this;have:q=[]:=by simpa [yQ] using B
   simp_all
  | succ n F=>
   intro cs h q B;have D:cs≠[]:=by intro z;rw[z] at h;simp at h
   rw[<- bn D,xf] at B;unfold xV at B
   grind
 exact this cs.length cs rfl
def zoz:∀ (n:Nat) (cs:List (List Int)),cs.length=n->(∀c∈cs,c.length<=4)->(yQ cs).length<=4 ^ n:=by
 intro n
 induction n with
 | zero=>
  intro cs h _;have:cs=[]:=bm h;subst this;exact ah _
 | succ n D=>
  intro cs h B;have q:cs≠[]:=by intro z;rw[z] at h;simp at h
  rw[<- bn q,xf,uu,Nat.pow_succ];exact eC (D cs.dropLast (by grind) λc F=>B c ((List.dropLast_sublist cs).subset F)) (B _ (List.getLast_mem q))
def zhc {cs:List (List Int)}(D:cs.length<=8)(q:∀c∈cs,c.length<=4)(k:Nat):(yQ (cs.take k)).length<=65536:=by
 refine ar (zoz _ (cs.take k) rfl λc B=>q c (bR B)) ?_;have:(cs.take k).length<=8:=by rw[aQ];lia
 exact ar (cq (by decide) this) (by decide)
def zW (m:Int):(zj m).length=m.toNat:=by unfold zj;rw[ab,ax]
section
variable {X:Cx}{o:Expr}{to:TE}{apos cpos:Pos}
end
open PySem PySem.Spec PyProof.Rows PySem.W
inductive Run (ans:Nat->Nat->Bool) (n:Nat):{α:Type}->KasT α->α->Prop
 | ret {α:Type} (a:α):Run ans n (.ret a) a
 | ask {α:Type} {i j:Nat} {k:Bool->KasT α} {a:α} (hi:i<n) (hj:j<n) (h:Run ans n (k (ans i j)) a):Run ans n (.ask i j k) a
def Run.bind{α B:Type}{t:KasT α}{f:α->KasT B}{a:α}{b:B}(h:Run q n t a)(k:Run q n (f a) b):Run q n (t.bind f) b:=by
 induction h with
 | ret a=>exact k
 | ask hi D _ F=>exact .ask hi D (F k)
def Run.wp{q:Nat->Nat->Bool}{α:Type}{t:KasT α}{a:α}(h:Run q n t a){B:Nat->Nat->(Bool->Shared->Prop)->Shared->Prop}{S:Shared->Prop}{Q:α->Shared->Prop}(I:∀i j C s,i<n->j<n->S s->(∀s',S s'->C (q i j) s')->B i j C s)(F:∀s,S s->Q a s):∀s,S s->KasT.kasWp B t Q s:=by
 induction h with
 | ret a=>intro s D;rw[KasT.kasWp.eq_1];exact F s D
 | ask hi J _ L=>
  intro s D;rw[KasT.kasWp.eq_2]
  simp_all
section
variable {n:Nat}{f:Nat->Int}
def zf6 (f:Nat->Int)(i j:Nat):Bool:=decide (f i<f j)
def key (f:Nat->Int)(p:Array Nat)(k:Nat):Int:=f (p.getD k 0)
structure Up (n:Nat)(f:Nat->Int)(p:Array Nat)(m:Nat):Prop where
 perm:p.Perm (List.range n).toArray
 le:m<=n
 up:∀k,k+1<m->key f p k<key f p (k+1)
def uw {p:Array Nat}(h:p.Perm (List.range n).toArray):p.size=n:=by have:=h.size_eq;simpa using this
def yF{p:Array Nat}(h:p.Perm (List.range n).toArray)(B:k<n):p.getD k 0<n:=by
 have D:=uw h
 have q:p.getD k 0∈p:=by simp_all
 have:=(h.mem_iff).mp q;simpa using this
def Up.lt_of(h:Up n f p m):∀ {i j:Nat},i<j->j<m->key f p i<key f p j:=by
 intro i j
 induction j with
 | zero=>intro D;lia
 | succ j F=>
  intro q B;have h1:=h.up j B
  grind
def zga (p:Array Nat)(q:p.Perm (List.range n).toArray):∀ (g x:Nat),1<=x->x+g<=n->∃m,Run (zf6 f) n (kas_asc p g x) m/\x<=m/\m<=x+g/\(∀k,x<=k->k<m->¬ key f p k<key f p (k - 1))/\(m<x+g->key f p m<key f p (m - 1))
 | 0,x,_,_=>⟨x,by rw[kas_asc.eq_1];exact .ret _,ah _,ah _,by grind,λh=>by lia⟩
 | g+1,x,J,L=>by
  rw[kas_asc.eq_2];by_cases B:key f p x<key f p (x - 1)
  ·refine⟨x,.ask (yF q (by lia)) (yF q (by lia)) ?_,ah _,by lia,by grind,λ_=>B⟩;rw[show zf6 f (p.getD x 0) (p.getD (x - 1) 0)=true from aY B,if_pos rfl];exact .ret _
  ·obtain⟨m,h1,h2,O,D,F⟩:=zga p q g (x+1) (by lia) (by lia);refine⟨m,.ask (yF q (by lia)) (yF q (by lia)) ?_,by lia,by lia,λk U I=>?_,λh=>F (by lia)⟩
   ·rw[show zf6 f (p.getD x 0) (p.getD (x - 1) 0)=false from aX B,if_neg aH];exact h1
   ·by_cases e:k=x
    ·subst e;exact B
    ·exact D k (by lia) I
def zb3 (n:Nat)(f:Nat->Int):Prop:=∀i j,i<n->j<n->f i=f j->i=j
def zhD (I:zb3 n f){p:Array Nat}(q:p.Perm (List.range n).toArray){i j:Nat}(hi:i<n)(J:j<n)(B:i≠j):key f p i≠key f p j:=by
 intro e;have F:=I _ _ (yF q hi) (yF q J) e;have O:=uw q
 have D:p.toList.Nodup:=by
  have:p.toList.Perm (List.range n):=by have:=q.toList;simpa using this
  exact this.nodup_iff.mpr dG
 rw[bO,bO,bF (by lia),bF (by lia)] at F;have L:p.toList[i]'(by simp_all)=p.toList[j]'(by simp_all):=by simpa using F
 exact B ((b4 D).mp L)
def zhm (F:zb3 n f)(p:Array Nat)(q:p.Perm (List.range n).toArray):∀ (g x:Nat),1<=x->x+g<=n->∃m,Run (zf6 f) n (kas_desc g p x 0) (p,m,0)/\x<=m/\m<=x+g/\(∀k,x<=k->k<m->key f p k<key f p (k - 1))
 | 0,x,_,_=>⟨x,by rw[kas_desc.eq_1];exact .ret _,ah _,ah _,by grind⟩
 | g+1,x,O,U=>by
  rw[kas_desc.eq_2];by_cases B:key f p x<key f p (x - 1)
  ·obtain⟨m,h1,h2,Y,I⟩:=zhm F p q g (x+1) (by lia) (by lia);refine⟨m,.ask (yF q (by lia)) (yF q (by lia)) ?_,by lia,by lia,λk Z J=>?_⟩
   ·rw[show zf6 f (p.getD x 0) (p.getD (x - 1) 0)=true from aY B,if_pos rfl,if_neg (by lia)];exact h1
   ·by_cases e:k=x
    ·subst e;exact B
    ·exact I k (by lia) J
  ·have L:=zhD F q (i:=x) (j:=x - 1) (by lia) (by lia) (by lia);have D:key f p (x - 1)<key f p x:=by lia
   refine⟨x,.ask (yF q (by lia)) (yF q (by lia)) ?_,ah _,by lia,by grind⟩;rw[show zf6 f (p.getD x 0) (p.getD (x - 1) 0)=false from aX B,if_neg aH];refine .ask (yF q (by lia)) (yF q (by lia)) ?_;rw[show zf6 f (p.getD (x - 1) 0) (p.getD x 0)=true from aY D,if_pos rfl];exact .ret _
def zkj(q:j<=p.size)(k:Nat):key f (kas_rev p 0 j) k=if k<j then key f p (j - 1 - k) else key f p k:=by
 unfold key kas_rev;rw[bO,getElem?_mirror_all q];by_cases h:k<j
 ·simp_all
 ·rw[if_neg (λz=>h z.2),if_neg h,bO]
def znm(q:p.Perm (List.range n).toArray)(j:Nat):(kas_rev p 0 j).Perm (List.range n).toArray:=(mirror_perm p 0 j _).trans q
def zjb (J:zb3 n f)(hn:2<=n)(p:Array Nat)(B:p.Perm (List.range n).toArray):∃ (m:Nat) (q:Array Nat),Run (zf6 f) n (kas_count n p) (m,q)/\1<=m/\Up n f q m:=by
 have hs:=uw B;obtain⟨m,h1,h2,h3,h4,h5⟩:=zga (f:=f) p B (n - 1) 1 (ah _) (by lia)
 have D:Up n f p m:=⟨B,by lia,λk L=>by have O:=h4 (k+1) (by lia) L;rw[en] at O;have:=zhD J B (i:=k) (j:=k+1) (by lia) (by lia) (by lia);lia⟩
 unfold kas_count;by_cases ac:m=n
 ·refine⟨m,p,h1.bind ?_,h2,D⟩;rw[if_pos (by simp_all)];exact .ret _
 ·by_cases I:m > 1
  ·refine⟨m,p,h1.bind ?_,h2,D⟩;rw[if_neg (by simp_all),if_pos I];refine .ask (yF B (by lia)) (yF B (by lia)) ?_;have U:key f p 0<key f p (m - 1):=D.lt_of (by lia) (by lia);rw[show zf6 f (p.getD 0 0) (p.getD (m - 1) 0)=true from aY U,if_pos rfl];exact .ret _
  ·have em:m=1:=by lia
   subst em;have Y:=h5 (by lia);obtain⟨d,g1,g2,g3,g4⟩:=zhm J p B (n - 2) 2 (by lia) (by lia);have F:=znm B d;obtain⟨m2,a1,a2,a3,a4,_⟩:=zga (f:=f) (kas_rev p 0 d) F (n - d) d (by lia) (by lia);refine⟨m2,kas_rev p 0 d,h1.bind ?_,by lia,⟨F,by lia,λk L=>?_⟩⟩
   ·rw[if_neg (by simp_all),if_neg I];unfold kas_descPart;refine Run.bind (a:=(p,d,0)) g1 ?_;rw[if_neg (by simp)];unfold kas_tail3;exact Run.bind a1 (.ret _)
   ·by_cases Z:k+1<d
    ·rw[zkj (by lia),zkj (by lia),if_pos (by lia),if_pos Z];have e:d - 1 - k=(d - 1 - (k+1))+1:=by lia
     rw[e];by_cases e0:d - 1 - (k+1)=0
     ·rw[e0];exact Y
     ·have:=g4 (d - 1 - (k+1)+1) (by lia) (by lia)
      simp_all
    ·have O:=a4 (k+1) (by lia) L;rw[en] at O;have:=zhD J F (i:=k) (j:=k+1) (by lia) (by lia) (by lia);lia
def zcG (p:Array Nat)(B:p.Perm (List.range n).toArray)(k:Nat)(F:k<n):∀ (g l r:Nat),r<=k->l<=r->r - l<=g->(∀i,i<l->¬ key f p k<key f p i)->(∀i,r<=i->i<k->key f p k<key f p i)->
  (∀i j,i<j->j<k->key f p i<key f p j)->
  ∃m,Run (zf6 f) n (kas_place p k g l r) m/\m<=k/\(∀i,i<m->¬ key f p k<key f p i)/\(∀i,m<=i->i<k->key f p k<key f p i)
 | 0,l,r,h1,h2,h3,I,J,_=>⟨l,by rw[kas_place.eq_1];exact .ret _,by lia,I,λi hi=>J i (by lia)⟩
 | g+1,l,r,h1,h2,h3,I,J,q=>by
  rw[kas_place.eq_2];by_cases D:l ≥ r
  ·refine⟨l,?_,by lia,I,λi hi=>J i (by lia)⟩;rw[if_pos D];exact .ret _
  ·rw[if_neg D];by_cases L:key f p k<key f p ((l+r) / 2)
   ·obtain⟨m,O,g2,U,Y⟩:=zcG p B k F g l ((l+r) / 2) (by lia) (by lia) (by lia) I (λi hi Z=>by
     by_cases e:i=(l+r) / 2
     ·rw[e];exact L
     ·have:=q ((l+r) / 2) i (by lia) Z;lia) q
    refine⟨m,.ask (yF B F) (yF B (by lia)) ?_,g2,U,Y⟩;rw[show zf6 f (p.getD k 0) (p.getD ((l+r) / 2) 0)=true from aY L,if_pos rfl];exact O
   ·obtain⟨m,O,g2,U,Y⟩:=zcG p B k F g ((l+r) / 2+1) r h1 (by lia) (by lia) (λi hi=>by
     by_cases e:i=(l+r) / 2
     ·rw[e];exact L
     ·have:=q i ((l+r) / 2) (by lia) (by lia);lia) J q
    refine⟨m,.ask (yF B F) (yF B (by lia)) ?_,g2,U,Y⟩;rw[show zf6 f (p.getD k 0) (p.getD ((l+r) / 2) 0)=false from aX L,if_neg aH];exact O
def zdt {p:Array Nat}{q d:Nat}(h1:q<p.size)(h2:d<=q)(k:Nat):key f (bubble p q d) k=if k=q - d then key f p q else if q - d<k/\k<=q then key f p (k - 1) else key f p k:=by
 unfold key;simp only[bO];rw[getElem?_bubble h1 d h2]
 grind
def zi2 (I:zb3 n f):∀ (g k:Nat) (p:Array Nat),k+g=n->Up n f p k->∃q,Run (zf6 f) n (kas_bin g p k) q/\Up n f q n
 | 0,k,p,L,h=>by
  have e:k=n:=by lia
  rw[e] at h;exact⟨p,by rw[kas_bin.eq_1];exact .ret _,h⟩
 | g+1,k,p,L,h=>by
  have hs:=uw h.perm;obtain⟨l,O,r2,U,r4⟩:=zcG (f:=f) p h.perm k (by lia) k 0 k (ah _) (aJ _) (by lia) (λi hi=>by lia) (λi h1 h2=>by lia) (λi j B Y=>h.lt_of B Y)
  have D:Up n f (bubble p k (k - l)) (k+1):=by
   refine⟨(bubble_perm p k (k - l)).trans h.perm,by lia,λi hi=>?_⟩;rw[zdt (by lia) (by lia),zdt (by lia) (by lia)];have F:k - (k - l)=l:=by lia
   rw[F];by_cases Z:i=l
   ·grind
   ·rw[if_neg Z];by_cases e2:l<i
    ·rw[if_pos (by lia),if_neg (by lia),if_pos (by lia),en];exact h.lt_of (by lia) (by lia)
    ·rw[if_neg (by lia)];by_cases J:i+1=l
     ·rw[if_pos J];have h1:=U i (by lia);have h2:=zhD I h.perm (i:=i) (j:=k) (by lia) (by lia) (by lia);lia
     ·rw[if_neg J,if_neg (by lia)];exact h.lt_of (by lia) (by lia)
  obtain⟨q,q1,q2⟩:=zi2 I g (k+1) (bubble p k (k - l)) (by lia) D;refine⟨q,?_,q2⟩;rw[kas_bin.eq_2];exact Run.bind O q1
def zh2 (B:zb3 n f)(F:2<=n):∃q,Run (zf6 f) n (kas_sort n) q/\Up n f q n:=by
 obtain⟨m,p,h1,h2,D⟩:=zjb B F (List.range n).toArray (Array.Perm.refl _);unfold kas_sort;by_cases I:m<n
 ·obtain⟨q,L,J⟩:=zi2 B (n - m) m p (by lia) D;refine⟨q,Run.bind h1 ?_,J⟩
  grind
 ·have e:m=n:=by have:=D.le;lia
  refine⟨p,Run.bind h1 ?_,by lia⟩;rw[if_neg I];exact .ret _
end
open PySem PySem.Spec PyProof.Rows
def zeb {prog:Program}{w:World}{A:Around}{s:Shared}{b:Bool}{Q:Bool->Shared->Prop}:∀ {ns B:List Int} {xs ys:List Value} (i:Nat),yb (ns.map V.int) xs->yb (B.map V.int) ys->ns.length=B.length->Q (HT.lexLt ns B) s->W.KatLex prog w A b false Q (xs.zip ys) i s
 | [],[],_,_,i,F,I,_,q=>by cases F;cases I;exact W.kat_nil q
 | [],_::_,_,_,_,_,_,h,_=>by simp at h
 | _::_,[],_,_,_,_,_,h,_=>by simp at h
 | a::ns,c::B,_,_,i,F,I,O,q=>by
  cases F with
  | cons U J=>
   cases I with
   | cons Y L=>
    obtain⟨t,rfl⟩:=U;obtain⟨u,rfl⟩:=Y;rw[List.zip_cons_cons];have D:Q (if a=c then HT.lexLt ns B else decide (a<c)) s:=q;refine W.kat_cons (wpAny_eqBool_int ?_);by_cases e:a=c
    ·rw[show (a==c)=true from by lia];rw[if_pos e] at D;exact W.kat_yes (zeb (i+1) J L (by simpa using O) D)
    ·rw[show (a==c)=false from beq_false_of_ne e];rw[if_neg e] at D;refine W.kat_no ?_
     cases (b&&i==0) with
     | true=>exact oneLt_int D
     | false=>exact W.kat_one _ _ (P.lt_int D)
def y8:∀s:List Int,HT.lexLt s s=false
 | []=>rfl
 | a::s=>by show (if a=a then HT.lexLt s s else _)=false;rw[if_pos rfl];exact y8 s
def za1:∀ {a b c:List Int},a.length=b.length->b.length=c.length->HT.lexLt a b=true->HT.lexLt b c=true->HT.lexLt a c=true
 | [],[],[],_,_,h,_=>h
 | x::a,y::b,z::c,h1,h2,I,J=>by
  have q:(if x=y then HT.lexLt a b else decide (x<y))=true:=I;have B:(if y=z then HT.lexLt b c else decide (y<z))=true:=J;show (if x=z then HT.lexLt a c else decide (x<z))=true;by_cases D:x=y
  ·by_cases F:y=z
   ·rw[if_pos D] at q;rw[if_pos F] at B;rw[if_pos (D.trans F)];exact za1 (by simpa using h1) (by simpa using h2) q B
   ·grind
  ·grind
 | [],_::_,_,h,_,_,_=>by simp at h
 | _::_,[],_,h,_,_,_=>by simp at h
 | [],[],_::_,_,h,_,_=>by simp at h
 | _::_,_::_,[],_,h,_,_=>by simp at h
def u8:∀ {a b:List Int},a.length=b.length->a=b\/HT.lexLt a b=true\/HT.lexLt b a=true
 | [],[],_=>.inl rfl
 | [],_::_,h=>by simp at h
 | _::_,[],h=>by simp at h
 | x::a,y::b,h=>by
  show _\/(if x=y then HT.lexLt a b else decide (x<y))=true\/(if y=x then HT.lexLt b a else decide (y<x))=true;by_cases e:x=y
  ·subst e;rw[if_pos rfl,if_pos rfl];rcases u8 (a:=a) (b:=b) (by simpa using h) with h1 | h1 | h1
   all_goals simp_all
  ·rw[if_neg e,if_neg (Ne.symm e)];rcases Int.lt_or_gt_of_ne e with h1 | h1
   all_goals simp_all
def zhi {α:Type}{p q:α->Bool}:∀ {l:List α},(∀x∈l,p x=true->q x=true)->(∃x∈l,p x=false/\q x=true)->l.countP p<l.countP q
 | [],_,h=>by simp_all
 | y::l,h,k=>by
  have I:l.countP p<=l.countP q:=List.countP_mono_left λx B D=>h x (ao _ B) D;rw[List.countP_cons,List.countP_cons];obtain⟨x,B,D,F⟩:=k;rcases aK.mp B with rfl | B
  ·rw[D,F];simp;lia
  ·have L:=zhi (l:=l) (λz J=>h z (ao _ J)) ⟨x,B,D,F⟩
   grind
def zct (sts:List (List Int))(i:Nat):Int:=(sts.countP λc=>HT.lexLt c (sts.getD i [])  : Nat)
def xy{sts:List (List Int)}(q:∀st∈sts,st.length=m)(hi:i<sts.length)(F:j<sts.length):decide (zct sts i<zct sts j)=HT.lexLt (sts.getD i []) (sts.getD j []):=by
 have I:sts.getD i []∈sts:=by rw[bt,aj hi];exact cg hi
 have J:sts.getD j []∈sts:=by rw[bt,aj F];exact cg F
 have L:∀ {a b:List Int},a∈sts->b∈sts->HT.lexLt a b=true->(sts.countP λc=>HT.lexLt c a)<(sts.countP λc=>HT.lexLt c b):=λ{a b} D O B=>
  zhi (λx U Y=>za1 ((q x U).trans (q a D).symm) ((q a D).trans (q b O).symm) Y B) ⟨a,D,y8 a,B⟩
 unfold zct;generalize sts.getD i []=a at I;generalize sts.getD j []=b at J;rcases u8 (a:=a) (b:=b) ((q a I).trans (q b J).symm) with h | h | h
 ·subst h;rw[y8]
  simp_all
 all_goals grind
def zbc (h:Heap)(L:Addr):List (Addr×Obj):=(List.range h.objs.size).filterMap λb=>if b=L then none else (h.get? b).map λo=>(b,o)
def z3:(b,o)∈zbc h L↔b≠L/\h.get? b=some o:=by
 unfold zbc;rw[cJ];constructor
 ·rintro⟨c,D,e⟩;by_cases q:c=L
  ·simp_all
  ·rw[if_neg q] at e;obtain⟨o',B,F⟩:=aE.mp e
   grind
 ·rintro⟨q,B⟩;exact⟨b,aM.mpr (aD B),by simp_all⟩
def zsp {h:Heap}{L:Addr}{m q:Str->Option Value}(a:h.Ns L m)(b:h.Ns L q):m=q:=by
 obtain⟨o,es,O,U,Y,Z,hf⟩:=a;obtain⟨o',es',B,D,F,I,J⟩:=b
 grind
section
variable {X:Cx}
def za4(x:y0 P w H h a o):∃u,h.get? a=some u:=by
 cases o with
 | lst xs=>obtain⟨_,_,_,_,e⟩:=x;exact⟨_,e⟩
 | tup xs=>obtain⟨_,_,_,p⟩:=x;obtain⟨o,e,_⟩:=p;exact⟨o,e⟩
 | dK kvs=>obtain⟨_,_,_,_,o,_,_,e,_⟩:=x;exact⟨_,e⟩
 | dT kvs=>obtain⟨_,_,_,_,o,_,_,e,_⟩:=x;exact⟨_,e⟩
 | set S n=>obtain⟨o,_,_,_,e,_⟩:=x;exact⟨_,e⟩
 | ins C dx fs=>obtain⟨_,_,_,e,_⟩:=x;exact⟨_,e⟩
 | own y=>exact x
 | xd fs=>obtain⟨_,⟨_,_,_,e,_⟩,_⟩:=x;exact⟨_,e⟩
 | met f y=>exact⟨_,x⟩
 | rng lo hi=>obtain⟨_,_,_,e⟩:=x;exact⟨_,e⟩
 | frz o u=>obtain⟨e,_⟩:=x;exact⟨_,e⟩
 | tbl ps=>exact⟨_,x⟩
 | ext q=>obtain⟨_,e,_⟩:=x;exact e
def zd6{pins:List (Addr×Obj)}{σ:St}{H:Hp}{s:Shared}(I:Inv X pins σ H s)(hm:s.heap.Ns X.env.locals m){h':Heap}{D:Addr}{ys:List V}{its:List Value}(U:∀b o,b≠X.env.locals->s.heap.get? b=some o->h'.get? b=some o)(J:h'.Ns X.env.locals m)(Y:s.heap.get? D=none)(L:H D=none)(ho:h'.get? D=some { cls:=.type "list",data:=.seq its.toArray c })(hv:yb ys its)(hz:ys.length<=sizeLine)(tk:Nat):Inv X pins σ (upd H D (.lst ys)) { s with heap:=h',toks:=tk }:=by
 have nD:∀b o,s.heap.get? b=some o->b≠D:=λb o e z=>by rw[z,Y] at e;cases e
 have nL:∀b u,H b=some u->b≠X.env.locals:=λb u e=>zd e I.free;refine Inv.step (ch:=[]) (g':=s.gens) (d':=s.drawn) (t':=tk) I (λb F=>by simp at F) (λb o h1 _ _ B _=>U b o h1 B) (λb o h1 _ _ B _=>⟨o.slots,U b o h1 B⟩) (λb o _ B h5=>by rw[zi (nD b o B)];exact h5) (λb o _ B=>?_) (λb ys q=>by rw[zi (zd q L)];exact q) (λb o u q=>by rw[zi (zd q L)];exact q) (λb ps q=>⟨#[],by rw[zi (zd q L),eo];exact q⟩) (λm' Z=>by rw[<- zsp hm Z];exact J) (λb u F=>?_) I.bare
 ·by_cases hL:b=X.env.locals
  ·obtain⟨o',_,_,h1,_⟩:=J
   simp_all
  ·exact⟨o,U b o hL B⟩
 ·by_cases O:b=D
  ·subst O;rw[zk] at F;cases F;exact⟨hz,its,c,hv,ho⟩
  ·rw[zi O] at F;refine (I.hok b u F).stay (λc v ac q=>U c v ?_ q) (λc q=>by rw[zi (zd q L)];exact q) (λc ys q=>by rw[zi (zd q L)];exact q)
   grind
def zgW {pins:List (Addr×Obj)}{σ:St}{H:Hp}{s:Shared}(I:Inv X pins σ H s):∀ {sts:List (List Int)} {vs:List V} {its:List Value},IsL H (sts.map stD) vs->yb vs its->∀ {i:Nat},i<sts.length->∃ (a:Addr) (q:List Value),vs.getD i .non = .ref a/\its.getD i .none = .ref a/\IsTup s.heap a q.toArray/\yb ((sts.getD i []).map V.int) q/\a≠X.env.locals
 | [],_,_,_,_,i,hi=>by simp at hi
 | st::sts,_,_,h,F,i,hi=>by
  obtain⟨x,r,rfl,⟨a,xs,rfl,D,B⟩,J⟩:=h;obtain rfl:=B.of_ints
  cases F with
  | cons L O=>
   cases L
   cases i with
   | zero=>
    obtain⟨q,U,Y,_⟩:=I.tuple (.of D);exact⟨a,q,rfl,rfl,Y,U,zd D I.free⟩
   | succ i=>
    obtain⟨Z,q,e1,e2,e3,e4,e5⟩:=zgW I (sts:=sts) J O (i:=i) (by simpa using hi);exact⟨Z,q,by simpa using e1,by simpa using e2,e3,by simpa using e4,e5⟩
def zlC {pins:List (Addr×Obj)}{σ:St}{H:Hp}{s:Shared}(I:Inv X pins σ H s){h':Heap}(L:∀b o,b≠X.env.locals->s.heap.get? b=some o->h'.get? b=some o):∀ {sts:List (List Int)} {vs:List V} {its:List Value},IsL H (sts.map stD) vs->yb vs its->(∀st∈sts,1<=st.length)->∃fs,W.KatTups h' its fs/\fs.length=sts.length/\∀f∈fs,∃a t,f = .int a t
 | [],_,_,h,q,_=>by cases h;cases q;exact⟨[],trivial,rfl,λ_ h=>by simp at h⟩
 | st::sts,_,_,h,q,h1=>by
  obtain⟨x,r,rfl,⟨a,xs,rfl,O,B⟩,Y⟩:=h;obtain rfl:=B.of_ints
  cases q with
  | cons Z rr=>
   cases Z;obtain⟨D,F,pt,_⟩:=I.tuple (.of O);obtain⟨o,ho,hc,n,hd⟩:=pt;obtain⟨fs,f1,f2,f3⟩:=zlC I L (sts:=sts) Y rr λz hz=>h1 z (ao _ hz);have J:=h1 st ak
   match st,F,J with
   | z::zs,F,_=>
    cases F with
    | cons q1 qq=>
     obtain⟨t,rfl⟩:=q1;refine⟨_::fs,⟨⟨a,o,_,n,rfl,L a o (zd O I.free) ho,hc,hd,rfl⟩,f1⟩,by simp_all,λf U=>?_⟩;rcases aK.mp U with rfl | U
     all_goals simp_all
def zti:List V->Hp->VK->Prop:=λxs H Q=>∃ (l:Addr) (vs:List V) (sts:List (List Int)) (m:Nat),xs=[.ref l]/\H l=some (.lst vs)/\IsL H (sts.map stD) vs/\2<=sts.length/\sts.length<64/\1<=m/\(∀st∈sts,st.length=m)/\sts.Nodup/\
 ∀ (ys:List V) (q:List (List Int)),IsL H (q.map stD) ys->q.Perm sts->(q.Pairwise λa b=>HT.lexLt a b=true)->New H (.lst ys) Q
def zhy {H:Hp}{sts:List (List Int)}{vs:List V}(h:IsL H (sts.map stD) vs):∀ {p:List Nat},(∀i∈p,i<sts.length)->IsL H ((p.map λi=>sts.getD i []).map stD) (p.map λi=>vs.getD i .non)
 | [],_=>rfl
 | i::p,q=>by
  have hi:=q i ak;obtain⟨x,D,F⟩:=h.getD (i:=i) (d:=stD (sts.getD i [])) (by simp[hi]);refine⟨vs.getD i .non,_,rfl,?_,zhy h λj B=>q j (ao _ B)⟩
  simp_all
def zf3(h:yb vs its):∀ (p:List Nat),(∀i∈p,i<vs.length)->yb (p.map λi=>vs.getD i .non) (p.map λi=>its.getD i .none)
 | [],_=>.nil
 | i::p,q=>by
  have hi:=q i ak;obtain⟨u,D,F⟩:=h.get (i:=i) (x:=vs[i]) (aj hi);refine .cons ?_ (zf3 h p λj B=>q j (ao _ B))
  simp_all
def zbx {α:Type}(d:α)(l:List α):(List.range l.length).map (λi=>l.getD i d)=l:=by refine cW (by simp) λi h1 h2=>?_;simp[h2]
def zmi:CallQ X (.builtin "sorted") zti:=⟨by
 intro pins s σ H xs us Q I r h;obtain⟨l,vs,sts,m,rfl,hl,B,h2,b3,ap,hm,as,q⟩:=h;obtain⟨u,rfl,ru⟩:=zaM r;cases ru;obtain⟨its,rv,pl,hz⟩:=I.list (.of hl);have av:=B.length;rw[ab] at av;have b5:=rv.length;obtain⟨m0,ad,_⟩:=id I.loc;refine W.kat_sorted (h₀:=(⟨#[],{}⟩:Heap)) (L:=X.env.locals) (m:=m0) (news:=zbc s.heap X.env.locals) ⟨ad,λb o e=>?_,aJ _⟩ (λp hp=>?_) pl.isList (by lia) (by lia) λD e1 h' F N O=>?_
 ·have:=aD e;simp at this
 ·obtain⟨b,o⟩:=p;have:=z3.mp hp;refine⟨this.2,this.1,?_⟩
  cases e:(⟨#[],{}⟩:Heap).get? b with
  | none=>rfl
  | some o'=>
   have:=aD e;simp at this
 ·have kp:∀b o,b≠X.env.locals->s.heap.get? b=some o->h'.get? b=some o:=λb o hb e=>(N (b,o) (ao _ (z3.mpr ⟨hb,e⟩))).1;obtain⟨fs,k1,k2,k3⟩:=zlC I kp B rv λst a0=>by rw[hm st a0];exact ap
  refine W.kat_kind (T:=.type "int") (s:={ s with heap:=h' }) k1 (by lia) (λf hf=>?_) (by decide) ?_
  ·obtain⟨a,t,rfl⟩:=k3 f hf;intro A' Q' E' s' _ hq;exact db (eV s' a t) hq
  ·have hu:zb3 sts.length (zct sts):=λi j hi J e=>by
    have e1:=xy hm hi J;have e2:=xy hm J hi;rw[e,aX (eL _)] at e1;rw[e,aX (eL _)] at e2;have gi:sts.getD i []=sts[i]:=by simp[hi]
    have gj:sts.getD j []=sts[j]:=by simp[J]
    rcases u8 (a:=sts.getD i []) (b:=sts.getD j []) (by simp_all) with h | h | h
    ·rw[gi,gj] at h;exact (b4 as).mp h
    all_goals grind
   obtain⟨p,ag,U⟩:=zh2 hu h2;rw[show its.length=sts.length by lia];refine ag.wp (S:=λs'=>s'={ s with heap:=h' }) (λi j C s' hi J Y hC=>?_) (λs' Y=>?_) _ rfl
   ·subst Y;obtain⟨a1,a3,_,b1,c1,d1,f1⟩:=zgW I B rv hi;obtain⟨a2,a4,_,b2,c2,d2,f2⟩:=zgW I B rv J;obtain⟨o1,a5,_,n1,a7⟩:=c1;obtain⟨o2,bb,_,n2,bd⟩:=c2;show wpAny _ _ (keyLt' _ (its.getD i .none) (its.getD j .none)) C _ _;rw[b1,b2]
    have gi:(sts.getD i []).length=m:=by simp_all
    have gj:(sts.getD j []).length=m:=by simp_all
    have l1:=d1.length;have l2:=d2.length;rw[ab] at l1 l2;refine W.kat_lt (s:={ s with heap:=h' }) (kp _ _ f1 a5) a7 (kp _ _ f2 bb) bd ?_;rw[show decide (a3.toArray.size<a4.toArray.size)=false from aX (by simp;lia)];refine zeb 0 d1 d2 (by rw[gi,gj]) ?_;have:=hC { s with heap:=h' } rfl;rw[show zf6 (zct sts) i j=HT.lexLt (sts.getD i []) (sts.getD j []) from xy hm hi J] at this;exact this
   ·subst Y
    have Z:p.toList.Perm (List.range sts.length):=by have:=U.perm.toList;simpa using this
    have ac:∀i∈p.toList,i<sts.length:=λi hi=>aM.mp ((Z.mem_iff).mp hi);refine W.KasFin.intro F N (W.UpdF.head λq' bk=>?_) λbl c F'' N''=>?_
    ·exact aU (O q' bk)
    ·have bo:∀b o,b≠X.env.locals->s.heap.get? b=some o->bl.get? b=some o:=λb o hb e=>(N'' (b,o) (ao _ (z3.mpr ⟨hb,e⟩))).1;have bs:D≠X.env.locals:=(N'' (D,_) ak).2.1
     have bx:s.heap.get? D=none:=by
      cases e:s.heap.get? D with
      | none=>rfl
      | some o=>exact absurd (O (D,o) (z3.mpr ⟨bs,e⟩)) (bM _)
     have al:H D=none:=by
      cases e:H D with
      | none=>rfl
      | some o=>
       obtain⟨o',b6⟩:=za4 (I.hok D o e)
       grind
     have an:=(N'' (D,_) ak).1;have I':=zd6 I ad (ys:=p.toList.map λi=>vs.getD i .non) bo F''.ns bx al an (zf3 rv p.toList λi hi=>by simp_all) (by rw[ab,Z.length_eq,ax];exact cj (zcW (by lia))) s.toks;refine⟨.ref D,_,I',rfl,(q _ (p.toList.map λi=>sts.getD i []) (zhy B ac) ?_ ?_).at al⟩
     ·have:=Z.map λi=>sts.getD i [];rwa[zbx] at this
     ·have ca:p.size=sts.length:=uw U.perm;rw[bU];intro i j hi J b0;rw[ab,aT] at hi J;have hk:=U.lt_of b0 (by lia);rw[cF,cF,cR,cR];have e1:p.getD i 0=p[i]:=by simp[hi]
      have e2:p.getD j 0=p[j]:=by simp[J]
      unfold key at hk;rw[e1,e2] at hk;rw[<- xy hm (ac _ (by simp)) (ac _ (by simp))];exact aY hk⟩
end
open PySem PySem.Spec PySem.Calls PyProof.Rows PySem.W
def zah {prog:Program}{w:World}{A:Around}{E:Value->Shared->Prop}{s:Shared}{a:Addr}{vs:List Value}{n:Nat}{P:PySem.Fin->Shared->Prop}(ho:s.heap.get? a=some (seqObj "list" vs.toArray n))(h2:vs.length<2)
  (h:∀h' c,(∀b o,b≠a->s.heap.get? b=some o->h'.get? b=some o)->h'.get? a=some (seqObj "list" vs.toArray c)->P (.done (.ret .none)) { s with heap:=h' }) :
  wpAny (model prog w) A (Builtin.«list.sort» ⟨[.ref a],[]⟩) P E s:=by
 obtain⟨e1,ho1⟩:∃e1,(s.heap.update a (Obj.mapSeq λ_=>(#[]:Array Value))).get? a=some (seqObj "list" #[] e1):=⟨_,get?_update_seq ho λ_=>#[]⟩;rw[list_sort_plain];refine aa (listItems_at ho rfl ?_);refine aa (listUpdate_at ho rfl ?_ (by rw[aZ,bH];lia) (aJ _));refine aa (seqEpoch_at ho1 rfl ?_);refine aa (wpAny_newTuple ?_ (by show vs.length<=_;rw[bH];lia));refine aa (wpAny_newList ?_ (aJ _));refine bz ?_;show wpAny (model prog w) A _ P E { s with heap:=((s.heap.update a (Obj.mapSeq λ_=>(#[]:Array Value))).push (seqObj "tuple" vs.toArray 0)).push (seqObj "list" #[] 0) };dsimp only;have hn2:vs.toArray.size<2:=by rw[aZ];lia
 rw[if_pos hn2,if_pos hn2];refine aa (af ?_);refine aa (m:=(pure ():StateT SortSt _ _).run _) (af ?_)
 have hsnd:(arrOf (SortSt.mk' general' (vs.toArray.zip vs.toArray) #[] 7 none)).map (λx=>x.snd)=vs.toArray:=by show (vs.toArray.zip vs.toArray).map (λx=>x.snd)=vs.toArray;apply Array.toList_inj.mp;rw[Array.toList_map,Array.toList_zip];exact List.map_snd_zip (ah _)
 have ha:a<s.heap.objs.size:=aD ho;have g3:(((s.heap.update a (Obj.mapSeq λ_=>(#[]:Array Value))).push (seqObj "tuple" vs.toArray 0)).push (seqObj "list" #[] 0)).get? a=some (seqObj "list" #[] e1):=aq _ (aq _ ho1);refine aa (seqEpoch_at g3 rfl ?_);refine aa (listUpdate_at g3 rfl ?_ (aJ _) ?_)
 ·show wpAny _ _ _ _ _ _;dsimp only;rw[hsnd];simp only[bne_self_eq_false,aP,if_false];refine af (h _ _ (λb o hb e=>?_) (get?_update_seq g3 λ_=>vs.toArray));rw[dW _ _ _ _ hb];refine aq _ (aq _ ?_);rw[dW _ _ _ _ hb];exact e
 ·dsimp only;rw[hsnd,aZ,bH];lia
def zfU {prog:Program}{w:World}{A:Around}{E:Value->Shared->Prop}{s:Shared}{l:Addr}{vs:List Value}{Q:Value->Shared->Prop}(J:s.heap.IsList l vs.toArray)(h2:vs.length<2)
  (h:∀D h' c,(∀b o,s.heap.get? b=some o->h'.get? b=some o)->s.heap.get? D=none->h'.get? D=some (seqObj "list" vs.toArray c)->Q (.ref D) { s with heap:=h' }) :
  wpAny (model prog w) A (call (.builtin "sorted") [.ref l]) Q E s:=by
 refine Calls.call_function_entry kind_sorted plain_sorted entry_sorted (args_sorted1 _) ?_;unfold Builtin.«sorted»;refine aa (m:=checkCount "sorted" 1 1 _) (af ?_);refine aa (collect_list J ?_ (by rw[bH];lia));refine aa (wpAny_newList ?_ (by rw[bH];lia))
 have hsz:((s.heap.push (seqObj "list" #[] 0)).update s.heap.objs.size (Obj.mapSeq (·++vs.toArray))).objs.size=s.heap.objs.size+1:=by simp_all
 have F:(((s.heap.push (seqObj "list" #[] 0)).update s.heap.objs.size (Obj.mapSeq (·++vs.toArray))).push (seqObj "list" vs.toArray 0)).get? (s.heap.objs.size+1)=some (seqObj "list" vs.toArray 0):=by rw[<- hsz];exact aF _ rfl
 have I:∀b o,s.heap.get? b=some o->(((s.heap.push (seqObj "list" #[] 0)).update s.heap.objs.size (Obj.mapSeq (·++vs.toArray))).push (seqObj "list" vs.toArray 0)).get? b=some o:=λb o q=>by have B:b<s.heap.objs.size:=aD q;rw[Heap.get?_push_ne _ _ _ (by rw[hsz];exact aU (Nat.lt_succ_of_lt B)),dW _ _ _ _ (aU B),Heap.get?_push_ne _ _ _ (aU B)];exact q
 show wpAny _ _ _ _ _ { s with heap:=((s.heap.push (seqObj "list" #[] 0)).update s.heap.objs.size (Obj.mapSeq (·++vs.toArray))).push (seqObj "list" vs.toArray 0) };rw[hsz];refine aa (bz (bi slot_list_sort ⟨_,F,rfl⟩ entry_list_sort ?body (args_list_sort _)))
 case body=>
  refine zah (s:={ s with heap:=((s.heap.push (seqObj "list" #[] 0)).update s.heap.objs.size (Obj.mapSeq (·++vs.toArray))).push (seqObj "list" vs.toArray 0) }) F h2 λh' c L O=>?_;refine⟨_,rfl,af ⟨_,rfl,h _ _ _ (λb o e=>L b o (aU (Nat.lt_succ_of_lt (aD e))) (I b o e)) ?_ O⟩⟩;exact Heap.get?_none_of_le (dR _)
section
variable {X:Cx}
def zqw:List V->Hp->VK->Prop:=λxs H Q=>∃ (l:Addr) (vs:List V) (sts:List (List Int)) (m:Nat),xs=[.ref l]/\H l=some (.lst vs)/\IsL H (sts.map stD) vs/\sts.length<64/\1<=m/\(∀st∈sts,st.length=m)/\sts.Nodup/\
 ∀ (ys:List V) (q:List (List Int)),IsL H (q.map stD) ys->q.Perm sts->(q.Pairwise λa b=>HT.lexLt a b=true)->New H (.lst ys) Q
def zjd:CallQ X (.builtin "sorted") zqw:=⟨by
 intro pins s σ H xs us Q I r h;obtain⟨l,vs,sts,m,rfl,hl,B,L,O,hm,U,q⟩:=h;by_cases h2:2<=sts.length
 ·exact zmi.run _ _ _ _ _ _ _ I r ⟨l,vs,sts,m,rfl,hl,B,h2,L,O,hm,U,q⟩
 ·obtain⟨u,rfl,ru⟩:=zaM r;cases ru;obtain⟨its,rv,pl,hz⟩:=I.list (.of hl);have Y:=B.length;rw[ab] at Y;have ac:=rv.length;obtain⟨m0,F,_⟩:=id I.loc;refine zfU pl.isList (by lia) λD h' c kp Z hD=>?_
  have J:H D=none:=by
   cases e:H D with
   | none=>rfl
   | some o=>
    obtain⟨o',ad⟩:=za4 (I.hok D o e)
    grind
  have I':=zd6 I F (ys:=vs) (λb o _ e=>kp b o e) (by obtain⟨o,es,ep,g,k⟩:=F;exact⟨o,es,ep,kp _ _ g,k⟩) Z J hD rv (by grind) s.toks;refine⟨.ref D,_,I',rfl,(q _ sts B (List.Perm.refl _) ?_).at J⟩
  match sts,h2 with
  | [],_=>exact .nil
  | [_],_=>exact cC _ _
  | _::_::_,h2=>exact absurd (by simp) h2⟩
end
open PySem
def Ris (xs:Array Nat):Prop:=∀i j:Nat,i<j->j<xs.size->xs.getD i 0<xs.getD j 0
def zdQ {xs:Array Nat}(D:Ris xs){j:Nat}:∀ (B lo hi:Nat),lo<=hi->hi<=xs.size->hi - lo<=B->(∀i,i<lo->xs.getD i 0<j)->(∀i,hi<=i->i<xs.size->j<=xs.getD i 0)->
  ∃p,SetTable.below.go xs j B lo hi=p/\p<=xs.size/\(∀i,i<p->xs.getD i 0<j)/\(∀i,p<=i->i<xs.size->j<=xs.getD i 0)
 | 0,lo,hi,h1,h2,Y,F,I=>by
  have:lo=hi:=by lia
  subst this;exact⟨lo,rfl,h2,F,I⟩
 | B+1,lo,hi,h1,h2,Y,F,I=>by
  show ∃p,(if lo<hi then if xs.getD ((lo+hi) / 2) j<j then SetTable.below.go xs j B ((lo+hi) / 2+1) hi else SetTable.below.go xs j B lo ((lo+hi) / 2) else lo)=p/\_;by_cases O:lo<hi
  ·rw[if_pos O];have U:(lo+hi) / 2<xs.size:=by lia
   have e:xs.getD ((lo+hi) / 2) j=xs.getD ((lo+hi) / 2) 0:=by simp[U]
   rw[e];by_cases J:xs.getD ((lo+hi) / 2) 0<j
   ·rw[if_pos J];refine zdQ D B _ hi (by lia) h2 (by lia) (λi L=>?_) I;by_cases q:i=(lo+hi) / 2
    ·rw[q];exact J
    ·have:=D i ((lo+hi) / 2) (by lia) U;lia
   ·rw[if_neg J];refine zdQ D B lo _ (by lia) (by lia) (by lia) F (λi L Z=>?_);by_cases q:i=(lo+hi) / 2
    ·rw[q];lia
    ·have:=D ((lo+hi) / 2) i (by lia) Z;lia
  ·rw[if_neg O];have:lo=hi:=by lia
   subst this;exact⟨lo,rfl,h2,F,I⟩
def ut(q:Ris xs)(j:Nat):SetTable.below xs j<=xs.size/\(∀i,i<SetTable.below xs j->xs.getD i 0<j)/\(∀i,SetTable.below xs j<=i->i<xs.size->j<=xs.getD i 0):=by obtain⟨p,e,h⟩:=zdQ q (j:=j) xs.size 0 xs.size (aJ _) (ah _) (ah _) (λi h=>absurd h (cw _)) (λi h1 h2=>by lia);have B:SetTable.below xs j=p:=e;rw[B];exact h
def uk{xs:Array Nat}(h:xs[i]?=some j):i<xs.size/\xs.getD i 0=j:=by
 obtain⟨h1,h2⟩:=ce.mp h
 simp_all
def zgn{xs:Array Nat}(h:i<xs.size):xs[i]?=some (xs.getD i 0):=by simp[h]
def zl7(B:Ris xs)(h:xs[i]?=some j):SetTable.below xs j=i:=by
 obtain⟨h1,h2⟩:=uk h;obtain⟨I,D,F⟩:=ut B j;rcases b8 (SetTable.below xs j) i with q | q | q
 ·have:=F _ (ah _) (by lia);have:=B _ i q h1;lia
 ·exact q
 ·have:=D i q;lia
def zbg{t:SetTable}(q:Ris t.place)(h:t.place[i]?=some j):t.slot j = .live i:=by unfold SetTable.slot;rw[zl7 q h];simp[h]
def zlv {t:SetTable}(q:t.dummies = #[]){j:Nat}(h:∀i:Nat,t.place[i]?≠some j):t.slot j = .empty:=by
 unfold SetTable.slot
 have e:(t.place[SetTable.below t.place j]?==some j)=false:=by grind
 have B:SetTable.has t.dummies j=false:=by rw[q];rfl
 simp_all
def zqK {t:SetTable}(q:Ris t.place)(B:t.dummies = #[])(j:Nat):(t.slot j = .empty/\∀i:Nat,t.place[i]?≠some j)\/∃i,t.slot j = .live i/\t.place[i]?=some j:=by
 by_cases h:∃i:Nat,t.place[i]?=some j
 ·obtain⟨i,hi⟩:=h;exact .inr ⟨i,zbg q hi,hi⟩
 ·have h':∀i:Nat,t.place[i]?≠some j:=λi e=>h ⟨i,e⟩;exact .inl ⟨zlv B h',h'⟩
def tm (q:Nat):SetTable:=⟨q,#[],#[],0,true,0,true⟩
def stp (q:Nat)(h:Int):Nat->SetTable.Probe
 | 0=>(tm q).probeStart h
 | n+1=>(tm q).advance (stp q h n)
def wk (q:Nat)(h:Int)(n:Nat):Nat:=(stp q h n).j
def ziV (q:Nat)(p:SetTable.Probe):((tm q).advance p).dummy=p.dummy:=by unfold SetTable.advance;split <;> rfl
def zfY (q:Nat)(h:Int):∀n,(stp q h n).dummy=none
 | 0=>rfl
 | n+1=>by show ((tm q).advance _).dummy=none;rw[ziV,zfY q h n]
def zhb (q:Nat)(p:SetTable.Probe)(h:0<p.more):(tm q).advance p={ p with j:=p.j+1,more:=p.more - 1 }:=by unfold SetTable.advance;rw[if_pos h]
def zdN (q:Nat)(p:SetTable.Probe)(h:p.more=0):(tm q).advance p={ p with j:=(p.i * 5+1+p.perturb / 32) % (q+1),more:=SetTable.runEnd q ((p.i * 5+1+p.perturb / 32) % (q+1)) - (p.i * 5+1+p.perturb / 32) % (q+1),i:=(p.i * 5+1+p.perturb / 32) % (q+1),perturb:=p.perturb / 32 }:=by unfold SetTable.advance;rw[if_neg (by lia)];rfl
def lp (q:Nat)(h:Int):Nat->Nat×Nat
 | 0=>(SetTable.bits h % (q+1),SetTable.bits h)
 | n+1=>SetTable.leap q (lp q h n).1 (lp q h n).2
def zor (q i:Nat):SetTable.runEnd q i - i<=9:=by unfold SetTable.runEnd;split <;> lia
def zeJ (B:Nat)(h:Int){T i q:Nat}(e:stp B h T=⟨i,SetTable.runEnd B i - i,i,q,none⟩):∀k,k<=SetTable.runEnd B i - i->stp B h (T+k)=⟨i+k,SetTable.runEnd B i - i - k,i,q,none⟩
 | 0,_=>e
 | k+1,D=>by
  show (tm B).advance (stp B h (T+k))=_;rw[zeJ B h e k (by lia),zhb B _ (by lia)]
  grind
def zkk (q:Nat)(h:Int):∀k,∃T,T<=10 * k/\stp q h T=⟨(lp q h k).1,SetTable.runEnd q (lp q h k).1 - (lp q h k).1,(lp q h k).1,(lp q h k).2,none⟩
 | 0=>⟨0,ah _,rfl⟩
 | k+1=>by obtain⟨T,B,e⟩:=zkk q h k;have D:=zor q (lp q h k).1;refine⟨T+(SetTable.runEnd q (lp q h k).1 - (lp q h k).1)+1,by lia,?_⟩;show (tm q).advance (stp q h (T+_))=_;rw[zeJ q h e _ (ah _),zdN q _ (eS _)];rfl
def zdv (q:Nat)(h:Int):∀k,(lp q h k).2=SetTable.bits h / 32 ^ k
 | 0=>by show SetTable.bits h=_;simp
 | k+1=>by show (lp q h k).2 / 32=_;rw[zdv q h k,Nat.div_div_eq_div_mul,Nat.pow_succ]
def zoE (h:Int):SetTable.bits h<2 ^ 64:=by
 unfold SetTable.bits
 grind
def lcg (m i:Nat):Nat:=(i * 5+1) % m
def orb (m:Nat):Nat->Nat->Nat
 | 0,i=>i
 | k+1,i=>lcg m (orb m k i)
def zks (q:Nat)(h:Int):∀k,(lp q h (13+k)).1=orb (q+1) k (lp q h 13).1
 | 0=>rfl
 | k+1=>by
  show ((lp q h (13+k)).1 * 5+1+(lp q h (13+k)).2 / 32) % (q+1)=lcg (q+1) (orb (q+1) k _);rw[<- zks q h k,zdv];have B:=zoE h
  have e:SetTable.bits h / 32 ^ (13+k)=0:=by
   refine Nat.div_eq_of_lt (aO B ?_)
   calc 2 ^ 64<=32 ^ 13:=by decide
    _<=32 ^ (13+k):=cq (by decide) (by lia)
  rw[e];rfl
def zcF (m:Nat)(a:Nat):∀ (b i:Nat),orb m (a+b) i=orb m b (orb m a i)
 | 0,i=>rfl
 | b+1,i=>by show lcg m (orb m (a+b) i)=lcg m (orb m b _);rw[zcF m a b i]
def zq9 (m:Nat):Nat->Nat->List Nat
 | 0,_=>[]
 | n+1,i=>i::zq9 m n (lcg m i)
def zmW (m:Nat)(k i:Nat):orb m (k+1) i=orb m k (lcg m i):=by rw[Nat.add_comm,zcF];rfl
def zer (m:Nat):∀ (n i k:Nat),k<n->(zq9 m n i)[k]?=some (orb m k i)
 | n+1,i,0,_=>rfl
 | n+1,i,k+1,h=>by rw[zmW];exact zer m n (lcg m i) k (by lia)
def zhP (m:Nat):∀ (n i:Nat),(zq9 m n i).length=n
 | 0,_=>rfl
 | n+1,i=>by show (zq9 m n _).length+1=n+1;rw[zhP m n]
structure Ring (m:Nat):Prop where
 pos:0<m
 all:∀v,v<m->v∈zq9 m m 0
 back:orb m m 0=0
def Ring.reach(r:Ring m)(hi:i<m)(I:j<m):∃k,k<m/\orb m k i=j:=by
 obtain⟨a,D,L⟩:=bw.mp (r.all i hi);obtain⟨b,F,O⟩:=bw.mp (r.all j I);rw[zhP] at D F
 have q:orb m a 0=i:=by
  have:=zer m m 0 a D
  simp_all
 have B:orb m b 0=j:=by
  have:=zer m m 0 b F
  simp_all
 by_cases J:a<=b
 ·refine⟨b - a,by lia,?_⟩;rw[<- q,<- zcF,show a+(b - a)=b by lia];exact B
 ·refine⟨b+m - a,by lia,?_⟩;rw[<- q,<- zcF,show a+(b+m - a)=m+b by lia,zcF,r.back];exact B
def zto (m:Nat):Bool:=((List.range m).all λv=>(zq9 m m 0).contains v)&&orb m m 0==0
def zeB(q:0<m)(h:zto m=true):Ring m:=by
 unfold zto at h;rw[a6] at h;refine⟨q,λv B=>?_,dS h.2⟩
 simp_all
def zv6:Ring 8:=zeB (by decide) (by decide +kernel)
def ztn:Ring 32:=zeB (by decide) (by decide +kernel)
def zqA:Ring 128:=zeB (by decide) (by decide +kernel)
def zqB:Ring 512:=zeB (by decide) (by decide +kernel)
def znD(r:Ring (q+1))(h:Int)(B:j<=q):∃n,n<10 * SetTable.turns q/\wk q h n=j:=by have D:(lp q h 13).1<q+1:=eE _ (er _);obtain⟨k,I,e⟩:=r.reach D (eF B);obtain⟨T,J,F⟩:=zkk q h (13+k);refine⟨T,by unfold SetTable.turns;lia,?_⟩;show (stp q h T).j=j;rw[F];show (lp q h (13+k)).1=j;rw[zks,e]
open PySem PySem.Spec PyProof.Rows
def zqD {xs:Array Nat}(B:Ris xs){i j a b:Nat}(hi:xs[i]?=some a)(D:xs[j]?=some b)(h:a<b):i<j:=by
 obtain⟨h1,h2⟩:=uk hi;obtain⟨F,I⟩:=uk D;rcases b8 i j with q | q | q
 ·exact q
 ·subst q;lia
 ·have:=B j i q h1;lia
def zhX(q:Ris xs):∀ (M:Nat),(∀j,j<M->∃i:Nat,xs[i]?=some j)->∀ (j i:Nat),j<M->xs[i]?=some j->j<=i
 | _,_,0,_,_,_=>aJ _
 | M,h,j+1,i,F,e=>by obtain⟨D,B⟩:=h j (by lia);have h1:=zqD q B e (Nat.lt_succ_self j);have h2:=zhX q M h j D (by lia) B;lia
def zqC(q:Ris xs)(h:xs.size<M):∃j,j<M/\∀i:Nat,xs[i]?≠some j:=by refine bG λB=>?_;have all:∀j,j<M->∃i:Nat,xs[i]?=some j:=λj D=>bG λF=>B ⟨j,D,λi e=>F ⟨i,e⟩⟩;obtain⟨i,e⟩:=all (M - 1) (by lia);have h1:=zhX q M all (M - 1) i (by lia) e;have h2:=(uk e).1;lia
section
variable {t:SetTable}{hashAt:Nat->Int}{h:Int}
def zhT (D:Ris t.place)(F:t.dummies = #[]):∀ (q n:Nat),(∃N,n<=N/\N<n+q/\∀i:Nat,t.place[i]?≠some (wk t.mask h N))->
  ∃N,n<=N/\(∀m,n<=m->m<N->∃i,t.place[i]?=some (wk t.mask h m)/\hashAt i≠h)/\
   (((∀i:Nat,t.place[i]?≠some (wk t.mask h N))/\SetTable.probe.go t hashAt h q (stp t.mask h n)=some (.empty (wk t.mask h N) none))\/
    ∃i,t.place[i]?=some (wk t.mask h N)/\hashAt i=h/\SetTable.probe.go t hashAt h q (stp t.mask h n)=some (.candidate (wk t.mask h N) i (stp t.mask h (N+1))))
 | 0,n,⟨N,h1,h2,_⟩=>by lia
 | q+1,n,⟨N,h1,h2,I⟩=>by
  rcases zqK D F (wk t.mask h n) with ⟨e,hn⟩ | ⟨i,e,hi⟩
  ·refine⟨n,ah _,λm a b=>by lia,.inl ⟨hn,?_⟩⟩;show (match t.slot (wk t.mask h n) with | .empty=>some (SetTable.Met.empty (wk t.mask h n) (stp t.mask h n).dummy) | .dummy=>_ | .live i=>_)=_;rw[e,zfY]
  ·by_cases B:hashAt i=h
   ·refine⟨n,ah _,λm a b=>by lia,.inr ⟨i,hi,B,?_⟩⟩;show (match t.slot (wk t.mask h n) with | .empty=>_ | .dummy=>_ | .live i=>if hashAt i==h then some (SetTable.Met.candidate (wk t.mask h n) i (t.advance (stp t.mask h n))) else _)=_;rw[e];show (if (hashAt i==h)=true then _ else _)=_;rw[if_pos (beq_iff_eq.mpr B)];rfl
   ·have U:n≠N:=λz=>by subst z;exact I i hi
    obtain⟨N',Y,J,Z⟩:=zhT D F q (n+1) ⟨N,by lia,by lia,I⟩
    have e2:SetTable.probe.go t hashAt h (q+1) (stp t.mask h n)=SetTable.probe.go t hashAt h q (stp t.mask h (n+1)):=by show (match t.slot (wk t.mask h n) with | .empty=>_ | .dummy=>_ | .live i=>if hashAt i==h then _ else SetTable.probe.go t hashAt h q (t.advance (stp t.mask h n)))=_;rw[e];show (if (hashAt i==h)=true then _ else _)=_;rw[if_neg (λz=>B (beq_iff_eq.mp z))];rfl
    refine⟨N',by lia,λm b1 L=>?_,?_⟩
    ·by_cases O:m=n
     ·subst O;exact⟨i,hi,B⟩
     ·exact J m (by lia) L
    ·simp_all
end
section
variable {prog:Program}{w:World}
abbrev tk (prog:Program)(w:World):HeapKind prog w (List Key):=tupleKind (zX prog w)
def zuC (t:SetTable)(h:Int)(i:Nat):Prop:=∃n,n<10 * SetTable.turns t.mask/\t.place[i]?=some (wk t.mask h n)/\∀m,m<n->∃q:Nat,t.place[q]?=some (wk t.mask h m)
def zay (m:Nat):Prop:=m=7\/m=31\/m=127\/m=511
def zay.ring(h:zay m):Ring (m+1):=by
 rcases h with rfl | rfl | rfl | rfl
 ·exact zv6
 ·exact ztn
 ·exact zqA
 ·exact zqB
def zay.le(h:zay m):7<=m/\m<=511:=by rcases h with rfl | rfl | rfl | rfl <;> lia
def zay.odd(h:zay m):(m % 2==0)=false:=by rcases h with rfl | rfl | rfl | rfl <;> rfl
structure Tb (prog:Program)(w:World)(t:SetTable)(es:Array (Int×Value))(xs:List (List Key×Addr)):Prop where
 eq:es.toList=xs.map λq=>((tk prog w).hash q.1,Value.ref q.2)
 nd:(xs.map (·.1)).Nodup
 dm:t.dummies = #[]
 ris:Ris t.place
 le:∀ (i j:Nat),t.place[i]?=some j->j<=t.mask
 sz:t.place.size=xs.length
 msk:zay t.mask
 few:xs.length<=t.mask
 plain:t.plain=true
 led:t.led = !w.params.followText "set-order"
 reach:∀ (i:Nat) (q:List Key×Addr),xs[i]?=some q->zuC t ((tk prog w).hash q.1) i
variable {t:SetTable}{es:Array (Int×Value)}{xs:List (List Key×Addr)}
def Tb.size (T:Tb prog w t es xs):es.size=xs.length:=by rw[<- aT,T.eq,ab]
def Tb.get (T:Tb prog w t es xs){i:Nat}{q:List Key×Addr}(h:xs[i]?=some q):es[i]?=some ((tk prog w).hash q.1,Value.ref q.2):=by rw[<- Array.getElem?_toList,T.eq,aw,h];rfl
def Tb.at' (T:Tb prog w t es xs){i j:Nat}(h:t.place[i]?=some j):∃q,xs[i]?=some q:=by
 have:=(uk h).1;rw[T.sz] at this
 simp_all
def Tb.fits (T:Tb prog w t es xs):t.fits es.size=true:=by unfold SetTable.fits SetTable.fill;rw[T.size,T.sz,T.dm];have:=T.few;simp;lia
def Tb.empty (T:Tb prog w t es xs)(h:Int):∃N,N<10 * SetTable.turns t.mask/\∀i:Nat,t.place[i]?≠some (wk t.mask h N):=by have:=T.few;obtain⟨j,q,B⟩:=zqC T.ris (M:=t.mask+1) (by rw[T.sz];lia);obtain⟨N,h1,h2⟩:=znD T.msk.ring h (cx q);exact⟨N,h1,by rw[h2];exact B⟩
variable {A:Around}{E:Value->Shared->Prop}{s:Shared}
def zgc(h:(zX prog w).is k v=true):(∃i t,v = .int i t)\/∃x t,v = .str x t:=by
 rcases z6 h with ⟨i,t,_,e⟩ | ⟨x,t,_,e⟩
 ·exact .inl ⟨i,t,e⟩
 ·exact .inr ⟨x,t,e⟩
def zcp:∀ {ks:List Key} {vs:List Value},ItemsAre (zX prog w) ks vs->∀v∈vs,(∃i t,v = .int i t)\/∃x t,v = .str x t
 | _,_,.nil,v,h=>by simp at h
 | _,_,.cons h1 h2,v,h=>by
  rcases aK.mp h with rfl | h
  ·exact zgc h1
  ·exact zcp h2 v h
def zdw(J:(tk prog w).is s.heap k b)(h:Q false s):wpAny (model prog w) A (ofAClassStatement 8 (.ref b)) Q E s:=by
 have D:IsTupleKey (zX prog w) s.heap k b:=J;have L:=D.typeIs;obtain⟨o,B,n,O,_,U,hi⟩:=D;unfold ofAClassStatement;refine aa (db L ?_);dsimp only;rw[if_pos (by decide)];refine aa (af ?_);simp only[eM,aP,if_false];refine aa (wpAny_seqItems O U ?_);refine aa ?_;show wpAny _ _ (forIn B _ _) _ _ s;rw[<- Array.forIn_toList];refine eQ _ (λyf r s'=>r.1=none/\s'=s/\∀v∈yf,(∃i t,v=Value.int i t)\/∃x t,v=Value.str x t) _ ?_ ?_ _ _ ⟨rfl,rfl,zcp hi⟩
 ·rintro v yf r s' ⟨F,rfl,q⟩
  have e:ofAClassStatement 7 v=pure false:=by rcases q v ak with ⟨i,t,rfl⟩ | ⟨x,t,rfl⟩ <;> rfl
  rw[e];refine aa (af ?_);simp only[aP,if_false];exact af ⟨rfl,rfl,λu I=>q u (ao _ I)⟩
 ·rintro⟨Y,Z⟩ s' ⟨F,rfl,_⟩;simp only at F;subst F;exact af h
def ztV(L:(tk prog w).is s.heap k b):∀ (l:List Value),(∀v∈l,∃D q,v = .ref q/\(tk prog w).is s.heap D q)->Q false s->wpAny (model prog w) A (searchCouldBeSeen (.ref b) l) Q E s:=by
 intro l O h;unfold searchCouldBeSeen;refine aa ?_;refine eQ _ (λyf r s'=>r.1=none/\s'=s/\∀v∈yf,∃D q,v=Value.ref q/\(tk prog w).is s.heap D q) _ ?_ ?_ _ _ ⟨rfl,rfl,O⟩
 ·rintro v yf r s' ⟨I,rfl,B⟩;obtain⟨D,q,rfl,F⟩:=B v ak;have next:∀u∈yf,∃D q,u=Value.ref q/\(tk prog w).is s'.heap D q:=λu J=>B u (ao _ J);dsimp only;split
  ·exact af ⟨rfl,rfl,next⟩
  ·refine aa ((tk prog w).quiet L ?_);simp only[eM,aP,if_false];refine aa ((tk prog w).quiet F ?_);simp only[eM,aP,if_false];refine aa (zdw L ?_);simp only[aP,if_false];refine aa (zdw F ?_);simp only[aP,if_false];exact af ⟨rfl,rfl,next⟩
 ·rintro⟨U,Y⟩ s' ⟨I,rfl,_⟩;simp only at I;subst I;exact af h
end
section
variable {prog:Program}{w:World}{t:SetTable}{es:Array (Int×Value)}{xs:List (List Key×Addr)}{A:Around}{E:Value->Shared->Prop}{s:Shared}
def zeT (t:SetTable)(xs:List (List Key×Addr))(h:Int)(k:List Key)(n:Nat):Prop:=∀m,m<n->∃ (i:Nat) (q:List Key×Addr),t.place[i]?=some (wk t.mask h m)/\xs[i]?=some q/\q.1≠k
def zfS {a b:Addr}{o:Obj}{ep:Nat}{k:List Key}{adding:Bool}{Q:SetFound->Shared->Prop}(hu:A.units<cLine)(T:Tb prog w t es xs)(hk:(tk prog w).is s.heap k b)(hel:∀q∈xs,(tk prog w).is s.heap q.1 q.2)
  (ho:s.heap.get? a=some o) (hd:o.data = .set es ep t)
  (found:∀r i q,xs[i]?=some q->q.1=k->(r=none/\adding=true\/r=some i)->Q (.there r) s)
  (free:∀N,N<10 * SetTable.turns t.mask->(∀i:Nat,t.place[i]?≠some (wk t.mask ((tk prog w).hash k) N))->zeT t xs ((tk prog w).hash k) k N->Q (.free (wk t.mask ((tk prog w).hash k) N) false) s) :
  ∀ (fuel n:Nat) (stand:Option SetTable.Probe),stand.getD (t.probeStart ((tk prog w).hash k))=stp t.mask ((tk prog w).hash k) n->10 * SetTable.turns t.mask<n+fuel->n<=10 * SetTable.turns t.mask->zeT t xs ((tk prog w).hash k) k n->
   wpAny (model prog w) A (setSearchFrom a (.ref b) ((tk prog w).hash k) adding fuel stand) Q E s
 | 0,n,stand,_,h2,h3,_=>by lia
 | fuel+1,n,stand,h1,h2,h3,h4=>by
  unfold setSearchFrom;refine aa (bv ho hd T.fits ?_);dsimp only;rw[show t.gaveWay=false from T.msk.odd];simp only[aP,if_false];rw[h1];obtain⟨N0,hN0,eN0⟩:=T.empty ((tk prog w).hash k)
  have hn0:n<=N0:=by
   rcases Nat.lt_or_ge N0 n with q | q
   ·obtain⟨i,_,e,_⟩:=h4 N0 q;exact absurd e (eN0 i)
   ·exact q
  have pass:∀N,n<=N->(∀m,n<=m->m<N->∃i:Nat,t.place[i]?=some (wk t.mask ((tk prog w).hash k) m)/\(es[i]?.map (·.1)).getD 0≠(tk prog w).hash k)->zeT t xs ((tk prog w).hash k) k N:=λN hN hh m hm=>by
   rcases Nat.lt_or_ge m n with q | q
   ·exact h4 m q
   ·obtain⟨i,e1,e2⟩:=hh m q hm;obtain⟨q,hq⟩:=T.at' e1;refine⟨i,q,e1,hq,λz=>e2 ?_⟩;rw[T.get hq,<- z];rfl
  obtain⟨N,hN,hp,hc⟩:=zhT (t:=t) (hashAt:=λi=>(es[i]?.map (·.1)).getD 0) (h:=(tk prog w).hash k) T.ris T.dm (10 * SetTable.turns t.mask) n ⟨N0,hn0,by lia,eN0⟩
  have hNle:N<=N0:=by
   rcases Nat.lt_or_ge N0 N with q | q
   ·obtain⟨i,e,_⟩:=hp N0 hn0 q;exact absurd e (eN0 i)
   ·exact q
  rcases hc with ⟨he,hg⟩ | ⟨i,hi,hh,hg⟩
  ·have hg':t.probe (λi=>(es[i]?.map (·.1)).getD 0) ((tk prog w).hash k) (stp t.mask ((tk prog w).hash k) n)=some (.empty (wk t.mask ((tk prog w).hash k) N) none):=hg;have fin:=free N (by lia) he (pass N hN hp);generalize hm:SetTable.probe t _ _ _=met;have:met=some (.empty (wk t.mask ((tk prog w).hash k) N) none):=hm.symm.trans hg';rw[this];dsimp only;exact af fin
  ·have hg':t.probe (λi=>(es[i]?.map (·.1)).getD 0) ((tk prog w).hash k) (stp t.mask ((tk prog w).hash k) n)=some (.candidate (wk t.mask ((tk prog w).hash k) N) i (stp t.mask ((tk prog w).hash k) (N+1))):=hg;generalize hm:SetTable.probe t _ _ _=met;have:met=some (.candidate (wk t.mask ((tk prog w).hash k) N) i (stp t.mask ((tk prog w).hash k) (N+1))):=hm.symm.trans hg';rw[this];dsimp only;obtain⟨q,hq⟩:=T.at' hi;have hqe:=T.get hq;have hqk:=hel q (au hq);have stl:t.slot (wk t.mask ((tk prog w).hash k) N) = .live i:=zbg T.ris hi
   have core:wpAny (model prog w) A (do
     let some (_,y):=es[i]? | unsupported "internal:set-entry"
     let equal <- holding [y] (eqBool y (.ref b))
     let (es',_,t') <- setState a
     if adding&&equal then return .there none
     let some smem:=t'.sameMemory t.moves t.mask | unsupported "set.changed-during-lookup:is-the-new-block-at-the-old-address"
     let still <- match (if smem then t'.slot (wk t.mask ((tk prog w).hash k) N) else .empty) with
      | .live i'=>match es'[i']? with
       | some (_,y')=>do pure (if <- isSame y' y then some i' else none)
       | none=>pure none
      | _=>pure none
     match still with
     | none=>rule "set.search.anew";setSearchFrom a (.ref b) ((tk prog w).hash k) adding fuel none
     | some i'=>if equal then return .there (some i') else setSearchFrom a (.ref b) ((tk prog w).hash k) adding fuel (some (stp t.mask ((tk prog w).hash k) (N+1)))) Q E s:=by
    rw[hqe];dsimp only;refine aa (bz ((tk prog w).eqBool hu hqk hk ?_));refine aa (bv ho hd T.fits ?_);dsimp only;by_cases hkk:q.1=k
    ·rw[aY hkk]
     cases adding with
     | true=>
      simp only[Bool.and_self,if_true];exact af (found none i q hq hkk (.inl ⟨rfl,rfl⟩))
     | false=>
      simp only[Bool.false_and,aP,if_false];have e1:t.sameMemory t.moves t.mask=some true:=by unfold SetTable.sameMemory;simp
      rw[e1];dsimp only;simp only[if_true];rw[stl];dsimp only;rw[hqe];dsimp only;refine aa (wpAny_isSame_ref_self (aa (af ?_)));simp only[if_true];exact af (found (some i) i q hq hkk (.inr rfl))
    ·rw[aX hkk];simp only[dz,aP,if_false];have e1:t.sameMemory t.moves t.mask=some true:=by unfold SetTable.sameMemory;simp
     rw[e1];dsimp only;simp only[if_true];rw[stl];dsimp only;rw[hqe];dsimp only;refine aa (wpAny_isSame_ref_self (aa (af ?_)));simp only[if_true];refine zfS hu T hk hel ho hd found free fuel (N+1) _ rfl (by lia) (by lia) λm hm=>?_;rcases Nat.lt_succ_iff_lt_or_eq.mp hm with z | z
     ·exact pass N hN hp m z
     ·subst z;exact⟨i,q,hi,hq,hkk⟩
   split
   ·refine aa (ztV hk _ (λv hv=>?_) ?_)
    ·obtain⟨e,he,rfl⟩:=aC.mp hv
     have he':e∈es.toList:=by have:=Array.mem_toList_iff.mp he;exact Array.mem_toList_iff.mpr (Array.mem_filter.mp this).1
     rw[T.eq] at he';obtain⟨q',hq',rfl⟩:=aC.mp he';exact⟨_,_,rfl,hel q' hq'⟩
    ·simp only[aP,if_false];exact core
   ·exact core
end
def zfi {α:Type}(l:List α)(p:Nat)(x:α):List α:=l.take p++x::l.drop p
def zgq {α:Type}{l:List α}{p i:Nat}{x:α}(q:p<=l.length)(h:i<p):(zfi l p x)[i]?=l[i]?:=by unfold zfi;rw[bh (by grind),c9 h]
def zgo{α:Type}{l:List α}{x:α}(q:p<=l.length):(zfi l p x)[p]?=some x:=by
 unfold zfi
 simp_all
def zgp {α:Type}{l:List α}{p i:Nat}{x:α}(q:p<=l.length)(h:p<=i):(zfi l p x)[i+1]?=l[i]?:=by unfold zfi;rw[bj (by grind),aQ,show i+1 - min p l.length=(i - p)+1 by lia,bB,List.getElem?_drop,show p+(i - p)=i by lia]
def zd3 {α:Type}{l:List α}{p:Nat}{x:α}(q:p<=l.length):(zfi l p x).length=l.length+1:=by
 unfold zfi
 grind
def zmx {α q:Type}(f:α->q)(l:List α)(p:Nat)(x:α):(zfi l p x).map f=zfi (l.map f) p (f x):=by
 unfold zfi
 simp_all
def zjY {α:Type}(l:List α)(p:Nat)(x:α):(zfi l p x).Perm (x::l):=by
 unfold zfi;refine List.perm_middle.trans ?_
 simp_all
def yN{α:Type}(xs:Array α)(x:α):(SetTable.insertAt xs p x).toList=zfi xs.toList p x:=by
 unfold SetTable.insertAt zfi;rw[Array.toList_append,Array.toList_push,Array.toList_extract,Array.toList_extract,List.extract_eq_take_drop,List.extract_eq_take_drop];rw[eR,eB,bK];congr 1;show x::_=_;congr 1;show []++List.take _ (List.drop p xs.toList)=_;rw[List.nil_append];refine cb ?_
 simp_all
def zbR {α:Type}(xs:Array α)(i:Nat):xs[i]?=xs.toList[i]?:=by simp_all
def zgr{xs:Array Nat}(B:p<=xs.size)(h:xs[i]?=some v):(SetTable.insertAt xs p j)[if i<p then i else i+1]?=some v:=by
 rw[zbR,yN];rw[zbR] at h;have q:p<=xs.toList.length:=by rw[aT];exact B
 split
 ·rename_i hi;rw[zgq q hi,h]
 ·rename_i hi;rw[zgp q (by lia),h]
def zaW{xs:Array Nat}(F:p<=xs.size)(h:(SetTable.insertAt xs p j)[i]?=some v):(i=p/\v=j)\/(i<p/\xs[i]?=some v)\/∃B,i=B+1/\p<=B/\xs[B]?=some v:=by
 rw[zbR,yN] at h;have D:p<=xs.toList.length:=by rw[aT];exact F
 rcases b8 i p with q | q | q
 ·rw[zgq D q,<- zbR] at h
  simp_all
 ·subst q;rw[zgo D] at h
  simp_all
 ·obtain⟨B,rfl⟩:∃B,i=B+1:=⟨i - 1,by lia⟩;rw[zgp D (by lia),<- zbR] at h;exact .inr (.inr ⟨B,rfl,by lia,h⟩)
def ziC(Y:Ris xs)(hn:∀i:Nat,xs[i]?≠some j):Ris (SetTable.insertAt xs (SetTable.below xs j) j):=by
 obtain⟨J,b2,b3⟩:=ut Y j;intro i F O h2;have Z:=zgn (xs:=SetTable.insertAt xs (SetTable.below xs j) j) (i:=i) (by lia);have I:=zgn h2;generalize (SetTable.insertAt xs (SetTable.below xs j) j).getD i 0=v at Z;generalize (SetTable.insertAt xs (SetTable.below xs j) j).getD F 0=L at I
 have U:∀i v,SetTable.below xs j<=i->xs[i]?=some v->j<v:=λi v h e=>by
  obtain⟨a1,a2⟩:=uk e
  grind
 have D:∀i v,i<SetTable.below xs j->xs[i]?=some v->v<j:=λi v h e=>by obtain⟨a1,a2⟩:=uk e;have:=b2 i h;lia
 have B:∀i F v L,i<F->xs[i]?=some v->xs[F]?=some L->v<L:=λi F v L h e I=>by
  obtain⟨a1,a2⟩:=uk e;obtain⟨a3,a4⟩:=uk I;have:=Y i F h a3
  omega
 rcases zaW J Z with ⟨rfl,rfl⟩ | ⟨q,e⟩ | ⟨i',rfl,q,e⟩
 ·rcases zaW J I with ⟨rfl,rfl⟩ | ⟨q',e'⟩ | ⟨i'',rfl,q',e'⟩
  ·lia
  ·lia
  ·exact U _ _ q' e'
 ·rcases zaW J I with ⟨rfl,rfl⟩ | ⟨q',e'⟩ | ⟨i'',rfl,q',e'⟩
  ·exact D _ _ q e
  ·exact B _ _ _ _ O e e'
  ·exact B _ _ _ _ (by lia) e e'
 ·rcases zaW J I with ⟨rfl,rfl⟩ | ⟨q',e'⟩ | ⟨i'',rfl,q',e'⟩
  ·lia
  ·lia
  ·exact B _ _ _ _ (by lia) e e'
section
variable {prog:Program}{w:World}{t:SetTable}{es:Array (Int×Value)}{xs:List (List Key×Addr)}
def zo5:SetTable.has #[] j=false:=rfl
def Tb.put(T:Tb prog w t es xs)(hN:N<10 * SetTable.turns t.mask)(he:∀i:Nat,t.place[i]?≠some (wk t.mask ((tk prog w).hash k) N))(hp:zeT t xs ((tk prog w).hash k) k N)(hk:k∉xs.map (·.1))(hf:xs.length+1<=t.mask)(Y:wk t.mask ((tk prog w).hash k) N<=t.mask) :
  ∃J,Tb prog w (t.put (wk t.mask ((tk prog w).hash k) N)).1 (SetTable.insertAt es (t.put (wk t.mask ((tk prog w).hash k) N)).2 ((tk prog w).hash k,.ref b)) J/\J.Perm ((k,b)::xs):=by
 generalize hj:wk t.mask ((tk prog w).hash k) N=j at *;obtain⟨L,b2,b3⟩:=ut T.ris j;have Z:(t.put j).2=SetTable.below t.place j:=rfl
 have ht:(t.put j).1={ t with place:=SetTable.insertAt t.place (SetTable.below t.place j) j }:=by
  unfold SetTable.put;dsimp only;rw[T.dm,zo5]
  grind
 generalize ac:SetTable.below t.place j=p at *;have D:p<=xs.length:=by rw[<- T.sz];exact L
 have B:∀ {i v:Nat},t.place[i]?=some v->∃F:Nat,(SetTable.insertAt t.place p j)[F]?=some v:=λ{i v} h=>⟨_,zgr L h⟩;have O:=zjY xs p (k,b);refine⟨zfi xs p (k,b),?_,O⟩;rw[Z,ht];refine⟨?_,?_,T.dm,?_,?_,?_,T.msk,?_,T.plain,T.led,?_⟩
 ·rw[yN,T.eq,zmx]
 ·rw[(O.map (·.1)).nodup_iff,aA,cu];exact⟨hk,T.nd⟩
 ·have:=ziC T.ris he
  simp_all
 ·intro i v e;rcases zaW L e with ⟨_,rfl⟩ | ⟨_,e'⟩ | ⟨_,_,_,e'⟩
  ·exact Y
  ·exact T.le _ _ e'
  ·exact T.le _ _ e'
 ·show (SetTable.insertAt t.place p j).size=_;rw[<- aT,yN,zd3 (by simp_all),zd3 D,aT,T.sz]
 ·show (zfi xs p (k,b)).length<=t.mask;rw[zd3 D];exact hf
 ·intro i q I;rcases b8 i p with z | z | z
  ·rw[zgq D z] at I;obtain⟨n,h1,h2,h3⟩:=T.reach i q I;refine⟨n,h1,?_,λm U=>?_⟩
   ·have:=zgr (j:=j) L h2
    simp_all
   ·obtain⟨F,e⟩:=h3 m U;exact B e
  ·subst z;rw[zgo D] at I;cases I;refine⟨N,hN,?_,λm U=>?_⟩
   ·show (SetTable.insertAt t.place i j)[i]?=_;rw[zbR,yN,zgo (by simp_all)]
    simp_all
   ·obtain⟨F,q',e,_⟩:=hp m U;exact B e
  ·obtain⟨F,rfl⟩:∃F,i=F+1:=⟨i - 1,by lia⟩;rw[zgp D (by lia)] at I;obtain⟨n,h1,h2,h3⟩:=T.reach F q I;refine⟨n,h1,?_,λm U=>?_⟩
   ·have:=zgr (j:=j) L h2;rw[if_neg (by lia)] at this;exact this
   ·obtain⟨F,e⟩:=h3 m U;exact B e
end
def zei:∀ (n:Nat) {l:List Nat},l.Nodup->(∀x∈l,x<n)->l.length<=n
 | 0,l,_,h=>by
  cases l with
  | nil=>exact ah _
  | cons a _=>exact absurd (h a ak) (cw _)
 | n+1,l,q,h=>by
  by_cases D:n∈l
  ·have h1:=zei n (q.erase n) λx B=>by
    grind
   grind
  ·have:=zei n q λx B=>by
    grind
   lia
def zes {α:Type}[BEq α][LawfulBEq α]:∀ {l l':List α},l.Nodup->l'.Nodup->(∀x,x∈l↔x∈l')->l.Perm l'
 | [],l',_,_,h=>by
  cases l' with
  | nil=>exact .nil
  | cons a _=>exact absurd ((h a).mpr ak) (by simp)
 | a::l,l',B,q,h=>by grind
def St0 (q:Nat)(h:Int)(K:Nat):SetTable.Probe:=⟨(lp q h K).1,SetTable.runEnd q (lp q h K).1 - (lp q h K).1,(lp q h K).1,(lp q h K).2,none⟩
def zkl {q:Nat}{h:Int}{T K:Nat}(e:stp q h T=St0 q h K):stp q h (T+(SetTable.runEnd q (lp q h K).1 - (lp q h K).1)+1)=St0 q h (K+1):=by show (tm q).advance (stp q h (T+_))=_;rw[zeJ q h e _ (ah _),zdN q _ (eS _)];rfl
def zsj (q:Nat)(h:Int):∀K,(lp q h K).1<=q
 | 0=>cx (eE _ (er _))
 | K+1=>cx (eE _ (er _))
def zcL {q i:Nat}(h:i<=q):SetTable.runEnd q i<=q/\i<=SetTable.runEnd q i:=by unfold SetTable.runEnd;split <;> lia
def zfc{h:Int}{owner:Array (Option Nat)}(hs:owner.size=q+1):∀ (B K T:Nat),T<=10 * K->stp q h T=St0 q h K->(∀m,m<T->∃D,owner[wk q h m]?=some (some D))->
  (∃K',K<=K'/\K'<K+B/\owner[(lp q h K').1]?=some none)->
  ∃N,SetTable.layClean.free q owner B (lp q h K).1 (lp q h K).2=some (wk q h N)/\N<10 * (K+B)/\wk q h N<=q/\owner[wk q h N]?=some none/\∀m,m<N->∃D,owner[wk q h m]?=some (some D)
 | 0,K,T,_,_,_,⟨K',h1,h2,_⟩=>by lia
 | B+1,K,T,hT,eT,Z,⟨K',h1,h2,h3⟩=>by
  have an:=zsj q h K;obtain⟨r1,r2⟩:=zcL an;have r9:=zor q (lp q h K).1
  have F:∀k,k<=SetTable.runEnd q (lp q h K).1 - (lp q h K).1->wk q h (T+k)=(lp q h K).1+k:=λk O=>by show (stp q h (T+k)).j=_;rw[zeJ q h eT k O]
  have inR:∀k,k<=SetTable.runEnd q (lp q h K).1 - (lp q h K).1->∃u,owner[(lp q h K).1+k]?=some u/\owner.getD ((lp q h K).1+k) (some 0)=u:=λk O=>by
   have as:(lp q h K).1+k<owner.size:=by lia
   simp_all
  show ∃N,(match (List.range (SetTable.runEnd q (lp q h K).1+1 - (lp q h K).1)).find? λk=>(owner.getD ((lp q h K).1+k) (some 0)).isNone with
   | some k=>some ((lp q h K).1+k)
   | none=>SetTable.layClean.free q owner B (lp q h (K+1)).1 (lp q h (K+1)).2)=some (wk q h N)/\_
  cases hf:(List.range (SetTable.runEnd q (lp q h K).1+1 - (lp q h K).1)).find? λk=>(owner.getD ((lp q h K).1+k) (some 0)).isNone with
  | some k=>
   obtain⟨hp,i,hi,ac,ad⟩:=List.find?_eq_some_iff_getElem.mp hf;rw[bP] at ac;subst ac;rw[ax] at hi;have O:i<=SetTable.runEnd q (lp q h K).1 - (lp q h K).1:=by lia
   obtain⟨u,I,J⟩:=inR i O;rw[J] at hp
   have ap:u=none:=by
    cases u with
    | none=>rfl
    | some z=>exact absurd hp (by simp)
   subst ap;refine⟨T+i,by rw[F i O],by lia,by rw[F i O];lia,by rw[F i O];exact I,λm hm=>?_⟩;by_cases Y:m<T
   ·exact Z m Y
   ·obtain⟨L,rfl⟩:∃L,m=T+L:=⟨m - T,by lia⟩;obtain⟨u,I,J⟩:=inR L (by lia);have:=ad L (by lia);rw[bP,J] at this;rw[F L (by lia),I]
    cases u with
    | none=>simp at this
    | some D=>exact⟨D,rfl⟩
  | none=>
   have ag:=dl.mp hf
   have U:∀k,k<=SetTable.runEnd q (lp q h K).1 - (lp q h K).1->∃D,owner[(lp q h K).1+k]?=some (some D):=λk O=>by
    obtain⟨u,I,J⟩:=inR k O;have:=ag k (aM.mpr (by lia));rw[J] at this
    cases u with
    | none=>simp at this
    | some D=>exact⟨D,I⟩
   have av:K≠K':=λz=>by
    subst z;obtain⟨D,e⟩:=U 0 (aJ _)
    grind
   have al:∀m,m<T+(SetTable.runEnd q (lp q h K).1 - (lp q h K).1)+1->∃D,owner[wk q h m]?=some (some D):=λm hm=>by
    by_cases Y:m<T
    ·exact Z m Y
    ·obtain⟨L,rfl⟩:∃L,m=T+L:=⟨m - T,by lia⟩;rw[F L (by lia)];exact U L (by lia)
   obtain⟨N,a1,a2,a3⟩:=zfc hs B (K+1) _ (by lia) (zkl eT) al ⟨K',by lia,by lia,h3⟩;exact⟨N,a1,by lia,a3⟩
structure Own (mask:Nat)(hs:List Int)(n:Nat)(owner:Array (Option Nat)):Prop where
 size:owner.size=mask+1
 lt:∀ (j i:Nat),owner[j]?=some (some i)->i<n
 inj:∀ (j j' i:Nat),owner[j]?=some (some i)->owner[j']?=some (some i)->j=j'
 reach:∀ (i:Nat) (h:Int),i<n->hs[i]?=some h->∃N,N<10 * SetTable.turns mask/\owner[wk mask h N]?=some (some i)/\∀m,m<N->∃i',owner[wk mask h m]?=some (some i')
def Own.gap{I:List Int}(o:Own q I n owner)(hn:n<=q):∃j,j<=q/\owner[j]?=some none:=by
 refine bG λJ=>?_
 have all:∀j,j<q+1->∃i,owner[j]?=some (some i):=λj D=>by
  have L:j<owner.size:=by rw[o.size];exact D
  cases e:owner[j] with
  | none=>exact absurd ⟨j,cx D,by simp_all⟩ J
  | some i=>exact⟨i,by simp_all⟩
 have O:=zei n (l:=(List.range (q+1)).map λj=>((owner[j]?).join).getD 0) ?_ ?_
 ·rw[ab,ax] at O;lia
 ·refine br.mpr (de ?_ dG);intro a b U Y F e;refine F ?_;obtain⟨i,hi⟩:=all a (aM.mp U);obtain⟨Z,B⟩:=all b (aM.mp Y);rw[hi,B] at e;have:i=Z:=e;subst this;exact o.inj _ _ _ hi B
 ·intro x hx;obtain⟨j,D,rfl⟩:=aC.mp hx;obtain⟨i,hi⟩:=all j (aM.mp D);rw[hi];exact o.lt _ _ hi
def Own.step{Z:List Int}{h:Int}(o:Own B Z n owner)(hr:Ring (B+1))(hn:n<=B)(hh:Z[n]?=some h) :
  ∃j,SetTable.layClean.free B owner (SetTable.turns B) (SetTable.bits h % (B+1)) (SetTable.bits h)=some j/\Own B Z (n+1) (owner.setIfInBounds j (some n)):=by
 obtain⟨g,hg,eg⟩:=o.gap hn;have hb:(lp B h 13).1<B+1:=eF (zsj B h 13);obtain⟨k,hk,e⟩:=hr.reach hb (eF hg);obtain⟨N,h1,h2,h3,h4,h5⟩:=zfc o.size (SetTable.turns B) 0 0 (ah _) (h:=h) rfl (λm O=>absurd O (cw _)) ⟨13+k,aJ _,by unfold SetTable.turns;lia,by rw[zks,e];exact eg⟩;have hj:wk B h N<owner.size:=by rw[o.size];lia
 have F:(owner.setIfInBounds (wk B h N) (some n))[wk B h N]?=some (some n):=by simp_all
 have D:∀j,j≠wk B h N->(owner.setIfInBounds (wk B h N) (some n))[j]?=owner[j]?:=λj ac=>by rw[Array.getElem?_setIfInBounds];rw[if_neg (λz=>ac z.symm)]
 have I:∀j i,owner[j]?=some (some i)->(owner.setIfInBounds (wk B h N) (some n))[j]?=some (some i):=λj i e=>by
  by_cases q:j=wk B h N
  ·rw[q,h4] at e;cases e
  ·rw[D j q];exact e
 refine⟨wk B h N,h1,by simp[o.size],λj i e=>?_,λj Y i e L=>?_,λi h' hi J=>?_⟩
 ·by_cases q:j=wk B h N
  ·simp_all
  ·rw[D j q] at e;have:=o.lt _ _ e;lia
 ·by_cases q:j=wk B h N
  ·subst q;rw[F] at e;cases e;by_cases U:Y=wk B h N
   ·exact U.symm
   ·rw[D Y U] at L;have:=o.lt _ _ L;lia
  ·rw[D j q] at e;by_cases U:Y=wk B h N
   ·subst U;rw[F] at L;cases L;have:=o.lt _ _ e;lia
   ·rw[D Y U] at L;exact o.inj _ _ _ e L
 ·by_cases q:i=n
  ·subst q;rw[hh] at J;cases J;refine⟨N,by lia,F,λm O=>?_⟩;obtain⟨i',e⟩:=h5 m O;exact⟨i',I _ _ e⟩
  ·obtain⟨M,m1,m2,m3⟩:=o.reach i h' (by lia) J;refine⟨M,m1,I _ _ m2,λm O=>?_⟩;obtain⟨i',e⟩:=m3 m O;exact⟨i',I _ _ e⟩
def zmY (q:Nat)(D:List Int):Own q D 0 (Array.replicate (q+1) none):=by
 have B:∀j i,(Array.replicate (q+1) (none:Option Nat))[j]?≠some (some i):=λj i e=>by
  rw[Array.getElem?_replicate] at e
  grind
 exact⟨by simp,λj i e=>absurd e (B j i),λj F i e=>absurd e (B j i),λi h hi=>absurd hi (cw _)⟩
def zhs(I:Ring (B+1)):∀ (yf q:List Int) (owner:Array (Option Nat)),(q++yf).length<=B->Own B (q++yf) q.length owner->
  ∃D,yf.foldl (λ(acc:Option (Array (Option Nat)×Nat)) h=>acc.bind λx=>(SetTable.layClean.free B x.1 (SetTable.turns B) (SetTable.bits h % (B+1)) (SetTable.bits h)).bind λj=>some (x.1.setIfInBounds j (some x.2),x.2+1)) (some (owner,q.length))=some (D,(q++yf).length)/\Own B (q++yf) (q++yf).length D
 | [],q,owner,_,o=>by simp_all
 | h::yf,q,owner,F,o=>by
  have L:q.length+(yf.length+1)<=B:=by rw[ai,a8] at F;exact F
  obtain⟨j,e,o'⟩:=o.step I (by lia) (h:=h) (by simp);have J:q++h::yf=(q++[h])++yf:=by rw[bK];rfl
  have O:q.length+1=(q++[h]).length:=by rw[ai];rfl
  rw[J,O] at o';obtain⟨D,U,Y⟩:=zhs I yf (q++[h]) _ (by rw[<- J];exact F) o'
  grind
def zfs(D:Ring (q+1))(B:Array Int)(F:B.size<=q):∃owner,SetTable.layClean q B=some owner/\Own q B.toList B.size owner:=by
 obtain⟨owner,h1,h2⟩:=zhs D B.toList [] (Array.replicate (q+1) none) (by simp_all) (zmY q _);rw[List.nil_append,aT] at h2;refine⟨owner,?_,h2⟩;unfold SetTable.layClean
 simp_all
def xz (q:Nat)(owner:Array (Option Nat)):List (Nat×Nat):=(List.range (q+1)).filterMap λj=>(owner.getD j none).map (j,·)
def ud{F:List Int}(o:Own q F n owner):(j,i)∈xz q owner↔owner[j]?=some (some i):=by
 unfold xz;rw[cJ];constructor
 ·rintro⟨L,D,e⟩;obtain⟨O,I,J⟩:=aE.mp e;cases J;have B:j<owner.size:=by rw[o.size];exact aM.mp D
  simp_all
 ·intro e;obtain⟨B,I⟩:=ce.mp e;refine⟨j,aM.mpr (by rw[<- o.size];exact B),?_⟩
  simp_all
def zkp (q:Nat)(owner:Array (Option Nat)):(xz q owner).Pairwise λa b=>a.1<b.1:=by
 unfold xz;refine List.pairwise_filterMap.mpr ((List.pairwise_lt_range).imp ?_)
 simp_all
def zko{B:List Int}(o:Own q B B.length owner):((xz q owner).map (·.2)).Perm (List.range B.length):=by
 refine zes ?_ dG λi=>?_
 ·refine br.mpr (de ?_ (zkp q owner));intro a b D F I e;have h1:=(ud o).mp D;have h2:=(ud o).mp F;rw[e] at h1;have:=o.inj _ _ _ h1 h2;lia
 ·rw[aM];constructor
  ·intro h;obtain⟨⟨j,J⟩,h1,rfl⟩:=aC.mp h;exact o.lt _ _ ((ud o).mp h1)
  ·intro h;obtain⟨N,_,e,_⟩:=o.reach i B[i] h (aj h);exact aC.mpr ⟨(_,i),(ud o).mpr e,rfl⟩
def zcK {α:Type}(l:List α):(List.range l.length).filterMap (λi=>l[i]?)=l:=by
 have:∀ (n:Nat) (l:List α),n=l.length->(List.range n).filterMap (λi=>l[i]?)=l:=by
  intro n
  induction n with
  | zero=>intro l h;cases l with | nil=>rfl | cons _ _=>simp at h
  | succ n q=>
   intro l h
   cases l with
   | nil=>simp at h
   | cons a l=>
    rw[List.range_succ_eq_map,bS];show a::_=_;rw[ei];congr 1;exact q l (by simpa using h)
 exact this _ l rfl
section
variable {prog:Program}{w:World}{t:SetTable}{es:Array (Int×Value)}{xs:List (List Key×Addr)}
def Tb.laid(T:Tb prog w t es xs)(hm:zay B)(hl:xs.length<=B)(J O:Nat) :
  ∃t' D Y,SetTable.laid B J O t.led true (es.map (·.1))=some (t',D)/\(D.filterMap (es[·]?)).size=es.size/\Tb prog w t' (D.filterMap (es[·]?)) Y/\Y.Perm xs/\t'.mask=B:=by
 obtain⟨owner,e,o⟩:=zfs hm.ring (es.map (·.1)) (by rw[Array.size_map,T.size];exact hl)
 have hh:(es.map (·.1)).toList=xs.map λq=>(tk prog w).hash q.1:=by rw[Array.toList_map,T.eq,am];rfl
 have hsz:(es.map (·.1)).size=xs.length:=by rw[Array.size_map,T.size]
 rw[hh,hsz] at o;have o':Own B (xs.map λq=>(tk prog w).hash q.1) (xs.map λq=>(tk prog w).hash q.1).length owner:=by rw[ab];exact o
 have Z:=zko o';rw[ab] at Z
 have ac:((((xz B owner).map (·.2)).toArray).filterMap (es[·]?)).toList=((xz B owner).map (·.2)).filterMap (es.toList[·]?):=by simp_all
 have I:(((xz B owner).map (·.2)).filterMap (xs[·]?)).Perm xs:=by have:=Z.filterMap (xs[·]?);rw[zcK] at this;exact this
 have ad:((xz B owner).map (·.2)).filterMap (es.toList[·]?)=(((xz B owner).map (·.2)).filterMap (xs[·]?)).map λq=>((tk prog w).hash q.1,Value.ref q.2):=by rw[List.map_filterMap];congr 1;funext i;rw[T.eq,aw]
 have U:∀ {c:Nat} {q:List Key×Addr},(((xz B owner).map (·.2)).filterMap (xs[·]?))[c]?=some q->∃j i,(xz B owner)[c]?=some (j,i)/\xs[i]?=some q:=by
  have ap:∀ (l:List (Nat×Nat)),(∀p∈l,p.2<xs.length)->∀ {c:Nat} {q:List Key×Addr},((l.map (·.2)).filterMap (xs[·]?))[c]?=some q->∃j i,l[c]?=some (j,i)/\xs[i]?=some q:=by
   intro l
   induction l with
   | nil=>intro _ c q h;simp at h
   | cons p l ih=>
    intro ag c q h;have as:=ag p ak;rw[aA,bS,aj as] at h
    cases c with
    | zero=>
     refine⟨p.1,p.2,rfl,?_⟩
     simp_all
    | succ c=>exact ih (λp' av=>ag p' (ao _ av)) (by simpa using h)
  intro c q h;refine ap _ (λp Z=>?_) h;obtain⟨j,i⟩:=p;exact o.lt _ _ ((ud o).mp Z)
 have F:∀ {c j i:Nat},(xz B owner)[c]?=some (j,i)->(((xz B owner).map (·.1)).toArray)[c]?=some j:=λ{c j i} h=>by simp_all
 refine⟨_,_,((xz B owner).map (·.2)).filterMap (xs[·]?),by unfold SetTable.laid;rw[e];rfl,?_,⟨?_,?_,rfl,?_,?_,?_,hm,?_,rfl,by exact T.led,?_⟩,I,rfl⟩
 ·show ((((xz B owner).map (·.2)).toArray).filterMap (es[·]?)).size=es.size;rw[<- aT,ac,ad,ab,I.length_eq,T.size]
 ·exact ac.trans ad
 ·rw[(I.map (·.1)).nodup_iff];exact T.nd
 ·intro i j al hj
  have an:j<(xz B owner).length:=by
   have:(((xz B owner).map (·.1)).toArray).size=(xz B owner).length:=by simp
   rw[<- this];exact hj
  have a0:i<(xz B owner).length:=Nat.lt_trans al an;have:=bU.mp (zkp B owner) i j a0 an al;show (((xz B owner).map (·.1)).toArray).getD i 0<(((xz B owner).map (·.1)).toArray).getD j 0
  simp_all
 ·intro c j hc;have L:((xz B owner).map (·.1))[c]?=some j:=by rw[zbR] at hc;exact hc
  rw[aw] at L;obtain⟨⟨j',i'⟩,h1,rfl⟩:=aE.mp L;have h2:=(ud o).mp (au h1);have:=(ce.mp h2).1;rw[o.size] at this;show j'<=B;lia
 ·show (((xz B owner).map (·.1)).toArray).size=_;have h1:(((xz B owner).map (·.1)).toArray).size=(xz B owner).length:=by simp
  rw[h1,I.length_eq];have:=Z.length_eq
  grind
 ·rw[I.length_eq];exact hl
 ·intro c q hq;obtain⟨j,i,h1,h2⟩:=U hq;have hi:=(ae.mp h2).1;obtain⟨N,n1,n2,n3⟩:=o.reach i ((tk prog w).hash q.1) hi (by simp_all);have hj:=o.inj _ _ _ ((ud o).mp (au h1)) n2;subst hj;refine⟨N,n1,F h1,λm a1=>?_⟩;obtain⟨i',e'⟩:=n3 m a1;obtain⟨c',L,a2⟩:=bw.mp ((ud o).mpr e');exact⟨c',F (by rw[aj L,a2])⟩
end
section
variable {prog:Program}{w:World}{t:SetTable}{es:Array (Int×Value)}{xs:List (List Key×Addr)}{A:Around}{E:Value->Shared->Prop}{s:Shared}
def zic (prog:Program)(w:World)(h:Heap)(a:Addr)(xs:List (List Key×Addr)):Prop:=∃o es q t,h.get? a=some o/\o.ExactSet/\o.data = .set es q t/\Tb prog w t es xs/\xs.length * 5<t.mask * 3
def zbU{ns:List Int}(Y:(tk prog w).is s.heap (ns.map Sum.inl) b)(h:Q true s):wpAny (model prog w) A (hashByValue 8 (.ref b)) Q E s:=by
 have I:IsTupleKey (zX prog w) s.heap (ns.map Sum.inl) b:=Y;have Z:=I.typeIs;obtain⟨o,B,n,ho,_,hd,hi⟩:=I
 have D:∀ {ns:List Int} {vs:List Value},ItemsAre (zX prog w) (ns.map Sum.inl) vs->∀v∈vs,∃i t,v=Value.int i t:=by
  intro ns
  induction ns with
  | nil=>intro vs h v J;cases h;simp at J
  | cons n ns ih=>
   intro vs h v J
   cases h with
   | cons h1 h2=>
    rcases aK.mp J with rfl | J
    ·have L:zfp (Sum.inl n) v=true:=h1;rcases z6 L with ⟨i,t,_,e⟩ | ⟨x,t,z,_⟩
     ·exact⟨i,t,e⟩
     ·cases z
    ·exact ih h2 v J
 unfold hashByValue;refine aa (wpAny_specialOf Z F.slot_tuple_hash.lookup ?_);dsimp only;refine aa (wpAny_seqItems ho hd ?_);refine aa ?_;show wpAny _ _ (forIn B _ _) _ _ s;rw[<- Array.forIn_toList];refine eQ _ (λyf r s'=>r.1=none/\s'=s/\∀v∈yf,∃i t,v=Value.int i t) _ ?_ ?_ _ _ ⟨rfl,rfl,D hi⟩
 ·rintro v yf r s' ⟨O,rfl,q⟩;obtain⟨i,t,rfl⟩:=q v ak;have e:hashByValue 7 (Value.int i t)=pure true:=rfl;rw[e];refine aa (af ?_);simp only[eM,aP,if_false];exact af ⟨rfl,rfl,λu U=>q u (ao _ U)⟩
 ·rintro⟨r1,r2⟩ s' ⟨O,rfl,_⟩;simp only at O;subst O;exact af h
def zdz{h:Heap}{a:Addr}{o:Obj}{es:Array (Int×Value)}{es':Array (Int×Value)}(D:h.get? a=some o)(B:o.data = .set es q t) :
  (h.update a (Obj.putSet es' t')).get? a=some { o with data:=.set es' (q+1) t' }:=by
 have:=ck (Obj.putSet es' t') D (by rw[putSet_of es' t' B];rfl);rw[putSet_of es' t' B] at this;exact this
def znl(T:Tb prog w t es xs)(ho:s.heap.get? a=some o)(hx:o.ExactSet)(hd:o.data = .set es ep t)(hw:SetTable.sizeAbove wanted=mask+1)(hm:zay mask)(hl:xs.length * 5<mask * 3)(h:∀h' xs',Heap.SameBut a s.heap h'->zic prog w h' a xs'->xs'.Perm xs->Q () { s with heap:=h' }):wpAny (model prog w) A (setRelay a wanted) Q E s:=by
 unfold setRelay;refine aa (bv ho hd T.fits ?_);dsimp only;have:=hm.le;rw[if_neg (by rw[hw,bH];lia)];obtain⟨t',order,xs',e,hsz,T',hp,hmk⟩:=T.laid hm (by lia) t.finger (t.movedTo mask)
 have e':t.relaid (es.map (·.1)) wanted=some (t',order):=by unfold SetTable.relaid;rw[hw,T.plain];exact e
 have core:∀ {R:Array (Int×Value)×SetTable->Shared->Prop},R (order.filterMap (es[·]?),t') s->wpAny (model prog w) A (do
   let some (t,order):=t.relaid (es.map (·.1)) wanted | unsupported "internal:set-table-without-room"
   let es':=order.filterMap (es[·]?)
   if es'.size != es.size then unsupported "internal:set-table-lost-an-element"
   pure (es',t)) R E s:=λ{R} hR=>by
  rw[e'];dsimp only;rw[hsz];simp only[bne_self_eq_false,aP,if_false]
  first | exact af hR | exact aa (af (af hR))
 refine aa (core ?_);refine wpAny_storeSet_of ho hd ?_ (by rw[hsz,T.size,bH];lia);refine h _ xs' (bI _ a _) ⟨_,_,_,t',zdz ho hd,hx,rfl,T',?_⟩ hp;rw[hp.length_eq,hmk];exact hl
def Tb.out(T:Tb prog w t es xs)(hN:N<10 * SetTable.turns t.mask)(F:∀i:Nat,t.place[i]?≠some (wk t.mask ((tk prog w).hash k) N))(O:zeT t xs ((tk prog w).hash k) k N):k∉xs.map (·.1):=λz=>by
 obtain⟨q,U,B⟩:=aC.mp z;obtain⟨i,hi⟩:=List.mem_iff_getElem?.mp U;obtain⟨n,h1,h2,I⟩:=T.reach i q hi;rw[B] at h2 I;rcases b8 N n with z | z | z
 ·obtain⟨D,e⟩:=I N z;exact F D e
 ·subst z;exact F i h2
 ·obtain⟨D,q',Y,J,Z⟩:=O n z
  have:D=i:=by have a1:=zbg T.ris Y;have L:=zbg T.ris h2;rw[a1] at L;cases L;rfl
  subst this;rw[hi] at J;cases J;exact Z B
def zrj{ns:List Int}(hu:A.units<cLine)(S:zic prog w s.heap a xs)(hk:(tk prog w).is s.heap (ns.map Sum.inl) b)(ap:∀q∈xs,(tk prog w).is s.heap q.1 q.2)(hn:xs.length<300)(h:∀r h' n U,Heap.SameBut a s.heap h'->zic prog w h' a U->((ns.map Sum.inl)∈xs.map (·.1)->U=xs)->((ns.map Sum.inl)∉xs.map (·.1)->U.Perm ((ns.map Sum.inl,b)::xs))->Q r { s with heap:=h',toks:=n }) :
  wpAny (model prog w) A (setAdd a (.ref b)) Q E s:=by
 obtain⟨o,es,ep,t,ho,hx,hd,T,B⟩:=S;unfold setAdd;refine bz (aa ((tk prog w).pyHash hu hk ?_));unfold setAddHashed;refine bz ?_;rw[show (100000:Nat)=99999+1 from rfl];unfold setAddHashedIn;refine aa (bv (s:={ s with toks:=s.toks+(tk prog w).draws (ns.map Sum.inl) }) ho hd T.fits ?_);dsimp only;rw[show byScan (.ref b) es=false from rfl];simp only[aP,if_false];unfold setSearch;have hm:=T.msk.le;have a4:t.fill=xs.length:=by unfold SetTable.fill;rw[T.sz,T.dm];rfl
 refine aa (zfS (s:={ s with toks:=s.toks+(tk prog w).draws (ns.map Sum.inl) }) hu T hk ap ho hd ?found ?free 100000 0 none rfl (by unfold SetTable.turns;lia) (aJ _) (λm hm=>absurd hm (cw _)))
 case found=>
  intro r i q hq as _;dsimp only;have ad:(ns.map Sum.inl)∈xs.map (·.1):=aC.mpr ⟨q,au hq,as⟩;exact af (h false s.heap _ xs (Heap.SameBut.refl a s.heap) ⟨o,es,ep,t,ho,hx,hd,T,B⟩ (λ_=>rfl) (λz=>absurd ad z))
 case free=>
  intro N hN he hp;have Y:=T.out hN he hp;dsimp only;refine aa (bv (s:={ s with toks:=s.toks+(tk prog w).draws (ns.map Sum.inl) }) ho hd T.fits ?_);dsimp only
  have ag:wk t.mask ((tk prog w).hash (ns.map Sum.inl)) N<=t.mask:=by
   have:∀ (h:Int) (n:Nat),wk t.mask h n<=t.mask/\(stp t.mask h n).j+(stp t.mask h n).more<=t.mask:=by
    intro h n
    induction n with
    | zero=>
     have h0:SetTable.bits h % (t.mask+1)<=t.mask:=cx (eE _ (er _));obtain⟨r1,r2⟩:=zcL h0;refine⟨h0,?_⟩;show SetTable.bits h % (t.mask+1)+(SetTable.runEnd t.mask (SetTable.bits h % (t.mask+1)) - SetTable.bits h % (t.mask+1))<=t.mask;lia
    | succ n ih=>
     show ((tm t.mask).advance (stp t.mask h n)).j<=t.mask/\((tm t.mask).advance (stp t.mask h n)).j+((tm t.mask).advance (stp t.mask h n)).more<=t.mask;by_cases av:0<(stp t.mask h n).more
     ·rw[zhb _ _ av];show (stp t.mask h n).j+1<=t.mask/\(stp t.mask h n).j+1+((stp t.mask h n).more - 1)<=t.mask;lia
     ·rw[zdN _ _ (by lia)];have h0:((stp t.mask h n).i * 5+1+(stp t.mask h n).perturb / 32) % (t.mask+1)<=t.mask:=cx (eE _ (er _));obtain⟨r1,r2⟩:=zcL h0;refine⟨h0,?_⟩;dsimp only;lia
   exact (this _ _).1
  obtain⟨a0,T1,Z⟩:=T.put (b:=b) hN he hp Y (by lia) ag;generalize al:t.put (wk t.mask ((tk prog w).hash (ns.map Sum.inl)) N)=tp at T1;obtain⟨J,p⟩:=tp;dsimp only at T1 ⊢
  have ac:J.mask=t.mask:=by
   have:J=(t.put (wk t.mask ((tk prog w).hash (ns.map Sum.inl)) N)).1:=by rw[al]
   rw[this];rfl
  rw[T1.plain];simp only[if_true];refine aa (zbU (s:={ s with toks:=s.toks+(tk prog w).draws (ns.map Sum.inl) }) hk ?_);simp only[if_true];have I:=Z.length_eq;rw[a8] at I;refine aa (wpAny_storeSet_of (s:={ s with toks:=s.toks+(tk prog w).draws (ns.map Sum.inl) }) ho hd ?_ (by rw[T1.size,bH];lia));have g1:=zdz (es':=SetTable.insertAt es p ((tk prog w).hash (ns.map Sum.inl),.ref b)) (t':=J) ho hd;have an:=bI s.heap a (Obj.putSet (SetTable.insertAt es p ((tk prog w).hash (ns.map Sum.inl),.ref b)) J);simp only[Bool.not_false,Bool.true_and];have L:J.fill=xs.length+1:=by unfold SetTable.fill;rw[T1.sz,T1.dm,I];rfl
  by_cases O:J.tooFull=true
  ·rw[if_pos O];unfold SetTable.tooFull at O;rw[L,ac] at O;have F:=bC O;rw[T.size]
   have next:∃D,SetTable.sizeAbove (SetTable.grown (xs.length+1))=D+1/\zay D/\(xs.length+1) * 5<D * 3:=by
    rcases T.msk with e | e | e | e
    ·rw[e] at F B;have:xs.length=4:=by lia
     rw[this];exact⟨31,by decide,.inr (.inl rfl),by lia⟩
    ·rw[e] at F B;have:xs.length=18:=by lia
     rw[this];exact⟨127,by decide,.inr (.inr (.inl rfl)),by lia⟩
    ·rw[e] at F B;have:xs.length=76:=by lia
     rw[this];exact⟨511,by decide,.inr (.inr (.inr rfl)),by lia⟩
    ·rw[e] at F B;lia
   obtain⟨D,m1,m2,m3⟩:=next;refine aa (znl (s:={ s with heap:=s.heap.update a (Obj.putSet (SetTable.insertAt es p ((tk prog w).hash (ns.map Sum.inl),.ref b)) J),toks:=s.toks+(tk prog w).draws (ns.map Sum.inl) }) T1 g1 hx rfl m1 m2 (by rw[I];exact m3) λh' a1 a2 S2 a3=>?_);exact af (h true h' _ a1 (an.trans a2) S2 (λz=>absurd z Y) λ_=>a3.trans Z)
  ·rw[if_neg O];unfold SetTable.tooFull at O;rw[L,ac] at O;have F:¬ ((xs.length+1) * 5 ≥ t.mask * 3):=λz=>O (aY z);refine af (h true _ _ a0 an ⟨_,_,_,J,g1,hx,rfl,T1,?_⟩ (λz=>absurd z Y) λ_=>Z);rw[I,ac];lia
end
open PySem PySem.Spec PyProof.Rows PySem.W
def z5:Slot "set_iterator" "__next__" "set_iterator.__next__" :=
 .of (owner := "set_iterator") (n := "__next__") (by rw[typeLookup_type,builtinLookup_eq_fast];kernel_rfl) (by decide +kernel) (by decide +kernel) (by decide +kernel)
  (by first | exact .inl (by decide +kernel) | exact .inr (by decide +kernel)) (by rw[isSubtype_type];kernel_rfl)
def uA:Slot "set_iterator" "__iter__" "set_iterator.__iter__" :=
 .of (owner := "set_iterator") (n := "__iter__") (by rw[typeLookup_type,builtinLookup_eq_fast];kernel_rfl) (by decide +kernel) (by decide +kernel) (by decide +kernel)
  (by first | exact .inl (by decide +kernel) | exact .inr (by decide +kernel)) (by rw[isSubtype_type];kernel_rfl)
def ub:entryFor table "set_iterator.__next__" = some Builtin.«set_iterator.__next__»:=entryFor_of_tree (by kernel_rfl)
def zaQ:entryFor table "set_iterator.__iter__" = some Builtin.«dict_keyiterator.__iter__»:=entryFor_alias (id' := "dict_keyiterator.__iter__") (by kernel_rfl) rfl (by decide +kernel) (by kernel_rfl)
def zc6:entryFor table "set.__iter__" = some Builtin.«frozenset.__iter__»:=entryFor_alias (id' := "frozenset.__iter__") (by kernel_rfl) rfl (by decide +kernel) (by kernel_rfl)
def ur (a:Value):argsOk "set_iterator.__next__" ⟨[a],[]⟩:=by unfold argsOk;kernel_rfl
def zbj (a:Value):argsOk "set_iterator.__iter__" ⟨[a],[]⟩:=by unfold argsOk;kernel_rfl
def zjO {α:Type}(next:Nat->Nat):∀ (n k:Nat) (left:List α) (q:Array α),left.length=n->(pickOrder.go next n k left q).toList.Perm (q.toList++left)
 | 0,k,left,q,h=>by have:left=[]:=bm h;subst this;show q.toList.Perm (q.toList++[]);rw[dg]
 | n+1,k,left,q,h=>by
  have B:next k % left.length<left.length:=eE _ (by lia)
  show (match left[next k % left.length]? with
   | some x=>pickOrder.go next n (k+1) (left.eraseIdx (next k % left.length)) (q.push x)
   | none=>q).toList.Perm _
  rw[aj B];refine (zjO next n (k+1) _ _ (by rw[List.length_eraseIdx_of_lt B];lia)).trans ?_;rw[Array.toList_push,bK];refine List.Perm.append_left _ ?_
  have e:left=left.take (next k % left.length)++left[next k % left.length]::left.drop (next k % left.length+1):=by rw[<- List.drop_eq_getElem_cons B];exact (cL _ _).symm
  rw[List.eraseIdx_eq_take_drop_succ];refine List.Perm.trans ?_ (List.Perm.of_eq e.symm);rw[List.singleton_append];exact List.perm_middle.symm
def zfK {α:Type}(next:Nat->Nat)(xs:Array α):(pickOrder next xs).toList.Perm xs.toList:=by show (pickOrder.go next xs.size 0 xs.toList #[]).toList.Perm _;have:=zjO next xs.size 0 xs.toList #[] (aT);rwa[show (#[]:Array α).toList++xs.toList=xs.toList from rfl] at this
section
variable {prog:Program}{w:World}{t:SetTable}{es:Array (Int×Value)}{xs:List (List Key×Addr)}{A:Around}{E:Value->Shared->Prop}{s:Shared}
def zmX (w:World)(a:Addr)(q:Nat)(es:Array (Int×Value)):Array (Int×Value):=if w.params.followText "set-order" then pickOrder (w.params.setOrder a q) es else es
def zfJ (a:Addr)(q:Nat):(zmX w a q es).toList.Perm es.toList:=by
 unfold zmX;split
 ·exact zfK _ _
 ·exact List.Perm.refl _
def yJ (h:Heap)(B a:Addr)(q i n D:Nat):Prop:=∃o,h.get? B=some o/\o.cls = .type "set_iterator" /\ o.data = .fields #[.int q 0,.int i 0,.ref a,.int n 0,.int D 0]
def yJ.typeIs(x:yJ s.heap B a q i n D):s.TypeIs (.ref B) "set_iterator" := let ⟨o,ho,hc,_⟩:=x;⟨o,ho,hc⟩
structure SetIs (prog:Program)(w:World)(h:Heap)(a:Addr)(es:Array (Int×Value))(ep:Nat)(t:SetTable)(xs:List (List Key×Addr)):Prop where
 ob:∃o,h.get? a=some o/\o.ExactSet/\o.data = .set es ep t
 tb:Tb prog w t es xs
def zkK{e:Int×Value}(hit:yJ s.heap it a slot i es.size ep)(S:SetIs prog w s.heap a es ep t xs)(hs:w.params.followText "set-order" = true\/SetTable.below t.place slot=i)(hx:(zmX w a ep es)[i]?=some e)(hQ:∀h' slot',yJ h' it a slot' (i+1) es.size ep->(w.params.followText "set-order" = true\/SetTable.below t.place slot'=i+1)->Heap.SameBut it s.heap h'->Q (some e.2) { s with heap:=h' }):wpAny (model prog w) A (pyNext (.ref it)) Q E s:=by
 obtain⟨o,ho,hc,hd⟩:=id hit;obtain⟨⟨os,hos,_,hds⟩,T⟩:=S;have hf:=T.fits;unfold pyNext
 refine aa (cQ (wpAny_callSpecial?_slot (name:=Str.ofString "__next__") hit.typeIs z5
  (bi z5 hit.typeIs ub ?_ (ur _))))
 refine aa (af ?_);refine aa (eD ho hd ?_);dsimp only;refine aa (dX hos hds hf ?_);rw[if_neg (by simp)]
 have upd2:∀slot':Nat,∃h',yJ h' it a slot' (i+1) es.size ep/\Heap.SameBut it s.heap h'/\∀ {A':Around} {E':Value->Shared->Prop} {α:Type} {f:Sem α} {R:α->Shared->Prop},wpAny (model prog w) A' f R E' { s with heap:=h' }->wpAny (model prog w) A' (do setField (.ref it) 0 (rawInt slot');setField (.ref it) 1 (rawInt ((i:Int)+1));f) R E' s:=by
  intro slot';have h1:(s.heap.update it (Obj.mapFields (·.setIfInBounds 0 (rawInt slot')))).get? it=some (Obj.mapFields (·.setIfInBounds 0 (rawInt slot')) o):=ck _ ho (dE (cm hd _));have hd1:(Obj.mapFields (·.setIfInBounds 0 (rawInt slot')) o).data = .fields #[.int slot' 0,.int i 0,.ref a,.int es.size 0,.int ep 0]:=by rw[cm hd];simp[rawInt]
  refine⟨(s.heap.update it (Obj.mapFields (·.setIfInBounds 0 (rawInt slot')))).update it (Obj.mapFields (·.setIfInBounds 1 (rawInt ((i:Int)+1)))),⟨_,ck _ h1 (dE (cm hd1 _)),?_,?_⟩,(bI ..).trans (bI ..),λ{A' E' α f R} hR=>?_⟩
  ·rw[eG,eG];exact hc
  ·rw[cm hd1];simp[rawInt]
  ·exact aa (cT ho hd (by simp) (aa (cT (s:={ s with heap:=s.heap.update it (Obj.mapFields (·.setIfInBounds 0 (rawInt slot'))) }) h1 hd1 (by simp) hR)))
 unfold setNext
 cases hb:w.params.followText "set-order" with
 | true=>
  have hx':(pickOrder (w.params.setOrder a ep) es)[i]?=some e:=by unfold zmX at hx;rw[if_pos hb] at hx;exact hx
  obtain⟨h',hi',sb',step⟩:=upd2 slot;refine aa ?_;refine aa (bv hos hds hf ?_);dsimp only;unfold setsByText;refine aa (aa (bp (af ?_)));rw[show (model prog w).w=w from rfl,hb];simp only[if_true];rw[if_neg (by simp)];unfold setWalk;refine aa ?_;refine aa (bv hos hds hf ?_);dsimp only;unfold setsByText;refine aa (aa (bp (af ?_)));rw[show (model prog w).w=w from rfl,hb];simp only[if_true];refine aa (bp (af ?_));refine af ?_;rw[show (model prog w).w=w from rfl];simp only[aL];rw[hx'];dsimp only[Option.map];exact step (af ⟨_,rfl,af (hQ h' slot hi' (.inl hb) sb')⟩)
 | false=>
  have hx':es[i]?=some e:=by unfold zmX at hx;rw[if_neg (by rw[hb];exact aH)] at hx;exact hx
  have hsl:SetTable.below t.place slot=i:=by
   rcases hs with z | z
   ·rw[hb] at z;cases z
   ·exact z
  have hi:i<es.size:=(ce.mp hx').1;have hpl:t.place[i]?=some (t.place.getD i 0):=zgn (by rw[T.sz,<- T.size];exact hi);obtain⟨h',hi',sb',step⟩:=upd2 (t.place.getD i 0+1);refine aa ?_;refine aa (bv hos hds hf ?_);dsimp only;unfold setsByText;refine aa (aa (bp (af ?_)));rw[show (model prog w).w=w from rfl,hb];simp only[aP,if_false];rw[if_neg (by show ¬ ((!t.plain&&decide (es.size > 1))=true);rw[T.plain];simp)];refine aa ?_;show wpAny _ _ (if (!t.led&&!es.isEmpty)=true then unsupported "set:maker-not-led" else pure ()) _ _ s;rw[if_neg (by rw[T.led,hb];simp)];refine af ?_;simp only[aL];rw[hsl,hx',hpl];refine af ?_;dsimp only;refine step (af ⟨_,rfl,af (hQ h' _ hi' (.inr ?_) sb')⟩);obtain⟨b1,b2,b3⟩:=ut T.ris (t.place.getD i 0+1);have hi2:=(uk hpl).1;rcases b8 (SetTable.below t.place (t.place.getD i 0+1)) (i+1) with z | z | z
  ·have:=b3 i (by lia) hi2;lia
  ·exact z
  ·have h1:=b2 (i+1) z;have h2:=T.ris i (i+1) (Nat.lt_succ_self i) (by lia);lia
def zmU(Z:A.handled=none)(B:yJ s.heap I a q es.size es.size J)(S:SetIs prog w s.heap a es J t xs)(hs:w.params.followText "set-order" = true\/SetTable.below t.place q=es.size)(hQ:∀h',Heap.ExtBut I s.heap h'->Q none { s with heap:=h' }):wpAny (model prog w) A (pyNext (.ref I)) Q E s:=by
 obtain⟨o,L,hc,O⟩:=id B;obtain⟨⟨os,D,_,F⟩,T⟩:=S;have U:=T.fits;unfold pyNext
 refine aa (cQ (wpAny_callSpecial?_slot (name:=Str.ofString "__next__") B.typeIs z5
  (bi z5 B.typeIs ub ?_ (ur _))))
 refine aa (af ?_);refine aa (eD L O ?_);dsimp only;refine aa (dX D F U ?_);rw[if_neg (by simp)];unfold setNext;refine aa ?_;refine aa (bv D F U ?_);dsimp only;unfold setsByText;refine aa (aa (bp (af ?_)))
 cases hb:w.params.followText "set-order" with
 | true=>
  rw[show (model prog w).w=w from rfl,hb];simp only[if_true];rw[if_neg (by simp)];unfold setWalk;refine aa ?_;refine aa (bv D F U ?_);dsimp only;unfold setsByText;refine aa (aa (bp (af ?_)));rw[show (model prog w).w=w from rfl,hb];simp only[if_true];refine aa (bp (af ?_));refine af ?_;rw[show (model prog w).w=w from rfl];simp only[aL]
  have hn:(pickOrder (w.params.setOrder a J) es)[es.size]?=none:=by rw[zbR];refine List.getElem?_eq_none ?_;rw[(zfK _ es).length_eq,aT];exact ah _
  rw[hn];dsimp only[Option.map];refine aa (cT L O (by simp) ?_);show wpAny _ _ (newExc (.type "StopIteration") [] >>= _) _ _ _;refine aa ?_;simp only[newExc,newTuple];refine aa (bu ?_ (by size_fits));refine aa (m:=firstArgMember _ _) (wpAny_of_eq (a:=Value.none) (by first | rfl | (simp only[firstArgMember];rfl)) ?_);refine bu ?_ (by size_fits);simp only[raiseNew];refine aa (wpAny_handled ?_);rw[show A.in1.handled=none from Z];refine aa (af (wpAny_throw ?_));refine aa (cG (T := "StopIteration") (b:=true) ⟨_,aF _ rfl,rfl⟩ dA ?_);exact af (hQ _ (((bI ..).extBut.push _).push _))
 | false=>
  have Y:SetTable.below t.place q=es.size:=by
   rcases hs with z | z
   ·rw[hb] at z;cases z
   ·exact z
  rw[show (model prog w).w=w from rfl,hb];simp only[aP,if_false];rw[if_neg (by show ¬ ((!t.plain&&decide (es.size > 1))=true);rw[T.plain];simp)];refine aa ?_;show wpAny _ _ (if (!t.led&&!es.isEmpty)=true then unsupported "set:maker-not-led" else pure ()) _ _ s;rw[if_neg (by rw[T.led,hb];simp)];refine af ?_;simp only[aL];rw[Y,Array.getElem?_eq_none (ah _)];refine af ?_;dsimp only;refine aa (cT L O (by simp) ?_);show wpAny _ _ (newExc (.type "StopIteration") [] >>= _) _ _ _;refine aa ?_;simp only[newExc,newTuple];refine aa (bu ?_ (by size_fits));refine aa (m:=firstArgMember _ _) (wpAny_of_eq (a:=Value.none) (by first | rfl | (simp only[firstArgMember];rfl)) ?_);refine bu ?_ (by size_fits);simp only[raiseNew];refine aa (wpAny_handled ?_);rw[show A.in1.handled=none from Z];refine aa (af (wpAny_throw ?_));refine aa (cG (T := "StopIteration") (b:=true) ⟨_,aF _ rfl,rfl⟩ dA ?_);exact af (hQ _ (((bI ..).extBut.push _).push _))
def zj5(q:yJ s.heap D a B i n F)(h:Q (.ref D) s):wpAny (model prog w) A (pyIter (.ref D)) Q E s:=by refine eI q.typeIs uA (bi uA q.typeIs zaQ ?_ (zbj _));show wpAny _ _ (ret (.ref D)) _ _ s;exact af ⟨_,rfl,"set_iterator",_,q.typeIs,z5.lookup,h⟩
def SetIs.typeIs(S:SetIs prog w s.heap a es q t xs):s.TypeIs (.ref a) "set" := let ⟨o,ho,hc,_⟩:=S.ob;⟨o,ho,hc.1⟩
def zmA(S:SetIs prog w s.heap a es I t xs)(h:Q (.ref s.heap.objs.size) { s with heap:=s.heap.push { cls:=.type "set_iterator",data:=.fields #[.int 0 0,.int 0 0,.ref a,.int es.size 0,.int I 0] } }):wpAny (model prog w) A (pyIter (.ref a)) Q E s:=by
 have J:=S.typeIs;obtain⟨⟨L,q,O,B⟩,T⟩:=S;have D:=T.fits;refine eI J F.slot_set_iter (bi F.slot_set_iter J zc6 ?_ (F.args_set_iter_1 _));unfold Builtin.«frozenset.__iter__»;refine aa (m:=Builtin.Frozenset.slot0 "__iter__" ⟨[.ref a],[]⟩) (af ?_);refine aa ?_;unfold Builtin.Frozenset.sizeOf;refine aa (dX q B D (af ?_));refine aa ?_;unfold setDrawn;refine aa (bv q B D ?_);dsimp only;unfold setsByText;refine aa (aa (bp (af ?_)));refine af ?_;rw[if_neg (by show ¬ ((!_&&(!t.plain&&decide (es.size > 1)))=true);rw[T.plain];simp)];refine aa (af ?_);refine aa (wpAny_setEpoch_of q B D ?_);refine aa (bu (af ⟨_,rfl,"set_iterator",_,⟨_,aF _ rfl,rfl⟩,z5.lookup,?_⟩));simpa [rawInt] using h
end
open PySem PySem.Spec PyProof.Rows PySem.W PySem.Calls
section
variable {prog:Program}{w:World}{t:SetTable}{es:Array (Int×Value)}{xs:List (List Key×Addr)}{A:Around}{E:Value->Shared->Prop}{s:Shared}
def znt(D:s.TypeIs (.ref r) "set")(h:Q false s):wpAny (model prog w) A (Builtin.List.listLengthHint (.ref r)) Q E s:=by
 unfold Builtin.List.listLengthHint;refine aa (wpAny_specialOf D PySem.F.slot_set_len.lookup ?_);generalize B:("set.__len__" : String)=id0
 wp_delta
 rw[show splitId id0=some ("set","__len__") from by subst B;decide +kernel];subst B;refine aa (cG (T := "set") (b:=true) D (by rw[isSubtype_type];kernel_rfl) ?_);refine wpAny_ite_split (λq=>absurd q (by decide)) (λ_=>?_);refine wpAny_ite_split (λ_=>?_) (λq=>absurd (by decide +kernel) q);refine aa (db D ?_);exact af h
def SetIs.keep(S:SetIs prog w h a es q t xs)(k:∀o,h.get? a=some o->h'.get? a=some o):SetIs prog w h' a es q t xs:=let ⟨⟨o,ho,r⟩,T⟩:=S;⟨⟨o,k o ho,r⟩,T⟩
def yJ.keep(S:yJ h B a q i n D)(k:∀o,h.get? B=some o->h'.get? B=some o):yJ h' B a q i n D:=let ⟨o,ho,r⟩:=S;⟨o,k o ho,r⟩
def SetIs.lt(S:SetIs prog w h a es q t xs):a<h.objs.size:=let ⟨⟨o,ho,_⟩,_⟩:=S;aD ho
def zlu (hh:A.handled=none)(I a:Addr)(Z:a≠I)(F:Nat) :
  Walks prog w A I [I,a] [I] es.size (λi v=>∃e,(zmX w a F es)[i]?=some e/\v=e.2) (λi h=>(∃q,yJ h I a q i es.size F/\(w.params.followText "set-order" = true\/SetTable.below t.place q=i))/\SetIs prog w h a es F t xs) where
 sub:=λb J=>by simp at J;simp[J]
 frame:=λ_ _ _ st hk=>⟨let ⟨Y,x,y⟩:=st.1;⟨Y,x.keep λo e=>hk I (by simp) o e,y⟩,st.2.keep λo e=>hk a (by simp) o e⟩
 item:=λi s Q E hi st L=>by
  obtain⟨⟨Y,B,hs⟩,S⟩:=st
  have O:i<(zmX w a F es).size:=by
   have:=(zfJ (w:=w) (es:=es) a F).length_eq
   grind
  refine zkK B S hs (e:=(zmX w a F es)[i]) (bF O) λh' D U ac sb=>?_;exact L _ h' s.toks ⟨_,bF O,rfl⟩ ⟨⟨D,U,ac⟩,S.keep λo e=>(sb.2 a Z).trans e⟩ λb o J e=>sb.extBut b o (λh=>J (by simp[h])) e
 done:=λs Q E st L=>by obtain⟨⟨Y,B,hs⟩,S⟩:=st;exact zmU hh B S hs λh' ad=>L h' s.toks λb o J e=>ad b o (λh=>J (by simp[h])) e
 self:=λ_ _ _ _ st L=>let ⟨Y,x,_⟩:=st.1;zj5 x L
def zqH (a:Addr)(q:Nat):KdlSrc prog w "set" a a es.size (λi v=>∃e,(zmX w a q es)[i]?=some e/\v=e.2) (λh=>SetIs prog w h a es q t xs) where
 type:=λs S=>S.typeIs
 there:=λ_ S=>⟨S.lt,S.lt⟩
 keep:=λ_ _ S D=>S.keep λo e=>D a (.inl rfl) o e
 notList:=by decide
 notTuple:=by decide
 hint:=λ_ _ _ _ S B=>znt S.typeIs B
 iter:=λA s F S=>⟨_,_,(λ_ _ B=>zmA S B),zlu F _ a (aU S.lt) q,⟨⟨0,⟨_,aF _ rfl,rfl,rfl⟩,.inr ?_⟩,S.keep λo e=>aq _ e⟩⟩
where finally
 have b:=ut S.tb.ris 0;rcases Nat.eq_zero_or_pos (SetTable.below t.place 0) with z | z
 ·exact z
 ·exact absurd (b.2.1 0 z) (cw _)
end
def zeU (h:Heap)(L D:Addr)(v:Value)(st:List Int):Prop:=∃ (a:Addr) (q:List Value),v = .ref a/\IsTup h a q.toArray/\yb (st.map V.int) q/\a≠L/\a≠D
def zeU.keep{st:List Int}(r:zeU h L D v st)(B:∀b o,b≠L->b≠D->h.get? b=some o->h'.get? b=some o):zeU h' L D v st:=by obtain⟨a,q,e,⟨o,F,I⟩,J,h1,h2⟩:=r;exact⟨a,q,e,⟨o,B a o h1 h2 F,I⟩,J,h1,h2⟩
def zds:∀ {vs:List Value} {sts:List (List Int)},Paired (zeU h L D) vs sts->(∀st∈sts,1<=st.length)->∃fs,W.KatTups h vs fs/\fs.length=sts.length/\∀f∈fs,∃a t,f=Value.int a t
 | _,_,.nil,_=>⟨[],trivial,rfl,λ_ h=>by simp at h⟩
 | _,_,.cons (b:=st) r J,h1=>by
  obtain⟨a,q,rfl,⟨o,O,U,n,Y⟩,B,_⟩:=r;obtain⟨fs,Z,f2,f3⟩:=zds J λz hz=>h1 z (ao _ hz);have F:=h1 st ak
  match st,B,F with
  | z::zs,B,_=>
   cases B with
   | cons q1 qq=>
    obtain⟨t,rfl⟩:=q1;refine⟨_::fs,⟨⟨a,o,_,n,rfl,O,U,Y,rfl⟩,Z⟩,by simp_all,λf I=>?_⟩;rcases aK.mp I with rfl | I
    all_goals simp_all
def zbv {α q:Type}{R:α->q->Prop}:∀ {l:List α} {l':List q},Paired R l l'->∀ {i:Nat} (d:α) (d':q),i<l'.length->R (l.getD i d) (l'.getD i d')
 | _,_,.nil,i,_,_,h=>by simp at h
 | _,_,.cons r _,0,_,_,_=>r
 | _,_,.cons _ t,i+1,d,d',h=>by have:=zbv t (i:=i) d d' (by simpa using h);simpa using this
def zdy {α q:Type}{R:α->q->Prop}:∀ {l:List α} {l':List q},Paired R l l'->l.length=l'.length
 | _,_,.nil=>rfl
 | _,_,.cons _ t=>by rw[a8,a8,zdy t]
section
variable {prog:Program}{w:World}{A:Around}{E:Value->Shared->Prop}{s:Shared}
def zmM{sts:List (List Int)}(ac:s.heap.Ns L m0)(an:D≠L)(ho:s.heap.get? D=some (seqObj "list" vs.toArray n))(hv:Paired (zeU s.heap L D) vs sts)(bs:sts.length<64)(ap:1<=m)(hm:∀st∈sts,st.length=m)(as:sts.Nodup)(h:∀h' c p,List.Perm p (List.range sts.length)->((p.map λi=>sts.getD i []).Pairwise λa b=>HT.lexLt a b=true)->(∀b o,b≠L->b≠D->s.heap.get? b=some o->h'.get? b=some o)->h'.Ns L m0->
   h'.get? D=some (seqObj "list" (p.map λi=>vs.getD i .none).toArray c)->Q .none { s with heap:=h' }) :
  wpAny (model prog w) A (call (.builtin "list.sort") [.ref D]) Q E s:=by
 have av:=zdy hv;by_cases h2:2<=sts.length
 ·have B:∀p∈(zbc s.heap L).filter (λq=>decide (q.1≠D)),s.heap.get? p.1=some p.2/\p.1≠L/\p.1≠D:=λp Z=>by
   have h1:=a9.mp Z;have h2:=z3.mp (show (p.1,p.2)∈zbc s.heap L from h1.1)
   simp_all
  have J:∀b,(⟨#[],{}⟩:Heap).get? b=none:=λb=>by
   cases e:(⟨#[],{}⟩:Heap).get? b with
   | none=>rfl
   | some o'=>
    have:=aD e;simp at this
  refine W.kat_lsort (h₀:=(⟨#[],{}⟩:Heap)) (L:=L) (m:=m0) (D:=D) (its:=vs.toArray) (n:=n) (news:=(D,seqObj "list" vs.toArray n)::(zbc s.heap L).filter (λq=>decide (q.1≠D))) (g:=λo=>(D,o)::(zbc s.heap L).filter (λq=>decide (q.1≠D))) ⟨ac,λb o e=>?_,aJ _⟩ (λp Z=>?_) (W.UpdF.head λq hq=>(B q hq).2.2) (vs:=vs) rfl (by lia) (by lia) λe1 h' F N=>?_
  ·simp_all
  ·rcases aK.mp Z with rfl | Z
   ·simp_all
   ·exact⟨(B p Z).1,(B p Z).2.1,J _⟩
  ·have kp:∀b o,b≠L->b≠D->s.heap.get? b=some o->h'.get? b=some o:=λb o hb hD e=>(N (b,o) (ao _ (a9.mpr ⟨z3.mpr ⟨hb,e⟩,aY hD⟩))).1;have O:Paired (zeU h' L D) vs sts:=Paired.mapP hv λv st r=>r.keep kp;obtain⟨fs,k1,k2,k3⟩:=zds O λst a0=>by rw[hm st a0];exact ap
   refine W.kat_kind (T:=.type "int") (s:={ s with heap:=h' }) k1 (by lia) (λf hf=>?_) (by decide) ?_
   ·obtain⟨a,t,rfl⟩:=k3 f hf;intro A' Q' E' s' _ hq;exact db (eV s' a t) hq
   ·have hu:zb3 sts.length (zct sts):=λi j hi I e=>by
     have e1:=xy hm hi I;have e2:=xy hm I hi;rw[e,aX (eL _)] at e1;rw[e,aX (eL _)] at e2;have gi:sts.getD i []=sts[i]:=by simp[hi]
     have gj:sts.getD j []=sts[j]:=by simp[I]
     rcases u8 (a:=sts.getD i []) (b:=sts.getD j []) (by simp_all) with h | h | h
     ·rw[gi,gj] at h;exact (b4 as).mp h
     all_goals grind
    obtain⟨p,ad,U⟩:=zh2 hu h2;rw[show vs.length=sts.length by lia];refine ad.wp (S:=λs'=>s'={ s with heap:=h' }) (λi j C s' hi I Y hC=>?_) (λs' Y=>?_) _ rfl
    ·subst Y;obtain⟨a1,a3,b1,c1,d1,_⟩:=zbv O .none [] hi;obtain⟨a2,a4,b2,c2,d2,_⟩:=zbv O .none [] I;obtain⟨o1,a5,_,n1,a7⟩:=c1;obtain⟨o2,bb,_,n2,bd⟩:=c2;show wpAny _ _ (keyLt' _ (vs.getD i .none) (vs.getD j .none)) C _ _;rw[b1,b2]
     have gi:(sts.getD i []).length=m:=by simp_all
     have gj:(sts.getD j []).length=m:=by simp_all
     have l1:=d1.length;have l2:=d2.length;rw[ab] at l1 l2;refine W.kat_lt (s:={ s with heap:=h' }) a5 a7 bb bd ?_;rw[show decide (a3.toArray.size<a4.toArray.size)=false from aX (by simp;lia)];refine zeb 0 d1 d2 (by rw[gi,gj]) ?_;have:=hC { s with heap:=h' } rfl;rw[show zf6 (zct sts) i j=HT.lexLt (sts.getD i []) (sts.getD j []) from xy hm hi I] at this;exact this
    ·subst Y
     have ag:p.toList.Perm (List.range sts.length):=by have:=U.perm.toList;simpa using this
     have al:∀i∈p.toList,i<sts.length:=λi hi=>aM.mp ((ag.mem_iff).mp hi);refine W.KasFin.intro F N (W.UpdF.head λq' bk=>(B q' bk).2.2) λbl c F'' N''=>?_;refine h bl c p.toList ag ?_ (λb o hb hD e=>(N'' (b,o) (ao _ (a9.mpr ⟨z3.mpr ⟨hb,e⟩,aY hD⟩))).1) F''.ns (N'' (D,_) ak).1;have bx:p.size=sts.length:=uw U.perm;rw[bU];intro i j hi I bo;rw[ab,aT] at hi I;have hk:=U.lt_of bo (by lia);rw[cF,cF,cR,cR];have e1:p.getD i 0=p[i]:=by simp[hi]
     have e2:p.getD j 0=p[j]:=by simp[I]
     unfold key at hk;rw[e1,e2] at hk;rw[<- xy hm (al _ (by simp)) (al _ (by simp))]
     simp_all
 ·refine bi slot_list_sort ⟨_,ho,rfl⟩ entry_list_sort ?_ (args_list_sort _);refine zah ho (by lia) λh' c kp hD=>⟨_,rfl,?_⟩;refine h h' c (List.range sts.length) (List.Perm.refl _) ?_ (λb o _ hb e=>kp b o hb e) ?_ ?_
  ·grind
  ·obtain⟨o,es,ep,g,k⟩:=ac;exact⟨o,es,ep,kp _ _ (Ne.symm an) g,k⟩
  ·rw[<- av,zbx];exact hD
end
def zbJ {α L:Type}{f:α->L}{l m:List L}(h:l.Perm m):∀ {xs:List α},m=xs.map f->∃q:List α,q.Perm xs/\l=q.map f:=by
 induction h with
 | nil=>
  intro xs e;have:xs=[]:=by cases xs with | nil=>rfl | cons _ _=>cases e
  subst this;exact⟨[],.nil,rfl⟩
 | cons x _ O=>
  intro xs e
  cases xs with
  | nil=>cases e
  | cons y ys=>
   rw[aA] at e;injection e with F B;obtain⟨q,h1,h2⟩:=O B;exact⟨y::q,h1.cons y,by rw[aA,<- h2,F]⟩
 | swap x y l=>
  intro xs e
  match xs,e with
  | [],e=>cases e
  | [_],e=>cases e
  | a::b::r,e=>
   rw[aA,aA] at e;injection e with F B;injection B with B U;exact⟨b::a::r,.swap _ _ _,by rw[aA,aA,F,B,U]⟩
 | trans _ _ I J=>
  intro xs e;obtain⟨q,h1,h2⟩:=J e;obtain⟨D,Y,Z⟩:=I h2;exact⟨D,Y.trans h1,Z⟩
def zh0 (P:Program)(w:World)(a:Addr)(xs:List (List Key×Addr)):HO:=.ext λh=>zic P w h a xs
def uX (xs:List (List Int×Addr)):List (List Key×Addr):=xs.map λq=>(q.1.map Sum.inl,q.2)
def zgZ(S:zic P w h a xs):y0 P w H h a (zh0 P w a xs):=by
 refine⟨S,?_,λh1 h2 q k=>?_⟩
 ·obtain⟨o,_,_,_,B,_⟩:=S;exact⟨o,B⟩
 ·obtain⟨o,es,D,t,B,r⟩:=q;exact⟨o,es,D,t,k o B,r⟩
def zdk (P:Program)(w:World)(H:Hp)(a:Addr)(ks:List (List Int)):Prop:=∃xs:List (List Int×Addr),H a=some (zh0 P w a (uX xs))/\(∀q∈xs,H q.2=some (.tup (q.1.map V.int)))/\ks=xs.map (·.1)/\ks.Nodup
def zdk.stay{ks:List (List Int)}(S:zdk P w H a ks)(h:zv H H'):zdk P w H' a ks:=by obtain⟨xs,h1,h2,B,D⟩:=S;exact⟨xs,h _ _ h1 (λ_ e=>by cases e),λq F=>h.tup (h2 q F),B,D⟩
def zcn:∀ns:List Int,(ns.map Sum.inl).map kV=ns.map V.int
 | []=>rfl
 | n::ns=>by rw[aA,aA,aA,zcn ns];rfl
section
variable {X:Cx}
def zkh{pins:List (Addr×Obj)}{σ:St}{H:Hp}{s:Shared}(I:Inv X pins σ H s){ns:List Int}(h:H b=some (.tup (ns.map V.int))):(tk X.prog X.w).is s.heap (ns.map Sum.inl) b:=by
 obtain⟨its,B,⟨o,D,F,n,J⟩,_⟩:=I.tuple (.of h);refine⟨o,its.toArray,n,D,F,J,?_⟩
 have q:∀ {ns:List Int} {its:List Value},yb (ns.map V.int) its->ItemsAre (zX X.prog X.w) (ns.map Sum.inl) its:=by
  intro ns
  induction ns with
  | nil=>intro its r;cases r;exact .nil
  | cons n ns L=>
   intro its r
   cases r with
   | cons O U=>
    obtain⟨t,rfl⟩:=O;exact .cons (zfq n t) (L U)
 exact q B
def zlg (P:Program)(w:World):List V->Hp->VK->Prop:=λxs H Q=>∃ (a:Addr) (ks:List (List Int)) (m:Nat),xs=[.ref a]/\zdk P w H a ks/\ks.length<64/\1<=m/\(∀st∈ks,st.length=m)/\
 ∀ (ys:List V) (q:List (List Int)),IsL H (q.map stD) ys->q.Perm ks->(q.Pairwise λa b=>HT.lexLt a b=true)->New H (.lst ys) Q
def zhz:∀ {xs:List (List Int×Addr)},(∀q∈xs,H q.2=some (.tup (q.1.map V.int)))->IsL H ((xs.map (·.1)).map stD) (xs.map λq=>V.ref q.2)
 | [],_=>rfl
 | q::xs,h=>⟨_,_,rfl,⟨q.2,_,rfl,h q ak,IsL.ints⟩,zhz λr B=>h r (ao _ B)⟩
def zf4:∀ (xs:List (List Int×Addr)),yb (xs.map λq=>V.ref q.2) (xs.map λq=>Value.ref q.2)
 | []=>.nil
 | q::xs=>.cons rfl (zf4 xs)
def zhk (hc:X.calm=true):CallQ X (.builtin "sorted") (zlg X.prog X.w):=⟨by
 intro pins s σ H xs us Q I r h;obtain⟨a,ks,m,rfl,⟨xs,hH,bk,rfl,bl⟩,av,bo,hm,q⟩:=h;obtain⟨u,rfl,ru⟩:=zaM r;cases ru;obtain⟨⟨o,es,ep,t,ho,hx,hd,T,_⟩,_⟩:=(show y0 X.prog X.w H s.heap a (zh0 X.prog X.w a (uX xs)) from I.hok a _ hH);have S:SetIs X.prog X.w s.heap a es ep t (uX xs):=⟨⟨o,ho,hx,hd⟩,T⟩;obtain⟨m0,a0,_⟩:=id I.loc;have hsz:es.size=xs.length:=by rw[T.size];unfold uX;rw[ab]
 rw[ab] at av
 have J:∀b,(⟨#[],{}⟩:Heap).get? b=none:=λb=>by
  cases e:(⟨#[],{}⟩:Heap).get? b with
  | none=>rfl
  | some o'=>
   have:=aD e;simp at this
 have a1:=zfJ (w:=X.w) (es:=es) a ep;have bs:es.toList=xs.map λq=>((tk X.prog X.w).hash (q.1.map Sum.inl),Value.ref q.2):=by rw[T.eq];unfold uX;rw[am];rfl
 rw[bs] at a1;obtain⟨B,O,bx⟩:=zbJ a1 rfl;refine kdu_sorted (h₀:=(⟨#[],{}⟩:Heap)) (L:=X.env.locals) (m:=m0) (news:=zbc s.heap X.env.locals) (zqH (t:=t) (xs:=uX xs) a ep) (I.ok.hd hc) ⟨a0,λb o e=>(by rw[J] at e;cases e),aJ _⟩ (λp hp=>?_) S (by rw[hsz,bH];lia) λD h' a2 vs F N b0 hl hP=>?_
 ·obtain⟨b,o⟩:=p;have:=z3.mp hp;exact⟨this.2,this.1,J b⟩
 ·have a3:vs=B.map λq=>Value.ref q.2:=by
   have b1:=O.length_eq;refine cW (by rw[hl,ab,b1,hsz]) λj h1 h2=>?_;obtain⟨e,he,hv⟩:=hP j vs[j] (aj h1);rw[zbR,bx,aw] at he;rw[ab] at h2;rw[aj h2] at he;rw[hv,cF,<- bE he]
  have kp:∀b o,b≠X.env.locals->s.heap.get? b=some o->h'.get? b=some o:=λb o hb e=>(N (b,o) (ao _ (z3.mpr ⟨hb,e⟩))).1;have a4:D≠X.env.locals:=(N (D,_) ak).2.1
  have ac:s.heap.get? D=none:=by
   cases e:s.heap.get? D with
   | none=>rfl
   | some o=>exact absurd (b0 (D,o) (z3.mpr ⟨a4,e⟩)) (bM _)
  have ad:H D=none:=by
   cases e:H D with
   | none=>rfl
   | some o=>
    obtain⟨o',Y⟩:=za4 (I.hok D o e);rw[ac] at Y;cases Y
  have Z:∀q∈B,H q.2=some (.tup (q.1.map V.int)):=λq hq=>bk q ((O.mem_iff).mp hq)
  have a5:Paired (zeU h' X.env.locals D) vs (B.map (·.1)):=by
   rw[a3]
   have b2:∀ (l:List (List Int×Addr)),(∀q∈l,H q.2=some (.tup (q.1.map V.int)))->Paired (zeU h' X.env.locals D) (l.map λq=>Value.ref q.2) (l.map (·.1)):=by
    intro l
    induction l with
    | nil=>intro _;exact .nil
    | cons q l ih=>
     intro hl;have hq:=hl q ak;obtain⟨ag,rv,⟨o',Y,b3⟩,_⟩:=I.tuple (.of hq);have a7:=zd hq I.free;exact .cons ⟨q.2,ag,rfl,⟨o',kp _ _ a7 Y,b3⟩,rv,a7,zd hq ad⟩ (ih λr hr=>hl r (ao _ hr))
   exact b2 B Z
  have al:=O.map (·.1);refine zmM (s:={ s with heap:=h',toks:=a2 }) F.ns a4 (N (D,_) ak).1 a5 (by rw[ab,O.length_eq];exact av) bo (λst b5=>hm st ((al.mem_iff).mp b5)) (al.nodup_iff.mpr bl) λcd c p hp bb b6 ca bd=>?_;have an:∀i∈p,i<B.length:=λi hi=>by have:=aM.mp ((hp.mem_iff).mp hi);rwa[ab] at this
  have U:(p.map λi=>(B.map (·.1)).getD i [])=(p.map λi=>B.getD i ([],0)).map (·.1):=by rw[am];refine bJ λi hi=>?_;have:=an i hi;simp[this]
  have ap:(p.map λi=>vs.getD i .none)=(p.map λi=>B.getD i ([],0)).map λq=>Value.ref q.2:=by rw[a3,am];refine bJ λi hi=>?_;have:=an i hi;simp[this]
  have cc:∀q∈(p.map λi=>B.getD i ([],0)),H q.2=some (.tup (q.1.map V.int)):=λq hq=>by
   obtain⟨i,hi,rfl⟩:=aC.mp hq;have h1:=an i hi;have:B.getD i ([],0)=B[i]:=by simp[h1]
   rw[this];exact Z _ (cg h1)
  rw[ap] at bd;rw[U] at bb;have as:p.length=xs.length:=by rw[hp.length_eq,ax,ab,O.length_eq]
  have I':=zd6 I a0 (ys:=(p.map λi=>B.getD i ([],0)).map λq=>V.ref q.2) (λb o hb e=>b6 b o hb (λz=>by rw[z,ac] at e;cases e) (kp b o hb e)) ca ac ad bd (zf4 _) (by rw[ab,ab,as,bH];lia) a2;refine⟨.ref D,_,I',rfl,(q _ ((p.map λi=>B.getD i ([],0)).map (·.1)) (zhz cc) ?_ bb).at ad⟩;refine List.Perm.trans ?_ al;rw[<- U];have:=hp.map λi=>(B.map (·.1)).getD i [];rwa[zbx] at this⟩
end
open PySem PySem.Spec PyProof.Rows
def ze2 (elt target iter:Expr)(ifs:List Expr)(scope:Scope)(pos:Pos)(it acc:Value)(env:Env) :
  compTurn (.SetComp elt [⟨target,iter,ifs,0⟩] scope pos) 0 it acc env=(do
   standAt iter.pos
   match <- pyNext it with
   | none=>pure (.done .next)
   | some v=>
    letOwnedTupleGo target it v
    assign target env v
    let mut ok:=true
    for c in ifs do
     if ok then ok <- isTrue c env (eval c env)
    if ok then
     (do let v <- eval elt env;standAt elt.pos;let _ <- call (.builtin "set.add") [acc,v])
    again (.compLoop (.SetComp elt [⟨target,iter,ifs,0⟩] scope pos) 0 it acc env)):=by rfl
section
variable {prog:Program}{w:World}{A:Around}{E:Value->Shared->Prop}{R:Result->Shared->Prop}{s:Shared}
def u4 {elt target iter ifs yf scope pos it acc env}
  (h0:codeAny (model prog w) A (.compLoop (.SetComp elt (⟨target,iter,ifs,0⟩::yf) scope pos) 0 it acc env) R s)
  (h:wpAny (model prog w) A (pyIter it) (λit' s'=>codeAny (model prog w) A (.compLoop (.SetComp elt (⟨target,iter,ifs,0⟩::yf) scope pos) 0 it' acc env) R s')
   (notedBy (model prog w) A env λx s'=>R (.error x) s') s) :
  codeAny (model prog w) A (.compStart (.SetComp elt (⟨target,iter,ifs,0⟩::yf) scope pos) 0 it acc env) R s:=by
 refine dj ?_;show wpAny _ _ ((compStart (.SetComp elt (⟨target,iter,ifs,0⟩::yf) scope pos) 0 it acc env).onRaise (λx=>do noteFrame x env;standAt theWindowsPlace)) _ _ s;refine wpAny_notedAt ?_;unfold compStart;show wpAny _ _ (ask >>= _) _ _ s;refine aa (bp (wpAny_ite ?_));split
 ·first
   | exact aa (af (af (And.intro rfl h0)))
   | exact af (And.intro rfl h0)
 ·first
   | exact aa (eW (aa (bA (aa (aS h (λit' s' h'=>af (And.intro rfl h')) λ_ _ x=>x)))))
   | (refine aa (eW ?_);show wpAny _ _ (standAt iter.pos >>= _) _ _ s;exact aa (bA (aa (aS h (λit' s' h'=>af (And.intro rfl h')) λ_ _ x=>x))))
def zbT(I:Nat->Shared->Prop)(turn:∀n s,I n s->wpAny (model prog w) A (pyNext it) (λr s₁=>match r with
   | none=>R (.ok .next) s₁
   | some v=>wpAny (model prog w) A (letOwnedTupleGo target it v) (λ_ s₂=>wpAny (model prog w) A (assign target env v) (λ_ s₃=>
     wpAny (model prog w) A (forIn ifs true λc r=>if r=true then do let ok <- isTrue c env (eval c env);pure (ForInStep.yield ok) else pure (ForInStep.yield r)) (λok s₄=>
      if ok=true then wpAny (model prog w) A (eval elt env) (λx s₅=>
       wpAny (model prog w) A (call (.builtin "set.add") [acc,x]) (λ_ s₆=>∃m,m<n/\I m s₆) (λ_ _=>False) s₅) (λ_ _=>False) s₄
      else ∃m,m<n/\I m s₄) (λ_ _=>False) s₃) (λ_ _=>False) s₂) (λ_ _=>False) s₁) (λ_ _=>False) s)(n:Nat)(h:I n s) :
  codeAny (model prog w) A (.compLoop (.SetComp elt [⟨target,iter,ifs,0⟩] scope pos) 0 it acc env) R s:=by
 refine el rfl I (λn s hI=>?_) n h;show wpAny _ A ((compTurn (.SetComp elt [⟨target,iter,ifs,0⟩] scope pos) 0 it acc env).onRaise (λx=>do noteFrame x env;theTreesLotGoes x)) _ _ s;refine eK ?_;rw[ze2];refine aa (bA (aa (aS (turn n s hI) (λr s₁ h₁=>?_) λ_ _ h'=>h'.elim)))
 cases r with
 | none=>exact af h₁
 | some v=>
  refine aa (aS h₁ (λ_ s₂ h₂=>?_) λ_ _ h'=>h'.elim);refine aa (aS h₂ (λ_ s₃ h₃=>aa (aS h₃ (λok s₄ h₄=>?_) λ_ _ h'=>h'.elim)) λ_ _ h'=>h'.elim)
  cases ok with
  | false=>exact af ⟨rfl,h₄⟩
  | true=>
   exact aa (aa (aS h₄ (λx s₅ h₅=>aa (bA (aa (aS h₅ (λ_ s₆ h₆=>af (af ⟨rfl,h₆⟩)) λ_ _ h'=>h'.elim)))) λ_ _ h'=>h'.elim))
def zkJ(h:Q (.ref s.heap.objs.size) { s with heap:=s.heap.push { cls:=.type "set",dict:=none,data:=.set #[] 0 (.fresh 0 0 (!w.params.followText "set-order")) } }):wpAny (model prog w) A (newSet (.type "set")) Q E s:=by unfold newSet setsByText;refine aa (aa (bp (af ?_)));dsimp only;simp only[newObj];exact aa (eO (af h))
def zfT (h:Heap):zic prog w (h.push { cls:=.type "set",dict:=none,data:=.set #[] 0 (.fresh 0 0 (!w.params.followText "set-order")) }) h.objs.size []:=by
 refine⟨_,#[],0,_,aF _ rfl,⟨rfl,rfl,rfl⟩,rfl,⟨rfl,eA,rfl,λi j _ B=>?_,λi j e=>?_,rfl,.inl rfl,aJ _,rfl,rfl,λi q e=>?_⟩,by show 0 * 5<7 * 3;decide⟩
 ·exact absurd B (cw _)
 ·simp[SetTable.fresh] at e
 ·simp at e
end
def uH:∀ {ns q:List Int},ns.map (Sum.inl:Int->Key)=q.map Sum.inl->ns=q
 | [],[],_=>rfl
 | [],_::_,e=>by cases e
 | _::_,[],e=>by cases e
 | n::ns,m::q,e=>by rw[aA,aA] at e;injection e with B D;rw[Sum.inl.inj B,uH D]
section
variable {X:Cx}
def zdH {pins:List (Addr×Obj)}{σ:St}{H:Hp}{s:Shared}{acc b:Addr}{ns:List Int}{ks:List (List Int)}{Q:Value->Shared->Prop}(hu:X.A.units+1<cLine)(I:Inv X pins σ H s)(S:zdk X.prog X.w H acc ks)(hb:H b=some (.tup (ns.map V.int)))(hn:ks.length<300)
  (h:∀o ks' s',zdk X.prog X.w (upd H acc o) acc ks'->(∀x,x∈ks'↔x=ns\/x∈ks)->ks'.length<=ks.length+1->Inv X pins σ (upd H acc o) s'->Q .none s') :
  wpAny (model X.prog X.w) X.A (call (.builtin "set.add") [.ref acc,.ref b]) Q X.xe s:=by
 obtain⟨xs,hH,hel,rfl,hnd⟩:=S;have hS:=(show y0 X.prog X.w H s.heap acc (zh0 X.prog X.w acc (uX xs)) from I.hok acc _ hH).1;obtain⟨o,es,ep,t,ho,hx,hd,T,hroom⟩:=id hS;refine bi F.slot_set_add ⟨o,ho,hx.1⟩ F.entry_set_add ?_ (F.args_set_add_2 _ _);unfold Builtin.«set.add»;refine aa (m:=Builtin.Frozenset.oneOther "add" ⟨[.ref acc,.ref b],[]⟩) (af ?_);have hba:b≠acc:=zkI hb hH (by intro z;cases z);have hea:∀q∈xs,q.2≠acc:=λq hq=>zkI (hel q hq) hH (by intro z;cases z);rw[ab] at hn;refine aa (zrj (A:=X.A.in1) (xs:=uX xs) (ns:=ns) (aW (ah _) hu) hS (zkh I hb) (λq hq=>?_) (by unfold uX;rw[ab];exact hn) λr h' n xs' sb S' hin hout=>?_)
 ·unfold uX at hq;obtain⟨q',hq',rfl⟩:=aC.mp hq;exact zkh I (hel q' hq')
 ·
  have mem_key:∀ {l:List (List Int×Addr)},(ns.map Sum.inl)∈(uX l).map (·.1)↔ns∈l.map (·.1):=by
   intro l;unfold uX;rw[am,aC,aC];constructor
   ·rintro⟨q,hq,e⟩;refine⟨q,hq,?_⟩;have e':q.1.map (Sum.inl:Int->Key)=ns.map Sum.inl:=e;exact uH e'
   ·rintro⟨q,hq,rfl⟩;exact⟨q,hq,rfl⟩
  have fin:∀xs2:List (List Int×Addr),xs'=uX xs2->(∀q∈xs2,q∈xs\/q=(ns,b))->(∀x,x∈xs2.map (·.1)↔x=ns\/x∈xs.map (·.1))->(xs2.map (·.1)).Nodup->xs2.length<=xs.length+1->wpAny (model X.prog X.w) X.A.in1 (do ret .none) (λfin s'=>∃v,fin = .done (.ret v)/\Q v s') X.xe { s with heap:=h',toks:=n }:=by
   rintro xs2 rfl hsub hmem hnd2 hlen
   have hel2:∀q∈xs2,H q.2=some (.tup (q.1.map V.int)):=λq hq=>by
    rcases hsub q hq with z | z
    ·exact hel q z
    ·rw[z];exact hb
   have hea2:∀q∈xs2,q.2≠acc:=λq hq=>zkI (hel2 q hq) hH (by intro z;cases z);refine af ⟨.none,rfl,h (zh0 X.prog X.w acc (uX xs2)) (xs2.map (·.1)) _ ⟨xs2,zk,λq hq=>by rw[zi (hea2 q hq)];exact hel2 q hq,rfl,hnd2⟩ hmem (by rw[ab,ab];exact hlen) ?_⟩;refine I.write (e:=acc) (by rw[hH];trivial) (.inl rfl) (λc u hc q=>sb.extBut c u hc q) ?_ (zgZ S');obtain⟨o',_,_,_,ho',_⟩:=S';exact⟨o',ho'⟩
  by_cases hm:ns∈xs.map (·.1)
  ·have:=hin (mem_key.mpr hm);refine fin xs this (λq hq=>.inl hq) (λx=>⟨.inr,λz=>z.elim (λe=>e ▸ hm) id⟩) hnd (dR _)
  ·have hp:=hout λz=>hm (mem_key.mp z);have hk:((ns.map Sum.inl,b)::uX xs)=uX ((ns,b)::xs):=rfl;rw[hk] at hp;obtain⟨xs2,hp2,e2⟩:=zbJ hp rfl;refine fin xs2 e2 (λq hq=>?_) (λx=>?_) ?_ ?_
   ·rcases aK.mp ((hp2.mem_iff).mp hq) with z | z
    ·exact .inr z
    ·exact .inl z
   ·rw[(hp2.map (·.1)).mem_iff,aA,aK]
   ·rw[(hp2.map (·.1)).nodup_iff,aA,cu];exact⟨hm,hnd⟩
   ·rw[hp2.length_eq,a8];exact ah _
end
def ze7(elt gens scope pos):eval (.SetComp elt gens scope pos) env=comprehension (.SetComp elt gens scope pos) scope env (firstIterPos gens pos) (newSet (.type "set")) (firstAsync gens) (firstIter gens env):=rfl
def setT (P:Program)(w:World)(g:TG)(ti:TT)(te:TE)(acc:Addr)(N:St->Hp->Prop)(x:V)(σ:St)(H:Hp):Prop:=
 g x σ H λq H3=>ti q H3 λD H4=>if D=true then te q H4 λv H5=>∃b ns ks,v = .ref b/\H5 b=some (.tup (ns.map V.int))/\zdk P w H5 acc ks/\ks.length<300/\
  (∀o B,zdk P w (upd H5 acc o) acc B->(∀x,x∈B↔x=ns\/x∈ks)->B.length<=ks.length+1->N q (upd H5 acc o)) else N q H4
def setG (P:Program)(w:World)(J:It)(g:TG)(ti:TT)(te:TE)(acc:Addr)(Q:VK)(σ:St)(H:Hp):Prop:=∃W:Nat->Nat->St->Hp->Prop,(∃m,W 0 m σ H)/\
 ∀i m q H',W i m q H'->(J.stop i H'/\Q (.ref acc) H')\/(J.go i H'/\∃N:St->Hp->Prop,(∀ B H2,N B H2->∃D,D<m/\W (i+1) D B H2)/\∀x H2,J.yld i H' x H2->setT P w g ti te acc N x q H2)
def zqR (P:Program)(w:World)(wi:TI)(g:TG)(ti:TT)(te:TE)(cix:List (Option Nat)):TE:=λσ H Q=>wi σ H λJ H1=>∀acc,H1 acc=none->zdk P w (upd H1 acc (zh0 P w acc [])) acc []->setG P w J g ti te acc Q (x6 σ cix) (upd H1 acc (zh0 P w acc []))
section
variable {X:Cx}{Fam:Cx->Prop}{scope:Scope}{N:List Str}{cix:List (Option Nat)}{z:Str}{use:Option (Value->Sem Unit)}{Qp:Value->Shared->Prop}{elt ke ve tg iter tg2 iter2:Expr}{ifs ifs2:List Expr}{pos ipos spos px:Pos}{wi wi2:TI}{g g2:TG}{ti ti2:TT}{te tk tv:TE}{pins:List (Addr×Obj)}{σ:St}{H:Hp}{s:Shared}{Q:VK}{o0:HO}
def zns (hu:X.A.units+1<cLine)(O:Opn X scope cix Fam)(hc:X.calm=true)(hi:PI X tg iter wi)(hg:∀X',Fam X'->PG X' tg g)(ht:∀X',Fam X'->PTs X' ifs ti)(he:∀X',Fam X'->PE X' elt te)(hs:∀x,foldedSetIterable iter X.env x=pure x)(I:Inv X pins σ H s)
  (h:zqR X.prog X.w wi g ti te cix σ H Q) (F:zuw X pins σ use Qp Q) :
  wpAny (model X.prog X.w) X.A (comprehension (.SetComp elt [⟨tg,iter,ifs,0⟩] scope pos) scope X.env ipos (newSet (.type "set")) false (eval iter X.env) use) Qp X.xe s:=
 zaP (ob:={ cls:=.type "set",dict:=none,data:=.set #[] 0 (.fresh 0 0 (!X.w.params.followText "set-order")) }) (o0:=λa=>zh0 X.prog X.w a []) (Fin:=λacc H=>Q (.ref acc) H) (B:=λX' acc P s=>wpAny (model X'.prog X'.w) X'.A (eval elt X'.env) (λx s5=>wpAny (model X'.prog X'.w) X'.A (call (.builtin "set.add") [.ref acc,x]) (λ_ s6=>P s6) (λ_ _=>False) s5) (λ_ _=>False) s) (tb:=λacc Nx σ H=>te σ H λv H5=>∃ (b:Addr) (ns:List Int) (ks:List (List Int)),v = .ref b/\H5 b=some (.tup (ns.map V.int))/\zdk X.prog X.w H5 acc ks/\ks.length<300/\(∀o D,zdk X.prog X.w (upd H5 acc o) acc D->(∀x,x∈D↔x=ns\/x∈ks)->D.length<=ks.length+1->Nx σ (upd H5 acc o))) O hc rfl hs (λ_ _ _ _ _ h0 h1=>u4 h0 h1) (λ_ _ _ _ _ _ I L n h=>zbT I L n h) (λs Q h=>zkJ h) (λ_ _=>zgZ (zfT _)) hi hg ht (λX' hF pX wX AX _ xX acc pl s σ H Nx P I q k=>by have e9:=he X' hF pl s σ H _ I q;rw[xX] at e9;refine thn e9 ?_;rintro u2 ac ⟨v,H10,I10,Y,b,ns,ks,rfl,hb,S,Z,nx⟩;cases Y;have U:=zdH (X:=X') (Q:=λ_ s'=>P s') (by rw[AX];exact hu) I10 (by simp_all) hb Z λo D s' S' hm hl I'=>k _ _ _ I' (nx o D (by simp_all) hm hl);rw[xX] at U;exact U) I h (λJ H1 acc q Z=>q acc Z ⟨[],zk,λq hq=>by simp at hq,rfl,eA⟩) F
end
def ziB(B:X.A.units+1<cLine)(D:X.calm=true)(c:CompOk X scope N cix)(hi:QI X tg iter wi)(F:∀C s H ex,QG (zu X scope N C s H ex) tg g)(J:∀C s H ex,QTs (zu X scope N C s H ex) ifs ti)(L:∀C s H ex,QE (zu X scope N C s H ex) elt te)(O:∀x,foldedSetIterable iter X.env x=pure x:=by intro _;rfl):QE X (.SetComp elt [⟨tg,iter,ifs,0⟩] scope pos) (zqR X.prog X.w wi g ti te cix):=⟨λpins s σ H Q I h=>by
 rw[ze7];exact zns B (zab c) D hi.run (zdo λC s H ex=>(F C s H ex).run) (zdo λC s H ex=>(J C s H ex).run) (zdo λC s H ex=>(L C s H ex).run) O I h λ_ _ _ _ _ U Y q=>zaR U Y q⟩
section
variable {P:Program}{w:World}{K:PySem.W.Frag}{a acc:Addr}{xs:List V}{g:TG}{ti:TT}{te:TE}{σ:St}{H:Hp}{Q:VK}
end
open PySem
def zls (H:Hp):xm H H:=λ_ _ z=>z
open PySem PySem.Spec PyProof.Rows
section
variable {X:Cx}
end
open PySem PySem.Spec PyProof.Rows PySem.W PySem.Calls
section
variable {prog:Program}{w:World}{A:Around}{E:Value->Shared->Prop}{s:Shared}{es:Array DictEntry}
def uj (h:Heap)(d:Addr)(es:Array DictEntry)(q:Nat):Prop:=∃o,h.get? d=some o/\o.ExactDict/\o.data = .dict es q
def uj.keep(x:uj h d es q)(k:∀o,h.get? d=some o->h'.get? d=some o):uj h' d es q:=let ⟨o,ho,r⟩:=x;⟨o,k o ho,r⟩
def uj.typeIs(x:uj s.heap d es q):s.TypeIs (.ref d) "dict" := let ⟨o,ho,hc,_⟩:=x;⟨o,ho,hc.1⟩
def uj.lt(x:uj h d es q):d<h.objs.size:=let ⟨o,ho,_⟩:=x;aD ho
def zcq(L:(d==sysModules)=false)(I:uj s.heap d es D)(O:Q (.ref s.heap.objs.size) { s with heap:=s.heap.push { cls:=.type "dict_keyiterator",data:=.fields #[.ref d,.int 0 0,.int es.size 0,.int D 0] } }) :
  wpAny (model prog w) A (pyIter (.ref d)) Q E s:=by
 obtain⟨o,J,U,q⟩:=id I;have B:=I.typeIs;refine eI B PySem.F.slot_dict_iter (bi PySem.F.slot_dict_iter B PySem.F.entry_dict_iter ?_ (PySem.F.args_dict_iter_1 _));unfold Builtin.«dict.__iter__»;refine aa ?_;unfold Builtin.Dict.dictSlotNone;refine aa (wpAny_notOrdered_dict B ?_);show wpAny _ _ (pure (Value.ref d)) _ _ s;refine af ?_;show wpAny _ _ (Builtin.Dict.showsAll d >>= _) _ _ s;unfold Builtin.Dict.showsAll;rw[if_neg (by rw[L];exact aH)];refine aa (af ?_);refine aa (eJ J q ?_);refine aa (wpAny_dictEpoch J q ?_);refine aa (bu (af ⟨_,rfl,"dict_keyiterator",_,⟨_,aF _ rfl,rfl⟩,PySem.F.slot_dict_keyiterator_next.lookup,?_⟩));simpa [rawInt] using O
def zmG(q:s.heap.IsKeyIter B d i es.size L)(Y:uj s.heap d es L)(Z:es[i]?=some e)(hQ:∀h',h'.IsKeyIter B d (i+1) es.size L->Heap.SameBut B s.heap h'->Q (.done (.ret e.key)) { s with heap:=h' }):wpAny (model prog w) A (Builtin.«dict_keyiterator.__next__» { pos:=[Value.ref B] }) Q E s:=by
 obtain⟨o,U,hc,O⟩:=id q;obtain⟨od,F,ac,I⟩:=id Y;refine aa (af ?_);refine aa ?_;refine aa ?_
 first | refine aa (b7 q.typeIs (af ?_)) | refine aa (cy q.typeIs (af ?_))
 refine aa (eD U O ?_);have J:Builtin.Dict_items.ownsTuple "dict_keyiterator" = false:=by decide
 simp only[J,aP,if_false];show wpAny _ _ (if (Value.ref d==Value.none)=true then _ else _) _ _ s;rw[if_neg (show ¬ ((Value.ref d==Value.none)=true) from aH)];refine aa (af ?_);refine aa (eJ F I ?_);rw[if_neg (by simp)];refine aa (af ?_);refine aa (wpAny_dictEpoch F I ?_);rw[if_neg (by simp)];refine af ?_;simp only[show ¬ ((i:Int)<0) from by lia,if_false,aL,Z];refine aa ?_
 first | refine aa (b7 q.typeIs (af ?_)) | refine aa (cy q.typeIs (af ?_))
 refine aa (wpAny_isOneOf_keyiter q.typeIs ?_);show wpAny _ _ (setField (.ref B) 1 (rawInt ((i:Int)+1)) >>= _) _ _ s;refine aa (cT U O (by simp) ?_)
 have D:(s.heap.update B (Obj.mapFields (·.setIfInBounds 1 (rawInt ((i:Int)+1))))).IsKeyIter B d (i+1) es.size L:=
  ⟨_,ck _ U (dE (cm O _)),(eG ..).trans hc,by rw[cm O];simp[rawInt]⟩
 refine aa (bz ?_);refine aa (wpAny_isOneOf_keyiter (s:={ s with heap:=s.heap.update B (Obj.mapFields (·.setIfInBounds 1 (rawInt ((i:Int)+1)))) }) D.typeIs ?_);show wpAny _ _ (pure e.key) _ _ _;exact af (af (hQ _ D (bI ..)))
def zbr(q:s.heap.IsKeyIter B d i es.size D)(F:uj s.heap d es D)(I:es[i]?=some e)(J:∀h',h'.IsKeyIter B d (i+1) es.size D->Heap.SameBut B s.heap h'->Q (some e.key) { s with heap:=h' }):wpAny (model prog w) A (pyNext (.ref B)) Q E s:=by
 unfold pyNext
 exact aa (cQ (wpAny_callSpecial?_slot (name:=Str.ofString "__next__") q.typeIs bL
  (bi bL q.typeIs cZ (zmG q F I λh' a b=>⟨_,rfl,af (J h' a b)⟩) (cU _))))
def zpm(U:A.handled=none)(q:s.heap.IsKeyIter I d es.size es.size J)(Y:uj s.heap d es J)(Z:∀h' x,Heap.ExtBut I s.heap h'->(∃o,h'.get? x=some o/\o.cls = .type "StopIteration")->E (.ref x) { s with heap:=h' }):wpAny (model prog w) A (Builtin.«dict_keyiterator.__next__» { pos:=[Value.ref I] }) Q E s:=by
 obtain⟨o,L,hc,O⟩:=id q;obtain⟨od,B,ac,D⟩:=id Y;refine aa (af ?_);refine aa ?_;refine aa ?_
 first | refine aa (b7 q.typeIs (af ?_)) | refine aa (cy q.typeIs (af ?_))
 refine aa (eD L O ?_);have F:Builtin.Dict_items.ownsTuple "dict_keyiterator" = false:=by decide
 simp only[F,aP,if_false];show wpAny _ _ (if (Value.ref d==Value.none)=true then _ else _) _ _ s;rw[if_neg (show ¬ ((Value.ref d==Value.none)=true) from aH)];refine aa (af ?_);refine aa (eJ B D ?_);rw[if_neg (by simp)];refine aa (af ?_);refine aa (wpAny_dictEpoch B D ?_);rw[if_neg (by simp)];refine af ?_;simp only[show ¬ ((es.size:Int)<0) from by lia,if_false,aL,Array.getElem?_eq_none (ah es.size)];refine aa ?_
 first | refine aa (b7 q.typeIs (af ?_)) | refine aa (cy q.typeIs (af ?_))
 show wpAny _ _ (setField (.ref I) 0 .none >>= _) _ _ s;refine aa (cT L O (by simp) ?_);show wpAny _ _ (newExc (.type "StopIteration") [] >>= _) _ _ _;refine aa ?_;simp only[newExc,newTuple];refine aa (bu ?_ (by size_fits));refine aa (m:=firstArgMember _ _) (wpAny_of_eq (a:=Value.none) (by first | rfl | (simp only[firstArgMember];rfl)) ?_);refine bu ?_ (by size_fits);simp only[raiseNew];refine aa (wpAny_handled ?_);rw[U];refine aa (af (wpAny_throw ?_));exact Z _ _ (((bI ..).extBut.push _).push _) ⟨_,aF _ rfl,rfl⟩
def zcz(F:A.handled=none)(q:s.heap.IsKeyIter B d es.size es.size D)(I:uj s.heap d es D)(J:∀h',Heap.ExtBut B s.heap h'->Q none { s with heap:=h' }):wpAny (model prog w) A (pyNext (.ref B)) Q E s:=by
 unfold pyNext
 refine aa (cQ (wpAny_callSpecial?_slot (name:=Str.ofString "__next__") q.typeIs bL
  (bi bL q.typeIs cZ (zpm F q I λh' x a b=>?_) (cU _))))
 exact aa (cG (T := "StopIteration") (b:=true) b dA (af (J _ a)))
def zij (Y:A.handled=none)(I d:Addr)(F:d≠I)(L:Nat) :
  Walks prog w A I [I,d] [I] es.size (λi v=>∃e,es[i]?=some e/\v=e.key) (λi h=>h.IsKeyIter I d i es.size L/\uj h d es L) where
 sub:=λb q=>by simp at q;simp[q]
 frame:=λ_ _ _ st O=>⟨let ⟨o,ho,r⟩:=st.1;⟨o,O I (by simp) o ho,r⟩,st.2.keep λo e=>O d (by simp) o e⟩
 item:=λi s Q E hi st B=>by refine zbr st.1 st.2 (bF hi) λh' D U=>?_;exact B _ h' s.toks ⟨_,bF hi,rfl⟩ ⟨D,st.2.keep λo e=>(U.2 d F).trans e⟩ λb o q e=>U.extBut b o (λh=>q (by simp[h])) e
 done:=λs Q E st B=>zcz Y st.1 st.2 λh' J=>B h' s.toks λb o q e=>J b o (λh=>q (by simp[h])) e
 self:=λ_ _ _ _ st B=>dJ st.1 B
def zml (d:Addr)(B:Nat)(lo:(d==sysModules)=false):KdlSrc prog w "dict" d d es.size (λi v=>∃e,es[i]?=some e/\v=e.key) (λh=>uj h d es B) where
 type:=λs S=>S.typeIs
 there:=λ_ S=>⟨S.lt,S.lt⟩
 keep:=λ_ _ S D=>S.keep λo e=>D d (.inl rfl) o e
 notList:=by decide
 notTuple:=by decide
 hint:=λ_ _ _ _ S q=>kdl_hint_dict S.typeIs q
 iter:=λA s F S=>⟨_,_,(λ_ _ q=>zcq lo S q),zij F _ d (aU S.lt) B,⟨⟨_,aF _ rfl,rfl,rfl⟩,S.keep λo e=>aq _ e⟩⟩
end
section
variable {prog:Program}{w:World}{A:Around}{E:Value->Shared->Prop}{s:Shared}
end
section
variable {X:Cx}
end
def zhB (kvs:List (List Int×V)):List (List Key×V):=kvs.map λq=>(q.1.map Sum.inl,q.2)
def dtO (kvs:List (List Int×V)):HO:=.dT (zhB kvs)
def zhC (kvs:List (List Int×V))(st:List Int):zbh (zhB kvs) (st.map Sum.inl)=zbh kvs st:=by
 unfold zhB
 induction kvs with
 | nil=>rfl
 | cons q r B=>
  rw[aA];by_cases e:q.1=st
  ·rw[xw (p:=q) e,xw (p:=(q.1.map Sum.inl,q.2)) (by rw[e])]
  ·rw[xO (p:=q) e,xO (p:=(q.1.map Sum.inl,q.2)) (λz=>e (uH z)),B]
def zmF (kvs:List (List Int×V))(st:List Int)(v:V):zal (zhB kvs) (st.map Sum.inl) v=zhB (zal kvs st v):=by
 have B:∀q:List Int×V,decide ((q.1.map (Sum.inl:Int->Key))=st.map Sum.inl)=decide (q.1=st):=λq=>by rw[bV,decide_eq_true_eq,decide_eq_true_eq];exact⟨uH,λz=>by rw[z]⟩
 have D:((zhB kvs).any λkv=>decide (kv.1=st.map Sum.inl))=kvs.any λkv=>decide (kv.1=st):=by unfold zhB;rw[List.any_map];congr 1;funext q;exact B q
 unfold zal;rw[D];by_cases h:(kvs.any λkv=>decide (kv.1=st))=true
 ·rw[if_pos h,if_pos h];unfold zhB;rw[am,am];refine bJ λq _=>?_
  grind
 ·rw[if_neg h,if_neg h];unfold zhB
  simp_all
def zc2.i{kvs:List (List Int×V)}{st:List Int}(e:H a=some (dtO kvs))(q:H b=some (.tup (st.map V.int))):zc2 H a (.ref b) (zbh kvs st):=by have:=zc2.t (k:=st.map Sum.inl) e (by rw[zcn];exact q);rwa[zhC] at this
def zdK.i{kvs:List (List Int×V)}{st:List Int}(e:H a=some (dtO kvs))(q:H b=some (.tup (st.map V.int)))(B:kvs.length<sizeLine):zdK H a (.ref b) v (upd H a (dtO (zal kvs st v))):=by have:=zdK.t (k:=st.map Sum.inl) (v:=v) e (by rw[zcn];exact q) (by unfold zhB;rw[ab];exact B);rwa[zmF] at this
def zqP:TE:=λ_ H Q=>New H (dtO []) Q
section
variable {X:Cx}
def znb:QE X (.Dict [] [] pos) zqP:=⟨λpins s σ H Q I h=>zm1 pins s σ H Q I λp q=>h.at q⟩
def zmm {pins:List (Addr×Obj)}{σ:St}{H:Hp}{s:Shared}(I:Inv X pins σ H s){a:Addr}{kvs:List (List Int×V)}(h:Rd H a (dtO kvs)) :
  (a==sysModules)=false/\∃ (es:Array DictEntry) (B:Nat) (ys:List (List Int×Addr)),uj s.heap a es B/\ys.map (·.1)=kvs.map (·.1)/\(∀q∈ys,H q.2=some (.tup (q.1.map V.int)))/\es.toList.map (·.key)=ys.map (λq=>Value.ref q.2)/\kvs.length<=sizeLine/\(kvs.map (·.1)).Nodup:=by
 obtain⟨z,lo,xs,r,o,es,B,h1,h2,h3,h4,O⟩:=(show y0 X.prog X.w H s.heap a (.dT (zhB kvs)) from zqx I.hok h)
 have D:∀ {kvs:List (List Int×V)} {xs:List (List Key×Addr×Value)},Paired (λ(p:List Key×V) (q:List Key×Addr×Value)=>p.1=q.1/\H q.2.1=some (.tup (p.1.map kV))/\y1 p.2 q.2.2) (zhB kvs) xs->
   ∃ys:List (List Int×Addr),ys.map (·.1)=kvs.map (·.1)/\(∀q∈ys,H q.2=some (.tup (q.1.map V.int)))/\xs.map (λq=>Value.ref q.2.1)=ys.map (λq=>Value.ref q.2)/\xs.map (·.1)=kvs.map (λq=>q.1.map Sum.inl):=by
  intro kvs
  induction kvs with
  | nil=>intro xs r;cases r;exact⟨[],rfl,λ_ h=>by simp at h,rfl,rfl⟩
  | cons q kvs ih=>
   intro xs r
   cases r with
   | cons r1 r2=>
    rename_i x ac;obtain⟨ys,U,F,Y,Z⟩:=ih r2;refine⟨(q.1,x.2.1)::ys,by simp_all,λy J=>?_,by simp_all,by simp_all⟩;rcases aK.mp J with rfl | J
    ·have:=r1.2.1;rwa[show ((q.1.map Sum.inl,q.2):List Key×V).1=q.1.map Sum.inl from rfl,zcn] at this
    ·exact F y J
 obtain⟨ys,U,F,Y,Z⟩:=D r;refine⟨lo,es,B,ys,⟨o,h1,h2,h3⟩,U,F,?_,?_,?_⟩
 ·rw[h4,am,<- Y];rfl
 ·unfold zhB at z
  simp_all
 ·rw[Z] at O;have L:((kvs.map (·.1)).map λst:List Int=>st.map (Sum.inl:Int->Key)).Nodup:=by rw[am];exact O
  exact (br.mp L).imp λh z=>h (by rw[z])
end
open PySem PySem.Spec PyProof.Rows
abbrev Up' (l:List (List Int)):Prop:=l.Pairwise λa b=>HT.lexLt a b=true
def zo7 (x:List Int):List (List Int)->List (List Int)
 | []=>[x]
 | y::r=>if HT.lexLt x y then x::y::r else if x=y then y::r else y::zo7 x r
def zeF (l:List (List Int)):List (List Int):=l.foldr zo7 []
def zd4 {x z:List Int}:∀ {l:List (List Int)},z∈zo7 x l↔z=x\/z∈l
 | []=>by show z∈[x]↔_;simp
 | y::r=>by
  unfold zo7;split
  ·simp
  ·split
   ·simp_all
   ·rw[aK,zd4,aK]
    grind
def yC {z:List Int}:∀ {l:List (List Int)},z∈zeF l↔z∈l
 | []=>Iff.rfl
 | x::l=>by show z∈zo7 x (zeF l)↔_;rw[zd4,yC,aK]
def zjZ {x:List Int}{m:Nat}(D:x.length=m):∀ {l:List (List Int)},(∀y∈l,y.length=m)->Up' l->Up' (zo7 x l)
 | [],_,_=>cC _ _
 | y::r,F,B=>by
  have I:=F y ak;rw[Up',bY] at B;unfold zo7;split
  ·rename_i h;refine bY.mpr ⟨λz q=>?_,bY.mpr B⟩;rcases aK.mp q with rfl | q
   ·exact h
   ·exact za1 (D.trans I.symm) (by grind) h (B.1 z q)
  ·rename_i h;split
   ·exact bY.mpr B
   ·rename_i J;refine bY.mpr ⟨λz q=>?_,zjZ D (λz q=>F z (ao _ q)) B.2⟩;rcases zd4.mp q with rfl | q
    ·rcases u8 (a:=z) (b:=y) (D.trans I.symm) with e | e | e
     all_goals simp_all
    ·exact B.1 z q
def zfW{l:List (List Int)}(h:∀y∈l,y.length=m):∀y∈zeF l,y.length=m:=λy q=>h y (yC.mp q)
def zan:∀ {l:List (List Int)},(∀y∈l,y.length=m)->Up' (zeF l)
 | [],_=>.nil
 | x::l,h=>zjZ (h x ak) (zfW λy q=>h y (ao _ q)) (zan λy q=>h y (ao _ q))
def zg6:∀ {l l':List (List Int)},(∀y∈l,y.length=m)->Up' l->Up' l'->(∀z,z∈l↔z∈l')->l=l'
 | [],[],_,_,_,_=>rfl
 | [],y::r,_,_,_,h=>absurd ((h y).mpr ak) (by simp)
 | x::l,[],_,_,_,h=>absurd ((h x).mp ak) (by simp)
 | x::l,y::r,D,F,q,h=>by
  rw[Up',bY] at F q;have B:∀z∈y::r,z.length=m:=λz I=>D z ((h z).mpr I)
  have e:x=y:=by
   rcases aK.mp ((h x).mp ak) with e | e
   ·exact e
   ·rcases aK.mp ((h y).mpr ak) with J | J
    ·exact J.symm
    ·have h1:=q.1 x e;have h2:=F.1 y J;have O:=za1 ((D x ak).trans (B y ak).symm) ((B y ak).trans (D x ak).symm) h2 h1;rw[y8] at O;cases O
  subst e
  have L:∀ {l:List (List Int)},(∀z∈l,HT.lexLt x z=true)->x∉l:=λU z=>by have:=U x z;rw[y8] at this;cases this
  congr 1;refine zg6 (λz I=>D z (ao _ I)) F.2 q.2 λz=>?_
  grind
def zeG{l l':List (List Int)}(q:∀y∈l,y.length=m)(B:Up' l')(h:∀z,z∈l'↔z∈l):l'=zeF l:=
 zg6 (λy D=>q y ((h y).mp D)) B (zan q) λz=>(h z).trans yC.symm
def zcX{l l':List (List Int)}(q:∀y∈l,y.length=m)(h:∀z,z∈l'↔z∈l):zeF l'=zeF l:=
 zeG q (zan λy B=>q y ((h y).mp B)) λz=>yC.trans (h z)
def znA {l:List (List Int)}(h:Up' l):l.Nodup:=h.imp λ{a b} q e=>by subst e;rw[y8] at q;cases q
def u6 (bk:List Wi)(st q:List Int):List (List Int):=(bk.filter λx=>zaK st x&&!q.contains x.b).map λx=>chg st x.b x.r
def zl8 (bk:List Wi)(st q:List Int):List (List Int):=zeF (u6 bk st q)
def yW{st q z:List Int}:z∈u6 bk st q↔∃x∈bk,zaK st x=true/\x.b∉q/\z=chg st x.b x.r:=by
 unfold u6
 grind
def zaU{rm:List Int}{st D:List Int}(q:∀x∈bk,WishOk rm x)(F:st.length=rm.length):∀z∈u6 bk st D,z.length=rm.length:=λz I=>by obtain⟨x,B,_,_,rfl⟩:=yW.mp I;have h1:=(q x B).b1;rw[zaG (q x B).b0 (by lia)];exact F
def xA {α:Type}[BEq α][LawfulBEq α]:∀ {l l':List α},l.Nodup->(∀x∈l,x∈l')->l.length<=l'.length
 | [],_,_,_=>aJ _
 | a::l,l',q,h=>by
  rw[cu] at q;have B:=h a ak
  have:=xA (l:=l) (l':=l'.erase a) q.2 λx D=>by grind
  grind
def zaT{rm:List Int}{st B:List Int}{ks:List (List Int)}(q:∀x∈bk,WishOk rm x)(U:rm.length<=8)(D:∀r∈rm,2<=r/\r<=4)(F:ks.Nodup)(I:∀z∈ks,z∈u6 bk st B):ks.length<=32:=by
 have:=xA (l':=(List.range 32).map λc=>chg st ((c / 4:Nat):Int) ((c % 4:Nat):Int)) F λz J=>by obtain⟨x,L,_,_,rfl⟩:=yW.mp (I z J);have o:=q x L;have h1:=o.b1;have h2:=o.b0;have O:=o.r0;have Y:=o.r1;have Z:=(yk D h2 h1).2;refine aC.mpr ⟨4 * x.b.toNat+x.r.toNat,aM.mpr (by lia),?_⟩;rw[show (4 * x.b.toNat+x.r.toNat) / 4=x.b.toNat by lia,show (4 * x.b.toNat+x.r.toNat) % 4=x.r.toNat by lia,cD h2,cD O]
 simp_all
open PySem
end L2
namespace L2
open PySem PySem.Spec PyProof.Rows PySem.SeqAt
def zb1:∀ds:List Dt,Dt.toWs ds=ds.map Dt.toW
 | []=>rfl
 | d::ds=>by rw[Dt.toWs,aA,zb1 ds]
def zfr:∀ds:List PySem.W.Dat,PySem.W.kqdPs ds=ds.map PySem.W.kqdP
 | []=>by simp[PySem.W.kqdPs]
 | d::ds=>by rw[aA,<- zfr ds];simp[PySem.W.kqdPs]
def zv1 (q:Bool):R2:=λx y H Q=>∃d ds,Is H d x/\(Is H (.lst ds) y\/Is H (.tup ds) y)/\d.eqOk/\(Dt.lst ds).eqOk/\∀b:Bool,(b=true↔d∈ds)->Q (.bl (if q then !b else b)) H
section
variable {X:Cx}
def zd7(h:(Dt.lst ds).eqOk):∀d∈ds,PySem.W.kqdOk 7 d.toW=true:=λd q=>by
 have h':PySem.W.kqdOk 8 (Dt.lst ds).toW=true:=h;simp only[Dt.toW,PySem.W.kqdOk,bc,zb1] at h'
 simp_all
def ziY(q:d.eqOk)(B:(Dt.lst ds).eqOk):((PySem.W.kqdPs (Dt.toWs ds)).any λy=>PyData.eqv y (PySem.W.kqdP d.toW))=true↔d∈ds:=by
 rw[zfr,zb1,am,List.any_map,cY];constructor
 ·rintro⟨e,D,h⟩;have:=(PySem.W.kqd_eqv 7 e.toW d.toW 8 (zd7 B e D) q).mp h;rw[<- zg4 this];exact D
 ·intro h;exact⟨d,h,(PySem.W.kqd_eqv 7 d.toW d.toW 8 (zd7 B d h) q).mpr rfl⟩
def zmI(h:PySem.W.kqdOk 7 d=true):PySem.W.kqdOk 8 d=true:=by
 have q:∀ (n:Nat) (d:PySem.W.Dat),PySem.W.kqdOk n d=true->PySem.W.kqdOk (n+1) d=true:=by
  intro n
  induction n with
  | zero=>intro d h;cases d <;> simp_all [PySem.W.kqdOk]
  | succ n B=>
   intro d h;cases d <;> simp_all [PySem.W.kqdOk]
 exact q 7 d h
def zse {d:Dt}{ds:List Dt}{u:Nat}(F:d.eqOk)(I:(Dt.lst ds).eqOk)(O:u+64<cLine):PyData.canLayAll0 (PySem.W.kqdPs (Dt.toWs ds))=true/\(PySem.W.kqdP d.toW).canLay0=true/\u+1+min (PyData.depthAll (PySem.W.kqdPs (Dt.toWs ds))) (PySem.W.kqdP d.toW).depth<cLine:=by
 have B:=PySem.W.kqd_lay 8 _ F
 have J:=PySem.W.kqd_layL (ds:=Dt.toWs ds) λe D=>by rw[zb1] at D;obtain⟨L,q,rfl⟩:=aC.mp D;exact zmI (zd7 I L q)
 refine⟨J.1,B.1,?_⟩;have:min (PyData.depthAll (PySem.W.kqdPs (Dt.toWs ds))) (PySem.W.kqdP d.toW).depth<=8:=ar (Nat.min_le_right _ _) B.2;lia
def zkW (Z:X.A.units+64<cLine):OpQ X (compareOp .NotIn) (zv1 true):=⟨by
 intro pins s σ H x y v u Q I rx J h;obtain⟨d,ds,hd,B,D,ks,q⟩:=h;obtain⟨as,L⟩:=uc I.hok 8 hd rx D;obtain⟨O,U,Y⟩:=zse D ks Z;rcases B with B | B
 ·obtain⟨bs,F⟩:=uc I.hok 8 B J ks;exact notIn_list_reads F L O U Y ⟨.bl _,H,I,rfl,q _ (ziY D ks)⟩
 ·obtain⟨bs,F⟩:=uc I.hok 8 B J (show (Dt.tup ds).eqOk from ks);exact notIn_tuple_reads F L O U Y ⟨.bl _,H,I,rfl,q _ (ziY D ks)⟩⟩
end
open PySem PySem.Spec PyProof.Rows
def zaB (bk:List Wi)(box:Int)(st:List Int):List (List Int):=(bk.filter λx=>decide (x.b=box)&&yY st x.g).map λx=>[x.w,x.r]
def lpF (bk:List Wi)(box:Int)(st:List Int):List (List Int):=zeF (zaB bk box st)
def xq{box:Int}{st z:List Int}:z∈zaB bk box st↔∃x∈bk,x.b=box/\yY st x.g=true/\z=[x.w,x.r]:=by
 unfold zaB
 grind
def xQ{box:Int}{st:List Int}:∀z∈zaB bk box st,z.length=2:=λz q=>by obtain⟨x,_,_,_,rfl⟩:=xq.mp q;rfl
def zbw{rm:List Int}{box:Int}{st:List Int}{ks:List (List Int)}(q:∀x∈bk,WishOk rm x)(B:∀r∈rm,2<=r/\r<=4)(D:ks.Nodup)(F:∀z∈ks,z∈zaB bk box st):ks.length<=16:=by
 have:=xA (l':=(List.range 16).map λc=>[((c / 4:Nat):Int),((c % 4:Nat):Int)]) D λz I=>by obtain⟨x,J,_,_,rfl⟩:=xq.mp (F z I);have o:=q x J;have L:=o.r0;have U:=o.r1;have Y:=(yk B o.b0 o.b1).2;have O:=o.w0;have Z:=o.w1;refine aC.mpr ⟨4 * x.w.toNat+x.r.toNat,aM.mpr (by lia),?_⟩;rw[show (4 * x.w.toNat+x.r.toNat) / 4=x.w.toNat by lia,show (4 * x.w.toNat+x.r.toNat) % 4=x.r.toNat by lia,cD O,cD L]
 simp_all
def zsi{rm:List Int}{box:Int}{st:List Int}(q:∀x∈bk,WishOk rm x)(B:∀r∈rm,2<=r/\r<=4):(lpF bk box st).length<=16:=
 zbw q B (znA (zan xQ)) λz D=>yC.mp D
def zsk{box:Int}{st:List Int}:∀z∈lpF bk box st,z.length=2:=zfW xQ
def zcs {rm st:List Int}{x:Wi}{w:Int}(D:WishOk rm x)(F:st.length=rm.length):yY (chg st x.b w) x.g=yY st x.g:=by
 unfold yY;rw[bV,bc,bc];have I:=D.b1;have key:∀q∈x.g,z9 (chg st x.b w) q.1=z9 st q.1:=λq B=>by rw[xU D.b0 (by lia) (D.giv.ok q B).1,if_neg (D.apart q B)]
 constructor
 ·intro h q B;have:=h q B;rwa[key q B] at this
 ·intro h q B;rw[key q B];exact h q B
def zsh{rm:List Int}{box w:Int}{st:List Int}(q:∀x∈bk,WishOk rm x)(F:st.length=rm.length):lpF bk box (chg st box w)=lpF bk box st:=by
 refine zcX xQ λz=>?_;rw[xq,xq];constructor
 ·rintro⟨x,B,h1,h2,D⟩;subst h1;exact⟨x,B,rfl,by rwa[zcs (q x B) F] at h2,D⟩
 ·rintro⟨x,B,h1,h2,D⟩;subst h1;exact⟨x,B,rfl,by rwa[zcs (q x B) F],D⟩
def yR (C:Nat->Nat->Bool)(w j:Nat):List (List Int):=((List.range j).filter (C w)).map λb:Nat=>[(w:Int),(b:Int)]
def zeL (C:Nat->Nat->Bool)(n:Nat):Nat->List (List Int)
 | 0=>[]
 | i+1=>zeL C n i++yR C i n
def zeM (C:Nat->Nat->Bool)(w j:Nat):yR C w (j+1)=if C w j=true then yR C w j++[[(w:Int),(j:Int)]] else yR C w j:=by
 unfold yR;rw[List.range_succ,bQ]
 grind
def zbQ{z:List Int}:z∈yR C w j↔∃b,b<j/\C w b=true/\z=[(w:Int),(b:Int)]:=by
 unfold yR;rw[aC];constructor
 ·rintro⟨b,q,rfl⟩;rw[a9,aM] at q;exact⟨b,q.1,q.2,rfl⟩
 ·rintro⟨b,h1,h2,rfl⟩;exact⟨b,a9.mpr ⟨aM.mpr h1,h2⟩,rfl⟩
def x5{z:List Int}:∀ {i:Nat},z∈zeL C n i↔∃w b,w<i/\b<n/\C w b=true/\z=[(w:Int),(b:Int)]
 | 0=>⟨λh=>(by cases h),by lia⟩
 | i+1=>by
  show z∈zeL C n i++yR C i n↔_;rw[aG,x5,zbQ];constructor
  ·rintro (⟨w,b,h1,h2⟩ | ⟨b,h1,h2⟩)
   ·exact⟨w,b,by lia,h2⟩
   ·exact⟨i,b,by lia,h1,h2⟩
  ·rintro⟨w,b,h1,h2,q⟩;by_cases e:w=i
   ·subst e;exact .inr ⟨b,h2,q⟩
   ·exact .inl ⟨w,b,by lia,h2,q⟩
def zvo {a b c d:Int}:HT.lexLt [a,b] [c,d]=true↔a<c\/(a=c/\b<d):=by
 show (if a=c then (if b=d then _ else decide (b<d)) else decide (a<c))=true↔_;by_cases h1:a=c
 ·rw[if_pos h1];by_cases h2:b=d
  ·rw[if_pos h2];constructor
   ·intro h;cases h
   ·intro h;lia
  ·grind
 ·grind
def zeN (C:Nat->Nat->Bool)(n:Nat):∀i,Up' (zeL C n i)
 | 0=>.nil
 | i+1=>by
  refine dH.mpr ⟨zeN C n i,?_,λa q b B=>?_⟩
  ·unfold yR;refine br.mpr ((List.pairwise_lt_range.filter _).imp ?_);intro a b D;exact zvo.mpr (.inr ⟨rfl,by lia⟩)
  ·obtain⟨w,F,h1,_,_,rfl⟩:=x5.mp q;obtain⟨I,_,_,rfl⟩:=zbQ.mp B;exact zvo.mpr (.inl (by lia))
open PySem PySem.Spec PyProof.Rows PySem.W PySem.Calls
section
variable {prog:Program}{w:World}{A:Around}{E:Value->Shared->Prop}{s:Shared}{R:Result->Shared->Prop}
end
section
variable {X:Cx}
end
open PySem PySem.Spec PyProof.Rows
section
variable {X:Cx}{e st:Expr}{te tk:TE}{pos p2:Pos}
end
def unlike (q z B:List Int):List Int:=B.filter λb=>decide (z9 q b≠z9 z b)
section
variable {X:Cx}{pos:Pos}
end
end L2
namespace L2
open PySem PySem.Spec PyProof.Rows
end L2
namespace L2
open PySem PySem.Spec PyProof.Rows
section
variable {M:Model}{A:Around}{E:Value->Shared->Prop}{s:Shared}
def zb6 {α:Type}{f:List (Str×Addr)->Sem α}{Q:α->Shared->Prop}:∀ (names:List (Str×NameKind)) (cells:List (Str×Addr)),(∀y∈names,y.2≠.cell)->wpAny M A (f cells) Q E s->
  wpAny M A ((forIn names cells λx r=>match x with | (name,kind)=>if (kind==NameKind.cell)=true then do let a <- alloc { cls:=.type "cell",data:=.cell none };pure (ForInStep.yield ((name,a)::r)) else pure (ForInStep.yield r)) >>= f) Q E s
 | [],cells,_,h=>h
 | (n,k)::r,cells,hn,h=>by
  have hk:(k==NameKind.cell)=false:=by simpa using hn (n,k) ak
  rw[List.forIn_cons];simp only[hk,aP,if_false,pure_bind];exact zb6 r cells (λy hy=>hn y (ao _ hy)) h
def zb7 {α:Type}{z:Str}{f:List (Str×Addr)->Sem α}{Q:α->Shared->Prop}:∀ (names:List (Str×NameKind)) (cells:List (Str×Addr)),names.filter (λy=>y.2==.cell)=[(z,.cell)]->
  wpAny M A (f ((z,s.heap.objs.size)::cells)) Q E { s with heap:=s.heap.push { cls:=.type "cell",data:=.cell none } }->
  wpAny M A ((forIn names cells λx r=>match x with | (name,kind)=>if (kind==NameKind.cell)=true then do let a <- alloc { cls:=.type "cell",data:=.cell none };pure (ForInStep.yield ((name,a)::r)) else pure (ForInStep.yield r)) >>= f) Q E s
 | [],cells,hn,h=>by cases hn
 | (n,k)::r,cells,hn,h=>by
  rw[List.forIn_cons];by_cases hk:(k==NameKind.cell)=true
  ·rw[List.filter_cons_of_pos (p:=λy:Str×NameKind=>y.2==.cell) (a:=(n,k)) hk] at hn;injection hn with h1 h2;cases h1;simp only[hk,if_true,bind_assoc,pure_bind];refine aa (eO ?_);refine zb6 r _ (λy hy e=>?_) h;have:y∈r.filter (λy=>y.2==.cell):=a9.mpr ⟨hy,by rw[e];rfl⟩
   grind
  ·rw[List.filter_cons_of_neg (p:=λy:Str×NameKind=>y.2==.cell) (a:=(n,k)) hk] at hn;simp only[hk,aP,if_false,pure_bind];exact zb7 r cells hn h
def zgI {scope:Scope}{z:Str}{globals:Addr}{closure:List (Str×Addr)}{qual:Str}{o:Env}{Q:Env->Shared->Prop}(hn:scope.names.filter (λy=>y.2==.cell)=[(z,.cell)])
  (h:Q { scope,locals:=s.heap.objs.size,globals,cells:=(z,(s.heap.push { cls:=.type "dict",data:=.dict #[] }).objs.size)::closure,qual,func:=none,code:=o.code,frame:=o.frame,builtins:=o.builtins } { s with heap:=(s.heap.push { cls:=.type "dict",data:=.dict #[] }).push { cls:=.type "cell",data:=.cell none } }) :
  wpAny M A (newFunctionEnv scope globals closure [] qual none .none (some o)) Q E s:=by
 unfold newFunctionEnv;simp only[Option.isSome_some,if_true];refine aa (eO ?_);refine zb7 scope.names closure hn ?_;exact aa (af (af h))
end
def zF (X:Cx)(scope:Scope)(N:List Str)(z:Str)(C D:Addr)(s:Shared)(H:Hp)(ex:List Addr):Cx:=
 { zu X scope N C s H ex with env:={ compEnvC scope (zc3 X.env scope.names []) C X.env with cells:=(z,D)::zc3 X.env scope.names [] },fn:=λy=>y==z }
def zi5 (XN:List Str)(Xnames names:List (Str×NameKind))(N:List Str)(z:Str)(cix:List (Option Nat)):Bool:=
 N.length==cix.length&&(names.filter (λy=>y.2==.cell)==[(z,NameKind.cell)]&&names.lookup z==some .cell)&&((N.zip cix).all λp=>match p.2 with
  | none=>true
  | some i=>XN[i]?==some p.1&&names.lookup p.1==some .free&&(Xnames.lookup p.1==some .cell || Xnames.lookup p.1==some .free)) &&
 (names.all λy=>y.2 != .free || (Xnames.lookup y.1==some .cell || Xnames.lookup y.1==some .free))
structure CompOkC (X:Cx)(scope:Scope)(N:List Str)(z:Str)(cix:List (Option Nat)):Prop where
 kind:scope.kind = .function
 names:∀x∈scope.names,x.2 = .local->scope.names.lookup x.1=some .local
 caps:zi5 X.N X.env.scope.names scope.names N z cix=true
def mem_of_lookup {α B:Type}[BEq α][LawfulBEq α]{x:α}{k:B}:∀ {l:List (α×B)},l.lookup x=some k->(x,k)∈l
 | [],h=>by simp at h
 | (n,q)::r,h=>by
  rw[cE] at h
  cases e:x==n with
  | true=>
   grind
  | false=>
   rw[e] at h;exact ao _ (mem_of_lookup h)
def xp {env:Env}:∀ {names:List (Str×NameKind)} {x:Str} {k:NameKind},
  (names.map λ(n,k)=>if (k==NameKind.free&&env.scope.kind==.function&&env.kindOf n==some .cell) then (n,NameKind.cell) else (n,k)).lookup x=some k->(k = .cell\/k = .free)->names.lookup x=some .free\/names.lookup x=some .cell
 | [],_,_,h,_=>by simp at h
 | (n,k)::r,x,q,h,B=>by
  have D:=@xp env r x q
  grind
section
variable {X:Cx}{pins:List (Addr×Obj)}{σ:St}{H:Hp}{s:Shared}{scope:Scope}{N:List Str}{z:Str}{cix:List (Option Nat)}
def CompOkC.parts (c:CompOkC X scope N z cix):N.length=cix.length/\scope.names.filter (λy=>y.2==.cell)=[(z,.cell)]:=by
 have h:=c.caps;unfold L2.zi5 at h
 simp_all
def CompOkC.lk (c:CompOkC X scope N z cix):scope.names.lookup z=some .cell:=by
 have h:=c.caps;unfold L2.zi5 at h
 simp_all
def CompOkC.cells (c:CompOkC X scope N z cix)(B:X.Ok):∀x∈scope.names,x.2 = .free->∃a,X.env.cells.lookup x.1=some a:=λx D e=>by
 have h:=c.caps;unfold L2.zi5 at h;rw[a6] at h;have q:=bc.mp h.2 x D;rw[e] at q;have F:(X.env.scope.names.lookup x.1==some NameKind.cell || X.env.scope.names.lookup x.1==some NameKind.free)=true:=by simpa using q
 rcases Bool.or_eq_true_iff.mp F with q | q
 ·exact B.has _ (.inl (dS q))
 ·exact B.has _ (.inr (dS q))
def CompOkC.cap (c:CompOkC X scope N z cix){j i:Nat}{x:Str}(h1:N[j]?=some x)(h2:cix[j]?=some (some i)):X.N[i]?=some x/\scope.names.lookup x=some .free/\(X.env.scope.names.lookup x=some .cell\/X.env.scope.names.lookup x=some .free):=by
 have h:=c.caps;unfold L2.zi5 at h;rw[a6,a6] at h
 have B:(x,some i)∈N.zip cix:=by refine au (i:=j) ?_;rw[List.getElem?_zip_eq_some];exact⟨h1,h2⟩
 have q:=bc.mp h.1.2 _ B
 grind
def CompOkC.isZ(c:CompOkC X scope N z cix)(h:scope.names.lookup x=some .cell):x=z:=by
 have:(x,NameKind.cell)∈scope.names.filter (λy=>y.2==.cell):=a9.mpr ⟨mem_of_lookup h,rfl⟩;rw[c.parts.2,aB] at this
 grind
def zj0 {fp:List Addr}{h':Heap}{tk:Nat}{m:Str->Option Value}{D:Addr}(I:Inv X pins σ H s)(c:CompOkC X scope N z cix)(hf:∀b∈fp,zeP X pins H b)(U:∀b∈fp,b<s.heap.objs.size)
  (hn:h'.Ns s.heap.objs.size m) (Y:s.heap.objs.size<=D) (ad:h'.IsCell D none) (hk:∀b o,s.heap.get? b=some o->h'.get? b=some o) :
  Inv (zF X scope N z s.heap.objs.size D s H fp) [] (x6 σ cix) H { s with heap:=h',toks:=tk }:=by
 have ag:=c.cells I.ok
 have B:∀x a,((z,D)::zc3 X.env scope.names []).lookup x=some a->(x=z/\a=D)\/(x≠z/\(zc3 X.env scope.names []).lookup x=some a/\X.env.cells.lookup x=some a/\a<s.heap.objs.size):=λx a e=>by
  rw[cE] at e
  cases q:x==z with
  | true=>
   simp_all
  | false=>
   rw[q] at e;have e':(zc3 X.env scope.names []).lookup x=some a:=e
   have hl:X.env.cells.lookup x=some a:=by
    rcases uY ag e' with z | z
    ·exact z
    ·simp at z
   obtain⟨v,oc,F,_⟩:=I.cell x a hl;exact .inr ⟨by grind,e',hl,aD F⟩
 refine⟨⟨I.mod,c.kind,I.ok.glob,I.ok.blt,ah _,λx y a e1 e2=>?_,λx hx=>?_,λx a hz e=>?_,I.ok.hd,I.ok.frames,.inl rfl,
  λb L=>⟨aU (U b L),λx a e=>?_⟩,I.bs,ar I.ok.bsz I.sz,λb o e L=>?_,λb L z=>?_,I.stack,I.stkFree⟩,
  I.os ▸ rfl,I.bare,Un.kept hk,⟨m,hn,λj x v h1 h2 h3=>?_⟩,λx a e=>?_,I.hok.fresh (ah _),λx a e=>?_,λp hp=>absurd (show p∈([]:List (Addr×Obj)) from hp) (by simp),I.hok.kept hk,?_⟩
 ·rcases B x a e1 with ⟨r1,r2⟩ | ⟨_,_,r1,r2⟩ <;> rcases B y a e2 with ⟨q1,O⟩ | ⟨_,_,q1,O⟩
  ·grind
  ·exact absurd (aO O (r2 ▸ Y)) (bM _)
  ·exact absurd (aO r2 (O ▸ Y)) (bM _)
  ·exact I.ok.inj x y a r1 q1
 ·have al:((relabel scope X.env).names.lookup x=some .cell\/(relabel scope X.env).names.lookup x=some .free):=hx
  have an:scope.names.lookup x=some .free\/scope.names.lookup x=some .cell:=by
   rcases al with q | q
   ·exact xp q (.inl rfl)
   ·exact xp q (.inr rfl)
  show ∃a,((z,D)::zc3 X.env scope.names []).lookup x=some a;rw[cE]
  cases q:x==z with
  | true=>exact⟨D,rfl⟩
  | false=>
   rcases an with e | e
   ·exact zai e
   ·exact absurd (c.isZ e) λw=>by subst w;simp at q
 ·have a1:(x==z)=true:=hz;rcases B x a e with ⟨_,r⟩ | ⟨r,_⟩
  ·rw[r];exact Y
  ·simp_all
 ·rcases B x a e with ⟨_,r⟩ | ⟨_,_,r,_⟩
  ·rw[r];exact dB (aO (U b L) Y)
  ·exact (hf b L).2.2.2.2.1 x a r
 ·rcases (hf b L).2.2.2.1 with z | z
  ·exact I.ok.noex b o e z
  ·exact absurd (aO (aD e) (ar I.ok.bsz z)) (bM _)
 ·rcases aK.mp (I.stkSub b z) with e | e
  ·exact (hf b L).2.1 e
  ·exact (hf b L).2.2.1 e
 ·have ap:N[j]?=some x:=h1;unfold x6 at h2;rw[aw] at h2
  cases e:cix[j]? with
  | none=>rw[e] at h2;cases h2
  | some o=>
   rw[e] at h2
   cases o with
   | none=>cases h2
   | some i=>
    have J:(σ[i]?).join=some v:=bE h2
    have Z:σ[i]?=some (some v):=by
     cases q:σ[i]? with
     | none=>rw[q] at J;cases J
     | some z=>rw[q] at J;have:z=some v:=J;rw[this]
    obtain⟨q1,O,q3⟩:=c.cap ap e;obtain⟨m0,a2,as⟩:=I.loc;obtain⟨u,ru,hu⟩:=as i x v q1 Z (q3.elim (λz=>.inr (.inl z)) λz=>.inr (.inr z));refine⟨u,ru,.inr ⟨y4 O,?_⟩⟩;rcases hu with ⟨z,_⟩ | ⟨_,a,ha,hcell⟩
    ·have z':X.env.scope.names.lookup x=some .local:=z
     simp_all
    ·obtain⟨a',av⟩:=zai (env:=X.env) (cs:=[]) O
     have a0:(x==z)=false:=by
      cases q:x==z with
      | false=>rfl
      | true=>
       have:=dS q;subst this;rw[c.lk] at O;cases O
     have ac:((z,D)::zc3 X.env scope.names []).lookup x=some a':=by rw[cE,a0];exact av
     have:a'=a:=by
      rcases B x a' ac with ⟨r,_⟩ | ⟨_,_,r,_⟩
      all_goals simp_all
     subst this;obtain⟨oc,F,hd⟩:=hcell;exact⟨a',ac,oc,hk _ _ F,hd⟩
 ·rcases B x a e with ⟨_,r⟩ | ⟨_,_,r,_⟩
  ·rw[r];exact⟨none,ad⟩
  ·obtain⟨v,oc,F,hd⟩:=I.cell x a r;exact⟨v,oc,hk _ _ F,hd⟩
 ·rcases B x a e with ⟨_,r⟩ | ⟨_,_,r,_⟩
  ·rw[r];exact I.hok.fresh Y
  ·exact I.freeC x a r
 ·show (x6 σ cix).length=N.length;unfold x6;rw[ab,c.parts.1]
def zgs{Y:St}{H':Hp}{s':Shared}{D:Addr}(I:Inv X pins σ H s)(L:∀b∈U,zeP X pins H b)(I':Inv (zF X scope N z s.heap.objs.size D s H U) [] Y H' s')(O:Heap.SameBut s.heap.objs.size s'.heap F) :
  Inv X pins σ H' { s' with heap:=F }:=by
 have Z:∀b o,s.heap.get? b=some o->b≠s.heap.objs.size:=λb o e=>aU (aD e);have u:=I'.base;refine Inv.call' (ch:=U) I I'.os ⟨λb o e n B J=>?_,λb o e n B J=>?_,u.free,λb o e J=>?_,u.tups,u.frzs,u.tbls⟩ (zck I'.hok I'.free O) I'.bare λb B=>⟨(L b B).2.2.2.1,(L b B).2.1,(L b B).2.2.2.2.1,(L b B).2.2.2.2.2⟩
 ·exact (O.2 b (Z b o e)).trans (u.keep b o e n B J)
 ·obtain⟨sl,q⟩:=u.slot b o e n B J;exact⟨sl,(O.2 b (Z b o e)).trans q⟩
 ·obtain⟨o',q⟩:=u.there b o e J;exact⟨o',(O.2 b (Z b o e)).trans q⟩
end
section
variable {X:Cx}{scope:Scope}{N:List Str}{cix:List (Option Nat)}{z:Str}
def zhN (c:CompOkC X scope N z cix):Opn X scope cix (λX'=>∃C D s H ex,X'=zF X scope N z C D s H ex) where
 kind:=c.kind
 names:=c.names
 cells:=c.cells
 run:=λpins σ H3 B Z Q I3 L F k=>by
  refine zgI c.parts.2 ?_;have O:B.heap.objs.size<=(B.heap.push { cls:=.type "dict",data:=.dict #[] }).objs.size:=by rw[Heap.size_push];exact dR _
  have Y:∀b o,B.heap.get? b=some o->((B.heap.push { cls:=.type "dict",data:=.dict #[] }).push { cls:=.type "cell",data:=.cell none }).get? b=some o:=λb o e=>aq _ (aq _ e);refine k (zF X scope N z B.heap.objs.size (B.heap.push { cls:=.type "dict",data:=.dict #[] }).objs.size B H3 Z) _ _ ⟨_,_,_,_,_,rfl⟩ ⟨rfl,rfl,rfl,rfl,rfl,rfl,rfl,λ{H'} hn b J=>⟨hn b J,aU (F b J),λy=>?_,.inl J,λx a e=>?_,λp hp=>?_⟩,λI' hs=>zgs I3 L I' hs⟩ rfl rfl (zj0 I3 c L F ((Heap.Ns.new ..).at' λo e=>aq _ e) O ⟨_,aF _ rfl,rfl⟩ Y) Y
  ·rcases aK.mp (I3.stkSub b y) with e | e
   ·exact (L b J).2.1 e
   ·exact (L b J).2.2.1 e
  ·have U:((z,(B.heap.push { cls:=.type "dict",data:=.dict #[] }).objs.size)::zc3 X.env scope.names []).lookup x=some a:=e;rw[cE] at U
   cases q:x==z with
   | true=>
    rw[q] at U;cases (show some _=some a from U);exact dB (aO (F b J) O)
   | false=>
    rw[q] at U;rcases uY (c.cells I3.ok) U with y | y
    ·exact (L b J).2.2.2.2.1 x a y
    ·simp at y
  ·exact absurd (show p∈([]:List (Addr×Obj))++[] from hp) (by simp)
def zo1 {P:Cx->Prop}(h:∀C D s H ex,P (zF X scope N z C D s H ex)):∀X',(∃C D s H ex,X'=zF X scope N z C D s H ex)->P X':=by simp_all
end
end L2
namespace L2
open PySem PySem.Spec PyProof.Rows
def zk6(B:X.calm=true)(c:CompOkC X scope N z cix)(hi:QI X tg iter wi)(F:∀C D s H ex,QG (zF X scope N z C D s H ex) tg g)(J:∀C D s H ex,QTs (zF X scope N z C D s H ex) ifs ti)(L:∀C D s H ex,QE (zF X scope N z C D s H ex) elt te)(O:∀x,foldedSetIterable iter X.env x=pure x:=by intro _;rfl):QE X (.ListComp elt [⟨tg,iter,ifs,0⟩] scope pos) (zh6 wi g ti te cix):=⟨λpins s σ H Q I h=>by
 rw[eval_ListComp];exact zcw (Fin:=λacc H=>Q (.ref acc) H) (zhN c) B hi.run (zo1 λC D s H ex=>(F C D s H ex).run) (zo1 λC D s H ex=>(J C D s H ex).run) (zo1 λC D s H ex=>(L C D s H ex).run) O I h λ_ _ _ _ _ U Y q=>zaR U Y q⟩
section
variable {prog:Program}{w:World}{A:Around}{E:Value->Shared->Prop}{s:Shared}{R:Result->Shared->Prop}{Kt:Type}[DecidableEq Kt]{knd:KeyKind prog w Kt}{κ:Int->Kt}
end
end L2
namespace L2
open PySem PySem.Spec PyProof.Rows
def uK {X:Cx}{pins:List (Addr×Obj)}{σ:St}{H:Hp}{s:Shared}{a:Addr}{xs:List V}(I:Inv X pins σ H s)(h:SqL X.K H a xs):∃its:List Value,yb xs its/\s.heap.IsList a its.toArray/\xs.length<=sizeLine:=by obtain⟨its,r,⟨o,n,e,c,_,d⟩,z⟩:=I.list h;exact⟨its,r,⟨o,e,c,n,d⟩,z⟩
def Iel (K:PySem.W.Frag)(a:Addr):It:=
 ⟨λi H=>∃xs x,SqL K H a xs/\xs[i]?=some x,λi H v H'=>∃T x,v = .ref T/\H T=none/\H'=upd H T (.tup [.int i,x])/\∀xs,SqL K H a xs->xs[i]?=some x,λi H=>∃xs,SqL K H a xs/\xs.length<=i⟩
def zjx {X:Cx}{pins:List (Addr×Obj)}{σ:St}{H:Hp}{s:Shared}{e L:Addr}{i n:Nat}{ac:Value}{fp:List Addr}{P:Nat->Value->Prop}{St:Nat->Heap->Prop}{x:V}{elts:List Expr}{x1}{tpos:Pos}{E:Value->Shared->Prop}(I:Inv X pins σ H s)(hf:∀b∈[e,L],zeP X pins H b)(a1:e≠L)(he:IsEnum s.heap e L i ac)
  (D:Draws X.prog X.w X.A.in1 L fp n P St) (ad:St i s.heap) (hi:i<n) (ag:e∉fp) (hx:∀y,P i y->y1 x y) :
  wpAny (model X.prog X.w) X.A (pyNext (.ref e)) (λr s1=>∃u,r=some u/\wpAny (model X.prog X.w) X.A (letOwnedTupleGo (.Tuple elts x1 tpos) (.ref e) u) (λ_ s2=>∃T,Inv X pins σ (upd H T (.tup [.int i,x])) s2/\u = .ref T/\H T=none/\(∃ac,IsEnum s2.heap e L ((i+1:Nat):Int) ac)/\St (i+1) s2.heap/\∀b∈[e,L],upd H T (.tup [.int i,x]) b=none) E s1) E s:=by
 obtain⟨f0,f1,f2,f3,f4,f5⟩:=hf e (by simp);obtain⟨g0,g1,g2,g3,g4,g5⟩:=hf L (by simp);obtain⟨o0,a2⟩:=D.live _ _ ad;refine wpAny_pyNext_enum_itemD D he ad hi a1 ag λy h' tk hy ho al hT a5 hk=>⟨_,rfl,wpAny_letOwnedTupleGo_enum ho λU an O=>?_⟩;have ru:=hx y hy;have ap:s.heap.objs.size≠e:=dB (aD he);have a3:s.heap.objs.size≠L:=dB (aD a2);have B:=I.hok.fresh (ah s.heap.objs.size);have kp:∀b o,b≠e->b≠L->s.heap.get? b=some o->U.get? b=some o:=λb o h1 h2 F=>(O.2 b h1).trans (hk b o h1 h2 F);have as:U.get? s.heap.objs.size=some { cls:=.type "tuple",data:=.seq #[.int i tk,y] }:=(O.2 _ ap).trans hT;have Z:∀b u',H b=some u'->b≠e/\b≠L:=λb u' F=>⟨zd F f0,zd F g0⟩
 have av:HOk X.prog X.w (upd H s.heap.objs.size (.tup [.int i,x])) U:=by
  intro b u' F;by_cases a0:b=s.heap.objs.size
  ·subst a0;rw[zk] at F;cases F;exact⟨by show 2<=sizeLine;decide,[.int i tk,y],.cons ⟨tk,rfl⟩ (.cons ru .nil),_,as,rfl,⟨0,rfl⟩,rfl⟩
  ·rw[zi a0] at F;refine (I.hok b u' F).stay (λc v J q=>?_) (λc q=>?_) (λc ys q=>?_)
   ·refine kp c v ?_ ?_ q
    ·rcases J with rfl | J
     ·exact (Z _ _ F).1
     ·exact zd J f0
    ·rcases J with rfl | J
     ·exact (Z _ _ F).2
     ·exact zd J g0
   ·rw[zi (zd q B)];exact q
   ·rw[zi (zd q B)];exact q
 have I1:Inv X pins σ (upd H s.heap.objs.size (.tup [.int i,x])) { s with heap:=U,toks:=tk+1 }:=by
  refine Inv.step (ch:=[e,L]) (g':=s.gens) (d':=s.drawn) (t':=tk+1) I (λb F=>?_) (λb o h1 h2 Y h4 h5=>?_) (λb o h1 h2 Y h4 h5=>?_) (λb o Y h4 h5=>?_) (λb o Y h4=>?_) (λb ys q=>?_) (λb o u' q=>?_) (λb ps q=>?_) (λm hm=>?_) av I.bare
  ·rcases aK.mp F with rfl | F
   ·exact⟨f3,f1,f4,f5⟩
   ·rw[aB.mp F];exact⟨g3,g1,g4,g5⟩
  ·exact kp b o (λz=>Y (by simp[z])) (λz=>Y (by simp[z])) h4
  ·exact⟨o.slots,kp b o (λz=>Y (by simp[z])) (λz=>Y (by simp[z])) h4⟩
  ·rw[zi (aU (aD h4))];exact h5
  ·exact⟨o,kp b o (λz=>Y (by simp[z])) (λz=>Y (by simp[z])) h4⟩
  ·rw[zi (zd q B)];exact q
  ·rw[zi (zd q B)];exact q
  ·exact⟨#[],by rw[zi (zd q B),eo];exact q⟩
  ·obtain⟨o,es,ep,a4,r1⟩:=hm;exact⟨o,es,ep,kp _ o (Ne.symm f1) (Ne.symm g1) a4,r1⟩
 refine⟨s.heap.objs.size,I1,rfl,B,⟨y,by have:=an;push_cast;exact this⟩,D.frame _ _ _ al λb F o z=>(O.2 b λq=>ag (q ▸ F)).trans z,λb F=>?_⟩;rcases aK.mp F with rfl | F
 ·rw[zi (Ne.symm ap)];exact f0
 ·rw[aB.mp F,zi (Ne.symm a3)];exact g0
def zmn{i:Int}(D:∃q,IsEnum h e B i q)(hi:∃o,h.get? B=some o/\∀v,o.data≠.cell v):∀b∈[e,B],∃o,h.get? b=some o/\∀v,o.data≠.cell v:=λb F=>by
 rcases aK.mp F with rfl | F
 ·obtain⟨q,D⟩:=D
  exact⟨_,D,λv z=>by have I:Data.fields _=Data.cell v:=z;cases I⟩
 ·rw[aB.mp F];exact hi
def ziI{P:Program}{w:World}{K:PySem.W.Frag}{elts:List Expr}{x1}(a D e:Addr)(U:e≠D) :
  Turn P w K (.Tuple elts x1 tpos) (Iel K a) [e,D] e (λi h=>(∃q,IsEnum h e D i q)/\h.IsListIter D a i) where
 mem:=by simp
 obj:=λi h st=>zmn st.1 (by obtain⟨_,o,e,c,d⟩:=st;exact⟨o,e,λv z=>by rw[d] at z;cases z⟩)
 keep:=λi h h' st k=>by obtain⟨⟨q,J⟩,o,L,r⟩:=st;exact⟨⟨q,k e (by simp) _ J⟩,o,k D (by simp) _ L,r⟩
 item:=by
  intro X hP hw hK hc i pins s σ H E I hf st hg;subst hP hw hK;obtain⟨xs,x,Z,hx⟩:=hg;obtain⟨its,rv,p,hz⟩:=uK I Z;obtain⟨u,hu,ru⟩:=rv.get hx;obtain⟨⟨q,J⟩,B⟩:=st
  have ac:a≠D:=by intro z;obtain⟨o,L,O,_⟩:=p;obtain⟨o',ad,Y,_⟩:=B;rw[z,ad] at L;cases L;rw[Y] at O;exact absurd (Value.type.inj O) (by decide)
  have ag:e≠a:=by intro z;obtain⟨o,L,O,_⟩:=p;rw[<- z,J] at L;cases L;have:Value.type "enumerate" = Value.type "list" := O;exact absurd (Value.type.inj this) (by decide)
  refine thn (zjx (x:=x) (elts:=elts) (x1:=x1) (tpos:=tpos) I hf U J (Draws.list (A:=X.A.in1) (I.ok.hd hc) D a ac its.toArray) ⟨B,p⟩ (by simpa using (ae.mp hu).1) (by simp[U,ag]) λy hy=>?_) ?_
  ·rw[show u=y from bE (hu.symm.trans (by simpa using hy))] at ru;exact ru
  ·rintro r s1 ⟨u2,rfl,h2⟩;refine⟨_,rfl,thn h2 ?_⟩;rintro _ s2 ⟨T,h3,rfl,h4,h5,h6,h7⟩;exact⟨.ref T,_,h3,rfl,⟨T,x,rfl,h4,rfl,λys al=>by rw[I.list_inj al Z];exact hx⟩,⟨h5,h6.1⟩,h7⟩
 done:=by
  intro X hP hw hK hc i pins s σ H E I hf st hg;subst hP hw hK;obtain⟨xs,Z,hx⟩:=hg;obtain⟨its,rv,p,hz⟩:=uK I Z;obtain⟨f0,f1,f2,f3,f4,f5⟩:=hf D (by simp);obtain⟨⟨q,J⟩,B⟩:=st;have hl:=rv.length;have hT:s.TypeIs (.ref e) "enumerate" := ⟨_,J,rfl⟩;unfold pyNext
  refine aa (cQ (wpAny_callSpecial?_slot (name:=Str.ofString "__next__") hT F.slot_enumerate_next
   (bi F.slot_enumerate_next hT F.entry_enumerate_next ?_ (F.args_enumerate_next_1 _))))
  show wpAny _ _ (field (.ref e) 2 >>= _) _ _ _;refine aa (wpAny_field J rfl (x:=.ref D) rfl ?_);refine aa (wpAny_nextOf_list_end (A:=X.A.in1) (I.ok.hd hc) B p (by simp;lia) λh' x an ap=>?_);obtain⟨o,L,as⟩:=ap;refine aa (cG (T := "StopIteration") (b:=true) ⟨o,L,as⟩ dA ?_);exact af ⟨rfl,I.turned (t':=s.toks) (λb o hb e=>an b o hb e) f0 f1 f3 f4 f5⟩
 self:=λA i s Q E st h=>by obtain⟨⟨q,J⟩,B⟩:=st;exact wpAny_pyIter_enum J h
def zn1 (K:PySem.W.Frag)(ta:TA):TI:=λσ H R=>ta σ H λvs H1=>∃a,vs=[.ref a]/\(∃xs,SqL K H1 a xs)/\R (Iel K a) H1
def zm5{x1}(L:Gl X "enumerate")(O:X.mg "enumerate" = none)(U:PA X [a] ta)(Y:starEach [a] X.env=[(false,eval a X.env)]:=by rfl) :
  PI X (.Tuple elts x1 tpos) (.Call (.Name "enumerate" p) [a] [] pos) (zn1 X.K ta):=by
 intro pins s σ H R I h;refine Call_ (zdu I L O boot_enumerate (b9 (thn (U pos pins s σ H _ I h) λus B ⟨vs,H1,I1,Z,q1⟩=>?_) Y rfl));obtain⟨b,rfl,⟨xs,hq⟩,q⟩:=q1;obtain⟨u,rfl,ru⟩:=zaM Z;cases ru;obtain⟨its,rv,pt,hz⟩:=uK I1 hq;refine call_enumerate_list (show B.heap.IsList b its.toArray from pt) λh' J D hsz hk=>?_;have I2:Inv X pins σ H1 { B with heap:=h',toks:=B.toks }:=I1.kept (t':=B.toks) hk;refine wpAny_pyIter_enum J ?_;refine⟨B.heap.objs.size+1,[B.heap.objs.size+1,B.heap.objs.size],_,_,H1,rfl,I2,ziI b B.heap.objs.size (B.heap.objs.size+1) (Nat.succ_ne_self _),⟨⟨_,J⟩,D⟩,λc F=>?_,q⟩;rcases aK.mp F with rfl | F
 ·exact I1.fpOk (dR _) (I1.hok.fresh (dR _))
 ·rw[aB.mp F];exact I1.fpOk (ah _) (I1.hok.fresh (ah _))
def znf{x1}(q:Gl X "enumerate")(B:X.mg "enumerate" = none)(D:QA X [a] ta)(F:starEach [a] X.env=[(false,eval a X.env)]:=by rfl) :
  QI X (.Tuple elts x1 tpos) (.Call (.Name "enumerate" p) [a] [] pos) (zn1 X.K ta):=⟨zm5 q B D.run F⟩
def Izl (K:PySem.W.Frag)(a b:Addr):It:=
 ⟨λi H=>∃xs ys x y,SqL K H a xs/\SqL K H b ys/\xs[i]?=some x/\ys[i]?=some y,λi H v H'=>∃T x y,v = .ref T/\H T=none/\H'=upd H T (.tup [x,y])/\(∀xs,SqL K H a xs->xs[i]?=some x)/\∀ys,SqL K H b ys->ys[i]?=some y,λi H=>∃xs ys,SqL K H a xs/\SqL K H b ys/\(xs.length<=i\/ys.length<=i)⟩
def zlF{P:Program}{w:World}{K:PySem.W.Frag}{elts:List Expr}{x1}(z TI TO U Y a b:Addr)(D:ZipApart z TI TO U Y a b) :
  Turn P w K (.Tuple elts x1 tpos) (Izl K a b) [z,TI,TO,U,Y] z (λi h=>IsZip h z TI TO .none/\IsPair h TI (.ref U) (.ref Y)/\(∃c d,IsPair h TO c d)/\h.IsListIter U a i/\h.IsListIter Y b i) where
 mem:=by simp
 obj:=λi h st c L=>by
  obtain⟨hz,Z,⟨u,v,ad⟩,⟨o1,e1,c1,d1⟩,⟨o2,e2,c2,d2⟩⟩:=st
  grind
 keep:=λi h h' st k=>by obtain⟨hz,Z,⟨u,v,ad⟩,⟨o1,e1,r1⟩,⟨o2,e2,r2⟩⟩:=st;exact⟨k z (by simp) _ hz,k TI (by simp) _ Z,⟨u,v,k TO (by simp) _ ad⟩,⟨o1,k U (by simp) _ e1,r1⟩,⟨o2,k Y (by simp) _ e2,r2⟩⟩
 item:=by
  intro X hP hw hK L i pins s σ H E I hf st hg;subst hP hw hK;obtain⟨xs,ys,x,y,an,ap,hx,hy⟩:=hg;obtain⟨a4,a0,p1,cp⟩:=uK I an;obtain⟨a5,a1,p2,cs⟩:=uK I ap;obtain⟨u1,bx,b0⟩:=a0.get hx;obtain⟨u2,b1,b2⟩:=a1.get hy;have fz:=hf z (by simp);have B:=hf TO (by simp);have f1:=hf U (by simp);have f2:=hf Y (by simp);obtain⟨hz,Z,⟨c0,d0,ad⟩,as,av⟩:=st;have hT:s.TypeIs (.ref z) "zip" := ⟨_,hz,rfl⟩;unfold pyNext
  refine aa (cQ (wpAny_callSpecial?_slot (name:=Str.ofString "__next__") hT dZ
   (bi dZ hT F.entry_zip_next (zip_next_item (A:=X.A.in1) D hz Z ad as av p1 p2 (x:=u1) (y:=u2) (by simpa using bx) (by simpa using b1) λh' gz b3 b5 b6 gT c3 hk=>?_) (F.args_zip_next_1 _))))
  refine af ⟨_,rfl,?_⟩;refine wpAny_letOwnedTupleGo_zip (s:={ s with heap:=h' }) gz λal a7 ac=>?_;have nz:∀b' o',s.heap.get? b'=some o'->s.heap.objs.size≠b':=λb' o' e=>dB (aD e);have bb:s.heap.objs.size≠z:=nz z _ hz;have bd:s.heap.objs.size≠TO:=nz TO _ ad;have ca:s.heap.objs.size≠U:=by obtain⟨o,ho,_⟩:=as;exact nz U _ ho
  have cc:s.heap.objs.size≠Y:=by obtain⟨o,ho,_⟩:=av;exact nz Y _ ho
  have bk:s.heap.objs.size≠TI:=nz TI _ Z;have J:=I.hok.fresh (ah s.heap.objs.size);have kp:∀c o,c≠z->c≠TO->c≠U->c≠Y->s.heap.get? c=some o->al.get? c=some o:=λc o h1 h2 h3 h4 hb=>(ac.2 c h1).trans (hk c o h1 h2 h3 h4 hb);have bl:al.get? s.heap.objs.size=some { cls:=.type "tuple",data:=.seq #[u1,u2] }:=(ac.2 _ bb).trans gT;have cn:∀b' u',H b'=some u'->b'≠z/\b'≠TO/\b'≠U/\b'≠Y:=λb' u' hb=>⟨zd hb fz.1,zd hb B.1,zd hb f1.1,zd hb f2.1⟩
  have bo:HOk X.prog X.w (upd H s.heap.objs.size (.tup [x,y])) al:=by
   intro b' u' hb;by_cases bs:b'=s.heap.objs.size
   ·subst bs;rw[zk] at hb;cases hb;exact⟨by show 2<=sizeLine;decide,[u1,u2],.cons b0 (.cons b2 .nil),_,bl,rfl,⟨0,rfl⟩,rfl⟩
   ·rw[zi bs] at hb;refine (I.hok b' u' hb).stay (λc v O q=>?_) (λc q=>?_) (λc ys q=>?_)
    ·have:c≠z/\c≠TO/\c≠U/\c≠Y:=by
      rcases O with rfl | O
      all_goals simp_all
     simp_all
    ·rw[zi (zd q J)];exact q
    ·rw[zi (zd q J)];exact q
  have ag:∀c o,c∉[z,TO,U,Y]->s.heap.get? c=some o->al.get? c=some o:=λc o L e=>kp c o (λq=>L (by simp[q])) (λq=>L (by simp[q])) (λq=>L (by simp[q])) (λq=>L (by simp[q])) e
  have I1:Inv X pins σ (upd H s.heap.objs.size (.tup [x,y])) { s with heap:=al,toks:=s.toks }:=by
   refine Inv.step (ch:=[z,TO,U,Y]) (g':=s.gens) (d':=s.drawn) (t':=s.toks) I (λc L=>?_) (λc o h1 h2 h3 h4 h5=>?_) (λc o h1 h2 h3 h4 h5=>?_) (λc o h3 h4 h5=>?_) (λc o h3 h4=>?_) (λc ys q=>?_) (λc o u' q=>?_) (λc ps q=>?_) (λm hm=>?_) bo I.bare
   ·simp only[aK,ci,or_false] at L;rcases L with rfl | rfl | rfl | rfl
    ·exact⟨fz.2.2.2.1,fz.2.1,fz.2.2.2.2.1,fz.2.2.2.2.2⟩
    ·exact⟨B.2.2.2.1,B.2.1,B.2.2.2.2.1,B.2.2.2.2.2⟩
    ·exact⟨f1.2.2.2.1,f1.2.1,f1.2.2.2.2.1,f1.2.2.2.2.2⟩
    ·exact⟨f2.2.2.2.1,f2.2.1,f2.2.2.2.2.1,f2.2.2.2.2.2⟩
   ·exact ag c o h3 h4
   ·exact⟨o.slots,ag c o h3 h4⟩
   ·rw[zi (aU (aD h4))];exact h5
   ·exact⟨o,ag c o h3 h4⟩
   ·rw[zi (zd q J)];exact q
   ·rw[zi (zd q J)];exact q
   ·exact⟨#[],by rw[zi (zd q J),eo];exact q⟩
   ·obtain⟨o,es,ep,a2,r1⟩:=hm;exact⟨o,es,ep,kp _ o (Ne.symm fz.2.1) (Ne.symm B.2.1) (Ne.symm f1.2.1) (Ne.symm f2.2.1) a2,r1⟩
  refine⟨.ref s.heap.objs.size,_,I1,rfl,⟨s.heap.objs.size,x,y,rfl,J,rfl,λzs a3=>by rw[I.list_inj a3 an];exact hx,λzs a3=>by rw[I.list_inj a3 ap];exact hy⟩,⟨a7,?_,⟨_,_,(ac.2 TO D.TOz).trans b3⟩,?_,?_⟩,λc L=>?_⟩
  ·exact kp TI _ D.TIz D.TITO D.TIi1 D.TIi2 Z
  ·obtain⟨o,ho,r⟩:=b5;exact⟨o,(ac.2 U D.i1z).trans ho,r⟩
  ·obtain⟨o,ho,r⟩:=b6;exact⟨o,(ac.2 Y D.i2z).trans ho,r⟩
  ·simp only[aK,ci,or_false] at L;rcases L with rfl | rfl | rfl | rfl | rfl
   ·rw[zi (Ne.symm bb)];exact fz.1
   ·rw[zi (Ne.symm bk)];exact (hf _ (by simp)).1
   ·rw[zi (Ne.symm bd)];exact B.1
   ·rw[zi (Ne.symm ca)];exact f1.1
   ·rw[zi (Ne.symm cc)];exact f2.1
 done:=by
  intro X hP hw hK L i pins s σ H E I hf st hg;subst hP hw hK;obtain⟨xs,ys,an,ap,hx⟩:=hg;obtain⟨a4,a0,p1,c4⟩:=uK I an;obtain⟨a5,a1,p2,co⟩:=uK I ap;have fz:=hf z (by simp);have B:=hf TO (by simp);have f1:=hf U (by simp);have f2:=hf Y (by simp);obtain⟨hz,Z,⟨c0,d0,ad⟩,as,av⟩:=st;have c5:=a0.length;have c6:=a1.length;have hT:s.TypeIs (.ref z) "zip" := ⟨_,hz,rfl⟩;unfold pyNext
  refine aa (cQ (wpAny_callSpecial?_slot (name:=Str.ofString "__next__") hT dZ
   (bi dZ hT F.entry_zip_next (zip_next_end (A:=X.A.in1) (I.ok.hd L) D hz Z ad as av p1 p2 (hx.elim (λz=>.inl (by simp;lia)) λz=>.inr (by simp;lia)) λh' e ko he=>?_) (F.args_zip_next_1 _))))
  obtain⟨o,ho,cd⟩:=he;refine aa (cG (T := "StopIteration") (b:=true) ⟨o,ho,cd⟩ dA ?_);refine af ⟨rfl,?_⟩;have ag:∀c o,c∉[z,TO,U,Y]->s.heap.get? c=some o->h'.get? c=some o:=λc o L e=>ko c o (λq=>L (by simp[q])) (λq=>L (by simp[q])) (λq=>L (by simp[q])) (λq=>L (by simp[q])) e;refine Inv.step (ch:=[z,TO,U,Y]) (g':=s.gens) (d':=s.drawn) (t':=s.toks) I (λc L=>?_) (λc o h1 h2 h3 h4 h5=>ag c o h3 h4) (λc o h1 h2 h3 h4 h5=>⟨o.slots,ag c o h3 h4⟩) (λc o h3 h4 h5=>h5) (λc o h3 h4=>⟨o,ag c o h3 h4⟩) (λc ys q=>q) (λc o u' q=>q) (λc ps q=>⟨#[],by simp_all⟩) (λm hm=>?_) (λb' u' hb=>?_) I.bare
  ·simp only[aK,ci,or_false] at L;rcases L with rfl | rfl | rfl | rfl
   ·exact⟨fz.2.2.2.1,fz.2.1,fz.2.2.2.2.1,fz.2.2.2.2.2⟩
   ·exact⟨B.2.2.2.1,B.2.1,B.2.2.2.2.1,B.2.2.2.2.2⟩
   ·exact⟨f1.2.2.2.1,f1.2.1,f1.2.2.2.2.1,f1.2.2.2.2.2⟩
   ·exact⟨f2.2.2.2.1,f2.2.1,f2.2.2.2.2.1,f2.2.2.2.2.2⟩
  ·obtain⟨o,es,ep,a2,r1⟩:=hm;exact⟨o,es,ep,ko _ o (Ne.symm fz.2.1) (Ne.symm B.2.1) (Ne.symm f1.2.1) (Ne.symm f2.2.1) a2,r1⟩
  ·refine (I.hok b' u' hb).stay (λc v O q=>?_) (λc q=>q) (λc ys q=>q)
   have:c≠z/\c≠TO/\c≠U/\c≠Y:=by
    rcases O with rfl | O
    ·exact⟨zd hb fz.1,zd hb B.1,zd hb f1.1,zd hb f2.1⟩
    ·exact⟨zd O fz.1,zd O B.1,zd O f1.1,zd O f2.1⟩
   exact ko c v this.1 this.2.1 this.2.2.1 this.2.2.2 q
 self:=λA i s Q E st h=>by obtain⟨hz,_⟩:=st;exact wpAny_pyIter_zip hz h
def zrT (K:PySem.W.Frag)(ta:TA):TI:=λσ H R=>ta σ H λvs H1=>∃a b,vs=[.ref a,.ref b]/\(∃xs,SqL K H1 a xs)/\(∃ys,SqL K H1 b ys)/\R (Izl K a b) H1
def zp0 {X:Cx}{elts:List Expr}{x1}{tpos:Pos}{a b:Expr}{ta:TA}{p pos:Pos}(hg:Gl X "zip")(hm:X.mg "zip" = none)(ha:PA X [a,b] ta)(hs:starEach [a,b] X.env=[(false,eval a X.env),(false,eval b X.env)]:=by rfl)(D:starEach [b] X.env=[(false,eval b X.env)]:=by rfl) :
  PI X (.Tuple elts x1 tpos) (.Call (.Name "zip" p) [a,b] [] pos) (zrT X.K ta):=by
 intro pins s σ H R I h;refine Call_ (zdu I hg hm boot_zip (b9 (thn (ha pos pins s σ H _ I h) λus B ⟨vs,H1,I1,r1,q1⟩=>?_) (by rw[hs,D]) (by rw[D];rfl)));obtain⟨c,d,e,⟨xs,L⟩,⟨ys,O⟩,q⟩:=q1;subst e
 cases r1 with
 | cons r U=>
  cases U with
  | cons r' U=>
   cases U;cases r;cases r';obtain⟨F,ap,p1,as⟩:=uK I1 L;obtain⟨J,av,p2,a0⟩:=uK I1 O;have Y:c<B.heap.objs.size:=by obtain⟨o,Z,_⟩:=id p1;exact aD Z
   have ac:d<B.heap.objs.size:=by obtain⟨o,Z,_⟩:=id p2;exact aD Z
   refine call_zip_2 (show B.heap.IsList c F.toArray from p1) (show B.heap.IsList d J.toArray from p2) λh' gz ad ag al an hsz hk=>?_;have I2:Inv X pins σ H1 { B with heap:=h',toks:=B.toks }:=I1.kept (t':=B.toks) hk;refine wpAny_pyIter_zip gz ?_;refine⟨B.heap.objs.size+4,[B.heap.objs.size+4,B.heap.objs.size+2,B.heap.objs.size+3,B.heap.objs.size,B.heap.objs.size+1],_,_,H1,rfl,I2,zlF _ _ _ _ _ c d (zipApart_new Y ac),⟨gz,ad,⟨_,_,ag⟩,al,an⟩,λe he=>?_,q⟩;simp only[aK,ci,or_false] at he;rcases he with rfl | rfl | rfl | rfl | rfl
   ·exact I1.fpOk (by lia) (I1.hok.fresh (by lia))
   ·exact I1.fpOk (by lia) (I1.hok.fresh (by lia))
   ·exact I1.fpOk (by lia) (I1.hok.fresh (by lia))
   ·exact I1.fpOk (ah _) (I1.hok.fresh (ah _))
   ·exact I1.fpOk (by lia) (I1.hok.fresh (by lia))
def zqp {X:Cx}{elts:List Expr}{x1}{tpos:Pos}{a b:Expr}{ta:TA}{p pos:Pos}(B:Gl X "zip")(D:X.mg "zip" = none)(F:QA X [a,b] ta)(I:starEach [a,b] X.env=[(false,eval a X.env),(false,eval b X.env)]:=by rfl)(q:starEach [b] X.env=[(false,eval b X.env)]:=by rfl) :
  QI X (.Tuple elts x1 tpos) (.Call (.Name "zip" p) [a,b] [] pos) (zrT X.K ta):=⟨zp0 B D F.run I q⟩
section
variable {prog:Program}{w:World}{A:Around}{E:Value->Shared->Prop}{s:Shared}
end
section
variable {X:Cx}
def zqv:V->List V->Hp->VK->Prop:=λx vs H Q=>∃l xs k y,x = .ref l/\vs=[.int k,y]/\H l=some (.lst xs)/\0<=k/\k<=xs.length/\xs.length<sizeLine/\Q .non (upd H l (.lst (xs.take k.toNat++y::xs.drop k.toNat)))
def zkG:MtM X "list.insert" zqv:=by
 intro pins s σ H x vs v us Q I D J h;obtain⟨l,xs,k,y,rfl,rfl,B,h0,h1,L,q⟩:=h;cases D
 cases J with
 | cons O U=>
  cases U with
  | cons Y Z=>
   cases Z;obtain⟨t,rfl⟩:=O;obtain⟨z,its,n,r,hl,e⟩:=I.lstM B
   have hk:k<2 ^ 63:=by
    have:(xs.length:Int)<=2 ^ 40:=by have h2:xs.length<=2 ^ 40:=ar (cj L) (by decide);lia
    lia
   refine dP PySem.F.slot_list_insert ⟨_,e,rfl⟩ PySem.F.entry_list_insert (PySem.F.args_list_insert_3 _ _ _)
    (AutoSeq1.list_insert_list_int_val_1 l its.toArray n k t _ (by rw[fitsIndex_both (by lia) hk];decide) (by grind)) ⟨e,?_⟩
   refine⟨.non,_,I.lset (its':=its.take k.toNat++_::its.drop k.toNat) B e ?_ ((r.take _).append (.cons Y (r.drop _))) ?_,rfl,q⟩
   ·show (its.toArray.extract 0 (if k<0 then (k+(its.toArray.size:Int)).toNat else min k.toNat its.toArray.size)).push _++its.toArray.extract (if k<0 then (k+(its.toArray.size:Int)).toNat else min k.toNat its.toArray.size)=_;rw[if_neg (by lia),aZ,Nat.min_eq_left (by lia)];apply Array.toList_inj.mp;simp;rw[cb (by simp)]
   ·grind
def zfM{T:String}{name:Str}{id:String}{r:V->List V->Hp->VK->Prop}{es:List Expr}{to:TE}{t:TA}{apos cpos:Pos}(L:PlainAttrs T)(F:Slot T name id)(J:typeOf (.builtin id)=pure (.type "method_descriptor"))(O:MtR X id r)(U:QE X o to)(Y:QA X (e::es) t)(B:attributeBase o name X.env (eval o X.env)=eval o X.env:=by rfl)(I:((backTo cpos (starEach (e::es) X.env)).all (λx=>!x.1)&&(backToKw cpos (keywordEach [] X.env)).all (λx=>x.1.isSome)
   && decide ((e::es).length+([]:List Keyword).length+(if ([]:List Keyword).isEmpty then 0 else 1)<30))=true:=by rfl)(D:(apos.endLine==cpos.line)=true:=by rfl)(Z:starEach (e::es) X.env=(false,eval e X.env)::starEach es X.env:=by rfl)(q:(backTo cpos (starEach es X.env)).any (·.1)=false:=by rfl) :
  QE X (.Call (.Attribute o name apos) (e::es) [] cpos) (tBM X.K T r to t):=⟨zsK L F J O U.run Y.run B I D Z q⟩
def zlf:List V->Hp->VK->Prop:=λxs H Q=>∃ (l:Addr) (ns:List Int),xs=[.ref l]/\H l=some (.lst (ns.map V.int))/\ns.length<64/\∀q:List Int,q.Perm ns->q.Pairwise (·<=·)->New H (.lst (q.map V.int)) Q
def zd5:∀ {ns:List Int} {its:List Value},yb (ns.map V.int) its->IntsAre its ns
 | [],_,h=>by cases h;exact .nil
 | n::ns,_,h=>by
  cases h with
  | cons q B=>
   obtain⟨t,rfl⟩:=q;exact .cons _ _ (zd5 B)
def zl6{ns:List Int}(h:IntsAre its ns):yb (ns.map V.int) its:=by
 induction h with
 | nil=>exact .nil
 | cons _ _ _ q=>exact .cons ⟨_,rfl⟩ q
def zmh:CallQ X (.builtin "sorted") zlf:=⟨by
 intro pins s σ H xs us Q I r h;obtain⟨l,ns,rfl,hl,Z,q⟩:=h;obtain⟨u,rfl,ru⟩:=zaM r;cases ru;obtain⟨its,rv,pl,hz⟩:=I.list (.of hl);obtain⟨m0,B,_⟩:=id I.loc;refine PySem.W.kso_sorted (h₀:=(⟨#[],{}⟩:Heap)) (L:=X.env.locals) (m:=m0) (news:=zbc s.heap X.env.locals) ⟨B,λb o e=>?_,aJ _⟩ (λp hp=>?_) pl.isList (zd5 rv) Z λD an J c h' F N O hi al hp hs _=>?_
 ·have:=aD e;simp at this
 ·obtain⟨b,o⟩:=p;have:=z3.mp hp;refine⟨this.2,this.1,?_⟩
  cases e:(⟨#[],{}⟩:Heap).get? b with
  | none=>rfl
  | some o'=>
   have:=aD e;simp at this
 ·have ac:∀b o,b≠X.env.locals->s.heap.get? b=some o->h'.get? b=some o:=λb o hb e=>(N (b,o) (ao _ (z3.mpr ⟨hb,e⟩))).1;have ad:D≠X.env.locals:=(N (D,_) ak).2.1
  have ag:s.heap.get? D=none:=by
   cases e:s.heap.get? D with
   | none=>rfl
   | some o=>exact absurd (O (D,o) (z3.mpr ⟨ad,e⟩)) (bM _)
  have U:H D=none:=by
   cases e:H D with
   | none=>rfl
   | some o=>
    obtain⟨o',ap⟩:=za4 (I.hok D o e)
    grind
  have Y:=(N (D,_) ak).1;have I':=zd6 I B (ys:=J.map V.int) ac F.ns ag U Y (zl6 hi) (by grind) s.toks;exact⟨.ref D,_,I',rfl,(q J hp hs).at U⟩⟩
end
end L2
namespace L3
open PySem L2
abbrev zq:=Addr×Addr×List Int
inductive W where
 | d (x:Dt) | pen (p:Addr) | dk (kvs:List (Key×Dt)) | dt (kvs:List (List Int×Dt)) | ss (P:Program) (w:World) (ks:List (List Int)) | df (kvs:List (List Int×Dt)) | kf (kvs:List (Key×Dt))
abbrev Mo (α:Type):=Nat->(α->Nat->Prop)->Prop
abbrev Ev:=List (Option W)
def NP (o:HO):Prop:=∀kvs,o = .dK kvs->zbh kvs (Sum.inr "at" : Key)=none
def NP.lst:NP (.lst xs):=λ_ e=>by cases e
open Classical in
noncomputable def zT (A:Addr->Prop)(H:Hp):Hp:=λb=>if A b then none else H b
section
variable {A A0:Addr->Prop}{H H' G G' T T':Hp}{a b:Addr}{o:HO}
def yA:zT A H b=some o↔¬ A b/\H b=some o:=by
 unfold zT
 grind
def zD (h:¬ A b)(e:H b=some o):zT A H b=some o:=yA.mpr ⟨h,e⟩
def zw:xm (zT A H) H:=λb o e=>(yA.mp e).2
def zx (s:zv H H'):zv (zT A H) (zT A H'):=λb o e n=>zD (yA.mp e).1 (s b o (yA.mp e).2 n)
def zcj (s:xm H H'):xm (zT A H) (zT A H'):=λb o e=>zD (yA.mp e).1 (s b o (yA.mp e).2)
def yM (h:∀b,A0 b->A b):xm (zT A H) (zT A0 H):=λb o e=>zD (λz=>(yA.mp e).1 (h b z)) (yA.mp e).2
def zV (h:A a):zT A (upd H a o)=zT A H:=by
 funext b;unfold zT;by_cases q:A b
 ·simp[q]
 ·have:b≠a:=λe=>q (e ▸ h);simp[q,zi this]
end
def DAt (T G:Hp):Dt->V->Prop
 | .lst l,v=>∃a xs,v = .ref a/\T a=some (.lst xs)/\IsL G l xs
 | .dct,v=>∃a kvs,v = .ref a/\T a=some (.dK kvs)/\zbh kvs (Sum.inr "at" : Key)=none
 | .non,v=>Is G .non v
 | .bl b,v=>Is G (.bl b) v
 | .int i,v=>Is G (.int i) v
 | .str x,v=>Is G (.str x) v
 | .tup l,v=>Is G (.tup l) v
def DAt.is(h:DAt G G x v):Is G x v:=by cases x <;> exact h
def DAt.of(h:Is G x v):DAt G G x v:=by cases x <;> exact h
def DAt.up(t:zv T T')(g:zv G G')(h:DAt T G x v):DAt T' G' x v:=by
 cases x with
 | lst l=>obtain⟨a,xs,e,h1,h2⟩:=h;exact⟨a,xs,e,t.lst h1,h2.stay g⟩
 | dct=>obtain⟨a,kvs,e,h1,h2⟩:=h;exact⟨a,kvs,e,t _ _ h1 λk q=>by cases q;exact h2,h2⟩
 | _=>exact Is.stay g h
def DAt.full(t:xm T H)(g:xm G H)(h:DAt T G x v):Is H x v:=(DAt.up (zv.same t) (zv.same g) h).is
def uB {κ:Type}(G:Hp):List (κ×Dt)->List (κ×V)->Prop
 | [],ks=>ks=[]
 | q::r,ks=>∃v s,ks=(q.1,v)::s/\Is G q.2 v/\uB G r s
def uB.stay {κ:Type}{G G':Hp}(s:zv G G'):∀ {kvs:List (κ×Dt)} {ks:List (κ×V)},uB G kvs ks->uB G' kvs ks
 | [],_,h=>h
 | q::r,ks,⟨v,t,e,h1,h2⟩=>⟨v,t,e,h1.stay s,uB.stay s h2⟩
def SIs (G:Hp)(ks:List (List Int))(xs:List (List Int×Addr)):Prop:=ks=xs.map (·.1)/\(∀q∈xs,G q.2=some (.tup (q.1.map V.int)))/\ks.Nodup
def SIs.stay{ks:List (List Int)}{xs:List (List Int×Addr)}(h:SIs G ks xs)(s:zv G G'):SIs G' ks xs:=⟨h.1,λq B=>s _ _ (h.2.1 q B) (λ_ e=>by cases e),h.2.2⟩
def WAt (T G:Hp):W->V->Prop
 | .d x,v=>DAt T G x v
 | .pen p,v=>v = .ref p
 | .dk kvs,v=>∃a ks,v = .ref a/\T a=some (.dK ks)/\uB G kvs ks/\zbh ks (Sum.inr "at" : Key)=none
 | .dt kvs,v=>∃a ks,v = .ref a/\T a=some (dtO ks)/\uB G kvs ks
 | .ss P w ks,v=>∃a xs,v = .ref a/\T a=some (zh0 P w a (uX xs))/\SIs G ks xs
 | .df kvs,v=>∃a ob ks,v = .ref a/\T a=some (.frz ob (dtO ks))/\uB G kvs ks
 | .kf kvs,v=>∃a ob ks,v = .ref a/\T a=some (.frz ob (.dK ks))/\uB G kvs ks
def WAt.up(t:zv T T')(g:zv G G')(h:WAt T G w v):WAt T' G' w v:=by
 cases w with
 | d x=>exact DAt.up t g h
 | pen p=>exact h
 | dk kvs=>
  obtain⟨a,ks,e,h1,h2,B⟩:=h;exact⟨a,ks,e,t _ _ h1 λk q=>by cases q;exact B,h2.stay g,B⟩
 | dt kvs=>
  obtain⟨a,ks,e,h1,h2⟩:=h;exact⟨a,ks,e,t _ _ h1 (λk q=>by cases q),h2.stay g⟩
 | ss P w kvs=>
  obtain⟨a,ks,e,h1,h2⟩:=h;exact⟨a,ks,e,t _ _ h1 (λk q=>by cases q),h2.stay g⟩
 | df kvs=>
  obtain⟨a,ob,ks,e,h1,h2⟩:=h;exact⟨a,ob,ks,e,t _ _ h1 (λk q=>by cases q),h2.stay g⟩
 | kf kvs=>
  obtain⟨a,ob,ks,e,h1,h2⟩:=h;exact⟨a,ob,ks,e,t _ _ h1 (λk q=>by cases q),h2.stay g⟩
@[reducible] def W.mut:W->Bool
 | .d (.lst _)=>true
 | .d .dct=>true
 | .dk _=>true
 | .dt _=>true
 | .ss _ _ _=>true
 | _=>false
abbrev Val (A:Addr->Prop)(H:Hp)(w:W)(v:V):Prop:=WAt (zT A H) (zT A H) w v
abbrev Bor (A:Addr->Prop)(H:Hp)(w:W)(v:V):Prop:=WAt H (zT A H) w v
def Val.bor(h:Val A H w v):Bor A H w v:=WAt.up (zv.same zw) (zv.refl _) h
def Val.stay(h:Val A H w v)(s:zv H H'):Val A H' w v:=WAt.up (zx s) (zx s) h
def Bor.stay(h:Bor A H w v)(s:zv H H'):Bor A H' w v:=WAt.up s (zx s) h
def Bor.is(h:Bor A H (.d x) v):Is H x v:=DAt.full (zls _) zw h
def Val.is(h:Val A H (.d x) v):Is (zT A H) x v:=DAt.is h
def Val.of(h:Is (zT A H) x v):Val A H (.d x) v:=DAt.of h
mutual
def zrU {A:Addr->Prop}{H:Hp}(hA:∀a xs,A a->H a≠some (.tup xs)):∀ {x:Dt} {v:V},x.noL=true->Is H x v->Is (zT A H) x v
 | .non,_,_,h=>h
 | .bl _,_,_,h=>h
 | .int _,_,_,h=>h
 | .str _,_,_,h=>h
 | .tup l,_,n,h=>by obtain⟨p,xs,e,hp,hl⟩:=h;exact⟨p,xs,e,zD (λz=>hA p xs z hp) hp,u7 hA (by simpa [Dt.noL] using n) hl⟩
 | .lst l,_,n,_=>by simp[Dt.noL] at n
 | .dct,_,n,_=>by simp[Dt.noL] at n
def u7 {A:Addr->Prop}{H:Hp}(hA:∀a xs,A a->H a≠some (.tup xs)):∀ {ds:List Dt} {xs:List V},Dt.noLs ds=true->IsL H ds xs->IsL (zT A H) ds xs
 | [],_,_,h=>h
 | d::ds,xs,n,h=>by
  obtain⟨x,r,e,h1,h2⟩:=h;have n':(d.noL&&Dt.noLs ds)=true:=by simpa [Dt.noLs] using n
  rw[a6] at n';exact⟨x,r,e,zrU hA n'.1 h1,u7 hA n'.2 h2⟩
end
def xa (Pn:Option zq)(A:Addr->Prop)(n:Nat)(H:Hp):Prop:=
 match Pn with
 | none=>True
 | some (p,c,ns)=>Pen H p c ns n/\¬ A c/\¬ A p
def Own (A:Addr->Prop)(H:Hp)(w:W)(v:V):Prop:=∃a,v = .ref a/\A a/\Bor A H w v/\w.mut=true
def Al (A:Addr->Prop)(H:Hp):Prop:=∀a,A a->∃o,H a=some o/\NP o/\∀xs,o≠.tup xs
structure EnvR (A:Addr->Prop)(M:List Nat)(σ:St)(H:Hp)(ρ:Ev):Prop where
 len:σ.length=ρ.length
 val:∀i w,ρ[i]?=some (some w)->∃v,σ[i]?=some (some v)/\(i∉M->Val A H w v)/\(i∈M->Own A H w v)
 dis:∀i j w u a,i∈M->j∈M->i≠j->ρ[i]?=some (some w)->ρ[j]?=some (some u)->σ[i]?=some (some (.ref a))->σ[j]?≠some (some (.ref a))
 al:Al A H
def EnvR.stay(E:EnvR A M σ H ρ)(s:zv H H'):EnvR A M σ H' ρ where
 len:=E.len
 val:=λi w e=>by obtain⟨v,h1,h2,q⟩:=E.val i w e;refine⟨v,h1,λz=>(h2 z).stay s,λz=>?_⟩;obtain⟨a,e,B,D,F⟩:=q z;exact⟨a,e,B,D.stay s,F⟩
 dis:=E.dis
 al:=λa h=>by obtain⟨o,h1,h2,q⟩:=E.al a h;exact⟨o,s _ _ h1 h2,h2,q⟩
def EnvR.alT(E:EnvR A M σ H ρ):∀a xs,A a->H a≠some (.tup xs):=λa xs h e=>by
 obtain⟨o,h1,_,q⟩:=E.al a h
 grind
def EnvR.new(E:EnvR A M σ H ρ)(h:H p=none):¬ A p:=λz=>by
 obtain⟨o,h1,_⟩:=E.al p z
 grind
def Fr (H:Hp)(a:Addr):Prop:=∀o,H a=some o->¬ NP o
def Fr.of(h:H a=none):Fr H a:=λo e=>by rw[h] at e;cases e
def Fr.back(h:Fr H1 a)(s:zv H H1):Fr H a:=λo e n=>h o (s _ _ e n) n
def FrV (A:Addr->Prop)(H H':Hp)(w:W)(v:V):Prop:=∃a,v = .ref a/\Fr H a/\WAt H' (zT (λb=>A b\/b=a) H') w v
def FrV.back(h:FrV A H1 H' w v)(s:zv H H1):FrV A H H' w v:=let ⟨a,e,f,g⟩:=h;⟨a,e,f.back s,g⟩
def FrV.less(h:FrV A H H' w v)(s:∀a,A0 a->A a):FrV A0 H H' w v:=let ⟨a,e,f,g⟩:=h;⟨a,e,f,WAt.up (zv.refl _) (zv.same (yM λb z=>z.elim (λz=>.inl (s b z)) .inr)) g⟩
def EnvR.newF(E:EnvR A M σ H ρ)(h:Fr H p):¬ A p:=λz=>by obtain⟨o,h1,h2,_⟩:=E.al p z;exact h o h1 h2
def yz(s:zv H H')(n:Fr H p):zv (zT A H) (zT (λb=>A b\/b=p) H'):=λb o e q=>by obtain⟨h1,h2⟩:=yA.mp e;exact zD (λz=>z.elim h1 λz=>by subst z;exact n o h2 q) (s b o h2 q)
structure Go (Pn:Option zq)(A:Addr->Prop)(H:Hp)(n:Nat)(H':Hp):Prop where
 st:zv H H'
 pn:xa Pn A n H'
def Go.trans(a:Go Pn A H n H1)(b:Go Pn A H1 m H2):Go Pn A H m H2:=⟨a.st.trans b.st,b.pn⟩
structure RE (Pn:Option zq)(M:List Nat)(fr:Bool)(te:TE)(f:Ev->Mo W):Prop where
 run:∀A σ H ρ n Q R,EnvR A M σ H ρ->xa Pn A n H->f ρ n R->(∀w m v H',R w m->Val A H' w v->Go Pn A H m H'->(fr=true->FrV A H H' w v)->Q v H')->te σ H Q
structure RB (Pn:Option zq)(M:List Nat)(te:TE)(f:Ev->Mo W):Prop where
 run:∀A σ H ρ n Q R,EnvR A M σ H ρ->xa Pn A n H->f ρ n R->(∀w m v H',R w m->Bor A H' w v->Go Pn A H m H'->Q v H')->te σ H Q
structure RT (Pn:Option zq)(M:List Nat)(te:TT)(f:Ev->Mo Bool):Prop where
 run:∀A σ H ρ n Q R,EnvR A M σ H ρ->xa Pn A n H->f ρ n R->(∀b m H',R b m->Go Pn A H m H'->Q b H')->te σ H Q
def zrc (A:Addr->Prop)(H:Hp):List W->List V->Prop
 | [],vs=>vs=[]
 | w::q,vs=>∃v r,vs=v::r/\Bor A H w v/\zrc A H q r
def zdl (A:Addr->Prop)(H:Hp):List W->List V->Prop
 | [],vs=>vs=[]
 | w::q,vs=>∃v r,vs=v::r/\Val A H w v/\zdl A H q r
def zdl.bor:∀ {q:List W} {vs:List V},zdl A H q vs->zrc A H q vs
 | [],_,h=>h
 | _::_,_,⟨v,r,e,h1,h2⟩=>⟨v,r,e,h1.bor,zdl.bor h2⟩
structure RA (Pn:Option zq)(M:List Nat)(ta:TA)(f:Ev->Mo (List W)):Prop where
 run:∀A σ H ρ n Q R,EnvR A M σ H ρ->xa Pn A n H->f ρ n R->(∀ws m vs H',R ws m->zdl A H' ws vs->Go Pn A H m H'->Q vs H')->ta σ H Q
structure RAB (Pn:Option zq)(M:List Nat)(ta:TA)(f:Ev->Mo (List W)):Prop where
 run:∀A σ H ρ n Q R,EnvR A M σ H ρ->xa Pn A n H->f ρ n R->(∀ws m vs H',R ws m->zrc A H' ws vs->Go Pn A H m H'->Q vs H')->ta σ H Q
structure Kt where
 nx:Ev->Nat->Prop
 rt:W->Nat->Prop
 bk:Ev->Nat->Prop:=λ_ _=>False
 ct:Ev->Nat->Prop:=λ_ _=>False
abbrev Ms:=Ev->Nat->Kt->Prop
def StX (q:Addr->Prop)(H0 H:Hp):Prop:=∀b o,H0 b=some o->NP o->¬ q b->H b=some o
def StX.of(s:zv H0 H):StX q H0 H:=λb o e n _=>s b o e n
def StX.stay(s:StX (λ_=>False) H0 H):zv H0 H:=λb o e n=>s b o e n λz=>z
structure Frm (A0:Addr->Prop)(H0:Hp)(ca:Addr->Prop)(A:Addr->Prop)(H:Hp):Prop where
 sub:∀a,A0 a->A a
 new:∀a,A a->A0 a\/Fr H0 a\/ca a
 st:StX ca H0 H
 al:Al A0 H0
 cn:∀a,ca a->¬ A0 a
 cs:∀a,ca a->∃o,H a=some o/\NP o
def Frm.back(f:Frm A0 H0 B A H)(h:Fr H a)(n:¬ A a):Fr H0 a:=λo e q=>h o (f.st a o e q λz=>let ⟨o2,e2,n2⟩:=f.cs a z;h o2 e2 n2) q
structure Bs where
 ca:Addr->Prop:=λ_=>False
 A0:Addr->Prop
 H0:Hp
 G0:Hp
 σ0:St
structure At3 (Pn:Option zq)(B:Bs)(S M:List Nat)(A:Addr->Prop)(σ:St)(H:Hp)(ρ:Ev)(n:Nat):Prop where
 env:EnvR A M σ H ρ
 frm:Frm B.A0 B.H0 B.ca A H
 pn:xa Pn A n H
 prot:zv B.G0 (zT A H)
 fix:∀i∈S,σ[i]?=B.σ0[i]?
 mine:∀i w a,i∈M->ρ[i]?=some (some w)->σ[i]?=some (some (.ref a))->Fr B.H0 a\/B.ca a
structure KOk (Pn:Option zq)(B:Bs)(S M:List Nat)(fr:Bool)(k:Kt)(D:Ends):Prop where
 nx:∀A σ H ρ n,At3 Pn B S M A σ H ρ n->k.nx ρ n->D.nx σ H
 bk:∀A σ H ρ n,At3 Pn B S M A σ H ρ n->k.bk ρ n->D.bk σ H
 ct:∀A σ H ρ n,At3 Pn B S M A σ H ρ n->k.ct ρ n->D.ct σ H
 fc:∀a,¬ B.ca a
 rt:∀w n v H,Val B.A0 H w v->StX B.ca B.H0 H->xa Pn B.A0 n H->(fr=true->FrV B.A0 B.H0 H w v)->k.rt w n->D.rt v H
structure RS (Pn:Option zq)(S M:List Nat)(fr:Bool)(ts:TS)(fs:Ms):Prop where
 run:∀B A σ H ρ n k D,At3 Pn B S M A σ H ρ n->KOk Pn B S M fr k D->fs ρ n k->ts D σ H
structure RG (S M:List Nat)(g:TG)(mg:W->Ev->(Ev->Prop)->Prop):Prop where
 run:∀A σ H ρ v w Q R,EnvR A M σ H ρ->Val A H w v->mg w ρ R->(∀ σ' ρ',R ρ'->EnvR A M σ' H ρ'->(∀i∈S,σ'[i]?=σ[i]?/\ρ'[i]?=ρ[i]?)->Q σ' H)->g v σ H Q
structure RGs (S M:List Nat)(g:TGs)(mg:List Dt->Ev->(Ev->Prop)->Prop):Prop where
 run:∀A σ H ρ vs ds Q R,EnvR A M σ H ρ->IsL (zT A H) ds vs->mg ds ρ R->(∀ σ' ρ',R ρ'->EnvR A M σ' H ρ'->(∀i∈S,σ'[i]?=σ[i]?/\ρ'[i]?=ρ[i]?)->Q σ' H)->g vs σ H Q
structure ItV (ow:Bool)(A:Addr->Prop)(H:Hp)(J:It)(l:List W):Prop where
 one:∀i w A2 H2,l[i]?=some w->zv (zT A H) (zT A2 H2)->(ow=true->zv H H2)->(∀p,H2 p=none->¬ A2 p)->J.go i H2/\∀x H3,J.yld i H2 x H3->xm H2 H3/\Val A2 H3 w x
 stop:∀A2 H2,zv (zT A H) (zT A2 H2)->(ow=true->zv H H2)->J.stop l.length H2
structure RI (Pn:Option zq)(M:List Nat)(ow:Bool)(wi:TI)(f:Ev->Mo (List W)):Prop where
 run:∀A σ H ρ n Q R,EnvR A M σ H ρ->xa Pn A n H->f ρ n R->(∀l m J H',R l m->ItV ow A H' J l->Go Pn A H m H'->Q J H')->wi σ H Q
def RE.rb(h:RE Pn M fr te f):RB Pn M te f:=
 ⟨λA σ H ρ n Q R E P q k=>h.run A σ H ρ n Q R E P q λw m v H' r a g _=>k w m v H' r a.bor g⟩
def RA.rab(h:RA Pn M te f):RAB Pn M te f:=
 ⟨λA σ H ρ n Q R E P q k=>h.run A σ H ρ n Q R E P q λw m v H' r a g=>k w m v H' r a.bor g⟩
def xa.same(h:xa Pn A n H)(s:xm H H'):xa Pn A n H':=by
 unfold xa at h ⊢;split at h
 ·trivial
 ·exact⟨h.1.same s,h.2⟩
def Go.same(h:xa Pn A n H)(s:xm H H'):Go Pn A H n H':=⟨zv.same s,h.same s⟩
def Go.refl(h:xa Pn A n H):Go Pn A H n H:=⟨zv.refl _,h⟩
open PySem L2
structure JE (X:Cx)(Pn:Option zq)(M:List Nat)(fr:Bool)(e:Expr)(f:Ev->Mo W):Prop where
 ex:∃te,QE X e te/\RE Pn M fr te f
structure JB (X:Cx)(Pn:Option zq)(M:List Nat)(e:Expr)(f:Ev->Mo W):Prop where
 ex:∃te,QE X e te/\RB Pn M te f
structure JT (X:Cx)(Pn:Option zq)(M:List Nat)(e:Expr)(f:Ev->Mo Bool):Prop where
 ex:∃te,QT X e te/\RT Pn M te f
structure JW (X:Cx)(Pn:Option zq)(M:List Nat)(e:Expr)(f:Ev->Mo Bool):Prop where
 ex:∃te,QW X e te/\RT Pn M te f
structure JA (X:Cx)(Pn:Option zq)(M:List Nat)(es:List Expr)(f:Ev->Mo (List W)):Prop where
 ex:∃te,QA X es te/\RA Pn M te f
structure JAB (X:Cx)(Pn:Option zq)(M:List Nat)(es:List Expr)(f:Ev->Mo (List W)):Prop where
 ex:∃te,QA X es te/\RAB Pn M te f
structure JO (X:Cx)(Pn:Option zq)(M:List Nat)(e:Option Expr)(f:Ev->Mo (Option Int)):Prop where
 ex:∃t,QO X e t/\∀A σ H ρ n Q R,EnvR A M σ H ρ->xa Pn A n H->f ρ n R->(∀o m H',R o m->Go Pn A H m H'->Q o H')->t σ H Q
section
variable {X:Cx}{Pn:Option zq}{M:List Nat}{fr:Bool}{e a b c:Expr}{es:List Expr}{f fa fb fc:Ev->Mo W}{pos p:Pos}
def zso (i:Nat):Ev->Mo W:=λρ n Q=>∃w,ρ[i]?=some (some w)/\Q w n
@[reducible] def mC (w:W):Ev->Mo W:=λ_ n Q=>Q w n
@[reducible] def zq8 (F:W->W->Mo W) (fa fb:Ev->Mo W):Ev->Mo W:=λρ n Q=>fa ρ n λx q=>fb ρ q λy B=>F x y B Q
@[reducible] def mUn (F:W->Mo W) (fa:Ev->Mo W):Ev->Mo W:=λρ n Q=>fa ρ n λx q=>F x q Q
def zpF (fa:Ev->Mo W):Ev->Mo Bool:=λρ n Q=>fa ρ n λx q=>∃c,x = .d (.bl c)/\Q c q
def zuh (t u:Ev->Mo Bool):Ev->Mo Bool:=λρ n Q=>t ρ n λc q=>if c=true then u ρ q Q else Q false q
def mOr (t u:Ev->Mo Bool):Ev->Mo Bool:=λρ n Q=>t ρ n λc q=>if c=true then Q true q else u ρ q Q
def zvx (t:Ev->Mo Bool):Ev->Mo Bool:=λρ n Q=>t ρ n λc q=>Q (!c) q
@[reducible] def zvw:Ev->Mo (List W):=λ_ n Q=>Q [] n
@[reducible] def zpt (fa:Ev->Mo W) (fr:Ev->Mo (List W)):Ev->Mo (List W):=λρ n Q=>fa ρ n λx q=>fr ρ q λxs B=>Q (x::xs) B
@[reducible] def zvp (F:List W->Mo W) (fa:Ev->Mo (List W)):Ev->Mo W:=λρ n Q=>fa ρ n λxs q=>F xs q Q
def JE.bo (h:JE X Pn M fr e f):JB X Pn M e f:=let ⟨te,h1,h2⟩:=h.ex;⟨te,h1,h2.rb⟩
def JA.bo {f:Ev->Mo (List W)}(h:JA X Pn M es f):JAB X Pn M es f:=let ⟨te,h1,h2⟩:=h.ex;⟨te,h1,h2.rab⟩
def zrZ (h:JE X Pn M true e f):JE X Pn M false e f:=let ⟨te,h1,h2⟩:=h.ex;⟨te,h1,⟨λA σ H ρ n Q R E P q k=>h2.run A σ H ρ n Q R E P q λw m v H' r a g _=>k w m v H' r a g λz=>by cases z⟩⟩
def ztl(hi:i∉M):RE Pn M false (zlW i) (zso i):=⟨λA σ H ρ n Q R E P q k=>by obtain⟨w,e,r⟩:=q;obtain⟨v,h1,h2,_⟩:=E.val i w e;exact⟨v,h1,k w n v H r (h2 hi) (Go.refl P) λz=>by cases z⟩⟩
def ztj:RB Pn M (zlW i) (zso i):=⟨λA σ H ρ n Q R E P q k=>by
 obtain⟨w,e,r⟩:=q;obtain⟨v,h1,h2,B⟩:=E.val i w e;refine⟨v,h1,k w n v H r ?_ (Go.refl P)⟩;by_cases hi:i∈M
 ·obtain⟨a,_,_,h,_⟩:=B hi;exact h
 ·exact (h2 hi).bor⟩
def zvj (i:Nat){x:Str}(hi:i∉M:=by decide)(B:X.N[i]?=some x:=by rfl)(D:Vis X.env.scope x:=by walk_at "v")(F:(x==("__debug__" : Str))=false:=by decide)
  (q:(x==("__classdict__" : Str))=false:=by decide):JE X Pn M false (.Name x pos) (zso i):=⟨_,qv i B D F q,ztl hi⟩
def zvh(i:Nat)(B:X.N[i]?=some x:=by rfl)(D:Vis X.env.scope x:=by walk_at "v")(F:(x==("__debug__" : Str))=false:=by decide)(q:(x==("__classdict__" : Str))=false:=by decide):JB X Pn M (.Name x pos) (zso i):=⟨_,qv i B D F q,ztj⟩
def zus(h:∀G,Is G x v):RE Pn M false (tC v) (mC (.d x)):=⟨λA σ H ρ n Q R E P q k=>k _ n v H q (Val.of (h _)) (Go.refl P) λz=>by cases z⟩
def zE{i:Int}:JE X Pn M false (.Constant (.int i) j pos) (mC (.d (.int i))):=⟨_,yG,zus λ_=>rfl⟩
def zq7:JE X Pn M false (.Constant (.bool k) j pos) (mC (.d (.bl k))):=⟨_,zvW,zus λ_=>rfl⟩
def zpg:JE X Pn M false (.Constant .none j pos) (mC (.d .non)):=⟨_,zs9,zus λ_=>rfl⟩
def zfm:JE X Pn M false (.Constant (.str x) j pos) (mC (.d (.str x))):=⟨_,x3,zus λ_=>rfl⟩
def Al.new {A:Addr->Prop}{H:Hp}(h:Al A H){p:Addr}(e:H p=none):¬ A p:=λz=>by
 obtain⟨o,h1,_⟩:=h p z
 grind
def Al.stay(h:Al A H)(s:zv H H'):Al A H':=λa z=>by obtain⟨o,h1,h2,q⟩:=h a z;exact⟨o,s _ _ h1 h2,h2,q⟩
def Al.noT(h:Al A H):∀a xs,A a->H a≠some (.tup xs):=λa xs z e=>by
 obtain⟨o,h1,_,q⟩:=h a z
 grind
def Al.noT' {A:Addr->Prop}{H H':Hp}(h:Al A H)(s:zv H H'){p:Addr}{xs:List V}(e:H' p=some (.tup xs)):¬ A p:=λz=>(h.stay s).noT p xs z e
structure F2 (Pn:Option zq)(fr:Bool)(r:R2)(F:W->W->Mo W):Prop where
 run:∀A H x y wx wy n Q R,Al A H->Bor A H wx x->Bor A H wy y->xa Pn A n H->F wx wy n R->(∀w m v H',R w m->Val A H' w v->Go Pn A H m H'->(fr=true->FrV A H H' w v)->Q v H')->r x y H Q
structure F1 (Pn:Option zq)(fr:Bool)(r:V->Hp->VK->Prop)(F:W->Mo W):Prop where
 run:∀A H x wx n Q R,Al A H->Bor A H wx x->xa Pn A n H->F wx n R->(∀w m v H',R w m->Val A H' w v->Go Pn A H m H'->(fr=true->FrV A H H' w v)->Q v H')->r x H Q
structure FL (Pn:Option zq)(fr:Bool)(r:List V->Hp->VK->Prop)(F:List W->Mo W):Prop where
 run:∀A H xs ws n Q R,Al A H->zrc A H ws xs->xa Pn A n H->F ws n R->(∀w m v H',R w m->Val A H' w v->Go Pn A H m H'->(fr=true->FrV A H H' w v)->Q v H')->r xs H Q
def znk(B:F2 Pn fr r F)(D:RB Pn M ta fa)(I:RB Pn M tb fb):RE Pn M fr (tOp r ta tb) (zq8 F fa fb):=⟨λA σ H ρ n Q R E P J k=>by refine D.run A σ H ρ n _ _ E P J λx L O H1 U Y q=>?_;refine I.run A σ H1 ρ L _ _ (E.stay q.st) q.pn U λy Z v2 H2 r2 b2 g2=>?_;have g:=q.trans g2;exact B.run A H2 O v2 x y Z _ _ (E.stay g.st).al (Y.stay g2.st) b2 g2.pn r2 λw m v H' h1 h2 h3 h4=>k w m v H' h1 h2 (g.trans h3) λz=>(h4 z).back g.st⟩
def zv5(B:F1 Pn fr r F)(D:RB Pn M ta fa):RE Pn M fr (tUn r ta) (mUn F fa):=⟨λA σ H ρ n Q R E P I k=>by refine D.run A σ H ρ n _ _ E P I λx J L H1 O U q=>?_;exact B.run A H1 L x J _ _ (E.stay q.st).al U q.pn O λw m v H' h1 h2 Y Z=>k w m v H' h1 h2 (q.trans Y) λz=>(Z z).back q.st⟩
def ztk {r:List V->Hp->VK->Prop}{F:List W->Mo W}{ta:TA}{fa:Ev->Mo (List W)}(B:FL Pn fr r F)(D:RAB Pn M ta fa):RE Pn M fr (tCB r ta) (zvp F fa):=⟨λA σ H ρ n Q R E P I k=>by refine D.run A σ H ρ n _ _ E P I λx J L H1 O U q=>?_;exact B.run A H1 L x J _ _ (E.stay q.st).al U q.pn O λw m v H' h1 h2 Y Z=>k w m v H' h1 h2 (q.trans Y) λz=>(Z z).back q.st⟩
def uP(B:OpQ X (binaryOp q) r)(D:F2 Pn fr r F)(I:JB X Pn M a fa)(J:JB X Pn M b fb):JE X Pn M fr (.BinOp a q b pos) (zq8 F fa fb):=by obtain⟨ta,L,O⟩:=I.ex;obtain⟨tb,U,Y⟩:=J.ex;exact⟨_,xc B L U,znk D O Y⟩
def j_un(B:UnQ X (unaryOp q) r)(D:F1 Pn fr r F)(I:JB X Pn M a fa):JE X Pn M fr (.UnaryOp q a pos) (mUn F fa):=by obtain⟨ta,J,L⟩:=I.ex;exact⟨_,zvX B J,zv5 D L⟩
def zrY(B:OpQ X (compareOp q) r)(D:F2 Pn fr r F)(I:JB X Pn M a fa)(J:JB X Pn M b fb)(L:behindInMarks q b=false):JE X Pn M fr (.Compare a [q] [b] pos) (zq8 F fa fb):=by obtain⟨ta,O,U⟩:=I.ex;obtain⟨tb,Y,Z⟩:=J.ex;exact⟨_,zqd B O Y L,znk D U Z⟩
def zoq(h:RB Pn M ta fa):RT Pn M (zqS ta) (zpF fa):=⟨λA σ H ρ n Q R E P B k=>by refine h.run A σ H ρ n _ _ E P B  ?_;rintro x D F H1 ⟨c,e,r⟩ I J;subst e;have q:F = .bl c:=I;exact⟨c,q,k c D H1 r J⟩⟩
def zB(B:OpQ X (compareOp q) r)(D:F2 Pn fr r F)(I:JB X Pn M a fa)(J:JB X Pn M b fb)(L:behindInMarks q b=false):JT X Pn M (.Compare a [q] [b] pos) (zpF (zq8 F fa fb)):=by obtain⟨ta,O,U⟩:=I.ex;obtain⟨tb,Y,Z⟩:=J.ex;exact⟨_,zcJ B O Y L,zoq (znk D U Z).rb⟩
def zkf (h:JB X Pn M e f)(he:∀whole,isTrue e X.env whole=(do let v <- whole;standAt e.pos;holding [v] (truthy v)):=by intro _;rfl):JT X Pn M e (zpF f):=by obtain⟨ta,qa,ra⟩:=h.ex;exact⟨_,zte qa he,zoq ra⟩
def zn6(h:JT X Pn M a t):JT X Pn M (.UnaryOp .Not a pos) (zvx t):=by obtain⟨ta,q,B⟩:=h.ex;exact⟨_,ztd q,⟨λA σ H ρ n Q R E P D k=>B.run A σ H ρ n _ _ E P D λb m H' r g=>k _ m H' r g⟩⟩
def zax(B:q = .And\/q = .Or)(h:JT X Pn M a t):JW X Pn M (.BoolOp q [a] pos) t:=by
 obtain⟨ta,D,F⟩:=h.ex;rcases B with rfl | rfl
 ·exact⟨_,zlb D,F⟩
 ·exact⟨_,ztf D,F⟩
def ztv(h:RT Pn M t q)(h':RT Pn M u B):RT Pn M (zwc t u) (zuh q B):=⟨λA σ H ρ n Q R E P D k=>by
 refine h.run A σ H ρ n _ _ E P D λc m H1 r g=>?_
 cases c with
 | true=>exact h'.run A σ H1 ρ m _ _ (E.stay g.st) g.pn (by simpa using r) λb F H' I g'=>k b F H' I (g.trans g')
 | false=>exact k false m H1 (by simpa using r) g⟩
def zv7(h:RT Pn M t q)(h':RT Pn M u B):RT Pn M (tOr t u) (mOr q B):=⟨λA σ H ρ n Q R E P D k=>by
 refine h.run A σ H ρ n _ _ E P D λc m H1 r g=>?_
 cases c with
 | false=>exact h'.run A σ H1 ρ m _ _ (E.stay g.st) g.pn (by simpa using r) λb F H' I g'=>k b F H' I (g.trans g')
 | true=>exact k true m H1 (by simpa using r) g⟩
def zbD {yf:List Expr}{t u:Ev->Mo Bool}(h:JT X Pn M a t)(h':JW X Pn M (.BoolOp .And (b::yf) pos) u):JW X Pn M (.BoolOp .And (a::b::yf) pos) (zuh t u):=by obtain⟨ta,q,B⟩:=h.ex;obtain⟨tb,D,F⟩:=h'.ex;exact⟨_,zon q D,ztv B F⟩
def zr6 {yf:List Expr}{t u:Ev->Mo Bool}(h:JT X Pn M a t)(h':JW X Pn M (.BoolOp .Or (b::yf) pos) u):JW X Pn M (.BoolOp .Or (a::b::yf) pos) (mOr t u):=by obtain⟨ta,q,B⟩:=h.ex;obtain⟨tb,D,F⟩:=h'.ex;exact⟨_,zvZ q D,zv7 B F⟩
def JW.t {t:Ev->Mo Bool}(h:JW X Pn M e t):JT X Pn M e t:=let ⟨te,h1,h2⟩:=h.ex;⟨te,h1.pt,h2⟩
@[reducible] def isNon:W->Bool
 | .d .non=>true
 | _=>false
def Bor.isNon(h:Bor A H w v):decide (v = .non)=isNon w:=by
 cases w with
 | d x=>
  cases x with
  | non=>have:v = .non:=h;subst this;rfl
  | bl c=>have:v = .bl c:=h;subst this;rfl
  | int c=>have:v = .int c:=h;subst this;rfl
  | str c=>have:v = .str c:=h;subst this;rfl
  | tup l=>obtain⟨a,_,rfl,_⟩:=h;rfl
  | lst l=>obtain⟨a,_,rfl,_⟩:=h;rfl
  | dct=>obtain⟨a,_,rfl,_⟩:=h;rfl
 | pen p=>have:v = .ref p:=h;subst this;rfl
 | dk k=>obtain⟨a,_,rfl,_⟩:=h;rfl
 | dt k=>obtain⟨a,_,rfl,_⟩:=h;rfl
 | ss P w k=>obtain⟨a,_,rfl,_⟩:=h;rfl
 | df k=>obtain⟨a,_,_,rfl,_⟩:=h;rfl
 | kf k=>obtain⟨a,_,_,rfl,_⟩:=h;rfl
@[reducible] def mIsN (fa:Ev->Mo W):Ev->Mo W:=λρ n Q=>fa ρ n λx q=>Q (.d (.bl (isNon x))) q
@[reducible] def zsl (fa:Ev->Mo W):Ev->Mo W:=λρ n Q=>fa ρ n λx q=>Q (.d (.bl (!isNon x))) q
def zqy(h:RB Pn M ta fa):RE Pn M false (zqQ ta) (zsl fa):=⟨λA σ H ρ n Q R E P q k=>by refine h.run A σ H ρ n _ _ E P q λx m v H1 r B g=>?_;exact k _ m _ H1 r (Val.of (by rw[B.isNon];rfl)) g λz=>by cases z⟩
def zv8(h:RB Pn M ta fa):RT Pn M (tB ta) (zpF fa):=⟨λA σ H ρ n Q R E P B k=>by refine h.run A σ H ρ n _ _ E P B  ?_;rintro x D F H1 ⟨c,e,r⟩ I J;subst e;have q:F = .bl c:=I;exact⟨c,q,k c D H1 r J⟩⟩
def zke(h:JB X Pn M a fa):JT X Pn M (.Compare a [.IsNot] [.Constant .none j pos'] pos) (zpF (zsl fa)):=by obtain⟨ta,q,B⟩:=h.ex;exact⟨_,ztc (zqc q),zv8 (zqy B).rb⟩
def zc:JA X Pn M [] zvw:=⟨_,yB,⟨λA σ H ρ n Q R E P q k=>k [] n [] H q rfl (Go.refl P)⟩⟩
def za(B:JE X Pn M fr e f)(D:JA X Pn M es fs)(F:starEach (e::es) X.env=(false,eval e X.env)::starEach es X.env:=by rfl):JA X Pn M (e::es) (zpt f fs):=by obtain⟨ta,I,J⟩:=B.ex;obtain⟨tb,L,O⟩:=D.ex;refine⟨_,zK I L F,⟨λA σ H ρ n Q R E P U k=>?_⟩⟩;refine J.run A σ H ρ n _ _ E P U λx Y Z H1 r1 b1 q _=>?_;exact O.run A σ H1 ρ Y _ _ (E.stay q.st) q.pn r1 λxs n2 vs H2 r2 b2 g2=>k _ n2 _ H2 r2 ⟨Z,vs,rfl,b1.stay g2.st,b2⟩ (q.trans g2)
def zm:JAB X Pn M [] zvw:=zc.bo
def zh(B:JB X Pn M e f)(D:JAB X Pn M es fs)(F:starEach (e::es) X.env=(false,eval e X.env)::starEach es X.env:=by rfl):JAB X Pn M (e::es) (zpt f fs):=by obtain⟨ta,I,J⟩:=B.ex;obtain⟨tb,L,O⟩:=D.ex;refine⟨_,zK I L F,⟨λA σ H ρ n Q R E P U k=>?_⟩⟩;refine J.run A σ H ρ n _ _ E P U λx Y Z H1 r1 b1 q=>?_;exact O.run A σ H1 ρ Y _ _ (E.stay q.st) q.pn r1 λxs n2 vs H2 r2 b2 g2=>k _ n2 _ H2 r2 ⟨Z,vs,rfl,b1.stay g2.st,b2⟩ (q.trans g2)
def lim:Nat:=500000
def zcu(h:n<=lim):n<=sizeLine:=ar h (by decide)
def zcv(h:n<=lim):n<sizeLine:=aW h (by decide)
def dts:List W->Option (List Dt)
 | []=>some []
 | .d x::r=>(dts r).map (x::·)
 | _::_=>none
def zdl.dts:∀ {q:List W} {vs:List V} {l:List Dt},zdl A H q vs->dts q=some l->IsL (zT A H) l vs
 | [],vs,l,h,e=>by cases e;exact h
 | .d x::q,vs,l,⟨v,r,B,h1,h2⟩,e=>by obtain⟨l',D,rfl⟩:=aE.mp e;exact⟨v,r,B,h1.is,zdl.dts h2 D⟩
 | .pen _::_,_,_,_,e=>by cases e
 | .dk _::_,_,_,_,e=>by cases e
 | .dt _::_,_,_,_,e=>by cases e
 | .ss _ _ _::_,_,_,_,e=>by cases e
 | .df _::_,_,_,_,e=>by cases e
 | .kf _::_,_,_,_,e=>by cases e
def zdl.len:∀ {q:List W} {vs:List V},zdl A H q vs->vs.length=q.length
 | [],_,h=>by cases h;rfl
 | _::q,vs,⟨v,r,e,_,h2⟩=>by rw[e,a8,a8,zdl.len h2]
def zeO {A:Addr->Prop}{H H':Hp}{p:Addr}{xs:List V}{l:List Dt}(q:IsL (zT A H) l xs)(s:zv H H')(n:¬ A p)(g:H' p=some (.tup xs)):Val A H' (.d (.tup l)) (.ref p):=
 Val.of ⟨p,xs,rfl,zD n g,q.stay (zx s)⟩
def xu {A:Addr->Prop}{H H':Hp}{p:Addr}{xs:List V}{l:List Dt}(q:IsL (zT A H) l xs)(s:zv H H')(n:¬ A p)(g:H' p=some (.lst xs)):Val A H' (.d (.lst l)) (.ref p):=
 Val.of ⟨p,xs,rfl,zD n g,q.stay (zx s)⟩
def xF {A:Addr->Prop}{H H':Hp}{p:Addr}{xs:List V}{l:List Dt}(q:IsL (zT A H) l xs)(s:xm H H')(n:H p=none)(g:H' p=some (.lst xs)):FrV A H H' (.d (.lst l)) (.ref p):=
 ⟨p,rfl,.of n,p,xs,rfl,g,q.stay (yz (zv.same s) (.of n))⟩
@[reducible] def zul:Nat->List W->(List Dt->Prop)->Prop
 | _,[],P=>P []
 | k+1,.d x::r,P=>zul k r λl=>P (x::l)
 | _,_,_=>False
def zeo:∀ {k:Nat} {l:List W} {P:List Dt->Prop},zul k l P->∃ds,dts l=some ds/\P ds/\l.length<=k
 | 0,[],P,h=>⟨[],rfl,h,aJ _⟩
 | k+1,[],P,h=>⟨[],rfl,h,aJ _⟩
 | 0,.d x::r,P,h=>h.elim
 | k+1,.d x::r,P,h=>by obtain⟨ds,e,h2,q⟩:=zeo (k:=k) (l:=r) (P:=λl=>P (x::l)) h;exact⟨x::ds,by simp[dts,e],h2,Nat.succ_le_succ q⟩
 | 0,.pen _::r,P,h=>h.elim
 | k+1,.pen _::r,P,h=>h.elim
 | 0,.dk _::r,P,h=>h.elim
 | k+1,.dk _::r,P,h=>h.elim
 | 0,.dt _::r,P,h=>h.elim
 | 0,.ss _ _ _::r,P,h=>h.elim
 | 0,.df _::r,P,h=>h.elim
 | 0,.kf _::r,P,h=>h.elim
 | k+1,.dt _::r,P,h=>h.elim
 | k+1,.ss _ _ _::r,P,h=>h.elim
 | k+1,.df _::r,P,h=>h.elim
 | k+1,.kf _::r,P,h=>h.elim
@[reducible] def zsn (fa:Ev->Mo (List W)):Ev->Mo W:=λρ n Q=>fa ρ n λq m=>zul 200 q λl=>Q (.d (.tup l)) m
def yH{x1}(h:JA X Pn M es fs):JE X Pn M false (.Tuple es x1 pos) (zsn fs):=by obtain⟨ta,q,B⟩:=h.ex;refine⟨_,zev q,⟨λA σ H ρ n Q R E P D k=>?_⟩⟩;refine B.run A σ H ρ n _ _ E P D λO m vs H1 F b g=>?_;obtain⟨l,e,r,I⟩:=zeo F;refine⟨zcu (by rw[b.len];exact ar I (by decide)),λp H2 J L S=>?_⟩;exact k _ m _ H2 r (zeO (b.dts e) (zv.same S) ((E.stay g.st).new J) L) (g.trans (Go.same g.pn S)) λz=>by cases z
@[reducible] def zvv (fa:Ev->Mo (List W)):Ev->Mo W:=λρ n Q=>fa ρ n λq m=>zul 200 q λl=>Q (.d (.lst l)) m
def xG(h:JA X Pn M es fs):JE X Pn M true (.List es pos) (zvv fs):=by obtain⟨ta,D,F⟩:=h.ex;refine⟨_,zk7 D,⟨λA σ H ρ n Q R E P I k=>?_⟩⟩;refine F.run A σ H ρ n _ _ E P I λO m vs H1 J b g=>?_;obtain⟨l,e,r,L⟩:=zeo J;refine⟨zcu (by rw[b.len];exact ar L (by decide)),λp H2 q B S=>?_⟩;exact k _ m _ H2 r (xu (b.dts e) (zv.same S) ((E.stay g.st).new q) B) (g.trans (Go.same g.pn S)) λ_=>(xF (b.dts e) S q B).back g.st
def zN {id:String}{r:List V->Hp->VK->Prop}{F:List W->Mo W}{x:Str}{fs:Ev->Mo (List W)}(D:CallQ X (.builtin id) r)(I:FL Pn fr r F)(J:Gl X x)(L:X.mg x=none)(O:bootBuiltins x=some (.builtin id))(U:JAB X Pn M (e::es) fs)(Y:x ≠ "__name__" := by decide)(q:(x==("__debug__" : Str))=false:=by decide)
  (Z:starEach (e::es) X.env=(false,eval e X.env)::starEach es X.env:=by rfl) (B:(backTo pos (starEach es X.env)).any (·.1)=false:=by rfl):JE X Pn M fr (.Call (.Name x p) (e::es) [] pos) (zvp F fs):=by
 obtain⟨ta,qa,ra⟩:=U.ex;exact⟨_,xN D J L O qa Y q Z B,ztk I ra⟩
def yu(D:CallQ X (.type T) r)(I:FL Pn fr r F)(J:Gl X x)(L:X.mg x=none)(O:bootBuiltins x=some (.type T))(U:JAB X Pn M (e::es) fs)(Y:x ≠ "__name__" := by decide)(q:(x==("__debug__" : Str))=false:=by decide)(Z:starEach (e::es) X.env=(false,eval e X.env)::starEach es X.env:=by rfl)(B:(backTo pos (starEach es X.env)).any (·.1)=false:=by rfl):JE X Pn M fr (.Call (.Name x p) (e::es) [] pos) (zvp F fs):=by
 obtain⟨ta,qa,ra⟩:=U.ex;exact⟨_,zba D J L O qa Y q Z B,ztk I ra⟩
end
open PySem L2
section
variable {Pn:Option zq}{K:PySem.W.Frag}{A:Addr->Prop}{H:Hp}
def yL{i:Int}(h:Bor A H (.d (.int i)) v):v = .int i:=h
def zrr(h:Bor A H (.d (.bl i)) v):v = .bl i:=h
def xT(h:Bor A H (.d (.tup l)) v):∃a xs,v = .ref a/\H a=some (.tup xs)/\IsL (zT A H) l xs:=by obtain⟨a,xs,e,h1,h2⟩:=h;exact⟨a,xs,e,zw _ _ h1,h2⟩
def xg(h:Bor A H (.d (.lst l)) v):∃a xs,v = .ref a/\H a=some (.lst xs)/\IsL (zT A H) l xs:=h
def zgb(h:Bor A H (.d (.lst l)) v\/Bor A H (.d (.tup l)) v):∃a xs,v = .ref a/\(SqL K H a xs\/SqT K H a xs)/\IsL (zT A H) l xs:=by
 rcases h with h | h
 ·obtain⟨a,xs,e,h1,h2⟩:=xg h;exact⟨a,xs,e,.inl (.of h1),h2⟩
 ·obtain⟨a,xs,e,h1,h2⟩:=xT h;exact⟨a,xs,e,.inr (.of h1),h2⟩
def fI (C:Int->Int->Prop)(g:Int->Int->Dt):W->W->Mo W:=λx y n Q=>∃i j,x = .d (.int i)/\y = .d (.int j)/\C i j/\Q (.d (g i j)) n
def fI0 (g:Int->Int->Dt):W->W->Mo W:=λx y n Q=>∃i j,x = .d (.int i)/\y = .d (.int j)/\Q (.d (g i j)) n
def f2_I {C:Int->Int->Prop}{g:Int->Int->V}{g':Int->Int->Dt}(B:∀i j G,Is G (g' i j) (g i j)):F2 Pn false (rI C g) (fI C g'):=⟨by
 rintro A H x y J L n Q R O D q P ⟨i,j,F,I,c,r⟩ k;subst F I;exact⟨i,j,yL D,yL q,c,k _ n _ H r (Val.of (B _ _ _)) (Go.refl P) λz=>by cases z⟩⟩
def zjB {g:Int->Int->V}{g':Int->Int->Dt}(B:∀i j G,Is G (g' i j) (g i j)):F2 Pn false (rI0 g) (fI0 g'):=⟨by
 rintro A H x y J L n Q R O D q P ⟨i,j,F,I,r⟩ k;subst F I;exact⟨i,j,yL D,yL q,k _ n _ H r (Val.of (B _ _ _)) (Go.refl P) λz=>by cases z⟩⟩
abbrev fAdd:=fI0 λi j=>.int (i+j)
abbrev fSub:=fI0 λi j=>.int (i - j)
abbrev fDiv:=fI zq5 λi j=>.int (i / j)
abbrev fMod:=fI (λ_ j=>0<j) λi j=>.int (i % j)
abbrev fLt:=fI0 λi j=>.bl (decide (i<j))
abbrev fLe:=fI0 λi j=>.bl (decide (i<=j))
abbrev fGt:=fI0 λi j=>.bl (decide (j<i))
def zwl:F2 Pn false (rI0 λi j=>.int (i+j)) fAdd:=zjB λ_ _ _=>rfl
def zww:F2 Pn false (rI0 λi j=>.int (i - j)) fSub:=zjB λ_ _ _=>rfl
def ztZ:F2 Pn false (rI zq5 λi j=>.int (i / j)) fDiv:=f2_I λ_ _ _=>rfl
def zwt:F2 Pn false (rI (λ_ j=>0<j) λi j=>.int (i % j)) fMod:=f2_I λ_ _ _=>rfl
def v_lt:F2 Pn false (rI0 λi j=>.bl (decide (i<j))) fLt:=zjB λ_ _ _=>rfl
def v_le:F2 Pn false (rI0 λi j=>.bl (decide (i<=j))) fLe:=zjB λ_ _ _=>rfl
def v_gt:F2 Pn false (rI0 λi j=>.bl (decide (j<i))) fGt:=zjB λ_ _ _=>rfl
def zvb:W->Mo W:=λx n Q=>∃i,x = .d (.int i)/\Q (.d (.int (-i))) n
def zwv:F1 Pn false (rU λi=>.int (-i)) zvb:=⟨by
 rintro A H x B n Q R D q P ⟨i,e,r⟩ k;subst e;exact⟨i,yL q,k _ n _ H r (Val.of rfl) (Go.refl P) λz=>by cases z⟩⟩
@[reducible] def sEq:Dt->Dt->Option Bool
 | .int i,.int j=>some (decide (i=j))
 | .bl i,.bl j=>some (decide (i=j))
 | .str i,.str j=>some (decide (i=j))
 | .non,.non=>some true
 | .non,.int _=>some false
 | .int _,.non=>some false
 | .non,.bl _=>some false
 | .bl _,.non=>some false
 | .non,.str _=>some false
 | .str _,.non=>some false
 | .int _,.str _=>some false
 | .str _,.int _=>some false
 | _,_=>none
def plain:Dt->Option V
 | .int i=>some (.int i)
 | .bl i=>some (.bl i)
 | .str i=>some (.str i)
 | .non=>some .non
 | _=>none
def zos(h:sEq a b=some r):∃x y,plain a=some x/\plain b=some y/\zv9 x y=true/\decide (x=y)=r:=by cases a <;> cases b <;> cases h <;> refine⟨_,_,rfl,rfl,rfl,?_⟩ <;> first | rfl | exact aX (by lia) | exact decide_eq_decide.mpr (by simp)
def zaO(h:Bor A H (.d a) v)(e:plain a=some x):v=x:=by cases a <;> cases e <;> exact h
def fEq:W->W->Mo W:=λx y n Q=>∃a b r,x = .d a/\y = .d b/\sEq a b=some r/\Q (.d (.bl r)) n
def fNe:W->W->Mo W:=λx y n Q=>∃a b r,x = .d a/\y = .d b/\sEq a b=some r/\Q (.d (.bl (!r))) n
def v_eq:F2 Pn false rEq fEq:=⟨by
 rintro A H x y J L n Q R O B q P ⟨a,b,r,D,F,e,h⟩ k;subst D F;obtain⟨U,Y,I,p2,s,d⟩:=zos e;obtain rfl:=zaO B I;obtain rfl:=zaO q p2;exact⟨s,k _ n _ H h (Val.of (by rw[d];rfl)) (Go.refl P) λz=>by cases z⟩⟩
def v_ne:F2 Pn false rNe fNe:=⟨by
 rintro A H x y J L n Q R O B q P ⟨a,b,r,D,F,e,h⟩ k;subst D F;obtain⟨U,Y,I,p2,s,d⟩:=zos e;obtain rfl:=zaO B I;obtain rfl:=zaO q p2;exact⟨s,k _ n _ H h (Val.of (by rw[d];rfl)) (Go.refl P) λz=>by cases z⟩⟩
def zu4:W->W->Mo W:=λx y n Q=>∃a b,x = .d a/\y = .d b/\a.eqOk/\b.eqOk/\∀r:Bool,(r=true↔a=b)->Q (.d (.bl r)) n
def zva:W->W->Mo W:=λx y n Q=>∃a b,x = .d a/\y = .d b/\a.eqOk/\b.eqOk/\∀r:Bool,(r=true↔a=b)->Q (.d (.bl (!r))) n
def zwn:F2 Pn false zun zu4:=⟨by
 rintro A H x y O U n Q R Y B q P ⟨a,b,D,F,I,J,h⟩ k;subst D F;exact⟨a,b,B.is,q.is,I,J,λr L=>k _ n _ H (h r L) (Val.of rfl) (Go.refl P) λz=>by cases z⟩⟩
def zwu:F2 Pn false zuq zva:=⟨by
 rintro A H x y O U n Q R Y B q P ⟨a,b,D,F,I,J,h⟩ k;subst D F;exact⟨a,b,B.is,q.is,I,J,λr L=>k _ n _ H (h r L) (Val.of rfl) (Go.refl P) λz=>by cases z⟩⟩
def zu6:W->W->Mo W:=λx y n Q=>∃ (b:Int) (ns:List Int),x = .d (.int b)/\(y = .d (.lst (ns.map .int))\/y = .d (.tup (ns.map .int)))/\Q (.d (.bl (ns.contains b))) n
def zgl:W->W->Mo W:=λx y n Q=>∃ (b:Int) (ns:List Int),x = .d (.int b)/\(y = .d (.lst (ns.map .int))\/y = .d (.tup (ns.map .int)))/\Q (.d (.bl (!ns.contains b))) n
def zwp:F2 Pn false (rIn K false) zu6:=⟨by
 rintro A H x y L O n Q R U q B P ⟨b,ns,D,Y,h⟩ k;subst D
 have F:Bor A H (.d (.lst (ns.map .int))) y\/Bor A H (.d (.tup (ns.map .int))) y:=by grind
 obtain⟨a,xs,e,I,J⟩:=zgb (K:=K) F;obtain rfl:=J.of_ints;obtain rfl:=yL q;exact⟨a,_,e,I,rfl,zfa ns,k _ n _ H h (Val.of (by rw[zhw];rfl)) (Go.refl P) λz=>by cases z⟩⟩
def znB:F2 Pn false (rIn K true) zgl:=⟨by
 rintro A H x y L O n Q R U q B P ⟨b,ns,D,Y,h⟩ k;subst D
 have F:Bor A H (.d (.lst (ns.map .int))) y\/Bor A H (.d (.tup (ns.map .int))) y:=by grind
 obtain⟨a,xs,e,I,J⟩:=zgb (K:=K) F;obtain rfl:=J.of_ints;obtain rfl:=yL q;exact⟨a,_,e,I,rfl,zfa ns,k _ n _ H h (Val.of (by rw[zhw];rfl)) (Go.refl P) λz=>by cases z⟩⟩
def zu5 (q:Bool):W->W->Mo W:=λx y n Q=>∃d ds,x = .d d/\(y = .d (.lst ds)\/y = .d (.tup ds))/\d.eqOk/\(Dt.lst ds).eqOk/\∀b:Bool,(b=true↔d∈ds)->Q (.d (.bl (if q then !b else b))) n
def zwo:F2 Pn false (zv1 q) (zu5 q):=⟨by
 rintro A H x y U Y n Q R Z D B P ⟨d,ds,F,I,J,L,h⟩ k;subst F;refine⟨d,ds,D.is,?_,J,L,λb O=>k _ n _ H (h b O) (Val.of rfl) (Go.refl P) λz=>by cases z⟩;rcases I with rfl | rfl
 ·exact .inl B.is
 ·exact .inr B.is⟩
def zn3{i:Int}(h:IsL G l xs)(e:atI l i=some d):∃v,atI xs i=some v/\Is G d v:=by
 unfold atI at e ⊢;rw[h.length];obtain⟨j,h1,h2⟩:=Option.bind_eq_some_iff.mp e;obtain⟨v,q,B⟩:=h.getD h2
 simp_all
def zu8:W->W->Mo W:=λx y n Q=>∃l i d,x = .d (.tup l)/\y = .d (.int i)/\atI l i=some d/\Q (.d d) n
def zu7:W->W->Mo W:=λx y n Q=>∃l i d,x = .d (.lst l)/\y = .d (.int i)/\atI l i=some d/\Q (.d d) n
def zwr:F2 Pn false (zup K) zu8:=⟨by
 rintro A H x y O U n Q R Y B q P ⟨l,i,d,D,F,e,h⟩ k;subst D F;obtain⟨a,xs,I,J,L⟩:=xT B;obtain⟨v,h1,h2⟩:=zn3 L e;exact⟨a,xs,i,v,I,yL q,.of J,h1,k _ n _ H h (Val.of h2) (Go.refl P) λz=>by cases z⟩⟩
def zwq:F2 Pn false (zuo K) zu7:=⟨by
 rintro A H x y O U n Q R Y B q P ⟨l,i,d,D,F,e,h⟩ k;subst D F;obtain⟨a,xs,I,J,L⟩:=xg B;obtain⟨v,h1,h2⟩:=zn3 L e;exact⟨a,xs,i,v,I,yL q,.of J,h1,k _ n _ H h (Val.of h2) (Go.refl P) λz=>by cases z⟩⟩
def zgk:W->W->Mo W:=λx y n Q=>∃l m,x = .d (.tup l)/\y = .d (.tup m)/\l.length+m.length<=lim/\Q (.d (.tup (l++m))) n
def ztY:F2 Pn false (zlc K) zgk:=⟨by
 rintro A H x y wx wy n Q R F I q P ⟨l,m,J,L,z,h⟩ k;subst J L;obtain⟨a,xs,O,U,B⟩:=xT I;obtain⟨b,ys,Y,Z,D⟩:=xT q;refine⟨a,b,xs,ys,O,Y,U,Z,zcu (by rw[B.length,D.length];exact z),λp H' g S=>?_⟩;exact k _ n _ H' h (zeO (B.append D) (zv.same S) (F.noT' (zv.same S) g) g) (Go.same P S) λz=>by cases z⟩
def zoS:W->W->Mo W:=λx y n Q=>∃l m,x = .d (.lst l)/\y = .d (.lst m)/\l.length+m.length<=lim/\Q (.d (.lst (l++m))) n
def ztX:F2 Pn true zqt zoS:=⟨by
 rintro A H x y wx wy n Q R I J q P ⟨l,m,L,O,z,h⟩ k;subst L O;obtain⟨a,xs,U,Y,B⟩:=xg J;obtain⟨b,ys,Z,hb,D⟩:=xg q;refine⟨a,b,xs,ys,U,Z,Y,hb,zcu (by rw[B.length,D.length];exact z),λp H' F g S=>?_⟩;exact k _ n _ H' h (xu (B.append D) (zv.same S) (I.new F) g) (Go.same P S) λz=>xF (B.append D) S F g⟩
def zgu(h:IsL G l xs):∀k:Nat,IsL G (List.replicate k l).flatten (List.replicate k xs).flatten
 | 0=>rfl
 | k+1=>by rw[cB,cB,dr,dr];exact h.append (zgu h k)
@[reducible] def lenD:W->Option Nat
 | .d (.lst l)=>some l.length
 | .d (.tup l)=>some l.length
 | _=>none
def zu9:List W->Mo W:=λq n Q=>∃x k,q=[x]/\lenD x=some k/\Q (.d (.int (k:Int))) n
def zaN(h:zrc A H [w] vs):∃v,vs=[v]/\Bor A H w v:=by obtain⟨v,r,e,h1,h2⟩:=h;cases h2;exact⟨v,e,h1⟩
def zws:FL Pn false (λxs H Q=>∃x n,xs=[x]/\zrh K x H n/\Q (.int n) H) zu9:=⟨by
 rintro A H xs J n Q R L b P ⟨x,j,I,q,h⟩ k;subst I;obtain⟨v,rfl,F⟩:=zaN b;refine⟨v,j,rfl,?_,k _ n _ H h (Val.of rfl) (Go.refl P) λz=>by cases z⟩
 cases x with
 | d x=>
  cases x with
  | lst l=>
   cases q;obtain⟨a,ys,rfl,B,D⟩:=xg F;exact .inl ⟨ys,.of B,D.length.symm⟩
  | tup l=>
   cases q;obtain⟨a,ys,rfl,B,D⟩:=xT F;exact .inr ⟨ys,.of B,D.length.symm⟩
  | _=>cases q
 | _=>cases q⟩
def zj2:∀ {q:List Bool} {xs:List V},IsL G (q.map .bl) xs->xs=q.map V.bl
 | [],_,h=>h
 | b::q,xs,h=>by obtain⟨y,r,rfl,h1,h2⟩:=h;cases h1;rw[zj2 h2];rfl
def zu3:List W->Mo W:=λB n Q=>∃q:List Bool,B=[.d (.lst (q.map .bl))]/\Q (.d (.bl (q.all id))) n
def zwm:FL Pn false (λxs H Q=>∃ (p:Addr) (q:List Bool),xs=[.ref p]/\H p=some (.lst (q.map V.bl))/\Q (.bl (q.all id)) H) zu3:=⟨by
 rintro A H xs J n Q R L b P ⟨q,B,h⟩ k;subst B;obtain⟨v,rfl,D⟩:=zaN b;obtain⟨a,ys,rfl,F,I⟩:=xg D;obtain rfl:=zj2 I;exact⟨a,q,rfl,F,k _ n _ H h (Val.of rfl) (Go.refl P) λz=>by cases z⟩⟩
def zrM:List W->Mo W:=λq n Q=>∃l,(q=[.d (.lst l)]\/q=[.d (.tup l)])/\Q (.d (.lst l)) n
def zt0:FL Pn true (zle K) zrM:=⟨by
 rintro A H xs L n Q R D b P ⟨l,F,h⟩ k
 obtain⟨v,rfl,I⟩:∃v,xs=[v]/\(Bor A H (.d (.lst l)) v\/Bor A H (.d (.tup l)) v):=by
  rcases F with rfl | rfl
  ·obtain⟨v,e,h⟩:=zaN b;exact⟨v,e,.inl h⟩
  ·obtain⟨v,e,h⟩:=zaN b;exact⟨v,e,.inr h⟩
 obtain⟨a,ys,rfl,J,q⟩:=zgb (K:=K) I;exact⟨a,ys,rfl,J,λp H' B g S=>k _ n _ H' h (xu q (zv.same S) (D.new B) g) (Go.same P S) λz=>xF q S B g⟩⟩
def znZ:List W->Mo W:=λq n Q=>∃l,(q=[.d (.lst l)]\/q=[.d (.tup l)])/\Q (.d (.tup l)) n
def zq3:FL Pn false (zgT K) znZ:=⟨by
 rintro A H xs L n Q R F b P ⟨l,I,h⟩ k;rcases I with rfl | rfl
 ·obtain⟨v,rfl,B⟩:=zaN b;obtain⟨a,ys,rfl,q,D⟩:=xg B;exact⟨a,ys,rfl,.inl ⟨.of q,λp H' J g S=>k _ n _ H' h (zeO D (zv.same S) (F.new J) g) (Go.same P S) λz=>by cases z⟩⟩
 ·obtain⟨v,rfl,B⟩:=zaN b;obtain⟨a,ys,e,q,D⟩:=id B;subst e;exact⟨a,ys,rfl,.inr ⟨.of (zw _ _ q),k _ n _ H h (Val.of ⟨a,ys,rfl,q,D⟩) (Go.refl P) λz=>by cases z⟩⟩⟩
def ua {α:Type}(xs:List α)(lo hi:Option Int):List α:=(xs.drop (HT.sIx xs.length 0 lo)).take (HT.sIx xs.length xs.length hi - HT.sIx xs.length 0 lo)
def zgt{lo hi:Option Int}(h:IsL G l xs):IsL G (ua l lo hi) (zc5 xs lo hi):=by unfold ua zc5;rw[h.length];exact (h.drop _).take _
def xb {κ:Type}[DecidableEq κ](kvs:List (κ×Dt))(k:κ):Option Dt:=(kvs.find? λq=>decide (q.1=k)).map (·.2)
def uB.look {κ:Type}[DecidableEq κ]{G:Hp}{k:κ}:∀ {kvs:List (κ×Dt)} {ks:List (κ×V)},uB G kvs ks->(xb kvs k=none->zbh ks k=none)/\∀d,xb kvs k=some d->∃v,zbh ks k=some v/\Is G d v
 | [],_,h=>by cases h;exact⟨λ_=>rfl,λd e=>by cases e⟩
 | q::r,ks,⟨v,s,e,h1,h2⟩=>by
  subst e;have D:=uB.look (k:=k) h2;by_cases B:q.1=k
  ·refine⟨λz=>?_,λd z=>?_⟩
   ·simp[xb,bq,B] at z
   ·simp[xb,bq,B] at z;subst z;exact⟨v,xw B,h1⟩
  ·have F:xb (q::r) k=xb r k:=by simp[xb,bq,B]
   rw[F,xO B];exact D
end
open PySem L2
section
variable {X:Cx}{Pn:Option zq}{M S:List Nat}{fr:Bool}{e a b c:Expr}{es:List Expr}{f fa fb fc:Ev->Mo W}{pos p:Pos}
def zau(q:IxQ X r)(B:F2 Pn fr r F)(D:JB X Pn M a fa)(I:JB X Pn M b fb)(J:zf9 b):JE X Pn M fr (.Subscript a b pos) (zq8 F fa fb):=by obtain⟨ta,L,O⟩:=D.ex;obtain⟨tb,U,Y⟩:=I.ex;exact⟨_,zs8 q L U J,znk B O Y⟩
@[reducible] def zpA:Ev->Mo (Option Int):=λ_ n Q=>Q none n
def zpB (fa:Ev->Mo W):Ev->Mo (Option Int):=λρ n Q=>fa ρ n λx m=>∃i,x = .d (.int i)/\Q (some i) m
def yS:JO X Pn M none zpA:=⟨_,zk9,λA σ H ρ n Q R E P q k=>k none n H q (Go.refl P)⟩
def yT (h:JB X Pn M e f):JO X Pn M (some e) (zpB f):=by obtain⟨te,q,r⟩:=h.ex;refine⟨_,zla q,λA σ H ρ n Q R E P B k=>?_⟩;refine r.run A σ H ρ n _ _ E P B  ?_;rintro w m v H' ⟨i,e,r⟩ D g;subst e;exact⟨i,yL D,k (some i) m H' r g⟩
def zvA (fa:Ev->Mo W)(fl q:Ev->Mo (Option Int)):Ev->Mo W:=λρ n Q=>fa ρ n λx B=>fl ρ B λlo D=>q ρ D λhi F=>∃l,x = .d (.tup l)/\Q (.d (.tup (ua l lo hi))) F
def zvz (fa:Ev->Mo W)(fl q:Ev->Mo (Option Int)):Ev->Mo W:=λρ n Q=>fa ρ n λx B=>fl ρ B λlo D=>q ρ D λhi F=>∃l,x = .d (.lst l)/\Q (.d (.lst (ua l lo hi))) F
def zc9{fl F:Ev->Mo (Option Int)}(J:JB X Pn M e f)(B:JO X Pn M lo fl)(L:JO X Pn M hi F):JE X Pn M false (.Subscript e (.Slice lo hi none p2) pos) (zvA f fl F):=by obtain⟨te,O,U⟩:=J.ex;obtain⟨tl,Y,Z⟩:=B.ex;obtain⟨th,qh,rh⟩:=L.ex;refine⟨_,zeu zqM O Y qh,⟨λA σ H ρ n Q R E P hf k=>?_⟩⟩;refine U.run A σ H ρ n _ _ E P hf λw m v H1 r1 bb q=>?_;refine Z A σ H1 ρ m _ _ (E.stay q.st) q.pn r1 λo m2 H2 r2 g2=>?_;refine rh A σ H2 ρ m2 _ _ ((E.stay q.st).stay g2.st) g2.pn r2  ?_;rintro o3 m3 H3 ⟨l,e,r3⟩ D;subst e;have g:=(q.trans g2).trans D;obtain⟨ad,xs,rfl,ha,B⟩:=xT (bb.stay (g2.trans D).st);exact⟨ad,xs,rfl,ha,λp H' I S=>k _ m3 _ H' r3 (zeO (zgt B) (zv.same S) (Al.noT' (E.stay g.st).al (zv.same S) I) I) (g.trans (Go.same D.pn S)) λz=>by cases z⟩
def zis{fl I:Ev->Mo (Option Int)}(J:JB X Pn M e f)(q:JO X Pn M lo fl)(L:JO X Pn M hi I):JE X Pn M true (.Subscript e (.Slice lo hi none p2) pos) (zvz f fl I):=by obtain⟨te,O,U⟩:=J.ex;obtain⟨tl,Y,Z⟩:=q.ex;obtain⟨th,qh,rh⟩:=L.ex;refine⟨_,zeu zly O Y qh,⟨λA σ H ρ n Q R E P hf k=>?_⟩⟩;refine U.run A σ H ρ n _ _ E P hf λw m v H1 r1 bb B=>?_;refine Z A σ H1 ρ m _ _ (E.stay B.st) B.pn r1 λo m2 H2 r2 g2=>?_;refine rh A σ H2 ρ m2 _ _ ((E.stay B.st).stay g2.st) g2.pn r2  ?_;rintro o3 m3 H3 ⟨l,e,r3⟩ D;subst e;have g:=(B.trans g2).trans D;obtain⟨ad,xs,rfl,ha,q⟩:=xg (bb.stay (g2.trans D).st);refine⟨ad,xs,rfl,.of ha,λp F=>?_⟩;have S:=xm.upd (o:=.lst (zc5 xs o o3)) F;exact k _ m3 _ _ r3 (xu (zgt q) (zv.same S) ((E.stay g.st).new F) zk) (g.trans (Go.same D.pn S)) λz=>(xF (zgt q) S F zk).back g.st
def zgv:∀ {ds:List Dt} {xs:List V},IsL G ds xs->IsL G ds.reverse xs.reverse
 | [],_,h=>by cases h;rfl
 | d::ds,xs,h=>by obtain⟨x,r,rfl,h1,h2⟩:=h;rw[cP,cP];exact (zgv h2).append (IsL.one h1)
def zpE (fa:Ev->Mo W):Ev->Mo W:=λρ n Q=>fa ρ n λx m=>∃l,x = .d (.lst l)/\Q (.d (.lst l.reverse)) m
def zr0(F:JB X Pn M e f):JE X Pn M true (.Subscript e (.Slice none none (some (.UnaryOp .USub (.Constant (.int 1) j p4) p3)) p2) pos) (zpE f):=by obtain⟨te,I,J⟩:=F.ex;refine⟨_,zqi I,⟨λA σ H ρ n Q R E P L k=>?_⟩⟩;refine J.run A σ H ρ n _ _ E P L  ?_;rintro w m v H1 ⟨l,e,r⟩ O g;subst e;obtain⟨U,xs,rfl,Y,q⟩:=xg O;exact⟨U,xs,rfl,Y,λp H' B D S=>k _ m _ H' r (xu (zgv q) (zv.same S) ((E.stay g.st).new B) D) (g.trans (Go.same g.pn S)) λz=>(xF (zgv q) S B D).back g.st⟩
@[reducible] def zr7:W->Option Key
 | .d (.int i)=>some (Sum.inl i)
 | .d (.str x)=>some (Sum.inr x)
 | _=>none
def zr8(h:Bor A H w v)(e:zr7 w=some k):v=kV k:=by
 cases w with
 | d x=>
  cases x with
  | int i=>cases e;exact h
  | str i=>cases e;exact h
  | _=>cases e
 | _=>cases e
def zpu (fd fk:Ev->Mo W):Ev->Mo W:=λρ n Q=>fd ρ n λx q=>fk ρ q λy B=>∃kvs k d,x = .dk kvs/\zr7 y=some k/\xb kvs k=some d/\Q (.d d) B
def zi3(h:Bor A H (.dk kvs) v):∃a ks,v = .ref a/\H a=some (.dK ks)/\uB (zT A H) kvs ks/\zbh ks (Sum.inr "at" : Key)=none:=h
def zj9 (D:X.A.units+1<cLine)(F:JB X Pn M a fa)(I:JB X Pn M b fb)(J:zoy b):JE X Pn M false (.Subscript a b pos) (zpu fa fb):=by obtain⟨ta,L,O⟩:=F.ex;obtain⟨tb,U,Y⟩:=I.ex;refine⟨_,xH D L U J,⟨λA σ H ρ n Q R E P Z k=>?_⟩⟩;refine O.run A σ H ρ n _ _ E P Z λw1 m1 v1 H1 r1 b1 q=>?_;refine Y.run A σ H1 ρ m1 _ _ (E.stay q.st) q.pn r1  ?_;rintro w2 m2 v2 H2 ⟨kvs,ky,d,e1,e2,e3,r⟩ b2 g2;subst e1;obtain⟨ad,ks,rfl,B,hk,_⟩:=zi3 (b1.stay g2.st);obtain⟨v,h1,h2⟩:=(hk.look (k:=ky)).2 d e3;refine⟨ad,v,rfl,?_,k _ m2 _ H2 r (Val.of h2) (q.trans g2) λz=>by cases z⟩;rw[zr8 b2 e2,<- h1];exact zc2.k B
@[reducible] def prD (q:Int×Dt):Dt:=.tup [.int q.1,q.2]
def kvD (q:Int×Dt):Key×Dt:=(Sum.inl q.1,q.2)
def spV (k:Nat)(fr:Bool)(F:Option zq->List W->Mo W):Sp:=λvs H Q _=>∃Pn A q n R,Al A H/\zdl A H q vs/\q.length=k/\xa Pn A n H/\F Pn q n R/\∀w m v H',R w m->Val A H' w v->Go Pn A H m H'->(fr=true->FrV A H H' w v)->Q v H'
def mFn (k:Nat)(F:List W->Mo W)(fa:Ev->Mo (List W)):Ev->Mo W:=λρ n Q=>fa ρ n λq m=>q.length=k/\F q m Q
def zv4(q:RA Pn M ta fs):RE Pn M fr (zg3 (spV k fr F) [] E0 ta) (mFn k (F Pn) fs):=⟨λA σ H ρ n Q R E P B D=>by refine q.run A σ H ρ n _ _ E P B  ?_;rintro I m vs H1 ⟨J,r⟩ b g;rw[dg];exact⟨Pn,A,I,m,R,(E.stay g.st).al,b,J,g.pn,r,λw L v H' h1 h2 O U=>D w L v H' h1 h2 (g.trans O) λz=>(U z).back g.st⟩⟩
def yv(D:Dfn X.K X.mg x st ps J fd)(G:FnOk X.prog X.w X.K X.mg X.base CX0 j J fd ps (spV k fr F))(O:Room L X.A)(U:JA X Pn M (e::es) fs)(q:j<=L:=by decide)(Y:Gl X x:=by rfl)(B:(x==("__debug__" : Str))=false:=by decide)(Z:starEach (e::es) X.env=(false,eval e X.env)::starEach es X.env:=by rfl)(I:(backTo pos (starEach es X.env)).any (·.1)=false:=by rfl) :
  JE X Pn M fr (.Call (.Name x p) (e::es) [] pos) (mFn k (F Pn) fs):=by
 obtain⟨ta,qa,ra⟩:=U.ex;exact⟨_,znc D G O qa q Y B Z I,zv4 ra⟩
@[reducible] def W.flat (fr:Bool):W->Bool
 | .d (.lst l)=>fr&&Dt.noLs l
 | .d x=>x.noL
 | .pen _=>true
 | .dk _=>false
 | .dt _=>false
 | .ss _ _ _=>false
 | .df _=>false
 | .kf _=>false
def xa.less(h:xa Pn A n H)(s:∀a,A' a->A a):xa Pn A' n H:=by
 unfold xa at h ⊢;split at h
 ·trivial
 ·exact⟨h.1,λz=>h.2.1 (s _ z),λz=>h.2.2 (s _ z)⟩
end
open PySem L2
structure JG (X:Cx)(S M:List Nat)(e:Expr)(mg:W->Ev->(Ev->Prop)->Prop):Prop where
 ex:∃g,QG X e g/\RG S M g mg
structure JGs (X:Cx)(S M:List Nat)(es:List Expr)(mg:List Dt->Ev->(Ev->Prop)->Prop):Prop where
 ex:∃g,QGs X es g/\RGs S M g mg
structure JI (X:Cx)(Pn:Option zq)(M:List Nat)(ow:Bool)(tg e:Expr)(f:Ev->Mo (List W)):Prop where
 ex:∃wi,QI X tg e wi/\RI Pn M ow wi f
structure JTs (X:Cx)(Pn:Option zq)(M:List Nat)(es:List Expr)(f:Ev->Mo Bool):Prop where
 ex:∃t,QTs X es t/\RT Pn M t f
section
variable {X:Cx}{Pn:Option zq}{M S:List Nat}{fr:Bool}{e a b c:Expr}{es:List Expr}{f fa fb fc:Ev->Mo W}{pos p:Pos}
def gN (i:Nat):W->Ev->(Ev->Prop)->Prop:=λw ρ Q=>Q (ρ.set i (some w))
def gNl:List Dt->Ev->(Ev->Prop)->Prop:=λds ρ Q=>ds=[]/\Q ρ
def gCn (g:W->Ev->(Ev->Prop)->Prop)(u:List Dt->Ev->(Ev->Prop)->Prop):List Dt->Ev->(Ev->Prop)->Prop:=λds ρ Q=>∃d r,ds=d::r/\g (.d d) ρ λq=>u r q Q
def gTp (n:Nat)(u:List Dt->Ev->(Ev->Prop)->Prop):W->Ev->(Ev->Prop)->Prop:=λw ρ Q=>∃ds,w = .d (.tup ds)/\ds.length=n/\u ds ρ Q
def EnvR.set(E:EnvR A M σ H ρ)(hi:i∉M)(h:Val A H w v):EnvR A M (σ.set i (some v)) H (ρ.set i (some w)) where
 len:=by rw[bf,bf];exact E.len
 val:=λj u e=>by
  by_cases q:j=i
  ·subst q
   have I:j<ρ.length:=by
    have:=(ae.mp e).1
    simp_all
   rw[aN I] at e;cases e;exact⟨v,aN (by rw[E.len];exact I),λ_=>h,λz=>absurd z hi⟩
  ·rw[ay (Ne.symm q)] at e ⊢;exact E.val j u e
 dis:=λj k u Y Z q J B L O U=>by have D:i≠j:=λz=>hi (z ▸ q);have F:i≠k:=λz=>hi (z ▸ J);rw[ay D] at L U;rw[ay F] at O ⊢;exact E.dis j k u Y Z q J B L O U
 al:=E.al
def zgV(hi:i∉M)(q:i∉S):RG S M (zap i) (gN i):=⟨λA σ H ρ v w Q R E h r k=>k _ _ r (E.set hi h) λj B=>⟨ay λ(z:i=j)=>q (by rw[z];exact B),ay λ(z:i=j)=>q (by rw[z];exact B)⟩⟩
def zf(q:X.N.Nodup)(B:X.N[i]?=some x:=by rfl)(D:Loc X.env.scope x:=by first | exact Or.inl rfl | exact Or.inr rfl)(hi:i∉M:=by decide)(F:i∉S:=by decide)(I:X.fn x=true\/X.env.scope.names.lookup x=some .local:=by walk_at "l"):JG X S M (.Name x pos) (gN i):=⟨_,zcH q B D I,zgV hi F⟩
def yg:JGs X S M [] gNl:=⟨_,zqm,⟨by
 rintro A σ H ρ vs ds Q R E h ⟨e,r⟩ k;subst e;exact⟨h,k σ ρ r E λ_ _=>⟨rfl,rfl⟩⟩⟩⟩
def zn(h1:JG X S M e g)(h2:JGs X S M es u)(L:(assignEach (e::es) X.env).map (·.2)=assign e X.env::(assignEach es X.env).map (·.2):=by rfl):JGs X S M (e::es) (gCn g u):=by obtain⟨t1,O,U⟩:=h1.ex;obtain⟨t2,Y,Z⟩:=h2.ex;refine⟨_,znd O Y L,⟨ ?_⟩⟩;rintro A σ H ρ vs ds Q R E h ⟨d,r,e,hg⟩ k;subst e;obtain⟨v,s,rfl,hv,hr⟩:=h;refine⟨v,s,rfl,?_⟩;refine U.run A σ H ρ v _ _ _ E (Val.of hv) hg λq B hu E' I=>?_;exact Z.run A q H B s _ _ _ E' hr hu λD F hR E2 J=>k D F hR E2 λi hi=>⟨(J i hi).1.trans (I i hi).1,(J i hi).2.trans (I i hi).2⟩
def yX {k n:Nat}{u:List Dt->Ev->(Ev->Prop)->Prop}(K:PySem.W.Frag)(F:X.K=K)(I:X.calm=true)(h:JGs X S M es u)(J:(assignEach es X.env).length=n:=by rfl)(q:(assignEach es X.env).findIdx? (·.1)=none:=by rfl):JG X S M (.Tuple es k pos) (gTp n u):=by obtain⟨t1,L,O⟩:=h.ex;refine⟨_,zql K F I L J q,⟨ ?_⟩⟩;rintro A σ H ρ v w Q R E h ⟨ds,e,U,Y⟩ Z;subst e;obtain⟨ad,xs,rfl,B,D⟩:=h;exact⟨ad,xs,rfl,.of (zw _ _ B),by rw[D.length];exact U,O.run A σ H ρ xs ds _ _ E D Y Z⟩
def zuj (fa:Ev->Mo W):Ev->Mo (List W):=λρ n Q=>fa ρ n λx m=>∃l,x = .d (.lst l)/\Q (l.map W.d) m
def zuk (fa:Ev->Mo W):Ev->Mo (List W):=λρ n Q=>fa ρ n λx m=>∃l,x = .d (.tup l)/\Q (l.map W.d) m
def zj7 {G G':Hp}{l:List Dt}{xs:List V}{i:Nat}{w:W}(h:IsL G l xs)(e:(l.map W.d)[i]?=some w)(s:zv G G'):∃d x,w = .d d/\xs[i]?=some x/\Is G' d x:=by rw[aw] at e;obtain⟨d,h1,rfl⟩:=aE.mp e;obtain⟨x,h2,q⟩:=h.getD h1;exact⟨d,x,rfl,h2,q.stay s⟩
def zmB(h:zT A H q=some (.lst xs))(B:IsL (zT A H) l xs):ItV false A H (Itl K q) (l.map W.d) where
 one:=λi w A2 H2 e s _ _=>by obtain⟨d,x,rfl,D,F⟩:=zj7 B e s;have g:=zw _ _ (s.lst h);refine⟨⟨xs,x,.of g,D⟩,?_⟩;rintro y H3 ⟨I,J⟩;subst I;have:=J xs (.of g);rw[D] at this;cases this;exact⟨λ_ _ z=>z,Val.of F⟩
 stop:=λA2 H2 s _=>⟨xs,.of (zw _ _ (s.lst h)),by rw[ab,B.length];exact ah _⟩
def zpb(h:zT A H q=some (.tup xs))(B:IsL (zT A H) l xs):ItV false A H (Itt K q) (l.map W.d) where
 one:=λi w A2 H2 e s _ _=>by obtain⟨d,x,rfl,D,F⟩:=zj7 B e s;have g:=zw _ _ (s.tup h);refine⟨⟨xs,x,.of g,D⟩,?_⟩;rintro y H3 ⟨I,J⟩;subst I;have:=J xs (.of g);rw[D] at this;cases this;exact⟨λ_ _ z=>z,Val.of F⟩
 stop:=λA2 H2 s _=>⟨xs,.of (zw _ _ (s.tup h)),by rw[ab,B.length];exact ah _⟩
def yh(K:PySem.W.Frag)(D:X.K=K)(h:JE X Pn M fr e f):JI X Pn M false tg e (zuj f):=by obtain⟨te,q,r⟩:=h.ex;refine⟨_,zhV K D q,⟨λA σ H ρ n Q R E P F k=>?_⟩⟩;refine r.run A σ H ρ n _ _ E P F  ?_;rintro w m v H1 ⟨l,e,r⟩ I g _;subst e;obtain⟨J,xs,rfl,B,L⟩:=I;exact⟨J,rfl,⟨xs,.of (zw _ _ B)⟩,k _ m _ H1 r (zmB B L) g⟩
def zav(K:PySem.W.Frag)(D:X.K=K)(h:JE X Pn M fr e f):JI X Pn M false tg e (zuk f):=by obtain⟨te,q,r⟩:=h.ex;refine⟨_,zqo K D q,⟨λA σ H ρ n Q R E P F k=>?_⟩⟩;refine r.run A σ H ρ n _ _ E P F  ?_;rintro w m v H1 ⟨l,e,r⟩ I g _;subst e;obtain⟨J,xs,rfl,B,L⟩:=I;exact⟨J,rfl,⟨xs,.of (zw _ _ B)⟩,k _ m _ H1 r (zpb B L) g⟩
def ziD (lo:Int)(n:Nat):List W:=(List.range n).map λi:Nat=>W.d (.int (lo+i))
def zpa{lo:Int}:ItV false A H (Itr lo n) (ziD lo n) where
 one:=λi w A2 H2 e s _ _=>by unfold ziD at e;rw[aw] at e;obtain⟨j,h1,rfl⟩:=aE.mp e;obtain⟨hi,h2⟩:=ae.mp h1;rw[bP] at h2;subst h2;rw[ax] at hi;refine⟨hi,?_⟩;rintro y H3 ⟨q,B⟩;subst q B;exact⟨λ_ _ z=>z,Val.of rfl⟩
 stop:=λA2 H2 s _=>by
  show n<=(ziD lo n).length;unfold ziD
  simp_all
def zvt (fa:Ev->Mo (List W)):Ev->Mo (List W):=λρ n Q=>fa ρ n λq m=>∃j:Int,q=[.d (.int j)]/\j<=1000000/\-1000000<=j/\Q (ziD 0 j.toNat) m
def zO(B:Gl X "range")(D:X.mg "range" = none)(F:JAB X Pn M [a] fs)(I:starEach [a] X.env=[(false,eval a X.env)]:=by rfl):JI X Pn M false tg (.Call (.Name "range" p) [a] [] pos) (zvt fs):=by obtain⟨te,q,r⟩:=F.ex;refine⟨_,zk8 B D q I,⟨λA σ H ρ n Q R E P J k=>?_⟩⟩;refine r.run A σ H ρ n _ _ E P J  ?_;rintro U m vs H1 ⟨j,e,Y,Z,r⟩ L g;subst e;obtain⟨v,rfl,O⟩:=zaN L;obtain rfl:=yL O;exact⟨j,rfl,by lia,by lia,k _ m _ H1 r zpa g⟩
def enW:Nat->List Dt->List W
 | _,[]=>[]
 | k,x::r=>.d (.tup [.int k,x])::enW (k+1) r
def zdZ:∀ (l:List Dt) (k i:Nat),(enW k l)[i]?=(l[i]?).map λx=>W.d (.tup [.int ((k+i:Nat):Int),x])
 | [],_,_=>by simp[enW]
 | x::r,k,0=>by simp[enW]
 | x::r,k,i+1=>by have:=zdZ r (k+1) i;simp only[enW,bB,this];rw[show k+1+i=k+(i+1) by lia]
def zju:∀ (l:List Dt) (k:Nat),(enW k l).length=l.length
 | [],_=>rfl
 | x::r,k=>by rw[enW,a8,a8,zju r]
def ziW:List Dt->List Dt->List W
 | x::r,y::s=>.d (.tup [x,y])::ziW r s
 | _,_=>[]
def uZ (ρ:Ev)(cix:List (Option Nat)):Ev:=cix.map λo=>match o with
 | none=>none
 | some i=>(ρ[i]?).join
def zS (M:List Nat)(cix:List (Option Nat)):List Nat:=(List.range cix.length).filter λk=>match cix[k]? with
 | some (some i)=>M.contains i
 | _=>false
def zb0:k∈zS M cix↔∃i,cix[k]?=some (some i)/\i∈M:=by
 unfold zS;rw[a9,aM];constructor
 ·rintro⟨h1,h2⟩;rw[aj h1] at h2 ⊢
  cases e:cix[k] with
  | none=>rw[e] at h2;cases h2
  | some i=>rw[e] at h2;exact⟨i,rfl,by simpa using h2⟩
 ·rintro⟨i,h1,h2⟩;exact⟨(ae.mp h1).1,by simp_all⟩
def zbk {α:Type}{l:List (Option α)}{cix:List (Option Nat)}{k:Nat}{x:α}:(cix.map λo=>match o with | none=>none | some i=>(l[i]?).join)[k]?=some (some x)↔∃i,cix[k]?=some (some i)/\l[i]?=some (some x):=by
 rw[aw]
 cases e:cix[k]? with
 | none=>simp
 | some o=>
  cases o with
  | none=>simp
  | some i=>
   simp only[Option.map_some,Option.some.injEq];constructor
   ·intro h;refine⟨i,rfl,?_⟩
    cases q:l[i]? with
    | none=>rw[q] at h;cases h
    | some z=>rw[q] at h;cases z with
     | none=>cases h
     | some y=>cases h;rfl
   ·simp_all
def EnvR.cap(E:EnvR A M σ H ρ)(O:(cix.filterMap id).Nodup):EnvR A (zS M cix) (x6 σ cix) H (uZ ρ cix) where
 len:=by unfold x6 uZ;rw[ab,ab]
 val:=λk w e=>by
  obtain⟨i,h1,h2⟩:=zbk.mp e;obtain⟨v,U,Y,s3⟩:=E.val i w h2;refine⟨v,zbk.mpr ⟨i,h1,U⟩,λz=>Y λy=>z (zb0.mpr ⟨i,h1,y⟩),λz=>?_⟩;obtain⟨j,Z,h4⟩:=zb0.mp z
  simp_all
 dis:=λk k' w u ad hk ac ag e1 e2 U Y=>by
  obtain⟨i,h1,h2⟩:=zbk.mp e1;obtain⟨i',q,an⟩:=zbk.mp e2;obtain⟨j,Z,h4⟩:=zbk.mp U;obtain⟨j',D,ap⟩:=zbk.mp Y;rw[h1] at Z;cases Z;rw[q] at D;cases D;obtain⟨m,m1,m2⟩:=zb0.mp hk;rw[h1] at m1;cases m1;obtain⟨m',F,as⟩:=zb0.mp ac;rw[q] at F;cases F;refine E.dis _ _ w u ad m2 as (λz=>?_) h2 an h4 ap;subst z
  have key:∀ (l:List (Option Nat)) (a b:Nat) (x:Nat),(l.filterMap id).Nodup->l[a]?=some (some x)->l[b]?=some (some x)->a=b:=by
   intro l
   induction l with
   | nil=>intro a b x _ h;simp at h
   | cons o l ih=>
    intro a b x O I J;have L:∀ (l:List (Option Nat)) (a:Nat),l[a]?=some (some x)->x∈l.filterMap id:=λl a h=>cJ.mpr ⟨some x,au h,rfl⟩
    cases o with
    | none=>
     have av:(l.filterMap id).Nodup:=by simpa using O
     cases a with
     | zero=>simp at I
     | succ a=>
      cases b with
      | zero=>simp at J
      | succ b=>rw[ih a b x av (by simpa using I) (by simpa using J)]
    | some y=>
     have B:y∉l.filterMap id/\(l.filterMap id).Nodup:=by simp_all
     cases a with
     | zero=>
      have a0:y=x:=by simpa using I
      subst a0
      cases b with
      | zero=>rfl
      | succ b=>exact absurd (L l b (by simpa using J)) B.1
     | succ a=>
      cases b with
      | zero=>
       have a1:y=x:=by simpa using J
       subst a1;exact absurd (L l a (by simpa using I)) B.1
      | succ b=>rw[ih a b x B.2 (by simpa using I) (by simpa using J)]
  exact ag (key cix k k' _ O h1 q)
 al:=E.al
def EnvR.more {A:Addr->Prop}{σ:St}{H H':Hp}{ρ:Ev}(E:EnvR A M σ H ρ){p:Addr}{o:HO}(s:zv H H')(n:Fr H p)(g:H' p=some o)(B:NP o)(D:∀xs,o≠.tup xs):EnvR (λb=>A b\/b=p) M σ H' ρ where
 len:=E.len
 val:=λi w e=>by obtain⟨v,h1,h2,q⟩:=E.val i w e;refine⟨v,h1,λz=>WAt.up (yz s n) (yz s n) (h2 z),λz=>?_⟩;obtain⟨a,e,F,I,J⟩:=q z;exact⟨a,e,.inl F,WAt.up s (yz s n) I,J⟩
 dis:=E.dis
 al:=λa h=>by
  rcases h with h | h
  ·obtain⟨o,h1,h2,q⟩:=E.al a h;exact⟨o,s _ _ h1 h2,h2,q⟩
  ·subst h;exact⟨o,g,B,D⟩
def EnvR.upd{A:Addr->Prop}{σ:St}{H:Hp}{ρ:Ev}(E:EnvR A M σ H ρ){p:Addr}(U:A p)(Z:∀i w,i∈M->ρ[i]?=some (some w)->σ[i]?≠some (some (.ref p)))(np:NP o)(nt:∀xs,o≠.tup xs):EnvR A M σ (L2.upd H p o) ρ where
 len:=E.len
 val:=λi w e=>by
  obtain⟨v,h1,h2,h3⟩:=E.val i w e;refine⟨v,h1,λz=>?_,λz=>?_⟩
  ·show WAt _ _ _ _;rw[zV U];exact h2 z
  ·obtain⟨a,D,h4,J,O⟩:=h3 z;have F:a≠p:=λq=>Z i w z e (by rw[h1,D,q]);refine⟨a,D,h4,?_,O⟩;show WAt _ _ _ _;rw[zV U]
   cases w with
   | d x=>
    cases x with
    | lst l=>obtain⟨L,xs,B,I,g2⟩:=J;rw[D] at B;cases B;exact⟨a,xs,D,by rw[zi F];exact I,g2⟩
    | dct=>obtain⟨L,xs,B,I,g2⟩:=J;rw[D] at B;cases B;exact⟨a,xs,D,by rw[zi F];exact I,g2⟩
    | _=>cases O
   | pen p=>cases O
   | dk k=>obtain⟨L,xs,B,I,g2⟩:=J;rw[D] at B;cases B;exact⟨a,xs,D,by rw[zi F];exact I,g2⟩
   | dt k=>obtain⟨L,xs,B,I,g2⟩:=J;rw[D] at B;cases B;exact⟨a,xs,D,by rw[zi F];exact I,g2⟩
   | ss P w k=>obtain⟨L,xs,B,I,g2⟩:=J;rw[D] at B;cases B;exact⟨a,xs,D,by rw[zi F];exact I,g2⟩
   | df k=>obtain⟨L,ob,xs,B,I,g2⟩:=J;rw[D] at B;cases B;exact⟨a,ob,xs,D,by simp_all,g2⟩
   | kf k=>obtain⟨L,ob,xs,B,I,g2⟩:=J;rw[D] at B;cases B;exact⟨a,ob,xs,D,by simp_all,g2⟩
 dis:=E.dis
 al:=λa h=>by
  by_cases Y:a=p
  ·subst Y;exact⟨o,zk,np,nt⟩
  ·rw[zi Y];exact E.al a h
def xa.upd{A:Addr->Prop}{H:Hp}{p:Addr}(h:xa Pn A n H)(B:A p):xa Pn A n (L2.upd H p o):=by
 unfold xa at h ⊢;split at h
 ·trivial
 ·refine⟨?_,h.2⟩;rename_i q c ns;obtain⟨h1,h2,D⟩:=h;have F:c≠p:=λz=>h2 (z ▸ B);have I:q≠p:=λz=>D (z ▸ B);obtain⟨a,l,J,g2,L,O⟩:=h1.ob;exact⟨⟨a,l,by rw[zi I];exact J,g2,L,O⟩,by rw[zi F];exact h1.ls,h1.len⟩
end
open PySem L2
structure JS (X:Cx)(Pn:Option zq)(S M:List Nat)(fr:Bool)(st:Stmt)(fs:Ms):Prop where
 ex:∃ts,QS X st ts/\RS Pn S M fr ts fs
structure JSs (X:Cx)(Pn:Option zq)(S M:List Nat)(fr:Bool)(st:List Stmt)(fs:Ms):Prop where
 ex:∃ts,QSs X st ts/\RS Pn S M fr ts fs
section
variable {X:Cx}{Pn:Option zq}{M S:List Nat}{fr fr':Bool}{e a b c:Expr}{es:List Expr}{f fa fb fc:Ev->Mo W}{pos p:Pos}
def xa.grow(h:xa Pn A n H)(h':xa Pn A n H')(B:Fr H q)(g:H' q=some o)(D:NP o):xa Pn (λb=>A b\/b=q) n H':=by
 unfold xa at h h' ⊢;split at h
 ·trivial
 ·rename_i p c ns;refine⟨h'.1,λz=>z.elim h'.2.1 λz=>?_,λz=>z.elim h'.2.2 λz=>?_⟩
  ·subst z;exact B _ h.1.ls NP.lst
  ·subst z;obtain⟨a,l,e,_⟩:=h'.1.ob;rw[e] at g;cases g;have:=D _ rfl;rw[zkZ] at this;cases this
def xa.grow'(h:xa Pn A n H)(h':xa Pn A m H')(B:Fr H q)(g:H' q=some o)(D:NP o):xa Pn (λb=>A b\/b=q) m H':=by
 unfold xa at h h' ⊢;split at h
 ·trivial
 ·rename_i p c ns;refine⟨h'.1,λz=>z.elim h'.2.1 λz=>?_,λz=>z.elim h'.2.2 λz=>?_⟩
  ·subst z;exact B _ h.1.ls NP.lst
  ·subst z;obtain⟨a,l,e,_⟩:=h'.1.ob;rw[e] at g;cases g;have:=D _ rfl;rw[zkZ] at this;cases this
def zlK(h:∀C s H ex,JE (zu X scope N C s H ex) Pn M fr e f):∃te,(∀C s H ex,QE (zu X scope N C s H ex) e te)/\RE Pn M fr te f:=
 ⟨λσ H Q=>∀C s H0 ex,(h C s H0 ex).ex.choose σ H Q,λC s H0 ex=>⟨λpins s' σ H Q I z=>(h C s H0 ex).ex.choose_spec.1.run pins s' σ H Q I (z C s H0 ex)⟩,
  ⟨λA σ H ρ n Q R E P q k C s H0 ex=>(h C s H0 ex).ex.choose_spec.2.run A σ H ρ n Q R E P q k⟩⟩
def ziM(h:∀C s H ex,JTs (zu X scope N C s H ex) Pn M es q):∃te,(∀C s H ex,QTs (zu X scope N C s H ex) es te)/\RT Pn M te q:=
 ⟨λσ H Q=>∀C s H0 ex,(h C s H0 ex).ex.choose σ H Q,λC s H0 ex=>⟨λpins s' σ H Q I z=>(h C s H0 ex).ex.choose_spec.1.run pins s' σ H Q I (z C s H0 ex)⟩,
  ⟨λA σ H ρ n Q R E P B k C s H0 ex=>(h C s H0 ex).ex.choose_spec.2.run A σ H ρ n Q R E P B k⟩⟩
def ziL(h:∀C s H ex,JG (zu X scope N C s H ex) S M e mg):∃g,(∀C s H ex,QG (zu X scope N C s H ex) e g)/\RG S M g mg:=
 ⟨λv σ H Q=>∀C s H0 ex,(h C s H0 ex).ex.choose v σ H Q,λC s H0 ex=>⟨λpins s' σ H v u Q I q z=>(h C s H0 ex).ex.choose_spec.1.run pins s' σ H v u Q I q (z C s H0 ex)⟩,
  ⟨λA σ H ρ v w Q R E B D k C s H0 ex=>(h C s H0 ex).ex.choose_spec.2.run A σ H ρ v w Q R E B D k⟩⟩
def ze1 (mg:W->Ev->(Ev->Prop)->Prop)(L:Ev->Mo Bool)(O:Ev->Mo W)(F:Ev)(Q:W->Nat->Prop):List W->Nat->Prop:=λl U=>l.length<=lim/\∃I:Nat->Ev->Nat->List Dt->Prop,I 0 F U []/\
 (∀i w q D acc,l[i]?=some w->I i q D acc->mg w q λB=>L B D λb J=>if b=true then O B J λx Y=>∃d,x = .d d/\I (i+1) B Y (acc++[d]) else I (i+1) B J acc)/\
 ∀ q D acc,I l.length q D acc->Q (.d (.lst acc)) D
@[reducible] def zmN (q:Ev->Mo (List W)) (mg:W->Ev->(Ev->Prop)->Prop) (B:Ev->Mo Bool) (D:Ev->Mo W) (cix:List (Option Nat)):Ev->Mo W:=λρ n Q=>q ρ n (ze1 mg B D (uZ ρ cix) Q)
def zgU(hn:(cix.filterMap id).Nodup)(hi:RI Pn M ow wi fi)(hg:RG (zS M cix) (zS M cix) g mg)(ht:RT Pn (zS M cix) ti ft)(he:RE Pn (zS M cix) fr' te fe):RE Pn M true (zh6 wi g ti te cix) (zmN fi mg ft fe cix):=⟨λA σ H ρ n Q R E P hf k=>by
 refine hi.run A σ H ρ n _ _ E P hf λl m J H1 ⟨hz,I,i0,it,ie⟩ iv g1=>λacc B=>?_;have E1:=E.stay g1.st;have E2:=(E1.cap hn).more (zv.upd (o:=.lst []) B) (Fr.of B) zk NP.lst (by lia);have P2:xa Pn (λb=>A b\/b=acc) m (L2.upd H1 acc (.lst [])):=g1.pn.grow (g1.pn.same (xm.upd B)) (Fr.of B) zk NP.lst
 have a1:∀k w,k∈zS M cix->(uZ ρ cix)[k]?=some (some w)->(x6 σ cix)[k]?≠some (some (.ref acc)):=λk w hk hw z=>by obtain⟨v,s1,_,s3⟩:=(E1.cap hn).val k w hw;obtain⟨a,e,hA,_⟩:=s3 hk;rw[z] at s1;cases s1;cases e;exact E1.new B hA
 have key:∀ F D H',EnvR (λb=>A b\/b=acc) (zS M cix) F H' D->(∀k∈zS M cix,F[k]?=(x6 σ cix)[k]?/\D[k]?=(uZ ρ cix)[k]?)->∀k w,k∈zS M cix->D[k]?=some (some w)->F[k]?≠some (some (.ref acc)):=λF D H' E' an k w hk hw z=>by simp_all
 refine⟨λi mm F H'=>mm=l.length - i/\i<=l.length/\∃ D Z q xs,EnvR (λb=>A b\/b=acc) (zS M cix) F H' D/\xa Pn (λb=>A b\/b=acc) Z H'/\I i D Z q/\H' acc=some (.lst xs)/\IsL (zT (λb=>A b\/b=acc) H') q xs/\q.length<=i/\zv (zT A H1) (zT (λb=>A b\/b=acc) H')/\zv H1 H'/\(∀k∈zS M cix,F[k]?=(x6 σ cix)[k]?/\D[k]?=(uZ ρ cix)[k]?),
  ⟨l.length,by simp,aJ _,_,m,[],[],E2,P2,i0,zk,rfl,ah _,yz (zv.upd B) (Fr.of B),zv.upd B,λk hk=>⟨rfl,rfl⟩⟩,?_⟩
 rintro i mm F H' ⟨rfl,a2,D,Z,q,xs,E',P',hI,ac,O,a3,st,s1,an⟩;by_cases as:i<l.length
 ·right;have al:l[i]?=some l[i]:=aj as;obtain⟨go,yl⟩:=iv.one i l[i] _ H' al st (λ_=>s1) λp hp=>E'.new hp
  refine⟨go,λap H2=>∃ D Z q xs,EnvR (λb=>A b\/b=acc) (zS M cix) ap H2 D/\xa Pn (λb=>A b\/b=acc) Z H2/\I (i+1) D Z q/\H2 acc=some (.lst xs)/\IsL (zT (λb=>A b\/b=acc) H2) q xs/\q.length<=i+1/\zv (zT A H1) (zT (λb=>A b\/b=acc) H2)/\zv H1 H2/\(∀k∈zS M cix,ap[k]?=(x6 σ cix)[k]?/\D[k]?=(uZ ρ cix)[k]?),
   λap H2 h=>⟨l.length - (i+1),by lia,rfl,as,h⟩,λx H2 hy=>?_⟩
  obtain⟨S2,V2⟩:=yl x H2 hy;refine hg.run _ F H2 D x l[i] _ _ (E'.stay (zv.same S2)) V2 (it i l[i] D Z q al hI) λad L r3 E3 f3=>?_;have U:∀k∈zS M cix,ad[k]?=(x6 σ cix)[k]?/\L[k]?=(uZ ρ cix)[k]?:=λk hk=>⟨(f3 k hk).1.trans (an k hk).1,(f3 k hk).2.trans (an k hk).2⟩;refine ht.run _ ad H2 L Z _ _ E3 (P'.same S2) r3 λb m3 H4 r4 g4=>?_;have Y:=(zv.same S2).trans g4.st
  cases b with
  | false=>
   rw[if_neg (by decide)] at r4 ⊢;exact⟨L,m3,q,xs,E3.stay g4.st,g4.pn,r4,Y.lst ac,O.stay (zx Y),by lia,st.trans (zx Y),s1.trans Y,U⟩
  | true=>
   rw[if_pos rfl] at r4 ⊢;refine he.run _ ad H4 L m3 _ _ (E3.stay g4.st) g4.pn r4  ?_;rintro w5 m5 v5 H5 ⟨d,e5,r5⟩ V5 g5 _;subst e5;have ag:=Y.trans g5.st;have E5:=(E3.stay g4.st).stay g5.st;have av:=ag.lst ac;refine⟨xs,av,zcv (by rw[O.length];lia),L,m5,q++[d],xs++[v5],E5.upd (.inr rfl) (key ad L H5 E5 U) NP.lst (by lia),g5.pn.upd (.inr rfl),r5,zk,?_,by simp_all,?_,?_,U⟩
   ·rw[zV (.inr rfl)];exact (O.stay (zx ag)).append (IsL.one V5.is)
   ·rw[zV (.inr rfl)];exact st.trans (zx ag)
   ·exact λb o e nn=>by rw[zi (zd e B)];exact s1.trans ag b o e nn
 ·refine Or.inl ?_;have a0:i=l.length:=by lia
  subst a0;refine⟨iv.stop _ H' st (λ_=>s1),k _ Z _ H' (ie D Z q hI) (Val.of ⟨acc,xs,rfl,zD (E1.new B) ac,O.stay (zv.same (yM λb z=>.inl z))⟩) (g1.trans ⟨s1,P'.less λa z=>.inl z⟩) λ_=>⟨acc,rfl,(Fr.of B).back g1.st,acc,xs,rfl,ac,O⟩⟩⟩
@[reducible] def zpG:Ev->Mo Bool:=λ_ n Q=>Q true n
def yw:JTs X Pn M [] zpG:=⟨_,zeA,⟨λA σ H ρ n Q R E P q k=>k true n H q (Go.refl P)⟩⟩
def xo(h:JT X Pn M c q):JTs X Pn M [c] q:=let ⟨t,h1,h2⟩:=h.ex;⟨t,zqs h1,h2⟩
def xn(I:X.calm=true)(J:CompOk X scope N cix)(hi:JI X Pn M F tg iter q)(L:∀C s H ex,JG (zu X scope N C s H ex) (zS M cix) (zS M cix) tg mg)(O:∀C s H ex,JTs (zu X scope N C s H ex) Pn (zS M cix) ifs B)(U:∀C s H ex,JE (zu X scope N C s H ex) Pn (zS M cix) fr' elt D)(Y:(cix.filterMap id).Nodup:=by decide)(Z:∀x,foldedSetIterable iter X.env x=pure x:=by intro _;rfl):JE X Pn M true (.ListComp elt [⟨tg,iter,ifs,0⟩] scope pos) (zmN q mg B D cix):=by
 obtain⟨ti,qi,ri⟩:=hi.ex;obtain⟨g,qg,rg⟩:=ziL L;obtain⟨tt,qt,rt⟩:=ziM O;obtain⟨te,qe,re⟩:=zlK U;exact⟨_,zhU I J qi qg qt qe Z,zgU Y ri rg rt re⟩
def zaZ{ifs:List Expr}{scope:Scope}{N:List Str}{cix:List (Option Nat)}{J:Ev->Mo (List W)}{mg:W->Ev->(Ev->Prop)->Prop}{L:Ev->Mo Bool}{O:Ev->Mo W}{nx:Str}{px spos:Pos}(q:X.N.Nodup)(B:X.N[ix]?=some nx)(D:X.env.scope.names.lookup nx=some .local)(Y:X.calm=true)(Z:CompOk X scope N cix)(hi:JI X Pn M U tg iter J)(hg:∀C s H ex,JG (zu X scope N C s H ex) (zS M cix) (zS M cix) tg mg)(ht:∀C s H ex,JTs (zu X scope N C s H ex) Pn (zS M cix) ifs L)(he:∀C s H ex,JE (zu X scope N C s H ex) Pn (zS M cix) fr' elt O)(hn:(cix.filterMap id).Nodup:=by decide)(F:swapsWithSole [.Name nx px] (.ListComp elt [⟨tg,iter,ifs,0⟩] scope pos) spos.line X.env=pure true:=by rfl)(hs:∀x,foldedSetIterable iter X.env x=pure x:=by intro _;rfl)(I:(assignEach [.Name nx px] X.env).map (·.2)=[assign (.Name nx px) X.env]:=by rfl):∃te,QS X (.Assign [.Name nx px] (.ListComp elt [⟨tg,iter,ifs,0⟩] scope pos) spos) (zg2 te (zap ix))/\RE Pn M true te (zmN J mg L O cix):=by
 obtain⟨ti,qi,ri⟩:=hi.ex;obtain⟨g,qg,rg⟩:=ziL hg;obtain⟨tt,qt,rt⟩:=ziM ht;obtain⟨te,qe,re⟩:=zlK he;exact⟨_,zqr q B D Y Z qi qg qt qe F hs I,zgU hn ri rg rt re⟩
def At3.step(h:At3 Pn B S M A σ H ρ n)(g:Go Pn A H m H'):At3 Pn B S M A σ H' ρ m where
 env:=h.env.stay g.st
 frm:=⟨h.frm.sub,h.frm.new,λb o e n c=>g.st b o (h.frm.st b o e n c) n,h.frm.al,h.frm.cn,λa z=>let ⟨o,e,n⟩:=h.frm.cs a z;⟨o,g.st a o e n,n⟩⟩
 pn:=g.pn
 prot:=h.prot.trans (zx g.st)
 fix:=h.fix
 mine:=h.mine
@[reducible] def mRet (f:Ev->Mo W):Ms:=λρ n k=>f ρ n k.rt
def ztt(h:RE Pn M fr te f):RS Pn S M fr (zuu te) (mRet f):=⟨λB A σ H ρ n k D a F I=>by
 refine h.run A σ H ρ n _ _ a.env a.pn I λw m v H' r J g L=>?_;have O:=a.step g
 exact F.rt w m v H' (WAt.up (zv.same (yM a.frm.sub)) (zv.same (yM a.frm.sub)) J) O.frm.st (g.pn.less a.frm.sub) (λz=>by obtain⟨b,e,q,U⟩:=L z;exact FrV.less ⟨b,e,a.frm.back q (a.env.newF q),U⟩ a.frm.sub) r⟩
def zL (h:JE X Pn M fr e f):JS X Pn S M fr (.Return (some e) pos) (mRet f):=let ⟨te,q,r⟩:=h.ex;⟨_,zbb q,ztt r⟩
def zpD (i:Nat):Ms:=λρ n k=>∃w,ρ[i]?=some (some w)/\k.rt w n
def zqF(hi:i∈M):RS Pn S M fr (zuu (zlW i)) (zpD i):=⟨by
 rintro B A σ H ρ n k D a kk ⟨w,e,r⟩;obtain⟨v,s1,_,s3⟩:=a.env.val i w e;obtain⟨F,rfl,hA,L,hm⟩:=s3 hi;have Y:=a.mine i w F hi e s1
 have O:¬ B.A0 F:=λz=>by
  rcases Y with Y | Y
  ·obtain⟨o,o1,o2,_⟩:=a.frm.al F z;exact Y o o1 o2
  ·exact a.frm.cn F Y z
 have q:xm (zT A H) (zT B.A0 H):=yM a.frm.sub;have U:xm (zT A H) (zT (λb=>B.A0 b\/b=F) H):=yM λb z=>z.elim (a.frm.sub b) λz=>z ▸ hA;refine⟨.ref F,s1,kk.rt w n (.ref F) H ?_ a.frm.st (a.pn.less a.frm.sub) (λz=>⟨F,rfl,Y.resolve_right (kk.fc F),WAt.up (zv.refl _) (zv.same U) L⟩) r⟩
 cases w with
 | d x=>
  cases x with
  | lst l=>obtain⟨Z,xs,I,J,g2⟩:=L;cases I;exact⟨F,xs,rfl,zD O J,g2.stay (zv.same q)⟩
  | dct=>obtain⟨Z,xs,I,J,g2⟩:=L;cases I;exact⟨F,xs,rfl,zD O J,g2⟩
  | _=>cases hm
 | pen p=>cases hm
 | dk kvs=>obtain⟨Z,xs,I,J,g2,g3⟩:=L;cases I;exact⟨F,xs,rfl,zD O J,g2.stay (zv.same q),g3⟩
 | dt kvs=>obtain⟨Z,xs,I,J,g2⟩:=L;cases I;exact⟨F,xs,rfl,zD O J,g2.stay (zv.same q)⟩
 | ss P w kvs=>obtain⟨Z,xs,I,J,g2⟩:=L;cases I;exact⟨F,xs,rfl,zD O J,g2.stay (zv.same q)⟩
 | kf kvs=>obtain⟨Z,ob,xs,I,J,g2⟩:=L;cases I;exact⟨F,ob,xs,rfl,zD O J,g2.stay (zv.same q)⟩
 | df kvs=>obtain⟨Z,ob,xs,I,J,g2⟩:=L;cases I;exact⟨F,ob,xs,rfl,zD O J,g2.stay (zv.same q)⟩⟩
def zd8 (i:Nat){x:Str}(hi:i∈M:=by decide)(B:X.N[i]?=some x:=by rfl)(D:Vis X.env.scope x:=by walk_at "v")(F:(x==("__debug__" : Str))=false:=by decide)
  (q:(x==("__classdict__" : Str))=false:=by decide) {pos':Pos}:JS X Pn S M fr (.Return (some (.Name x pos)) pos') (zpD i):=⟨_,zbb (qv i B D F q),zqF hi⟩
@[reducible] def zps (f:Ev->Mo W) (mg:W->Ev->(Ev->Prop)->Prop):Ms:=λρ n k=>f ρ n λw m=>mg w ρ λq=>k.nx q m
def EnvR.mineG(a:At3 Pn B S M A σ H ρ n)(E:EnvR A M q H D)(f:∀i∈S++M,q[i]?=σ[i]?/\D[i]?=ρ[i]?):At3 Pn B S M A q H D n where
 env:=E
 frm:=a.frm
 pn:=a.pn
 prot:=a.prot
 fix:=λi hi=>(f i (aG.mpr (.inl hi))).1.trans (a.fix i hi)
 mine:=λi w F hi e s=>by obtain⟨I,J⟩:=f i (aG.mpr (.inr hi));rw[I] at s;rw[J] at e;exact a.mine i w F hi e s
def zlo(h:RE Pn M fr' te f)(J:RG (S++M) M g mg):RS Pn S M fr (zg2 te g) (zps f mg):=⟨λB A σ H ρ n k D a L O=>by refine h.run A σ H ρ n _ _ a.env a.pn O λw m v H' r U g' _=>?_;have I:=a.step g';exact J.run A σ H' ρ v w _ _ I.env U r λq F Y E2 Z=>L.nx A q H' F m (EnvR.mineG I E2 Z) Y⟩
def zy {i:Nat}{x:Str}{pos':Pos}(F:X.N.Nodup)(I:JE X Pn M fr' e f)(hi:X.N[i]?=some x:=by rfl)(J:Loc X.env.scope x:=by first | exact Or.inl rfl | exact Or.inr rfl)(B:i∉M:=by decide)(D:i∉S++M:=by decide)(L:swapsWith e (some (.Name x pos')) pos.line X.env=pure false:=by rfl)(O:X.fn x=true\/X.env.scope.names.lookup x=some .local:=by walk_at "l") :
  JS X Pn S M fr (.Assign [.Name x pos'] e pos) (zps f (gN i)):=let ⟨te,q,r⟩:=I.ex;⟨_,ug F hi J q L O,zlo r (zgV B D)⟩
def zcr{st:Stmt}(h:∃te,QS X st (zg2 te (zap i))/\RE Pn M true te f)(B:i∉M:=by decide)(D:i∉S++M:=by decide):JS X Pn S M fr st (zps f (gN i)):=let ⟨te,q,r⟩:=h;⟨_,q,zlo r (zgV B D)⟩
def zfn(B:JE X Pn M fr' e f)(D:JG X (S++M) M tg mg)(F:swapsWithSole [tg] e pos.line X.env=pure false:=by rfl)(I:swappedStores [tg] e X.env=pure none:=by rfl)(h1:(assignEach [tg] X.env).map (·.2)=[assign tg X.env]:=by rfl):JS X Pn S M fr (.Assign [tg] e pos) (zps f mg):=let ⟨te,q,r⟩:=B.ex;let ⟨g,q2,r2⟩:=D.ex;⟨_,zol q q2 F I h1,zlo r r2⟩
def zsm (i:Nat)(f:Ev->Mo W):Ms:=λρ n k=>f ρ n λw m=>w.mut=true/\k.nx (ρ.set i (some w)) m
def zkH(h:WAt T G w v)(hm:w.mut=true):∃a o,v = .ref a/\T a=some o/\NP o/\∀xs,o≠.tup xs:=by
 cases w with
 | d x=>
  cases x with
  | lst l=>obtain⟨a,xs,e,g1,_⟩:=h;exact⟨a,_,e,g1,NP.lst,by grind⟩
  | dct=>obtain⟨a,xs,e,g1,g2⟩:=h;exact⟨a,_,e,g1,λk z=>by cases z;exact g2,by grind⟩
  | _=>cases hm
 | pen p=>cases hm
 | dk kvs=>obtain⟨a,xs,e,g1,_,g3⟩:=h;exact⟨a,_,e,g1,λk z=>by cases z;exact g3,by grind⟩
 | dt kvs=>obtain⟨a,xs,e,g1,_⟩:=h;exact⟨a,_,e,g1,(λk z=>by cases z),λ_ z=>by cases z⟩
 | ss P w kvs=>obtain⟨a,xs,e,g1,_⟩:=h;exact⟨a,_,e,g1,(λk z=>by cases z),λ_ z=>by cases z⟩
 | df kvs=>obtain⟨a,ob,xs,e,g1,_⟩:=h;exact⟨a,_,e,g1,(λk z=>by cases z),λ_ z=>by cases z⟩
 | kf kvs=>obtain⟨a,ob,xs,e,g1,_⟩:=h;exact⟨a,_,e,g1,(λk z=>by cases z),λ_ z=>by cases z⟩
def zop(h:RE Pn M true te f)(hi:i∈M)(hs:i∉S):RS Pn S M fr (zg2 te (zap i)) (zsm i f):=⟨λB A σ H ρ n k D a kk hf=>by
 refine h.run A σ H ρ n _ _ a.env a.pn hf  ?_;rintro w m v H' ⟨hm,r⟩ hv g' ac;obtain⟨Y,rfl,O,hb⟩:=ac rfl;obtain⟨a2,o,U,ho,np,nt⟩:=zkH hb hm;cases U;have E1:=a.env.more g'.st O ho np nt;have Z:¬ A Y:=a.env.newF O;refine kk.nx (λb=>A b\/b=Y) _ H' _ m ⟨⟨?_,?_,?_,E1.al⟩,⟨λb z=>.inl (a.frm.sub b z),λb z=>?_,λb o e n c=>g'.st b o (a.frm.st b o e n c) n,a.frm.al,a.frm.cn,λb z=>let ⟨o,e,n⟩:=a.frm.cs b z;⟨o,g'.st b o e n,n⟩⟩,a.pn.grow' g'.pn O ho np,a.prot.trans (yz g'.st O),λj I=>?_,λj u b I e s=>?_⟩ r
 ·rw[bf,bf];exact a.env.len
 ·intro j u e;by_cases I:j=i
  ·subst I
   have J:j<ρ.length:=by
    have:=(ae.mp e).1
    simp_all
   rw[aN J] at e;cases e;exact⟨.ref Y,aN (by rw[a.env.len];exact J),λz=>absurd hi z,λ_=>⟨Y,rfl,.inr rfl,hb,hm⟩⟩
  ·rw[ay (Ne.symm I)] at e ⊢;exact E1.val j u e
 ·intro j l u u' b I J L e1 U s1 s2
  have ag:∀q u,q∈M->q≠i->ρ[q]?=some (some u)->σ[q]?≠some (some (.ref Y)):=λq u hq as eq sq=>by
   obtain⟨v,s,_,s3⟩:=a.env.val q u eq;obtain⟨c,ec,hc,_⟩:=s3 hq
   simp_all
  have an:∀q (u:W),(ρ.set i (some w))[q]?=some (some u)->q<σ.length:=λq u e=>by have:=(ae.mp e).1;rw[bf] at this;rw[a.env.len];exact this
  by_cases F:j=i
  ·subst F;rw[aN (an _ _ e1)] at s1;cases s1;rw[ay L] at U s2;exact ag l u' J (Ne.symm L) U s2
  ·rw[ay (Ne.symm F)] at e1 s1;by_cases ap:l=i
   ·simp_all
   ·rw[ay (Ne.symm ap)] at U s2;exact a.env.dis j l u u' b I J L e1 U s1 s2
 ·rcases z with z | z
  ·exact a.frm.new b z
  ·subst z;exact .inr (.inl (a.frm.back O Z))
 ·rw[ay λ(z:i=j)=>hs (by rw[z];exact I)];exact a.fix j I
 ·by_cases F:j=i
  ·subst F
   have J:j<σ.length:=by
    have:=(ae.mp s).1
    simp_all
   rw[aN J] at s;cases s;exact .inl (a.frm.back O Z)
  ·rw[ay (Ne.symm F)] at e s;exact a.mine j u b I e s⟩
def xx {i:Nat}{x:Str}{pos':Pos}(F:X.N.Nodup)(I:JE X Pn M true e f)(hi:X.N[i]?=some x:=by rfl)(J:Loc X.env.scope x:=by first | exact Or.inl rfl | exact Or.inr rfl)(B:i∈M:=by decide)(D:i∉S:=by decide)(L:swapsWith e (some (.Name x pos')) pos.line X.env=pure false:=by rfl)(O:X.fn x=true\/X.env.scope.names.lookup x=some .local:=by walk_at "l") :
  JS X Pn S M fr (.Assign [.Name x pos'] e pos) (zsm i f):=let ⟨te,q,r⟩:=I.ex;⟨_,ug F hi J q L O,zop r B D⟩
def zpi{st:Stmt}(h:∃te,QS X st (zg2 te (zap i))/\RE Pn M true te f)(B:i∈M:=by decide)(D:i∉S:=by decide):JS X Pn S M fr st (zsm i f):=let ⟨te,q,r⟩:=h;⟨_,q,zop r B D⟩
end
open PySem PySem.Spec L2
section
variable {X:Cx}{Pn:Option zq}{M S:List Nat}{fr fr':Bool}{e a b c:Expr}{es:List Expr}{f fa fb fc:Ev->Mo W}{pos p:Pos}{st:Stmt}{sts:List Stmt}{fs gs:Ms}
@[reducible] def mNx:Ms:=λρ n k=>k.nx ρ n
structure blk (g:Ms)(ρ:Ev)(n:Nat)(k:Kt):Prop where
 go:g ρ n k
def zrq(h:g ρ n k):blk g ρ n k:=⟨h⟩
def zrp:blk g ρ n k=g ρ n k:=propext ⟨λh=>h.go,λh=>⟨h⟩⟩
@[reducible] def mSeq (f g:Ms):Ms:=λρ n k=>f ρ n { k with nx:=λq B=>blk g q B k }
def zvr (t:Ev->Mo Bool)(f g:Ms):Ms:=λρ n k=>t ρ n λc m=>if c=true then blk f ρ m k else blk g ρ m k
def zR:JSs X Pn S M fr [] mNx:=⟨_,zez,⟨λB A σ H ρ n k D a q F=>q.nx A σ H ρ n a F⟩⟩
def ztu(h1:RS Pn S M fr t fs)(h2:RS Pn S M fr u gs):RS Pn S M fr (zwg t u) (mSeq fs gs):=⟨λB A σ H ρ n k D a F L=>
 h1.run B A σ H ρ n { k with nx:=λq I=>blk gs q I k } _ a ⟨λA' J H' q I O r=>h2.run B A' J H' q I k D O F r.go,F.bk,F.ct,F.fc,F.rt⟩ L⟩
def zb (h1:JS X Pn S M fr st fs)(h2:JSs X Pn S M fr sts gs):JSs X Pn S M fr (st::sts) (mSeq fs gs):=let ⟨t,q,r⟩:=h1.ex;let ⟨u,q2,r2⟩:=h2.ex;⟨_,yd q q2,ztu r r2⟩
def ze (h1:JS X Pn S M fr st fs):JSs X Pn S M fr [st] fs:=let ⟨t,q,r⟩:=h1.ex;⟨_,uL q,r⟩
def y2(I:JT X Pn M c t)(J:JSs X Pn S M fr body fs)(L:JSs X Pn S M fr q gs):JS X Pn S M fr (.If c body q pos) (zvr t fs gs):=by
 obtain⟨tc,O,U⟩:=I.ex;obtain⟨ta,Y,Z⟩:=J.ex;obtain⟨tb,qb,rb⟩:=L.ex;refine⟨_,zng O Y qb,⟨λB A σ H ρ n k D a F hf=>?_⟩⟩;refine U.run A σ H ρ n _ _ a.env a.pn hf λc m H1 r g=>?_
 cases c with
 | true=>rw[if_pos rfl] at r ⊢;exact Z.run B A σ H1 ρ m k D (a.step g) F r.go
 | false=>rw[if_neg (by decide)] at r ⊢;exact rb.run B A σ H1 ρ m k D (a.step g) F r.go
@[reducible] def mDrop (f:Ev->Mo W):Ms:=λρ n k=>f ρ n λ_ m=>k.nx ρ m
def At3.wr(h:At3 Pn B S M A σ H ρ n)(hi:i∈M)(e:ρ[i]?=some (some w))(s:σ[i]?=some (some (.ref J)))(hl:IsL (zT A H) l xs):At3 Pn B S M A σ (L2.upd H J (.lst xs)) (ρ.set i (some (.d (.lst l)))) n:=by
 obtain⟨v,s1,_,s3⟩:=h.env.val i w e;rw[s] at s1;cases s1;obtain⟨Z,F,hA,_,_⟩:=s3 hi;cases F;have ac:i<ρ.length:=(ae.mp e).1
 have hE:EnvR A M σ (L2.upd H J (.lst xs)) (ρ.set i (some (.d (.lst l)))):=by
  refine⟨by rw[bf];exact h.env.len,λj u U=>?_,λj q u u' b Y hq D e1 F=>?_,λb hb=>?_⟩
  ·by_cases Y:j=i
   ·subst Y;rw[aN ac] at U;cases U;exact⟨.ref J,s,λz=>absurd hi z,λ_=>⟨J,rfl,hA,⟨J,xs,rfl,zk,by rw[zV hA];exact hl⟩,rfl⟩⟩
   ·rw[ay (Ne.symm Y)] at U;obtain⟨v,t1,t2,t3⟩:=h.env.val j u U;refine⟨v,t1,λz=>?_,λz=>?_⟩
    ·show WAt _ _ _ _;rw[zV hA];exact t2 z
    ·obtain⟨b,rfl,hb,I,hm⟩:=t3 z;have D:b≠J:=λq=>h.env.dis i j w u J hi z (Ne.symm Y) e U s (by rw[t1,q]);refine⟨b,rfl,hb,?_,hm⟩;show WAt _ _ _ _;rw[zV hA]
     cases u with
     | d x=>
      cases x with
      | lst l=>obtain⟨Z,xs,F,L,g2⟩:=I;cases F;exact⟨b,xs,rfl,by rw[zi D];exact L,g2⟩
      | dct=>obtain⟨Z,xs,F,L,g2⟩:=I;cases F;exact⟨b,xs,rfl,by rw[zi D];exact L,g2⟩
      | _=>cases hm
     | pen p=>cases hm
     | dk k=>obtain⟨Z,xs,F,L,g2⟩:=I;cases F;exact⟨b,xs,rfl,by rw[zi D];exact L,g2⟩
     | dt k=>obtain⟨Z,xs,F,L,g2⟩:=I;cases F;exact⟨b,xs,rfl,by rw[zi D];exact L,g2⟩
     | ss P w k=>obtain⟨Z,xs,F,L,g2⟩:=I;cases F;exact⟨b,xs,rfl,by rw[zi D];exact L,g2⟩
     | df k=>obtain⟨Z,ob,xs,F,L,g2⟩:=I;cases F;exact⟨b,ob,xs,rfl,by simp_all,g2⟩
     | kf k=>obtain⟨Z,ob,xs,F,L,g2⟩:=I;cases F;exact⟨b,ob,xs,rfl,by simp_all,g2⟩
  ·have ag:∀q (u:W),(ρ.set i (some (.d (.lst l))))[q]?=some (some u)->∃u',ρ[q]?=some (some u'):=λq u z=>by
    by_cases hq:q=i
    ·subst hq;exact⟨w,e⟩
    ·rw[ay (Ne.symm hq)] at z;exact⟨u,z⟩
   obtain⟨v1,f1⟩:=ag j u e1;obtain⟨v2,f2⟩:=ag q u' F;exact h.env.dis j q v1 v2 b Y hq D f1 f2
  ·by_cases O:b=J
   ·subst O;exact⟨_,zk,NP.lst,λ_ z=>by cases z⟩
   ·rw[zi O];exact h.env.al b hb
 refine⟨hE,⟨h.frm.sub,h.frm.new,λb o eb nn nc=>?_,h.frm.al,h.frm.cn,λb z=>(by
  by_cases O:b=J
  ·subst O;exact⟨_,zk,NP.lst⟩
  ·rw[zi O];exact h.frm.cs b z)⟩,h.pn.upd hA,by rw[zV hA];exact h.prot,h.fix,λj u b Y U sj=>?_⟩
 ·have D:b≠J:=λq=>by
   subst q;rcases h.mine i w b hi e s with z | z
   ·exact z o eb nn
   ·exact nc z
  rw[zi D];exact h.frm.st b o eb nn nc
 ·by_cases an:j=i
  ·subst an;exact h.mine j w b Y e sj
  ·rw[ay (Ne.symm an)] at U;exact h.mine j u b Y U sj
def zui (i:Nat)(f:Ev->Mo W):Ms:=λρ n k=>(∃l,ρ[i]?=some (some (.d (.lst l))))/\f ρ n λw m=>∃l d,ρ[i]?=some (some (.d (.lst l)))/\w = .d d/\l.length<lim/\k.nx (ρ.set i (some (.d (.lst (l++[d]))))) m
def ztq(h:RE Pn M fr' te f)(hi:i∈M):RS Pn S M fr (znx (tBM K "list" zgS (zlW i) (zdg te zlV))) (zui i f):=⟨by
 rintro B A σ H ρ n k D a U ⟨⟨l0,Y⟩,Z⟩;obtain⟨v,q,_,s3⟩:=a.env.val i _ Y;obtain⟨I,rfl,hA,hb,_⟩:=s3 hi;obtain⟨a2,ac,e2,g0,_⟩:=hb;cases e2;refine⟨.ref I,q,.inl ⟨rfl,_,SqL.of g0⟩,?_⟩;refine h.run A σ H ρ n _ _ a.env a.pn Z  ?_;rintro w m v H' ⟨l,d,e,ed,hz,r⟩ hv g _;subst ed;have J:=a.step g;obtain⟨v2,L,_,t3⟩:=J.env.val i _ e;rw[q] at L;cases L;obtain⟨a3,e3,ag,F,_⟩:=t3 hi;cases e3;obtain⟨a4,xs,e4,g4,O⟩:=F;cases e4;exact⟨I,xs,v,rfl,rfl,g4,zcv (by rw[O.length];exact cj hz),U.nx A σ _ _ m (J.wr hi e q (O.append (IsL.one hv.is))) r⟩⟩
def zaw (i:Nat){x:Str}{U I sp J:Pos}(Z:JE X Pn M fr' e f)(hi:i∈M:=by decide)(hN:X.N[i]?=some x:=by rfl)(hv:Vis X.env.scope x:=by walk_at "v")(hd:(x==("__debug__" : Str))=false:=by decide)
  (Y:(x==("__classdict__" : Str))=false:=by decide) (L:starEach (e::[]) X.env=(false,eval e X.env)::starEach [] X.env:=by rfl) (hs:swapsWith (.Call (.Attribute (.Name x J) "append" U) [e] [] I) none sp.line X.env=pure false:=by rfl) (D:attributeBase (.Name x J) "append" X.env (eval (.Name x J) X.env)=eval (.Name x J) X.env:=by rfl) (F:(U.endLine==I.line)=true:=by rfl)
  (O:((backTo I (starEach [e] X.env)).all (λx=>!x.1)&&(backToKw I (keywordEach [] X.env)).all (λx=>x.1.isSome)&&decide (([e]:List Expr).length+([]:List Keyword).length+(if ([]:List Keyword).isEmpty then 0 else 1)<30))=true:=by rfl) (B:(backTo I (starEach [] X.env)).any (·.1)=false:=by rfl) :
  JS X Pn S M fr (.Expr (.Call (.Attribute (.Name x J) "append" U) [e] [] I) sp) (zui i f):=by
 obtain⟨te,q,r⟩:=Z.ex;exact⟨_,zcI (zs6 (qv i hN hv hd Y) (zK q yB L) D O F L B) hs,ztq r hi⟩
def zrO (mg:W->Ev->(Ev->Prop)->Prop)(fb:Ms)(ρ:Ev)(k:Kt):List W->Nat->Prop:=λl F=>∃I:Nat->Ev->Nat->Prop,I 0 ρ F/\
 (∀i w q B,l[i]?=some w->I i q B->mg w q λD=>fb D B { k with nx:=I (i+1),ct:=I (i+1),bk:=k.nx })/\∀ q B,I l.length q B->k.nx q B
@[reducible] def mFor (q:Ev->Mo (List W)) (mg:W->Ev->(Ev->Prop)->Prop) (fb:Ms):Ms:=λρ n k=>q ρ n (zrO mg fb ρ k)
def ztr {wi:TI}{g:TG}{tb:TS}{fi:Ev->Mo (List W)}{mg:W->Ev->(Ev->Prop)->Prop}{fb:Ms}(hi:RI Pn M false wi fi)(hg:RG (S++M) M g mg)(hb:RS Pn S M fr tb fb):RS Pn S M fr (zwe wi g tb) (mFor fi mg fb):=⟨λB A σ H ρ n k D a kk hf=>by
 refine hi.run A σ H ρ n _ _ a.env a.pn hf  ?_;rintro l m J H1 ⟨I,i0,it,ie⟩ iv g1;have a1:=a.step g1;have ac:∀ {A':Addr->Prop} {L:St} {H':Hp} {F:Ev} {O:Nat},At3 Pn { B with G0:=zT A H1 } S M A' L H' F O->At3 Pn B S M A' L H' F O:=λ{A' L H' F O} q=>⟨q.env,q.frm,q.pn,a1.prot.trans q.prot,q.fix,q.mine⟩;refine⟨λi mm L H'=>mm=l.length - i/\i<=l.length/\∃A' F O,At3 Pn { B with G0:=zT A H1 } S M A' L H' F O/\I i F O,⟨l.length,by simp,aJ _,A,ρ,m,⟨a1.env,a1.frm,a1.pn,zv.refl _,a1.fix,a1.mine⟩,i0⟩,?_⟩;rintro i mm L H' ⟨rfl,as,A',F,O,a',hI⟩;by_cases ad:i<l.length
 ·right;have Y:l[i]?=some l[i]:=aj ad;obtain⟨go,yl⟩:=iv.one i l[i] A' H' Y a'.prot (λz=>by cases z) λp hp=>a'.env.new hp;refine⟨go,λag H2=>∃A' F O,At3 Pn { B with G0:=zT A H1 } S M A' ag H2 F O/\I (i+1) F O,λag H2 h=>⟨l.length - (i+1),by lia,rfl,ad,h⟩,λx H2 hy=>?_⟩;obtain⟨S2,V2⟩:=yl x H2 hy;have a2:=a'.step (Go.same a'.pn S2);refine hg.run A' L H2 F x l[i] _ _ a2.env V2 (it i l[i] F O Y hI) λal an r3 E3 f3=>?_;refine hb.run { B with G0:=zT A H1 } A' al H2 an O _ _ (EnvR.mineG a2 E3 f3) ⟨?_,?_,?_,kk.fc,?_⟩ r3
  ·exact λA4 Z H4 U n4 a4 r4=>⟨A4,U,n4,a4,r4⟩
  ·exact λA4 Z H4 U n4 a4 r4=>kk.nx A4 Z H4 U n4 (ac a4) r4
  ·exact λA4 Z H4 U n4 a4 r4=>⟨A4,U,n4,a4,r4⟩
  ·exact kk.rt
 ·refine Or.inl ?_;have ap:i=l.length:=by lia
  subst ap;exact⟨iv.stop A' H' a'.prot (λz=>by cases z),kk.nx A' L H' F O (ac a') (ie F O hI)⟩⟩
def yp {tg iter:Expr}{body:List Stmt}{q:Ev->Mo (List W)}{mg:W->Ev->(Ev->Prop)->Prop}{fb:Ms}(B:PassesOwn (model X.prog X.w) X.A X.env X.xe)(D:X.calm=true)(hi:JI X Pn M false tg iter q)(F:JG X (S++M) M tg mg)(I:JSs X Pn S M fr body fb)(J:∀x,foldedSetIterable iter X.env x=pure x:=by intro _;rfl) :
  JS X Pn S M fr (.For tg iter body [] pos) (mFor q mg fb):=by
 obtain⟨ti,L,O⟩:=hi.ex;obtain⟨U,Y,Z⟩:=F.ex;obtain⟨tb,qb,rb⟩:=I.ex;exact⟨_,zom B D L Y qb J,ztr O Z rb⟩
def xC (N:List Str)(q:List W):Ev:=q.map some++List.replicate (N.length - q.length) none
def zdl.get:∀ {q:List W} {vs:List V} {i:Nat} {w:W},zdl A H q vs->q[i]?=some w->∃v,vs[i]?=some v/\Val A H w v
 | [],_,_,_,_,e=>by simp at e
 | x::q,vs,0,w,⟨v,r,B,h1,_⟩,e=>by simp_all
 | x::q,vs,i+1,w,⟨v,r,B,_,h2⟩,e=>by
  subst B;obtain⟨u,D,F⟩:=zdl.get (i:=i) h2 (by simpa using e)
  simp_all
def zjy {A:Addr->Prop}{H:Hp}{N:List Str}{ws:List W}{vs:List V}(al:Al A H)(h:zdl A H ws vs)(hM:∀i∈M,ws.length<=i):EnvR A M (L2.xt N vs) H (xC N ws) where
 len:=by unfold L2.xt xC;rw[ai,ai,ab,ab,List.length_replicate,List.length_replicate,h.len]
 val:=λi w e=>by
  unfold xC at e
  have hi:i<ws.length:=by
   apply bG;intro z;rw[bj (by simp_all)] at e;obtain⟨_,q⟩:=ae.mp e
   simp_all
  rw[bh (by simp_all),aw] at e;obtain⟨w',e1,e2⟩:=aE.mp e;cases e2;obtain⟨v,h1,h2⟩:=h.get e1;refine⟨v,?_,λ_=>h2,λz=>absurd (hM i z) (by lia)⟩;unfold L2.xt;have hi':i<vs.length:=by rw[h.len];exact hi
  rw[bh (by simp_all),aw,h1];rfl
 dis:=λi j w u ad hi hj hne e1=>by
  unfold xC at e1;have:=hM i hi;rw[bj (by simp_all)] at e1;obtain⟨_,q⟩:=ae.mp e1
  simp_all
 al:=al
def zsr{P:Program}{w:World}{K:PySem.W.Frag}{mg:Str->Option Value}{base:Heap}{I:Str}{f:Addr}{fd:FuncData}{N ps:List Str}{F:Option zq->List W->Mo W}(M:List Nat)(Y:(∀vs H Q E,spV m fr F vs H Q E->vs.length=ps.length)->(∀ (D:Value) (A:Around) (B:List Env) (s:Shared) (H:Hp) (vs:List V) (Q:VK) (E:XK),Room k (A.deeper (PyProof.Rows.envOfC I (zg st) s.heap.objs.size f D))->spV m fr F vs H Q E->
   ∃t,QSs (zdX CX0 P w K mg base N I (zg st) f D A B s H E).nox (yt st) t/\t { nx:=λ_ H'=>Q .non H',rt:=Q } (L2.xt N vs) H)->FnOk P w K mg base CX0 (k+1) f fd ps (spV m fr F))(hm:m=ps.length)(hM:∀i∈M,m<=i)(J:∀ (D:Value) (A:Around) (B:List Env) (s:Shared) (H:Hp) (E:XK) (Pn:Option zq),Room k (A.deeper (PyProof.Rows.envOfC I (zg st) s.heap.objs.size f D))->
   ∃fs,JSs (zdX CX0 P w K mg base N I (zg st) f D A B s H E).nox Pn [] M fr (yt st) fs/\∀L n R,L.length=m->F Pn L n R->fs (xC N L) n { nx:=λ_ U=>fr=false/\R (.d .non) U,rt:=R }):FnOk P w K mg base CX0 (k+1) f fd ps (spV m fr F):=by
 refine Y (λvs H Q E h=>?_) (λD A B s H vs Q E hr h=>?_)
 ·obtain⟨Pn,A,L,n,R,_,Z,hl,_⟩:=h;rw[Z.len,hl,hm]
 ·obtain⟨Pn,A3,L,n,R,al,Z,hl,hp,hF,q⟩:=h;obtain⟨fs,⟨t,qs,rs⟩,ac⟩:=J D A B s H E Pn hr;refine⟨t,qs,rs.run { A0:=A3,H0:=H,G0:=zT A3 H,σ0:=L2.xt N vs } A3 (L2.xt N vs) H (xC N L) n _ _ ⟨zjy al Z (λi hi=>by simp_all),⟨λ_ z=>z,λ_ z=>.inl z,.of (zv.refl _),al,λ_ z=>z.elim,λ_ z=>z.elim⟩,hp,zv.refl _,λi hi=>rfl,λi w a hi e=>?_⟩ ⟨?_,?_,?_,λ_ z=>z,?_⟩ (ac L n R hl hF)⟩
  ·exact absurd e (by unfold xC;have:=hM i hi;rw[bj (by simp_all)];intro z;obtain⟨_,q⟩:=ae.mp z;rw[List.getElem_replicate] at q;cases q)
  ·intro A' ag H' an U a' ⟨O,r⟩;exact q _ U .non H' r (Val.of (show Is _ .non .non from rfl)) ⟨a'.frm.st.stay,a'.pn.less a'.frm.sub⟩ λz=>by rw[O] at z;cases z
  ·simp_all
  ·simp_all
  ·intro w U v H' ad st pn O r;exact q w U v H' r ad ⟨st.stay,pn⟩ O
end
open PySem PySem.Spec L2
section
variable {X:Cx}{Pn:Option zq}{M S:List Nat}{fr fr':Bool}{e a b c:Expr}{es:List Expr}{f fa fb fc:Ev->Mo W}{pos p p2:Pos}
@[reducible] def isStr:Dt->Bool
 | .str _=>true
 | _=>false
@[reducible] def isDct:Dt->Bool
 | .dct=>true
 | _=>false
def zf7 (n:Nat):List Dt:=(List.range n).map λi:Nat=>Dt.int i
def zj3(n:Nat):IsL G (zf7 n) ((List.range n).map λi:Nat=>V.int i):=by
 have q:zf7 n=(((List.range n).map λi:Nat=>(i:Int))).map Dt.int:=by unfold zf7;rw[am];rfl
 have B:((List.range n).map λi:Nat=>V.int i)=(((List.range n).map λi:Nat=>(i:Int))).map V.int:=by rw[am];rfl
 rw[q,B];exact IsL.ints
def zef (fa:Ev->Mo (List W)):Ev->Mo W:=λρ n Q=>fa ρ n λq m=>∃j:Nat,q=[.d (.int (j:Int))]/\j<=1000/\Q (.d (.lst (zf7 j))) m
def zaX {q:Pos}{I:Pos}{fs:Ev->Mo (List W)}(Z:X.mg "list" = none)(J:X.mg "range" = none)(ha:JAB X Pn M [a] fs)(hc:X.calm=true:=by rfl)(hg:Gl X "list" := by rfl)(L:Gl X "range" := by rfl)(hs:starEach (a::[]) X.env=(false,eval a X.env)::starEach [] X.env:=by rfl)(D:starEach (.Call (.Name "range" I) [a] [] q::[]) X.env=(false,eval (.Call (.Name "range" I) [a] [] q) X.env)::starEach [] X.env:=by rfl)
  (O:(backTo q (starEach [] X.env)).any (·.1)=false:=by rfl) (U:(backTo pos (starEach [] X.env)).any (·.1)=false:=by rfl):JE X Pn M true (.Call (.Name "list" p) [.Call (.Name "range" I) [a] [] q] [] pos) (zef fs):=by
 obtain⟨ta,qa,ra⟩:=ha.ex;refine⟨_,zba (zgg hc) hg Z bD (zK (zba zmg L J PyProof.Rows.boot_range qa (by decide) (by decide) hs O) yB D) (by decide) (by decide) D U,⟨λA σ H ρ n Q R E P hf k=>?_⟩⟩;refine ra.run A σ H ρ n _ _ E P hf  ?_;rintro ws m vs H1 ⟨j,e,hj,r⟩ bb g;subst e;obtain⟨v,rfl,b1⟩:=zaN bb;obtain rfl:=yL b1;refine⟨_,rfl,λp1 H2 np g2 S2=>⟨p1,j,rfl,g2,hj,λp3 H3 F Y S3=>?_⟩⟩;have B:=g.trans (Go.same g.pn S2);exact k _ m _ H3 r (xu (H:=H2) (zj3 j) (zv.same S3) ((E.stay B.st).new F) Y) (B.trans (Go.same B.pn S3)) λ_=>(xF (H:=H2) (zj3 j) S3 F Y).back B.st
@[reducible] def truD:W->Option Bool
 | .d (.lst l)=>some (!l.isEmpty)
 | .d (.tup l)=>some (!l.isEmpty)
 | .d (.bl b)=>some b
 | .d (.int i)=>some (i != 0)
 | .d .non=>some false
 | _=>none
def zvB (f:Ev->Mo W):Ev->Mo Bool:=λρ n Q=>f ρ n λw m=>∃b,truD w=some b/\Q b m
def ze5(h:IsL G l xs):xs.isEmpty=l.isEmpty:=by have:=h.length;cases l <;> cases xs <;> simp_all
def zea (h:JB X Pn M e f)(he:∀whole,isTrue e X.env whole=(do let v <- whole;standAt e.pos;holding [v] (truthy v)):=by intro _;rfl):JT X Pn M e (zvB f):=by
 obtain⟨te,q,r⟩:=h.ex;refine⟨_,znh q he,⟨λA σ H ρ n Q R E P hf k=>?_⟩⟩;refine r.run A σ H ρ n _ _ E P hf λw m v H1 ⟨b,e,r⟩ bb g=>⟨b,?_,k b m H1 r g⟩
 cases w with
 | d x=>
  cases x with
  | lst l=>cases e;obtain⟨ad,xs,rfl,h1,h2⟩:=xg bb;exact .inl ⟨xs,.of h1,by rw[ze5 h2]⟩
  | tup l=>cases e;obtain⟨ad,xs,rfl,h1,h2⟩:=xT bb;exact .inr (.inl ⟨xs,.of h1,by rw[ze5 h2]⟩)
  | bl b=>cases e;obtain rfl:=zrr bb;rfl
  | int b=>cases e;obtain rfl:=yL bb;rfl
  | non=>cases e;have:v = .non:=bb;subst this;rfl
  | str _=>cases e
  | dct=>cases e
 | _=>cases e
def At3.own(h:At3 Pn B S M A σ H ρ n)(hi:i∈M)(e:ρ[i]?=some (some (.d (.lst l)))):∃q xs,σ[i]?=some (some (.ref q))/\A q/\H q=some (.lst xs)/\IsL (zT A H) l xs:=by
 obtain⟨v,I,_,D⟩:=h.env.val i _ e;obtain⟨q,rfl,J,F,_⟩:=D hi;obtain⟨L,xs,O,U,Y⟩:=F
 simp_all
def zj4(q:Is G d v):∀ {ds:List Dt} {xs:List V} (k:Nat),IsL G ds xs->IsL G (ds.set k d) (xs.set k v)
 | [],_,_,h=>by cases h;rfl
 | x::ds,xs,0,⟨y,r,e,h1,h2⟩=>by subst e;exact⟨v,r,rfl,q,h2⟩
 | x::ds,xs,k+1,⟨y,r,e,h1,h2⟩=>by subst e;exact⟨y,_,rfl,h1,zj4 q k h2⟩
def zvy (i:Nat)(fk f:Ev->Mo W):Ms:=λρ n k=>(∃l,ρ[i]?=some (some (.d (.lst l))))/\f ρ n λw m=>fk ρ m λy q=>∃l d j,ρ[i]?=some (some (.d (.lst l)))/\w = .d d/\y = .d (.int j)/\0<=j/\j<l.length/\k.nx (ρ.set i (some (.d (.lst (l.set j.toNat d))))) q
def zn5 (i:Nat){x:Str}{np sp:Pos}(hk:JB X Pn M c fc)(he:JE X Pn M fr' e f)(hi:i∈M:=by decide)(hN:X.N[i]?=some x:=by rfl)(hv:Vis X.env.scope x:=by walk_at "v")(hd:(x==("__debug__" : Str))=false:=by decide)
  (hcd:(x==("__classdict__" : Str))=false:=by decide) (hs:swapsWithSole [.Subscript (.Name x np) c p] e sp.line X.env=pure false:=by rfl) (hw:swappedStores [.Subscript (.Name x np) c p] e X.env=pure none:=by rfl)
  (h1:(assignEach [.Subscript (.Name x np) c p] X.env).map (·.2)=[assign (.Subscript (.Name x np) c p) X.env]:=by rfl) (ha:∀v,assign (.Subscript (.Name x np) c p) X.env v=(do
   let ov <- holding [v] (eval (.Name x np) X.env)
   let iv <- holding [v,ov] (eval c X.env)
   standAt p
   holding [v,ov,iv] (setItem ov iv v)
   release [v,ov,iv] []):=by intro _;rfl) :
  JS X Pn S M fr (.Assign [.Subscript (.Name x np) c p] e sp) (zvy i fc f):=by
 obtain⟨te,q,r⟩:=he.ex;obtain⟨tk,qk,rk⟩:=hk.ex;refine⟨_,zol q (zqk (qv i hN hv hd hcd) qk ha) hs hw h1,⟨ ?_⟩⟩;rintro B A σ H ρ n k D a kk ⟨⟨l0,e0⟩,hf⟩;obtain⟨ad,xs0,s0,hA,_⟩:=a.own hi e0;refine r.run A σ H ρ n _ _ a.env a.pn hf λw m v H1 r1 hv1 g1 _=>⟨.ref ad,s0,?_⟩;have a1:=a.step g1;refine rk.run A σ H1 ρ m _ _ a1.env a1.pn r1  ?_;rintro y m2 v2 H2 ⟨l,d,j,e,ed,ey,j0,j1,r2⟩ b2 g2;subst ed ey;have a2:=a1.step g2;obtain⟨ad2,xs,s2,_,g,hl⟩:=a2.own hi e;rw[s0] at s2;cases s2;exact⟨ad,xs,j,rfl,yL b2,g,j0,by rw[hl.length];exact j1,kk.nx A σ _ _ m2 (a2.wr hi e s0 (zj4 (hv1.stay g2.st).is _ hl)) r2⟩
end
open PySem PySem.Spec L2
section
variable {A:Addr->Prop}{H:Hp}
def zt2(h:zdl A H [w] vs):∃v,vs=[v]/\Val A H w v:=by obtain⟨v,r,e,h1,h2⟩:=h;cases h2;exact⟨v,e,h1⟩
def zt3(h:zdl A H [w,u] vs):∃v y,vs=[v,y]/\Val A H w v/\Val A H u y:=by obtain⟨v,r,e,h1,h2⟩:=h;obtain⟨y,rfl,q⟩:=zt2 h2;exact⟨v,y,e,h1,q⟩
def zt4{st:List Int}(h:Val A H (.d (stD st)) v):∃a,v = .ref a/\H a=some (.tup (st.map V.int)):=by obtain⟨a,xs,e,h1,h2⟩:=h;obtain rfl:=h2.of_ints;exact⟨a,e,zw _ _ h1⟩
end
structure RoomOk (rm:List Int):Prop where
 ne:rm≠[]
 few:rm.length<=8
 box:∀r∈rm,2<=r/\r<=4
def RoomOk.pos {rm:List Int}(h:RoomOk rm):1<=rm.length:=by
 cases rm with
 | nil=>exact absurd rfl h.ne
 | cons _ _=>simp
abbrev FV:=Option zq->List W->Mo W
def zud (k:Nat)(fr:Bool)(F:FV)(sp:Sp):Prop:=∀vs H Q E,spV k fr F vs H Q E->sp vs H Q E
def FnOk.lift(h:FnOk P w K mg base CX j f fd ps sp)(l:zud k fr F sp):FnOk P w K mg base CX j f fd ps (spV k fr F):=h.imp l
def ziQ:FV:=λPn q n R=>∃p c ns z9,Pn=some (p,c,ns)/\q=[.pen p,.d (.int z9)]/\n<=1000000/\1<=z9/\z9<1073741824/\∀r,0<=r->r<z9->R (.d (.int r)) (n+1)
def zkm:zud 2 false ziQ zlw:=by rintro vs H Q E ⟨Pn,A,ws,n,R,al,D,hl,B,⟨p,c,ns,z9,rfl,rfl,h1,h2,F,I⟩,q⟩;obtain⟨v,y,rfl,J,L⟩:=zt3 D;have O:v = .ref p:=J;have U:y = .int z9:=L;subst O U;exact⟨p,c,ns,n,z9,rfl,B.1,h1,h2,F,λr H' Y Z P' S'=>q _ (n+1) _ H' (I r Y Z) (Val.of rfl) ⟨S',P',B.2⟩ λz=>by cases z⟩
@[reducible] def zua:FV:=λPn B n R=>∃p c ns q,Pn=some (p,c,ns)/\B=[.pen p,.d (.int q)]/\n+20<=1000000/\4<=q/\q<=256/\∀rm,RoomOk rm->yI rm<=q->R (.d (stD rm)) (n+10)
@[reducible] def znG:FV:=λPn q n R=>∃p c ns rm,Pn=some (p,c,ns)/\q=[.pen p,.d (stD rm)]/\n+20<=1000000/\RoomOk rm/\∀st,st.length=rm.length->(∀b:Int,0<=b->b<rm.length->0<=z9 st b/\z9 st b<z9 rm b)->R (.d (stD st)) (n+10)
@[reducible] def zeQ (g:List (Int×Int)):Dt:=.tup (g.map yn)
@[reducible] def zrf:FV:=λPn D n R=>∃p c ns rm B,Pn=some (p,c,ns)/\D=[.pen p,.d (stD rm),.d (.int B)]/\n+40<=1000000/\RoomOk rm/\∀g,Giv rm g->(∀q∈g,q.1≠B)->g.length<=8->R (.d (zeQ g)) (n+30)
@[reducible] def zuz:FV:=λ_ q n R=>∃d,q=[.d d]/\R (.d (.bl d.isWhole)) n
@[reducible] def zuy:FV:=λ_ q n R=>∃a b,q=[.d (.bl a),.d (.bl b)]/\R (.d (.bl (a==b))) n
@[reducible] def F_prod:FV:=λ_ q n R=>∃ns:List Int,q=[.d (stD ns)]/\(∀n∈ns,2<=n/\n<=4)/\R (.d (.int (yI ns))) n
@[reducible] def zux:FV:=λ_ B n R=>∃st g,B=[.d (stD st),.d (zeQ g)]/\(∀q∈g,0<=q.1/\q.1<st.length)/\R (.d (.bl (yY st g))) n
@[reducible] def zaq (sts:List (List Int)):Dt:=.lst (sts.map stD)
def zqN{sts:List (List Int)}(D:Al A H)(s:xm H H')(n:H a=none)(h:H' a=some (.lst ys))(F:IsL H' (sts.map stD) ys):Val A H' (.d (zaq sts)) (.ref a)/\FrV A H H' (.d (zaq sts)) (.ref a):=by
 have q:=D.stay (zv.same s);have B:=u7 q.noT (ue sts) F;refine⟨Val.of ⟨a,ys,rfl,zD (D.new n) h,B⟩,a,rfl,.of n,a,ys,rfl,h,u7 (λb xs z e=>?_) (ue sts) F⟩;rcases z with z | z
 ·exact q.noT b xs z e
 ·grind
@[reducible] def F_all:FV:=λ_ q n R=>∃rm,q=[.d (stD rm)]/\RoomOk rm/\yI rm<=256/\R (.d (zaq (yQ (rm.map zj)))) n
@[reducible] def lsD (c:List Int):Dt:=.lst (c.map .int)
@[reducible] def zdh:FV:=λ_ q n R=>∃cs:List (List Int),q=[.d (.lst (cs.map lsD))]/\cs.length<=8/\(∀c∈cs,c.length<=4)/\R (.d (zaq (yQ cs))) n
def zmL(s:xm G H):∀ {cs:List (List Int)} {xs:List V},IsL G (cs.map lsD) xs->zri H xs cs:=λ{cs xs} h=>by refine⟨by rw[h.length,ab],λi c D=>?_⟩;obtain⟨v,h1,h2⟩:=h.getD (i:=i) (d:=lsD c) (by simp_all);obtain⟨a,ys,rfl,q,B⟩:=h2;obtain rfl:=B.of_ints;exact⟨a,h1,s _ _ q⟩
def zed:zud 1 true zdh (zdJ K):=by rintro vs H Q E ⟨Pn,A,ws,n,R,F,I,hl,J,⟨cs,rfl,h1,h2,L⟩,q⟩;obtain⟨v,rfl,O⟩:=zt2 I;obtain⟨a,xs,rfl,U,Y⟩:=O;refine⟨a,xs,cs,rfl,zw _ _ U,zmL zw Y,h1,h2,λa ys H' Z B D S=>?_⟩;obtain⟨z1,z2⟩:=zqN F S Z B D;exact q _ n _ H' L z1 (Go.same J S) λ_=>z2
def zvE {P:Program}{w:World}{K:PySem.W.Frag}{mg:Str->Option Value}{base:Heap}{x F:Str}{st:Stmt}{f:Addr}{fd:FuncData}{N ps:List Str}{k r:Nat}(M:List Nat)(Fu:Fun K x F st f fd)(S:FnScope N ps (zg st))(ad:ps.length=1)(hN:N.length=r+2)(hM:∀i∈M,2<=i)
  (U:∀ (J:Value) (A:Around) (B:List Env) (s:Shared) (H:Hp) (E:XK) (Pn:Option zq),Room k (A.deeper (PyProof.Rows.envOfC F (zg st) s.heap.objs.size f J))->
   ∃O yf fs,yt st=O::yf/\QS (zdX CX0 P w K mg base N F (zg st) f J A B s H E).nox O (zg2 (zg3 (znv K) [] E0 (zdg (zlW 0) zlV)) (zap 1))/\
    JSs (zdX CX0 P w K mg base N F (zg st) f J A B s H E).nox Pn [] M false yf fs/\∀p c ns,Pn=some (p,c,ns)->fs (none::some (.pen p)::List.replicate r none) 0 { nx:=λ_ _=>False,rt:=λw _=>w = .d (.bl true) }):FnOk P w K mg base CX0 (k+1) f fd ps (zlx K):=by
 refine Fun.okQ Fu S (λvs H Q E h=>?_) (λJ A B s H vs Q E hr h=>?_)
 ·obtain⟨a,ns,rfl,_⟩:=h;exact ad.symm
 ·obtain⟨a,ns,rfl,hS,hl,q⟩:=h;have Y:=λ(Pn:Option zq)=>U J A B s H E Pn hr
  have ac:L2.xt N [.ref a]=some (.ref a)::none::List.replicate r none:=by unfold L2.xt;rw[hN];rfl
  have hd:∃O yf,yt st=O::yf:=let ⟨O,yf,_,e,_⟩:=Y none;⟨O,yf,e⟩;obtain⟨O,yf,e0⟩:=hd;rw[e0]
  have c2:∀Pn,∃fs,JSs (zdX CX0 P w K mg base N F (zg st) f J A B s H E).nox Pn [] M false yf fs/\∀p c ns,Pn=some (p,c,ns)->fs (none::some (.pen p)::List.replicate r none) 0 { nx:=λ_ _=>False,rt:=λw _=>w = .d (.bl true) }:=λPn=>by obtain⟨ag,Z,fs,e,_,h1,h2⟩:=Y Pn;rw[e0] at e;cases e;exact⟨fs,h1,h2⟩
  have q1:QS (zdX CX0 P w K mg base N F (zg st) f J A B s H E).nox O (zg2 (zg3 (znv K) [] E0 (zdg (zlW 0) zlV)) (zap 1)):=by
   obtain⟨ag,Z,fs,e,h0,_⟩:=Y none
   simp_all
  refine⟨_,yd q1 (u:=λD σ H=>∃Pn,(c2 Pn).choose_spec.1.ex.choose D σ H) ⟨λpins s' σ H D I ⟨Pn,z⟩=>(c2 Pn).choose_spec.1.ex.choose_spec.1.run pins s' σ H D I z⟩,?_⟩;refine⟨.ref a,by rw[ac];rfl,a,ns,rfl,hS,hl,λp c H1 P1 S1=>⟨some (p,c,ns),?_⟩⟩;have hs:=(c2 (some (p,c,ns))).choose_spec.2 p c ns rfl;have e1:(L2.xt N [.ref a]).set 1 (some (.ref p))=some (.ref a)::some (.ref p)::List.replicate r none:=by rw[ac];rfl
  rw[e1]
  have L:∀i (u:W),(none::some (.pen p)::List.replicate r none:Ev)[i]?=some (some u)->i=1/\u = .pen p:=λi u e=>by
   match i,e with
   | 0,e=>simp at e
   | 1,e=>exact⟨rfl,by simpa using e.symm⟩
   | i+2,e=>
    simp only[bB] at e;obtain⟨_,q⟩:=ae.mp e
    simp_all
  refine (c2 (some (p,c,ns))).choose_spec.1.ex.choose_spec.2.run { A0:=λ_=>False,H0:=H1,G0:=zT (λ_=>False) H1,σ0:=[] } (λ_=>False) _ H1 _ 0 _ _ ⟨⟨?_,?_,?_,λ_ z=>z.elim⟩,⟨λ_ z=>z,λ_ z=>z.elim,.of (zv.refl _),λ_ z=>z.elim,λ_ z=>z.elim,λ_ z=>z.elim⟩,⟨P1,λz=>z,λz=>z⟩,zv.refl _,λi hi=>by simp at hi,?_⟩ ⟨?_,?_,?_,λ_ z=>z,?_⟩ hs
  ·simp
  ·intro i u e;obtain⟨rfl,rfl⟩:=L i u e;exact⟨.ref p,rfl,λ_=>rfl,λz=>absurd (hM 1 z) (by lia)⟩
  ·intro i j u u' b hi hj al e1;obtain⟨rfl,rfl⟩:=L i u e1;exact absurd (hM 1 hi) (by lia)
  ·intro i u b hi e;obtain⟨rfl,rfl⟩:=L i u e;exact absurd (hM 1 hi) (by lia)
  ·intro _ _ _ _ _ _ z;exact z.elim
  ·intro _ _ _ _ _ _ z;exact z.elim
  ·intro _ _ _ _ _ _ z;exact z.elim
  ·intro w n' v H' hv st pn _ r;have r':w = .d (.bl true):=r;subst r';have:v = .bl true:=hv;subst this;exact q H'
open PySem PySem.Spec L2
def zi9 {α:Type}{l:List W}{D:Ev}{n:Nat}{mg:W->Ev->(Ev->Prop)->Prop}{U:Ev->Mo Bool}{Y:Ev->Mo W}{Q:W->Nat->Prop}(xs:List α)(F:α->W)(hl:l=xs.map F)(J:Ev->Prop)(P:α->Bool)(E:α->Dt)(Z:xs.length<=lim)(j0:J D)
  (h:∀a∈xs,∀ B,J B->∀C:Ev->Nat->Option Dt->Prop,(∀ q,J q->C q n (if P a then some (E a) else none))->mg (F a) B λq=>U q n λb n2=>if b=true then Y q n2 λx I=>∃d,x = .d d/\C q I (some d) else C q n2 none)
  (fin:Q (.d (.lst ((xs.filter P).map E))) n):ze1 mg U Y D Q l n:=by
 subst hl;refine⟨by simp_all,λi B L acc=>J B/\L=n/\acc=((xs.take i).filter P).map E,⟨j0,rfl,by simp⟩,?_,?_⟩
 ·rintro i w B L acc hw ⟨hj,rfl,rfl⟩;rw[aw] at hw;obtain⟨a,ha,rfl⟩:=aE.mp hw
  have:=h a (au ha) B hj (λq I o=>match o with
   | some d=>J q/\I=L/\((xs.take i).filter P).map E++[d]=((xs.take (i+1)).filter P).map E
   | none=>J q/\I=L/\((xs.take i).filter P).map E=((xs.take (i+1)).filter P).map E) (λq O=>by
    rw[zl ha,bQ,az];by_cases hp:P a=true
    ·simp_all
    ·rw[if_neg hp];exact⟨O,rfl,by simp[hp]⟩)
  exact this
 ·grind
def zme {α:Type}{l:List W}{D:Ev}{n:Nat}{mg:W->Ev->(Ev->Prop)->Prop}{U:Ev->Mo W}{Q:W->Nat->Prop}(xs:List α)(F:α->W)(hl:l=xs.map F)(J:Ev->Prop)(E:α->Dt)(Y:xs.length<=lim)(j0:J D)
  (h:∀a∈xs,∀ B,J B->∀C:Ev->Nat->Dt->Prop,(∀ q,J q->C q n (E a))->mg (F a) B λq=>U q n λx I=>∃d,x = .d d/\C q I d)
  (fin:Q (.d (.lst (xs.map E))) n):ze1 mg zpG U D Q l n:=by
 subst hl;refine⟨by simp_all,λi B L acc=>J B/\L=n/\acc=(xs.take i).map E,⟨j0,rfl,by simp⟩,?_,?_⟩
 ·rintro i w B L acc Z ⟨hj,rfl,rfl⟩;rw[aw] at Z;obtain⟨a,ha,rfl⟩:=aE.mp Z;exact h a (au ha) B hj (λq I d=>J q/\I=L/\(xs.take i).map E++[d]=(xs.take (i+1)).map E) λq O=>⟨O,rfl,by rw[zl ha,az];rfl⟩
 ·grind
def zo2(I:Nat->Ev->Nat->Prop)(L:I 0 ρ n)(h:∀i q B,i<r->I i q B->mg (.d (.int (i:Int))) q λD=>fb D B { k with nx:=I (i+1),ct:=I (i+1),bk:=k.nx })(O:∀ q B,I r q B->k.nx q B):zrO mg fb ρ k (ziD 0 r) n:=by
 refine⟨I,L,λi w q B F J=>?_,λq B J=>O q B ?_⟩
 ·unfold ziD at F;rw[aw] at F;obtain⟨j,h1,rfl⟩:=aE.mp F;obtain⟨hi,h2⟩:=ae.mp h1;rw[bP] at h2
  simp_all
 ·unfold ziD at J
  simp_all
def zjJ{α:Type}(xs:List α)(D:α->W)(O:l=xs.map D)(I:Nat->Ev->Nat->Prop)(U:I 0 ρ n)(h:∀i a q B,xs[i]?=some a->I i q B->mg (D a) q λF=>fb F B { k with nx:=I (i+1),ct:=I (i+1),bk:=k.nx })(Y:∀ q B,I xs.length q B->k.nx q B):zrO mg fb ρ k l n:=by
 subst O;refine⟨I,U,λi w q B J L=>?_,λq B L=>Y q B (by simp_all)⟩;rw[aw] at J;obtain⟨a,Z,rfl⟩:=aE.mp J;exact h i a q B Z L
def zce(I:Nat->Ev->Nat->Prop)(J:I 0 ρ n)(h:∀i q D,i<r->I i q D->∀ (C B:Ev->Nat->Prop) (E:W->Nat->Prop),(∀ {ρ m},I (i+1) ρ m->C ρ m)->(∀ {ρ m},k.nx ρ m->B ρ m)->(∀ {w m},k.rt w m->E w m)->mg (.d (.int (i:Int))) q λF=>fb F D { rt:=E,nx:=C,ct:=C,bk:=B })(L:∀ q D,I r q D->k.nx q D):zrO mg fb ρ k (ziD 0 r) n:=
 zo2 I J (λi q D hi O=>h i q D hi O (I (i+1)) k.nx k.rt (λz=>z) (λz=>z) λz=>z) L
def zY{α:Type}(xs:List α)(D:α->W)(L:l=xs.map D)(I:Nat->Ev->Nat->Prop)(O:I 0 ρ n)(h:∀i a q F,xs[i]?=some a->I i q F->∀ (C B:Ev->Nat->Prop) (E:W->Nat->Prop),(∀ {ρ m},I (i+1) ρ m->C ρ m)->(∀ {ρ m},k.nx ρ m->B ρ m)->(∀ {w m},k.rt w m->E w m)->mg (D a) q λJ=>fb J F { rt:=E,nx:=C,ct:=C,bk:=B })(U:∀ q F,I xs.length q F->k.nx q F):zrO mg fb ρ k l n:=
 zjJ xs D L I O (λi a q F Y Z=>h i a q F Y Z (I (i+1)) k.nx k.rt (λz=>z) (λz=>z) λz=>z) U
def zmd{α:Type}(xs:List α)(J:α->W)(hl:l=xs.map J)(U:xs.length<=lim)(I:Nat->Ev->Nat->List Dt->Prop)(h0:I 0 F n [])(h:∀i a q B acc,xs[i]?=some a->I i q B acc->∀C:Ev->Nat->List Dt->Prop,(∀ {ρ m l},I (i+1) ρ m l->C ρ m l)->mg (J a) q λD=>L D B λb Y=>if b=true then O D Y λx n3=>∃d,x = .d d/\C D n3 (acc++[d]) else C D Y acc)(fin:∀ q B acc,I xs.length q B acc->Q (.d (.lst acc)) B):ze1 mg L O F Q l n:=by
 subst hl;refine⟨by simp_all,I,h0,λi w q B acc Z hI=>?_,λq B acc hI=>fin q B acc (by simp_all)⟩;rw[aw] at Z;obtain⟨a,ha,rfl⟩:=aE.mp Z;exact h i a q B acc ha hI (I (i+1)) λz=>z
def zbC {α:Type}{l:List α}{i:Nat}{x:α}(h:l[i]?=some x):atI l (i:Int)=some x:=by
 have:=(ae.mp h).1;unfold atI ixN
 simp_all
def zrm {α:Type}{l:List α}{i:Int}(B:0<=i)(h1:i<l.length):∃d,atI l i=some d/\d∈l:=by
 obtain⟨j,rfl⟩:∃j:Nat,i=j:=⟨i.toNat,by lia⟩;have q:j<l.length:=by lia
 exact⟨l[j],zbC (aj q),cg q⟩
def zoD {st:List Int}{b:Int}(B:0<=b)(h1:b<st.length):atI (st.map Dt.int) b=some (.int (z9 st b)):=by
 obtain⟨j,rfl⟩:∃j:Nat,b=j:=⟨b.toNat,by lia⟩;have q:j<st.length:=by lia
 refine zbC ?_;rw[aw,aj q,zP];simp[q]
open PySem L2
def gw (g:List (Int×Int))(i:Nat):Option Int:=(g.find? λq=>decide (q.1=(i:Int))).map (·.2)
def zoQ (rm:List Int):enW 0 (rm.map Dt.int)=(List.range rm.length).map λi:Nat=>W.d (.tup [.int (i:Int),.int (rm.getD i 0)]):=by
 apply du;intro i;rw[zdZ,aw,aw];by_cases h:i<rm.length
 all_goals simp_all
def cho (rm:List Int)(g:List (Int×Int))(i:Nat):List Int:=match gw g i with
 | some w=>[w]
 | none=>zj (rm.getD i 0)
def chs (rm:List Int)(g:List (Int×Int)):List (List Int):=(List.range rm.length).map (cho rm g)
def zvn (rm:List Int)(g:List (Int×Int)):List (List Int):=yQ (chs rm g)
def zo3 {rm:List Int}{g:List (Int×Int)}(B:Giv rm g){q r:Int×Int}(h1:q∈g)(h2:r∈g)(e:q.1=r.1):q=r:=by
 have key:∀g:List (Int×Int),(g.Pairwise λa b=>a.1<b.1)->q∈g->r∈g->q=r:=by
  intro g D
  induction D with
  | nil=>intro h;simp at h
  | cons F _ I=>
   grind
 exact key g B.up h1 h2
section
variable {X:Cx}{Pn:Option zq}{M S:List Nat}{fr fr':Bool}{e a b c:Expr}{es:List Expr}{f fa fb fc:Ev->Mo W}{pos p p2:Pos}
def zpw (fa:Ev->Mo (List W)):Ev->Mo (List W):=λρ n Q=>fa ρ n λq m=>∃l,q=[.d (.lst l)]/\Q (enW 0 l) m
def zj6(h:zT A H q=some (.lst xs))(B:IsL (zT A H) l xs):ItV false A H (Iel K q) (enW 0 l) where
 one:=λi w A2 H2 e s _ I=>by rw[zdZ] at e;obtain⟨d,h1,rfl⟩:=aE.mp e;obtain⟨x,D,J⟩:=B.getD h1;have g:=zw _ _ (s.lst h);refine⟨⟨xs,x,.of g,D⟩,?_⟩;rintro y H3 ⟨T,z,L,F,O,U⟩;subst L O;have:=U xs (.of g);rw[D] at this;cases this;have S:=xm.upd (o:=.tup [.int i,x]) F;refine⟨S,Val.of ⟨T,_,rfl,zD (I T F) zk,_,_,rfl,?_,_,_,rfl,(J.stay s).stay (zv.same (zcj S)),rfl⟩⟩;show V.int (i:Int)=V.int ((0+i:Nat):Int);rw[Nat.zero_add]
 stop:=λA2 H2 s _=>⟨xs,.of (zw _ _ (s.lst h)),by rw[zju,B.length];exact ah _⟩
def zaY{x1}(F:Gl X "enumerate")(I:X.mg "enumerate" = none)(J:JA X Pn M [a] fs)(D:starEach [a] X.env=[(false,eval a X.env)]:=by rfl):JI X Pn M false (.Tuple elts x1 tpos) (.Call (.Name "enumerate" p) [a] [] pos) (zpw fs):=by obtain⟨te,q,r⟩:=J.ex;refine⟨_,znf F I q D,⟨λA σ H ρ n Q R E P L k=>?_⟩⟩;refine r.run A σ H ρ n _ _ E P L  ?_;rintro Z m vs H1 ⟨l,e,r⟩ O g;subst e;obtain⟨v,s,rfl,⟨U,xs,rfl,B,Y⟩,D⟩:=O;cases D;exact⟨U,rfl,⟨xs,.of (zw _ _ B)⟩,k _ m _ H1 r (zj6 B Y) g⟩
def zh8:∀ (l k:List Dt) (i:Nat),(ziW l k)[i]?=(l[i]?).bind λx=>(k[i]?).map λy=>W.d (.tup [x,y])
 | [],_,_=>by simp[ziW]
 | _::_,[],_=>by simp[ziW]
 | x::r,y::s,0=>by simp[ziW]
 | x::r,y::s,i+1=>by have:=zh8 r s i;simp only[ziW,bB,this]
def zh9:∀ (l k:List Dt),(ziW l k).length=min l.length k.length
 | [],_=>by simp[ziW]
 | _::_,[]=>by simp[ziW]
 | x::r,y::s=>by rw[ziW,a8,a8,a8,zh9 r s];lia
def zpy (fa:Ev->Mo (List W)):Ev->Mo (List W):=λρ n Q=>fa ρ n λq m=>∃l k,q=[.d (.lst l),.d (.lst k)]/\Q (ziW l k) m
def zmC(h:zT A H F=some (.lst xs))(J:IsL (zT A H) l xs)(h':zT A H I=some (.lst ys))(L:IsL (zT A H) k ys):ItV false A H (Izl K F I) (ziW l k) where
 one:=λi w A2 H2 e s _ hA=>by rw[zh8] at e;obtain⟨d,h1,e⟩:=Option.bind_eq_some_iff.mp e;obtain⟨d',q,rfl⟩:=aE.mp e;obtain⟨x,O,hd⟩:=J.getD h1;obtain⟨y,U,B⟩:=L.getD q;have g:=zw _ _ (s.lst h);have g':=zw _ _ (s.lst h');refine⟨⟨xs,ys,x,y,.of g,.of g',O,U⟩,?_⟩;rintro v H3 ⟨T,z,z',e1,Y,e3,hz,D⟩;subst e1 e3;have Z:=hz xs (.of g);have q2:=D ys (.of g');rw[O] at Z;rw[U] at q2;cases Z;cases q2;have S:=xm.upd (o:=.tup [x,y]) Y;exact⟨S,Val.of ⟨T,_,rfl,zD (hA T Y) zk,_,_,rfl,(hd.stay s).stay (zv.same (zcj S)),_,_,rfl,(B.stay s).stay (zv.same (zcj S)),rfl⟩⟩
 stop:=λA2 H2 s _=>⟨xs,ys,.of (zw _ _ (s.lst h)),.of (zw _ _ (s.lst h')),by rw[zh9,J.length,L.length];lia⟩
def zph {elts:List Expr}{x1}{tpos:Pos}{fs:Ev->Mo (List W)}(J:Gl X "zip")(L:X.mg "zip" = none)(O:JA X Pn M [a,b] fs)(F:starEach [a,b] X.env=[(false,eval a X.env),(false,eval b X.env)]:=by rfl)(I:starEach [b] X.env=[(false,eval b X.env)]:=by rfl):JI X Pn M false (.Tuple elts x1 tpos) (.Call (.Name "zip" p) [a,b] [] pos) (zpy fs):=by obtain⟨te,q,r⟩:=O.ex;refine⟨_,zqp J L q F I,⟨λA σ H ρ n Q R E P U k=>?_⟩⟩;refine r.run A σ H ρ n _ _ E P U  ?_;rintro ws m vs H1 ⟨l,kk,e,r⟩ Y g;subst e;obtain⟨v,s,rfl,⟨Z,xs,rfl,B,hl⟩,v2,s2,rfl,⟨bd,ys,rfl,D,hk⟩,F⟩:=Y;cases F;exact⟨Z,bd,rfl,⟨xs,.of (zw _ _ B)⟩,⟨ys,.of (zw _ _ D)⟩,k _ m _ H1 r (zmC B hl D hk) g⟩
def zvq (i:Nat)(f:Ev->Mo W):Ms:=λρ n k=>(∃l,ρ[i]?=some (some (.d (.lst l))))/\f ρ n λw m=>∃l q,ρ[i]?=some (some (.d (.lst l)))/\w = .d (.lst q)/\l.length+q.length<=lim/\k.nx (ρ.set i (some (.d (.lst (l++q))))) m
def zkd (i:Nat){x:Str}{ap O sp U:Pos}(he:JE X Pn M fr' e f)(hi:i∈M:=by decide)(hN:X.N[i]?=some x:=by rfl)(hv:Vis X.env.scope x:=by walk_at "v")(hd:(x==("__debug__" : Str))=false:=by decide)
  (ag:(x==("__classdict__" : Str))=false:=by decide) (Y:starEach (e::[]) X.env=(false,eval e X.env)::starEach [] X.env:=by rfl) (hs:swapsWith (.Call (.Attribute (.Name x U) "extend" ap) [e] [] O) none sp.line X.env=pure false:=by rfl) (J:attributeBase (.Name x U) "extend" X.env (eval (.Name x U) X.env)=eval (.Name x U) X.env:=by rfl) (L:(ap.endLine==O.line)=true:=by rfl)
  (Z:((backTo O (starEach [e] X.env)).all (λx=>!x.1)&&(backToKw O (keywordEach [] X.env)).all (λx=>x.1.isSome)&&decide (([e]:List Expr).length+([]:List Keyword).length+(if ([]:List Keyword).isEmpty then 0 else 1)<30))=true:=by rfl) (I:(backTo O (starEach [] X.env)).any (·.1)=false:=by rfl) :
  JS X Pn S M fr (.Expr (.Call (.Attribute (.Name x U) "extend" ap) [e] [] O) sp) (zvq i f):=by
 obtain⟨te,q,r⟩:=he.ex;refine⟨_,zcI (zfM bN PySem.F.slot_list_extend PySem.F.type_list_extend zkF (qv i hN hv hd ag) (zK q yB Y) J Z L Y I) hs,⟨ ?_⟩⟩;rintro B A σ H ρ n k D a kk ⟨⟨l0,e0⟩,hf⟩;obtain⟨ad,an,s1,hA,g0,_⟩:=a.own hi e0;refine⟨.ref ad,s1,.inl ⟨rfl,_,SqL.of g0⟩,?_⟩;refine r.run A σ H ρ n _ _ a.env a.pn hf  ?_;rintro w m v H' ⟨l,l2,e,ed,hz,r⟩ hv g _;subst ed;have a':=a.step g;obtain⟨as,xs,s2,_,g4,hl⟩:=a'.own hi e;rw[s1] at s2;cases s2;obtain⟨b2,ys,rfl,al,ac⟩:=hv;exact⟨ad,b2,xs,ys,rfl,rfl,g4,zw _ _ al,zcu (by rw[hl.length,ac.length];exact hz),kk.nx A σ _ _ m (a'.wr hi e s1 (hl.append ac)) r⟩
def zn2 {α:Type}(l:List α)(k:Nat)(x:α):List α:=l.take k++x::l.drop k
def zvs (i:Nat)(fk f:Ev->Mo W):Ms:=λρ n k=>(∃l,ρ[i]?=some (some (.d (.lst l))))/\fk ρ n λy m=>f ρ m λw q=>∃l d j,ρ[i]?=some (some (.d (.lst l)))/\w = .d d/\y = .d (.int j)/\0<=j/\j<=l.length/\l.length<lim/\k.nx (ρ.set i (some (.d (.lst (zn2 l j.toNat d))))) q
def zr5(i:Nat){x:Str}{ap O sp U:Pos}(hc:JE X Pn M ac c fc)(he:JE X Pn M fr' e f)(hi:i∈M:=by decide)(hN:X.N[i]?=some x:=by rfl)(hv:Vis X.env.scope x:=by walk_at "v")(hd:(x==("__debug__" : Str))=false:=by decide)(ag:(x==("__classdict__" : Str))=false:=by decide)(Y:starEach (c::[e]) X.env=(false,eval c X.env)::starEach [e] X.env:=by rfl)(al:starEach (e::[]) X.env=(false,eval e X.env)::starEach [] X.env:=by rfl)(hs:swapsWith (.Call (.Attribute (.Name x U) "insert" ap) [c,e] [] O) none sp.line X.env=pure false:=by rfl)(J:attributeBase (.Name x U) "insert" X.env (eval (.Name x U) X.env)=eval (.Name x U) X.env:=by rfl)(L:(ap.endLine==O.line)=true:=by rfl)(Z:((backTo O (starEach [c,e] X.env)).all (λx=>!x.1)&&(backToKw O (keywordEach [] X.env)).all (λx=>x.1.isSome)&&decide (([c,e]:List Expr).length+([]:List Keyword).length+(if ([]:List Keyword).isEmpty then 0 else 1)<30))=true:=by rfl)(I:(backTo O (starEach [e] X.env)).any (·.1)=false:=by rfl) :
  JS X Pn S M fr (.Expr (.Call (.Attribute (.Name x U) "insert" ap) [c,e] [] O) sp) (zvs i fc f):=by
 obtain⟨te,q,r⟩:=he.ex;obtain⟨tc,qc,rc⟩:=hc.ex;refine⟨_,zcI (zfM bN PySem.F.slot_list_insert PySem.F.type_list_insert zkG (qv i hN hv hd ag) (zK qc (zK q yB al) Y) J Z L Y I) hs,⟨ ?_⟩⟩;rintro B A σ H ρ n k D a kk ⟨⟨l0,e0⟩,hf⟩;obtain⟨ad,as,s1,hA,g0,_⟩:=a.own hi e0;refine⟨.ref ad,s1,.inl ⟨rfl,_,SqL.of g0⟩,?_⟩;refine rc.run A σ H ρ n _ _ a.env a.pn hf λw1 m1 v1 H1 r1 an g1 _=>?_;have a1:=a.step g1;refine r.run A σ H1 ρ m1 _ _ a1.env a1.pn r1  ?_;rintro w m v H' ⟨l,d,j,e,ed,ey,j0,j1,hz,r⟩ hv g _;subst ed ey;have e1:v1 = .int j:=an;subst e1;have a':=a1.step g;obtain⟨av,xs,s2,_,g4,hl⟩:=a'.own hi e;rw[s1] at s2;cases s2;refine⟨ad,xs,j,v,rfl,rfl,g4,j0,by rw[hl.length];exact j1,zcv (by rw[hl.length];exact cj hz),kk.nx A σ _ _ m (a'.wr hi e s1 ?_) r⟩;exact (hl.take _).append ⟨v,_,rfl,hv.is,hl.drop _⟩
def zfj:∀ {ds:List Dt} {xs:List V} (k:Nat),IsL G ds xs->IsL G (ds.eraseIdx k) (xs.eraseIdx k)
 | [],_,_,h=>by cases h;rfl
 | x::ds,xs,0,⟨y,r,e,h1,h2⟩=>by subst e;exact h2
 | x::ds,xs,k+1,⟨y,r,e,h1,h2⟩=>by subst e;exact⟨y,_,rfl,h1,zfj k h2⟩
def zpC (i:Nat)(fk:Ev->Mo W):Ms:=λρ n k=>(∃l,ρ[i]?=some (some (.d (.lst l))))/\fk ρ n λy m=>∃l j,ρ[i]?=some (some (.d (.lst l)))/\y = .d (.int j)/\0<=j/\j<l.length/\l.length<=lim/\k.nx (ρ.set i (some (.d (.lst (l.eraseIdx j.toNat))))) m
def zot {n:Nat}{j:Int}(q:0<=j)(h1:j<n):seqIndex? j n=some j.toNat:=(zgw (by unfold ixN;rw[if_pos q,if_pos h1])).1
def zpj (i:Nat){x:Str}{Z L sp O:Pos}(hc:JB X Pn M c fc)(hi:i∈M:=by decide)(hN:X.N[i]?=some x:=by rfl)(hv:Vis X.env.scope x:=by walk_at "v")(hd:(x==("__debug__" : Str))=false:=by decide)
  (ac:(x==("__classdict__" : Str))=false:=by decide) (U:starEach (c::[]) X.env=(false,eval c X.env)::starEach [] X.env:=by rfl) (hs:swapsWith (.Call (.Attribute (.Name x O) "pop" Z) [c] [] L) none sp.line X.env=pure false:=by rfl) (I:attributeBase (.Name x O) "pop" X.env (eval (.Name x O) X.env)=eval (.Name x O) X.env:=by rfl) (J:(Z.endLine==L.line)=true:=by rfl)
  (Y:((backTo L (starEach [c] X.env)).all (λx=>!x.1)&&(backToKw L (keywordEach [] X.env)).all (λx=>x.1.isSome)&&decide (([c]:List Expr).length+([]:List Keyword).length+(if ([]:List Keyword).isEmpty then 0 else 1)<30))=true:=by rfl) (q:(backTo L (starEach [] X.env)).any (·.1)=false:=by rfl) :
  JS X Pn S M fr (.Expr (.Call (.Attribute (.Name x O) "pop" Z) [c] [] L) sp) (zpC i fc):=by
 obtain⟨tc,qc,rc⟩:=hc.ex;refine⟨_,zcI (zfM bN PySem.F.slot_list_pop PySem.F.type_list_pop zhH (qv i hN hv hd ac) (zK qc yB U) I Y J U q) hs,⟨ ?_⟩⟩;rintro B A σ H ρ n k D a kk ⟨⟨l0,e0⟩,hf⟩;obtain⟨ad,an,s1,hA,g0,_⟩:=a.own hi e0;refine⟨.ref ad,s1,.inl ⟨rfl,_,SqL.of g0⟩,?_⟩;refine rc.run A σ H ρ n _ _ a.env a.pn hf  ?_;rintro w m v H' ⟨l,j,e,ey,j0,j1,hz,r⟩ hv g;subst ey;have e1:v = .int j:=hv;subst e1;have a':=a.step g;obtain⟨as,xs,s2,_,g4,hl⟩:=a'.own hi e;rw[s1] at s2;cases s2;have ag:=hl.length;have al:(l.length:Int)<=500000:=by have:l.length<=500000:=hz;lia
 exact⟨ad,xs,j,j.toNat,xs[j.toNat]'(by lia),rfl,rfl,g4,by lia,by lia,zot j0 (by lia),aj _,kk.nx A σ _ _ m (a'.wr hi e s1 (zfj _ hl)) r⟩
def zo0:W->W->Mo W:=λx y n Q=>∃l j,x = .d (.lst l)/\y = .d (.int j)/\0<=j/\j<=1000000/\l.length * j.toNat<=lim/\Q (.d (.lst (List.replicate j.toNat l).flatten)) n
def zt1:F2 Pn true zur zo0:=⟨by
 rintro A H x y Y Z n Q R F I q P ⟨l,j,J,L,j1,j2,z,h⟩ k;subst J L;obtain⟨a,xs,O,U,B⟩:=xg I;refine⟨a,j,xs,O,yL q,U,by lia,by lia,zcu (by rw[B.length];exact z),λp D=>?_⟩;have S:=xm.upd (o:=.lst (List.replicate j.toNat xs).flatten) D;exact k _ n _ _ h (xu (zgu B _) (zv.same S) (F.new D) zk) (Go.same P S) λz=>xF (zgu B _) S D zk⟩
def zjC:List W->Mo W:=λB n Q=>∃ns:List Int,B=[.d (.lst (ns.map .int))]/\ns.length<64/\∀q:List Int,q.Perm ns->q.Pairwise (·<=·)->Q (.d (.lst (q.map .int))) n
def zq1:FL Pn true zlf zjC:=⟨by
 rintro A H xs Y n Q R F b P ⟨ns,e,q,h⟩ k;subst e;obtain⟨v,rfl,I⟩:=zaN b;obtain⟨a,ys,rfl,J,L⟩:=xg I;obtain rfl:=L.of_ints;exact⟨a,ns,rfl,J,q,λB O U p H' D g S=>k _ n _ H' (h B O U) (xu (H:=H) IsL.ints (zv.same S) (F.new D) g) (Go.same P S) λz=>xF (H:=H) IsL.ints S D g⟩⟩
def zjE:List W->Mo W:=λB n Q=>∃ (sts:List (List Int)) (m:Nat),B=[.d (.lst (sts.map stD))]/\sts.length<64/\1<=m/\(∀st∈sts,st.length=m)/\sts.Nodup/\∀q:List (List Int),q.Perm sts->(q.Pairwise λa b=>HT.lexLt a b=true)->Q (.d (zaq q)) n
def zq2:FL Pn true zqw zjE:=⟨by
 rintro A H xs ws n Q R J b P ⟨sts,m,e,D,h1,O,F,h⟩ k;subst e;obtain⟨v,rfl,U⟩:=zaN b;obtain⟨a,ys,rfl,Y,Z⟩:=xg U;refine⟨a,ys,sts,m,rfl,Y,Z.stay (zv.same zw),D,h1,O,F,λI q hy hp hs p H' L g S=>?_⟩;have B:IsL (zT A H) (q.map stD) I:=u7 J.noT (ue q) hy;exact k _ n _ H' (h q hp hs) (xu B (zv.same S) (J.new L) g) (Go.same P S) λz=>xF B S L g⟩
def zpe:JE X Pn M true (.Dict [] [] pos) (mC (.dt [])):=⟨_,znb,⟨λA σ H ρ n Q R E P B k=>λp H' q g S=>k _ n _ H' B ⟨p,[],rfl,zD (E.new q) g,rfl⟩ (Go.same P S) λ_=>⟨p,rfl,.of q,p,[],rfl,g,rfl⟩⟩⟩
def zku (fd fk:Ev->Mo W):Ev->Mo W:=λρ n Q=>fd ρ n λx q=>fk ρ q λy B=>∃kvs st d,x = .dt kvs/\y = .d (stD st)/\xb kvs st=some d/\Q (.d d) B
def zka (F:X.A.units+1<cLine)(I:JB X Pn M a fa)(J:JB X Pn M b fb)(L:zoy b):JE X Pn M false (.Subscript a b pos) (zku fa fb):=by obtain⟨ta,O,U⟩:=I.ex;obtain⟨tb,Y,Z⟩:=J.ex;refine⟨_,xH F O Y L,⟨λA σ H ρ n Q R E P hf k=>?_⟩⟩;refine U.run A σ H ρ n _ _ E P hf λw1 m1 v1 H1 r1 b1 q=>?_;refine Z.run A σ H1 ρ m1 _ _ (E.stay q.st) q.pn r1  ?_;rintro w2 m2 v2 H2 ⟨kvs,st,d,e1,e2,e3,r⟩ b2 g2;subst e1 e2;obtain⟨ad,ks,rfl,B,hk⟩:=b1.stay g2.st;obtain⟨bd,xs,rfl,D,hx⟩:=xT b2;obtain rfl:=hx.of_ints;obtain⟨v,h1,h2⟩:=(hk.look (k:=st)).2 d e3;refine⟨ad,v,rfl,?_,k _ m2 _ H2 r (Val.of h2) (q.trans g2) λz=>by cases z⟩;rw[<- h1];exact zc2.i B D
def zeR {κ:Type}[DecidableEq κ](kvs:List (κ×Dt))(k:κ)(d:Dt):List (κ×Dt):=
 if (kvs.any λkv=>decide (kv.1=k))=true then kvs.map (λkv=>if kv.1=k then (kv.1,d) else kv) else kvs++[(k,d)]
def uB.any {κ:Type}[DecidableEq κ]{G:Hp}{k:κ}:∀ {kvs:List (κ×Dt)} {ks:List (κ×V)},uB G kvs ks->(ks.any λkv=>decide (kv.1=k))=kvs.any λkv=>decide (kv.1=k)
 | [],_,h=>by cases h;rfl
 | q::r,ks,⟨v,s,e,h1,h2⟩=>by subst e;rw[cA,cA,uB.any h2]
def uB.map1 {κ:Type}[DecidableEq κ]{G:Hp}{k:κ}{d:Dt}{x:V}(D:Is G d x):∀ {kvs:List (κ×Dt)} {ks:List (κ×V)},uB G kvs ks->uB G (kvs.map λkv=>if kv.1=k then (kv.1,d) else kv) (ks.map λkv=>if kv.1=k then (kv.1,x) else kv)
 | [],_,h=>by cases h;rfl
 | q::r,ks,⟨v,s,e,h1,h2⟩=>by
  subst e;rw[aA,aA];by_cases B:q.1=k
  ·rw[if_pos B,if_pos B];exact⟨x,_,rfl,D,uB.map1 D h2⟩
  ·rw[if_neg B,if_neg B];exact⟨v,_,rfl,h1,uB.map1 D h2⟩
def uB.snoc {κ:Type}{G:Hp}{k:κ}{d:Dt}{x:V}(B:Is G d x):∀ {kvs:List (κ×Dt)} {ks:List (κ×V)},uB G kvs ks->uB G (kvs++[(k,d)]) (ks++[(k,x)])
 | [],_,h=>by cases h;exact⟨x,[],rfl,B,rfl⟩
 | q::r,ks,⟨v,s,e,h1,h2⟩=>by subst e;exact⟨v,_,rfl,h1,uB.snoc B h2⟩
def uB.put{κ:Type}[DecidableEq κ]{k:κ}{kvs:List (κ×Dt)}{ks:List (κ×V)}(h:uB G kvs ks)(q:Is G d x):uB G (zeR kvs k d) (zal ks k x):=by
 unfold zeR zal;rw[h.any];split
 ·exact h.map1 q
 ·exact h.snoc q
def uB.len {κ:Type}{G:Hp}:∀ {kvs:List (κ×Dt)} {ks:List (κ×V)},uB G kvs ks->ks.length=kvs.length
 | [],_,h=>by cases h;rfl
 | q::r,ks,⟨v,s,e,h1,h2⟩=>by subst e;rw[a8,a8,uB.len h2]
def At3.wrX(h:At3 Pn B S M A σ H ρ n)(hi:i∈M)(e:ρ[i]?=some (some w))(s:σ[i]?=some (some (.ref ad)))(hw:WAt (L2.upd H ad o) (zT A H) w' (.ref ad))(hm':w'.mut=true)(np:NP o)(nt:∀xs,o≠.tup xs):At3 Pn B S M A σ (L2.upd H ad o) (ρ.set i (some w')) n:=by
 obtain⟨v,s1,_,s3⟩:=h.env.val i w e;rw[s] at s1;cases s1;obtain⟨a2,e2,hA,_,_⟩:=s3 hi;cases e2;have hlen:i<ρ.length:=(ae.mp e).1
 have hE:EnvR A M σ (L2.upd H ad o) (ρ.set i (some w')):=by
  refine⟨by rw[bf];exact h.env.len,λj u ej=>?_,λj q u u' b hj hq hne e1 e2=>?_,λb hb=>?_⟩
  ·by_cases hj:j=i
   ·subst hj;rw[aN hlen] at ej;cases ej;exact⟨.ref ad,s,λz=>absurd hi z,λ_=>⟨ad,rfl,hA,by show WAt _ _ _ _;rw[zV hA];exact hw,hm'⟩⟩
   ·rw[ay (Ne.symm hj)] at ej;obtain⟨v,t1,t2,t3⟩:=h.env.val j u ej;refine⟨v,t1,λz=>?_,λz=>?_⟩
    ·show WAt _ _ _ _;rw[zV hA];exact t2 z
    ·obtain⟨b,rfl,hb,hbb,hm⟩:=t3 z;have hne:b≠ad:=λq=>h.env.dis i j w u ad hi z (Ne.symm hj) e ej s (by rw[t1,q]);refine⟨b,rfl,hb,?_,hm⟩;show WAt _ _ _ _;rw[zV hA]
     cases u with
     | d x=>
      cases x with
      | lst l=>obtain⟨a2,xs,e2,g1,g2⟩:=hbb;cases e2;exact⟨b,xs,rfl,by rw[zi hne];exact g1,g2⟩
      | dct=>obtain⟨a2,xs,e2,g1,g2⟩:=hbb;cases e2;exact⟨b,xs,rfl,by rw[zi hne];exact g1,g2⟩
      | _=>cases hm
     | pen p=>cases hm
     | dk k=>obtain⟨a2,xs,e2,g1,g2⟩:=hbb;cases e2;exact⟨b,xs,rfl,by rw[zi hne];exact g1,g2⟩
     | dt k=>obtain⟨a2,xs,e2,g1,g2⟩:=hbb;cases e2;exact⟨b,xs,rfl,by rw[zi hne];exact g1,g2⟩
     | ss P w k=>obtain⟨a2,xs,e2,g1,g2⟩:=hbb;cases e2;exact⟨b,xs,rfl,by rw[zi hne];exact g1,g2⟩
     | df k=>obtain⟨a2,ob,xs,e2,g1,g2⟩:=hbb;cases e2;exact⟨b,ob,xs,rfl,by simp_all,g2⟩
     | kf k=>obtain⟨a2,ob,xs,e2,g1,g2⟩:=hbb;cases e2;exact⟨b,ob,xs,rfl,by simp_all,g2⟩
  ·have get:∀q (u:W),(ρ.set i (some w'))[q]?=some (some u)->∃u',ρ[q]?=some (some u'):=λq u z=>by
    by_cases hq:q=i
    ·subst hq;exact⟨w,e⟩
    ·rw[ay (Ne.symm hq)] at z;exact⟨u,z⟩
   obtain⟨v1,f1⟩:=get j u e1;obtain⟨v2,f2⟩:=get q u' e2;exact h.env.dis j q v1 v2 b hj hq hne f1 f2
  ·by_cases hb':b=ad
   ·subst hb';exact⟨_,zk,np,nt⟩
   ·rw[zi hb'];exact h.env.al b hb
 refine⟨hE,⟨h.frm.sub,h.frm.new,λb o eb nn nc=>?_,h.frm.al,h.frm.cn,λb z=>(by
  by_cases hb':b=ad
  ·subst hb';exact⟨_,zk,np⟩
  ·rw[zi hb'];exact h.frm.cs b z)⟩,h.pn.upd hA,by rw[zV hA];exact h.prot,h.fix,λj u b hj ej sj=>?_⟩
 ·have hne:b≠ad:=λq=>by
   subst q;rcases h.mine i w b hi e s with z | z
   ·exact z o eb nn
   ·exact nc z
  rw[zi hne];exact h.frm.st b o eb nn nc
 ·by_cases hj':j=i
  ·subst hj';exact h.mine j w b hj e sj
  ·rw[ay (Ne.symm hj')] at ej;exact h.mine j u b hj ej sj
def zkv (i:Nat)(fk f:Ev->Mo W):Ms:=λρ n k=>(∃kvs,ρ[i]?=some (some (.dt kvs)))/\f ρ n λw m=>fk ρ m λy q=>∃kvs st d,ρ[i]?=some (some (.dt kvs))/\w = .d d/\y = .d (stD st)/\kvs.length<lim/\k.nx (ρ.set i (some (.dt (zeR kvs st d)))) q
def zmE (i:Nat){x:Str}{np sp:Pos}(hu:X.A.units+1<cLine)(hk:JB X Pn M c fc)(he:JE X Pn M fr' e f)(hi:i∈M:=by decide)(hN:X.N[i]?=some x:=by rfl)(hv:Vis X.env.scope x:=by walk_at "v")(hd:(x==("__debug__" : Str))=false:=by decide)
  (I:(x==("__classdict__" : Str))=false:=by decide) (hs:swapsWith e (some (.Subscript (.Name x np) c p)) sp.line X.env=pure false:=by rfl) :
  JS X Pn S M fr (.Assign [.Subscript (.Name x np) c p] e sp) (zkv i fc f):=by
 obtain⟨te,q,r⟩:=he.ex;obtain⟨tk,qk,rk⟩:=hk.ex;refine⟨_,zey hu (qv i hN hv hd I) qk q hs,⟨ ?_⟩⟩;rintro B A σ H ρ n k D a kk ⟨⟨l0,e0⟩,hf⟩;obtain⟨v0,J,_,o3⟩:=a.env.val i _ e0;obtain⟨L,rfl,hA,ac,_⟩:=o3 hi;refine r.run A σ H ρ n _ _ a.env a.pn hf λw m v H1 r1 O g1 _=>⟨.ref L,J,?_⟩;have U:=a.step g1;refine rk.run A σ H1 ρ m _ _ U.env U.pn r1  ?_;rintro y m2 v2 H2 ⟨kvs,st,d,e,ed,ey,hz,r2⟩ b2 g2;subst ed ey;have a2:=U.step g2;obtain⟨v3,s3,_,o4⟩:=a2.env.val i _ e;rw[J] at s3;cases s3;obtain⟨ag,e4,_,hb,_⟩:=o4 hi;cases e4;obtain⟨a5,ks,e5,Y,F⟩:=hb;cases e5;obtain⟨bd,xs,rfl,Z,hx⟩:=xT b2;obtain rfl:=hx.of_ints;exact⟨L,_,rfl,zdK.i Y Z (zcv (by rw[F.len];exact cj hz)),kk.nx A σ _ _ m2 (a2.wrX (w':=.dt (zeR kvs st d)) hi e J ⟨L,_,rfl,zk,F.put (O.stay g2.st).is⟩ rfl (λk z=>by cases z) (λ_ z=>by cases z)) r2⟩
end
open PySem PySem.Spec L2
def zkE {a c:Int}{n:Nat}(q:0<=a)(h1:a<=n)(h2:n<=1000000)(B:0<=c)(D:c<2147483549):0<=(c+70009) * (2 * a+1)+6133 * a * a+577 * a/\(c+70009) * (2 * a+1)+6133 * a * a+577 * a<=11000000000000000:=by
 have F:(c+70009) * (2 * a+1)<=2147553558 * 2000001:=cS (by lia) (by lia) (by lia) (by lia);have I:0<=(c+70009) * (2 * a+1):=Int.mul_nonneg (by lia) (by lia);have J:a * a<=1000000 * 1000000:=cS (by lia) (by lia) (by lia) (by lia);have L:0<=a * a:=Int.mul_nonneg q q
 grind
def zqh{X:Cx}(K:PySem.W.Frag)(J:X.K=K){es:List Expr}{to:TE}{t:TA}{apos cpos:Pos}(L:QE X o to)(O:QA X (e::es) t)(B:attributeBase o "pop" X.env (eval o X.env)=eval o X.env:=by rfl)(I:((backTo cpos (starEach (e::es) X.env)).all (λx=>!x.1)&&(backToKw cpos (keywordEach [] X.env)).all (λx=>x.1.isSome)
   && decide ((e::es).length+([]:List Keyword).length+(if ([]:List Keyword).isEmpty then 0 else 1)<30))=true:=by rfl)(D:(apos.endLine==cpos.line)=true:=by rfl)(U:starEach (e::es) X.env=(false,eval e X.env)::starEach es X.env:=by rfl)(q:(backTo cpos (starEach es X.env)).any (·.1)=false:=by rfl) :
  QE X (.Call (.Attribute o "pop" apos) (e::es) [] cpos) (tBM K "list" zoo to t):=by
 subst J;exact zfM bN PySem.F.slot_list_pop PySem.F.type_list_pop zhH L O B I D U q
def zou:Sp:=λvs H Q E=>∃ (p c a:Addr) (ns:List Int) (n:Nat) (xs:List V),vs=[.ref p,.ref a]/\Pen H p c ns n/\n+xs.length<=1000000/\xs.length<=100000/\H a=some (.lst xs)/\
 ∀b ys H',H b=none->H' b=some (.lst ys)->ys.Perm xs->Pen H' p c ns (n+xs.length)->zv H H'->Q (.ref b) H'
def zmz(h:ys.Perm xs):∀ {l:List Dt},IsL G l xs->∃l':List Dt,l'.Perm l/\IsL G l' ys:=by
 induction h with
 | nil=>intro l h;exact⟨l,.refl _,h⟩
 | cons x _ I=>
  intro l h
  match l,h with
  | [],h=>exact absurd h (by intro z;cases z)
  | d::ds,⟨Y,r,e,h1,h2⟩=>
   cases e;obtain⟨l',p,B⟩:=I h2;exact⟨d::l',p.cons d,x,_,rfl,h1,B⟩
 | swap x y s=>
  intro l h
  match l,h with
  | [],h=>exact absurd h (by intro z;cases z)
  | [_],⟨_,_,e,_,h2⟩=>cases e;exact absurd h2 (by intro z;cases z)
  | d::e::ds,⟨_,_,q,h1,_,_,J,B,L⟩=>
   cases q;cases J;exact⟨e::d::ds,.swap _ _ _,_,_,rfl,B,_,_,rfl,h1,L⟩
 | trans _ _ D F=>
  intro l h;obtain⟨Z,O,h1⟩:=F h;obtain⟨U,p2,h2⟩:=D h1;exact⟨U,p2.trans O,h2⟩
def ziS:FV:=λPn q n R=>∃p c ns l,Pn=some (p,c,ns)/\q=[.pen p,.d (.lst l)]/\n+l.length<=1000000/\l.length<=100000/\∀l':List Dt,l'.Perm l->R (.d (.lst l')) (n+l.length)
def zkn:zud 2 true ziS zou:=by rintro vs H Q E ⟨Pn,A,ws,n,R,U,Y,hl,J,⟨p,c,ns,l,rfl,rfl,h1,h2,Z⟩,q⟩;obtain⟨v,y,rfl,b1,b2⟩:=zt3 Y;have e1:v = .ref p:=b1;subst e1;obtain⟨a,xs,rfl,ha,L⟩:=b2;have O:=L.length;refine⟨p,c,a,ns,n,xs,rfl,J.1,by lia,by lia,zw _ _ ha,λb ys H' I D B P' S'=>?_⟩;obtain⟨l',pl,F⟩:=zmz B L;refine q _ _ _ H' (Z l' pl) (xu F S' (U.new I) D) ⟨S',by simp_all,J.2⟩ λ_=>⟨b,rfl,.of I,b,ys,rfl,D,F.stay (yz S' (.of I))⟩
def zhf {α:Type}:∀ {l:List α} {k:Nat} (h:k<l.length),(l[k]::l.eraseIdx k).Perm l
 | [],_,h=>absurd h (by simp)
 | x::l,0,_=>.refl _
 | x::l,k+1,h=>by have:=zhf (l:=l) (k:=k) (by simpa using h);simp only[List.getElem_cons_succ,List.eraseIdx_cons_succ];exact (List.Perm.swap x _ _).trans (this.cons x)
def zim{xs ys zs:List V}(q:k<zs.length)(h:(ys++zs).Perm xs):(ys++[zs[k]]++zs.eraseIdx k).Perm xs:=by refine .trans ?_ h;rw[bK];exact (zhf q).append_left ys
section
variable {X:Cx}{Pn:Option zq}{M S:List Nat}{fr fr':Bool}{e a b c:Expr}{es:List Expr}{f fa fb fc:Ev->Mo W}{pos p:Pos}
def zvY(h1:QI X tg e q)(h2:QI X tg e B):QI X tg e (λσ H R=>q σ H R\/B σ H R):=⟨λpins s σ H R I h=>h.elim (h1.run pins s σ H R I) (h2.run pins s σ H R I)⟩
def zvu (fa:Ev->Mo W):Ev->Mo (List W):=λρ n Q=>zuj fa ρ n Q\/zuk fa ρ n Q
def zr3(K:PySem.W.Frag)(q:X.K=K)(h:JE X Pn M fr e f):JI X Pn M false tg e (zvu f):=by obtain⟨L,B,D⟩:=(yh (tg:=tg) K q h).ex;obtain⟨O,F,I⟩:=(zav (tg:=tg) K q h).ex;exact⟨_,zvY B F,⟨λA σ H ρ n Q R E P J k=>J.elim (λz=>.inl (D.run A σ H ρ n Q R E P z k)) λz=>.inr (I.run A σ H ρ n Q R E P z k)⟩⟩
def uB.keys {κ:Type}{G:Hp}:∀ {kvs:List (κ×Dt)} {ks:List (κ×V)},uB G kvs ks->ks.map (·.1)=kvs.map (·.1)
 | [],_,h=>by cases h;rfl
 | q::r,_,⟨v,s,e,_,h⟩=>by subst e;rw[aA,aA,uB.keys h]
def WAt.mv(t:∀o,T ad=some o->T' ad=some o)(g:xm G G')(m:w.mut=true)(h:WAt T G w (.ref ad)):WAt T' G' w (.ref ad):=by
 cases w with
 | d x=>
  cases x with
  | lst l=>obtain⟨a2,xs,e2,g1,g2⟩:=h;cases e2;exact⟨ad,xs,rfl,t _ g1,g2.stay (zv.same g)⟩
  | dct=>obtain⟨a2,xs,e2,g1,g2⟩:=h;cases e2;exact⟨ad,xs,rfl,t _ g1,g2⟩
  | _=>cases m
 | pen p=>cases m
 | dk k=>obtain⟨a2,xs,e2,g1,g2,g3⟩:=h;cases e2;exact⟨ad,xs,rfl,t _ g1,g2.stay (zv.same g),g3⟩
 | dt k=>obtain⟨a2,xs,e2,g1,g2⟩:=h;cases e2;exact⟨ad,xs,rfl,t _ g1,g2.stay (zv.same g)⟩
 | ss P w k=>obtain⟨a2,xs,e2,g1,g2⟩:=h;cases e2;exact⟨ad,xs,rfl,t _ g1,g2.stay (zv.same g)⟩
 | df k=>obtain⟨a2,ob,xs,e2,g1,g2⟩:=h;cases e2;exact⟨ad,ob,xs,rfl,t _ g1,g2.stay (zv.same g)⟩
 | kf k=>obtain⟨a2,ob,xs,e2,g1,g2⟩:=h;cases e2;exact⟨ad,ob,xs,rfl,t _ g1,g2.stay (zv.same g)⟩
def At3.move(h:At3 Pn B S M A σ H ρ n)(hj:j∈M)(hi:i∉M)(as:i∉S)(e:ρ[j]?=some (some w))(s:σ[j]?=some (some (.ref F))):At3 Pn B S M (λb=>A b/\b≠F) (σ.set i (some (.ref F))) H ((ρ.set j none).set i (some w)) n:=by
 obtain⟨v,s1,_,s3⟩:=h.env.val j w e;rw[s] at s1;cases s1;obtain⟨a2,e2,hA,ag,an⟩:=s3 hj;cases e2;have a1:i≠j:=λz=>hi (z ▸ hj);have I:∀b,(A b/\b≠F)->A b:=λb z=>z.1;have J:xm (zT A H) (zT (λb=>A b/\b≠F) H):=yM I
 have U:∀q (u:W),((ρ.set j none).set i (some w))[q]?=some (some u)->q≠i->q≠j/\ρ[q]?=some (some u):=λq u z Z=>by
  rw[ay (Ne.symm Z)] at z;by_cases L:q=j
  ·subst L;rw[List.getElem?_set] at z
   simp_all
  ·rw[ay (Ne.symm L)] at z;exact⟨L,z⟩
 have Y:¬ B.A0 F:=λz=>by
  rcases h.mine j w F hj e s with q | q
  ·obtain⟨o,o1,o2,_⟩:=h.frm.al F z;exact q o o1 o2
  ·exact h.frm.cn F q z
 have ac:Val (λb=>A b/\b≠F) H w (.ref F):=by exact WAt.mv (λo ho=>zD (λz=>z.2 rfl) ho) J an ag
 refine⟨⟨?_,?_,?_,?_⟩,⟨λb z=>⟨h.frm.sub b z,λq=>Y (q ▸ z)⟩,λb z=>h.frm.new b z.1,h.frm.st,h.frm.al,h.frm.cn,h.frm.cs⟩,h.pn.less I,h.prot.trans (zv.same J),λk hk=>?_,λk u b hk ek sk=>?_⟩
 ·rw[bf,bf,bf];exact h.env.len
 ·intro q u eq;by_cases Z:q=i
  ·subst Z
   have O:q<(ρ.set j none).length:=by
    have:=(ae.mp eq).1
    simp_all
   rw[aN O] at eq;cases eq;rw[bf] at O;refine⟨.ref F,aN (by rw[h.env.len];exact O),λ_=>ac,λz=>absurd z hi⟩
  ·obtain⟨L,z⟩:=U q u eq Z;obtain⟨v,t1,t2,t3⟩:=h.env.val q u z;refine⟨v,by rw[ay (Ne.symm Z)];exact t1,λy=>WAt.up (zv.same J) (zv.same J) (t2 y),λy=>?_⟩;obtain⟨b,rfl,hb,av,hm⟩:=t3 y;refine⟨b,rfl,⟨hb,λq'=>?_⟩,WAt.up (zv.refl _) (zv.same J) av,hm⟩;subst q';exact h.env.dis j q w u b hj y (Ne.symm L) e z s t1
 ·intro q k u u' b Z hk a0 e1 e2;have ap:q≠i:=λz=>hi (z ▸ Z);have D:k≠i:=λz=>hi (z ▸ hk);rw[ay (Ne.symm ap),ay (Ne.symm D)];exact h.env.dis q k u u' b Z hk a0 (U q u e1 ap).2 (U k u' e2 D).2
 ·exact λb z=>h.env.al b z.1
 ·have D:k≠i:=λz=>as (z ▸ hk);rw[ay (Ne.symm D)];exact h.fix k hk
 ·have D:k≠i:=λz=>hi (z ▸ hk);rw[ay (Ne.symm D)] at sk;exact h.mine k u b hk (U k u ek D).2 sk
def zpz (i j:Nat):Ms:=λρ n k=>∃w,ρ[j]?=some (some w)/\k.nx ((ρ.set j none).set i (some w)) n
def zgy(j:Nat){x y:Str}{px L sp:Pos}(Y:X.N.Nodup)(hi:X.N[i]?=some x)(Z:Loc X.env.scope x)(O:j∈M:=by decide)(q:i∉M:=by decide)(F:i∉S:=by decide)(I:X.N[j]?=some y:=by rfl)(hv:Vis X.env.scope y:=by walk_at "v")(hd:(y==("__debug__" : Str))=false:=by decide)(J:(y==("__classdict__" : Str))=false:=by decide)(hs:swapsWith (.Name y L) (some (.Name x px)) sp.line X.env=pure false:=by rfl)(hf:X.fn x=true\/X.env.scope.names.lookup x=some .local:=by walk_at "l"):JS X Pn S M fr (.Assign [.Name x px] (.Name y L) sp) (zpz i j):=by
 refine⟨_,ug (i:=i) Y hi Z (qv j I hv hd J) hs hf,⟨ ?_⟩⟩;rintro B A σ H ρ n k D a kk ⟨w,e,r⟩;obtain⟨v,U,_,s3⟩:=a.env.val j w e;obtain⟨ad,rfl,hA,_,_⟩:=s3 O;exact⟨.ref ad,U,kk.nx _ _ H _ n (a.move O q F e U) r⟩
end
open PySem PySem.Spec L2
end L3
namespace L3
open PySem PySem.Spec L2
structure StOk (rm st:List Int):Prop where
 len:st.length=rm.length
 box:∀b:Int,0<=b->b<rm.length->0<=z9 st b/\z9 st b<z9 rm b
def xR:∀ (ns:List Int),(∀n∈ns,1<=n)->((yQ (ns.map zj)).length:Int)=yI ns:=by
 have:∀ (k:Nat) (ns:List Int),ns.length=k->(∀n∈ns,1<=n)->((yQ (ns.map zj)).length:Int)=yI ns:=by
  intro k
  induction k with
  | zero=>intro ns e _;rw[bm e];rfl
  | succ k B=>
   intro ns e h
   obtain⟨m,x,rfl⟩:∃m x,ns=m++[x]:=by
    have q:ns≠[]:=by intro z;rw[z] at e;cases e
    exact⟨ns.dropLast,ns.getLast q,(bn q).symm⟩
   rw[ai] at e;rw[az,aA,dD,xf,uu,ux,zW];have h1:=B m (by simpa using e) λn D=>h n (be _ D);have h2:=h x (aV _ (by simp));rw[Int.natCast_mul,h1,cD (by lia)]
 simp_all
def za9:∀ {ns:List Int},(∀n∈ns,1<=n)->1<=yI ns:=λ{ns} h=>by
 have h1:=xR ns h
 have:∀ (ns:List Int) (a:Int),1<=a->(∀n∈ns,1<=n)->1<=ns.foldl (· * ·) a:=by
  intro ns
  induction ns with
  | nil=>intro a q _;exact q
  | cons n ns D=>
   intro a q B;refine D (a * n) ?_ λm F=>B m (ao _ F);have:=B n ak;exact Int.le_trans (by decide) (cS q this (by decide) (by lia))
 exact this ns 1 (by decide) h
def zk4 {ns:List Int}(q:ns≠[])(h:∀n∈ns,2<=n):2<=yI ns:=by
 obtain⟨m,x,rfl⟩:∃m x,ns=m++[x]:=⟨ns.dropLast,ns.getLast q,(bn q).symm⟩;rw[ux];have h1:=za9 (ns:=m) λn B=>by have:=h n (be _ B);lia
 have h2:=h x (aV _ (by simp));exact Int.le_trans (by simp) (cS h1 h2 (by decide) (by lia))
def zc7 (a b:List Int)(k:Nat):Wi:=⟨((List.range a.length).filter λi=>!decide (i=k)).map λi:Nat=>((i:Int),a.getD i 0),(k:Int),b.getD k 0,a.getD k 0⟩
def zht {rm a b:List Int}{k:Nat}(I:StOk rm a)(J:StOk rm b)(L:k<a.length)(D:a.getD k 0≠b.getD k 0):WishOk rm (zc7 a b k):=by
 have O:=I.len
 have A:∀i:Nat,i<rm.length->0<=a.getD i 0/\a.getD i 0<z9 rm (i:Int):=λi hi=>by have:=I.box (i:Int) (by lia) (by lia);rwa[zP] at this
 have Bb:∀i:Nat,i<rm.length->0<=b.getD i 0/\b.getD i 0<z9 rm (i:Int):=λi hi=>by have:=J.box (i:Int) (by lia) (by lia);rwa[zP] at this
 have B:k<rm.length:=by lia
 refine⟨⟨λq F=>?_,?_⟩,by show (0:Int)<=(k:Int);lia,by show (k:Int)<_;lia,λq F=>?_,(Bb k B).1,(Bb k B).2,(A k B).1,(A k B).2,λz=>D z.symm⟩
 ·obtain⟨i,hi,rfl⟩:=aC.mp F
  simp_all
 ·show List.Pairwise (λa b:Int×Int=>a.1<b.1) (((List.range a.length).filter λi=>!decide (i=k)).map λi:Nat=>((i:Int),a.getD i 0));rw[br];refine List.Pairwise.imp (R:=λi j:Nat=>i<j) (λ{i j} h=>?_) (List.Pairwise.filter _ List.pairwise_lt_range)
  grind
 ·obtain⟨i,hi,rfl⟩:=aC.mp F;have:=(a9.mp hi).2;show (i:Int)≠(k:Int)
  grind
def zuF (rm:List Int)(bk:List Wi)(g:List (Int×Int)):List (List Int):=(zvn rm g).filter λst=>decide (u6 bk st (g.map (·.1))=[])
@[reducible] def yK (bk:List Wi):Dt:=.tup (bk.map zQ)
def ya (rm:List Int)(bk:List Wi):Prop:=∀x∈bk,WishOk rm x
@[reducible] def F_bett:FV:=λ_ B n R=>∃rm bk st q,B=[.d (stD rm),.d (yK bk),.d (stD st),.d (stD q)]/\RoomOk rm/\ya rm bk/\st.length=rm.length/\R (.d (zaq (zl8 bk st q))) n
@[reducible] def zt6:FV:=λ_ q n R=>∃rm bk g,q=[.d (stD rm),.d (yK bk),.d (zeQ g)]/\RoomOk rm/\ya rm bk/\Giv rm g/\R (.d (zaq (zuF rm bk g))) n
def yZ (r:Nat):ziD 0 r=(List.range r).map λk:Nat=>W.d (.int (k:Int)):=by
 unfold ziD
 simp_all
def zdP {ns:List Int}(F:ns.length<=8)(q:∀m∈ns,2<=m/\m<=4)(k:Nat):(yQ ((ns.take k).map zj)).length<=65536:=by
 have:=zhc (cs:=ns.map zj) (by simp_all) (λc B=>by obtain⟨m,D,rfl⟩:=aC.mp B;have:=q m D;rw[zW];lia) k
 simp_all
def zcg{q:List (List Int)}(h:i<q.length):q.getD i []∈q:=by simp_all
def zrl {L:List Dt}{a:Int}{G:Dt->Prop}(q:0<=a)(h1:a<L.length)(h:∀x∈L,G x):∃x,atI L a=some x/\G x:=by obtain⟨d,h2,B⟩:=zrm q h1;exact⟨d,h2,h d B⟩
def zbK:∀ {rm:List Int},(∀r∈rm,2<=r/\r<=4)->yI rm<=256->rm.length<=8:=λ{rm} B I=>by
 have:∀ (k:Nat) (rm:List Int),rm.length=k->(∀r∈rm,2<=r/\r<=4)->(2:Int) ^ k<=yI rm:=by
  intro k
  induction k with
  | zero=>intro rm e _;rw[bm e];decide
  | succ k F=>
   intro rm e B
   obtain⟨m,x,rfl⟩:∃m x,rm=m++[x]:=by
    have q:rm≠[]:=by intro z;rw[z] at e;cases e
    exact⟨rm.dropLast,rm.getLast q,(bn q).symm⟩
   rw[ai] at e;have h1:=F m (by simpa using e) λn D=>B n (be _ D);have h2:=B x (aV _ (by simp));rw[ux,Int.pow_succ];have J:(0:Int)<=2 ^ k:=Int.pow_nonneg (by decide);exact cS h1 h2.1 (by decide) (by lia)
 apply bG;intro D;have h1:=this _ rm rfl B
 have h2:(2:Int) ^ 9<=2 ^ rm.length:=by
  have:(2:Nat) ^ 9<=2 ^ rm.length:=cq (by decide) (by lia)
  exact_mod_cast this
 grind
def zcc {a b:List Int}(B:a.length=b.length)(q:a≠b):∃k yf,((List.range a.length).filter λk=>!decide (a.getD k 0=b.getD k 0))=k::yf/\k<a.length/\a.getD k 0≠b.getD k 0:=by
 cases h:(List.range a.length).filter λk=>!decide (a.getD k 0=b.getD k 0) with
 | nil=>
  exfalso;apply q;apply cW B
  simp_all
 | cons k yf=>
  have D:k∈(List.range a.length).filter λk=>!decide (a.getD k 0=b.getD k 0):=by rw[h];simp
  obtain⟨h1,h2⟩:=a9.mp D
  simp_all
def StOk.snoc {rm st:List Int}{w v:Int}(h:StOk rm st)(F:0<=v)(I:v<w):StOk (rm++[w]) (st++[v]):=by
 have J:=h.len;refine⟨by simp_all,λb q B=>?_⟩;rw[ai] at B;by_cases D:b<(rm.length:Int)
 ·rw[zbF q (by lia),zbF q D];exact h.box b q D
 ·have e:b=(rm.length:Int):=by
   have:b<(rm.length:Int)+1:=by simpa using B
   lia
  subst e;rw[zbE,<- J,zbE];exact⟨F,I⟩
def ziG {sts q B:List (List Int)}{k w:Nat}(F:k<sts.length)(Y:sts.Nodup)(h1:q.Nodup)(h2:∀x∈q,∃a∈sts.take k,∃v:Int,0<=v/\v<w/\x=a++[v])(Z:q.length=k * w)(I:B.Perm ((List.range w).map λv:Nat=>sts.getD k []++[(v:Int)])) :
  (q++B).Nodup/\(∀x∈q++B,∃a∈sts.take (k+1),∃v:Int,0<=v/\v<w/\x=a++[v])/\(q++B).length=(k+1) * w:=by
 have J:sts.getD k []=sts[k]:=by simp[F]
 have ht:sts.take (k+1)=sts.take k++[sts[k]]:=zl (aj F)
 have L:∀x∈B,∃v:Int,0<=v/\v<w/\x=sts[k]++[v]:=λx D=>by
  obtain⟨v,hv,rfl⟩:=aC.mp (I.mem_iff.mp D)
  simp_all
 have nB:B.Nodup:=by
  refine I.nodup_iff.mpr ?_;show List.Pairwise _ _;rw[br];refine List.Pairwise.imp (λ{a b} h e=>h ?_) dG;have:=List.append_cancel_left e
  grind
 have ac:sts[k]∉sts.take k:=λz=>by have O:=Y;rw[<- cL k sts,List.drop_eq_getElem_cons F] at O;exact (dv.mp O).2.2 _ z _ ak rfl
 refine⟨dv.mpr ⟨h1,nB,λx D y hy e=>?_⟩,λx D=>?_,?_⟩
 ·obtain⟨a,U,v,_,_,rfl⟩:=h2 x D;obtain⟨u,_,_,rfl⟩:=L y hy
  simp_all
 ·rw[ht];rcases aG.mp D with z | z
  ·obtain⟨a,U,r⟩:=h2 x z;exact⟨a,be _ U,r⟩
  ·obtain⟨v,r⟩:=L x z;exact⟨_,aV _ (by simp),v,r⟩
 ·rw[ai,Z,I.length_eq,ab,ax,eU]
def xE {α q:Type}(f:α->q)(l:List α)(lo hi:Option Int):ua (l.map f) lo hi=(ua l lo hi).map f:=by
 unfold ua
 simp_all
def zca {α:Type}(l:List α)(lo hi:Option Int):(ua l lo hi).length<=l.length:=by unfold ua;rw[aQ,cV];lia
def zru {st:List Int}{b w:Int}(q:0<=b):ua st none (some b)++[w]++ua st (some (b+1)) none=chg st b w:=by
 have h:=zoG st (w:=w) q;have B:zc5 (st.map V.int) none (some b)=(ua st none (some b)).map V.int:=by rw[<- xE];rfl
 have D:zc5 (st.map V.int) (some (b+1)) none=(ua st (some (b+1)) none).map V.int:=by rw[<- xE];rfl
 rw[B,D] at h;have F:(ua st none (some b)).map V.int++[V.int w]++(ua st (some (b+1)) none).map V.int=(ua st none (some b)++[w]++ua st (some (b+1)) none).map V.int:=by rw[az,az];rfl
 rw[F] at h;exact List.map_inj_right (by grind) |>.mp h
def ziw {l:List (List Int)}(h:l.Nodup){k:Nat}(q:k+1<l.length):l.getD k []≠l.getD (k+1) []:=by have:=bU.mp h k (k+1) (by lia) q (by lia);simpa [show k<l.length by lia,q] using this
def ya.app{rm:List Int}(h:ya rm bk)(h':ya rm q):ya rm (bk++q):=λx B=>(aG.mp B).elim (h x) (h' x)
def ya.set{rm:List Int}(h:ya rm bk)(q:WishOk rm x)(i:Nat):ya rm (bk.set i x):=λy B=>(List.mem_or_eq_of_mem_set B).elim (h y) λe=>e ▸ q
def ya.ins{rm:List Int}(h:ya rm bk)(q:WishOk rm x)(i:Nat):ya rm (zn2 bk i x):=λy B=>by
 rcases aG.mp B with z | z
 ·exact h y (bR z)
 ·rcases aK.mp z with rfl | z
  ·exact q
  ·exact h y (List.mem_of_mem_drop z)
def zo9 {α q:Type}(f:α->q)(l:List α)(i:Nat)(x:α):zn2 (l.map f) i (f x)=(zn2 l i x).map f:=by
 unfold zn2
 simp_all
def zo8 {α:Type}(l:List α)(i:Nat)(x:α):(zn2 l i x).length=l.length+1:=by
 unfold zn2
 grind
def unI:Dt->Int
 | .int i=>i
 | _=>0
def zbY {α:Type}(l:List α)(k:Nat):ua l none (some (k:Int))=l.take k:=by
 unfold ua;rw[HT.sIx_none,HT.sIx_nat,eB,eR]
 grind
def xS:∀ (ns st:List Int),st∈yQ (ns.map zj)->StOk ns st:=by
 have:∀ (k:Nat) (ns:List Int),ns.length=k->∀st,st∈yQ (ns.map zj)->StOk ns st:=by
  intro k
  induction k with
  | zero=>
   intro ns e st q;rw[bm e] at q ⊢;rw[aB.mp q];exact⟨rfl,λb O D=>absurd D (by simp;lia)⟩
  | succ k F=>
   intro ns e st q
   obtain⟨m,x,rfl⟩:∃m x,ns=m++[x]:=by
    have B:ns≠[]:=by intro z;rw[z] at e;cases e
    exact⟨ns.dropLast,ns.getLast B,(bn B).symm⟩
   rw[ai] at e;rw[az,aA,dD,xf] at q;obtain⟨r,I,q⟩:=cH.mp q;obtain⟨v,J,rfl⟩:=aC.mp q;obtain⟨j,L,rfl⟩:=aC.mp J;have:=aM.mp L;exact (F m (by simpa using e) r I).snoc (by lia) (by lia)
 simp_all
def zgQ {κ:Type}[DecidableEq κ](kvs:List (κ×Dt))(k:κ)(d:Dt):(zeR kvs k d).length<=kvs.length+1:=by
 unfold zeR;split
 all_goals simp_all
def zdq (bk:List Wi)(x:Wi)(st q:List Int):u6 (bk++[x]) st q=u6 bk st q++(if (zaK st x&&!q.contains x.b)=true then [chg st x.b x.r] else []):=by
 unfold u6
 grind
def zil {ns:List Int}:(Dt.lst (ns.map .int)).eqOk:=zcd (ns:=ns)
def zoF{st:List Int}{b x:Int}(q:0<=b)(B:st.length<=1000)(h:Q (.d (stD (chg st b x))) n):zgk (.d (.tup (ua (st.map Dt.int) none (some b)))) (.d (.tup [.int x])) n λw m=>zgk w (.d (.tup (ua (st.map Dt.int) (some (b+1)) none))) m Q:=by
 have D:=zca st none (some b);have F:=zca st (some (b+1)) none;rw[xE,xE];refine⟨_,_,rfl,rfl,by rw[ab];exact ar (by simp;lia:_<=1001) (by decide),_,_,rfl,rfl,by rw[ai,ab,ab];exact ar (by simp;lia:_<=2001) (by decide),?_⟩
 have e:(ua st none (some b)).map Dt.int++[Dt.int x]++(ua st (some (b+1)) none).map Dt.int=(chg st b x).map Dt.int:=by rw[<- zru q,az,az];rfl
 rw[e];exact h
section
variable {X:Cx}{Pn:Option zq}{M S:List Nat}{fr fr':Bool}{e a b c:Expr}{es:List Expr}{f fa fb fc:Ev->Mo W}{pos p:Pos}
def zkB (t:Ev->Mo Bool)(fb:Ms):Ms:=λρ n k=>∃I:Nat->Ev->Nat->Prop,(∃m,I m ρ n)/\
 ∀m q J,I m q J->t q J λb L=>if b=true then fb q L { k with nx:=λB F=>∃D,D<m/\I D B F,ct:=λB F=>∃D,D<m/\I D B F,bk:=k.nx } else k.nx q L
def zd9 {body:List Stmt}{t:Ev->Mo Bool}{fb:Ms}(hp:PassesOwn (model X.prog X.w) X.A X.env X.xe)(hc:JT X Pn M c t)(hb:JSs X Pn S M fr body fb):JS X Pn S M fr (.While c body [] pos) (zkB t fb):=by
 obtain⟨tc,qc,rc⟩:=hc.ex;obtain⟨tb,qb,rb⟩:=hb.ex;refine⟨_,⟨zm8 hp qc.run qb.run⟩,⟨ ?_⟩⟩;rintro B A σ H ρ n k D a kk ⟨I,⟨m0,i0⟩,it⟩;refine⟨λm F H'=>∃A' q O,At3 Pn B S M A' F H' q O/\I m q O,⟨m0,A,ρ,n,a,i0⟩,?_⟩;rintro m F H' ⟨A',q,O,a',hI⟩;refine rc.run A' F H' q O _ _ a'.env a'.pn (it m q O hI) λb n2 H2 r g=>?_;have a2:=a'.step g
 cases b with
 | false=>
  rw[if_neg (by decide)] at r ⊢;exact kk.nx A' F H2 q n2 a2 r
 | true=>
  rw[if_pos rfl] at r ⊢;refine⟨λZ H3=>∃A' q O,At3 Pn B S M A' Z H3 q O/\∃L,L<m/\I L q O,λZ H3 ⟨A3,ac,n3,a3,L,hm,h⟩=>⟨L,hm,A3,ac,n3,a3,h⟩,?_⟩;refine rb.run B A' F H2 q n2 { k with nx:=λU n3=>∃L,L<m/\I L U n3,ct:=λU n3=>∃L,L<m/\I L U n3,bk:=k.nx } _ a2 ⟨?_,?_,?_,kk.fc,?_⟩ r
  ·exact λA4 Y H4 J n4 a4 r4=>⟨A4,J,n4,a4,r4⟩
  ·exact λA4 Y H4 J n4 a4 r4=>kk.nx A4 Y H4 J n4 a4 r4
  ·exact λA4 Y H4 J n4 a4 r4=>⟨A4,J,n4,a4,r4⟩
  ·exact kk.rt
def zlQ{t:Ev->Mo Bool}{fb:Ms}{ρ:Ev}{k:Kt}(I:Nat->Ev->Nat->Prop)(J:Nat)(U:I J ρ n)(h:∀m q L,I m q L->t q L λb O=>if b=true then fb q O { k with nx:=λB F=>∃D,D<m/\I D B F,ct:=λB F=>∃D,D<m/\I D B F,bk:=k.nx } else k.nx q O):zkB t fb ρ n k:=⟨I,⟨J,U⟩,h⟩
end
end L3
namespace L2
open PySem PySem.Spec PyProof.Rows
def zat(ke ve gens scope pos):eval (.DictComp ke ve gens scope pos) env=comprehension (.DictComp ke ve gens scope pos) scope env (firstIterPos gens pos) newDict (firstAsync gens) (firstIter gens env):=rfl
def zdW (ke ve target iter:Expr)(ifs:List Expr)(scope:Scope)(pos:Pos)(it:Value)(d:Addr)(env:Env) :
  compTurn (.DictComp ke ve [⟨target,iter,ifs,0⟩] scope pos) 0 it (.ref d) env=(do
   standAt iter.pos
   match <- pyNext it with
   | none=>pure (.done .next)
   | some v=>
    letOwnedTupleGo target it v
    assign target env v
    let mut ok:=true
    for c in ifs do
     if ok then ok <- isTrue c env (eval c env)
    if ok then
     (do
      let kv <- eval ke env
      let vv <- holding [kv] (eval ve env)
      standAt { ke.pos with endLine:=ve.pos.endLine,endCol:=ve.pos.endCol }
      holding [kv,vv] (dictSet d kv vv))
    again (.compLoop (.DictComp ke ve [⟨target,iter,ifs,0⟩] scope pos) 0 it (.ref d) env)):=by rfl
section
variable {prog:Program}{w:World}{A:Around}{E:Value->Shared->Prop}{R:Result->Shared->Prop}{s:Shared}
def uW {ke ve target iter ifs yf scope pos it acc env}
  (h0:codeAny (model prog w) A (.compLoop (.DictComp ke ve (⟨target,iter,ifs,0⟩::yf) scope pos) 0 it acc env) R s)
  (h:wpAny (model prog w) A (pyIter it) (λit' s'=>codeAny (model prog w) A (.compLoop (.DictComp ke ve (⟨target,iter,ifs,0⟩::yf) scope pos) 0 it' acc env) R s')
   (notedBy (model prog w) A env λx s'=>R (.error x) s') s) :
  codeAny (model prog w) A (.compStart (.DictComp ke ve (⟨target,iter,ifs,0⟩::yf) scope pos) 0 it acc env) R s:=by
 refine dj ?_;show wpAny _ _ ((compStart (.DictComp ke ve (⟨target,iter,ifs,0⟩::yf) scope pos) 0 it acc env).onRaise (λx=>do noteFrame x env;standAt theWindowsPlace)) _ _ s;refine wpAny_notedAt ?_;unfold compStart;show wpAny _ _ (ask >>= _) _ _ s;refine aa (bp (wpAny_ite ?_));split
 ·first
   | exact aa (by grind)
   | exact af (And.intro rfl h0)
 ·first
   | exact aa (by grind)
   | (refine aa (eW ?_);show wpAny _ _ (standAt iter.pos >>= _) _ _ s;exact aa (bA (aa (aS h (λit' s' h'=>af (And.intro rfl h')) λ_ _ x=>x))))
def zbm(I:Nat->Shared->Prop)(turn:∀n s,I n s->wpAny (model prog w) A (pyNext it) (λr s₁=>match r with
   | none=>R (.ok .next) s₁
   | some v=>wpAny (model prog w) A (letOwnedTupleGo target it v) (λ_ s₂=>wpAny (model prog w) A (assign target env v) (λ_ s₃=>
     wpAny (model prog w) A (forIn ifs true λc r=>if r=true then do let ok <- isTrue c env (eval c env);pure (ForInStep.yield ok) else pure (ForInStep.yield r)) (λok s₄=>
      if ok=true then wpAny (model prog w) A (eval ke env) (λx s₅=>wpAny (model prog w) A (eval ve env) (λy s₆=>
       wpAny (model prog w) A (dictSet d x y) (λ_ s₇=>∃m,m<n/\I m s₇) (λ_ _=>False) s₆) (λ_ _=>False) s₅) (λ_ _=>False) s₄
      else ∃m,m<n/\I m s₄) (λ_ _=>False) s₃) (λ_ _=>False) s₂) (λ_ _=>False) s₁) (λ_ _=>False) s)(n:Nat)(h:I n s) :
  codeAny (model prog w) A (.compLoop (.DictComp ke ve [⟨target,iter,ifs,0⟩] scope pos) 0 it (.ref d) env) R s:=by
 refine el rfl I (λn s hI=>?_) n h;show wpAny _ A ((compTurn (.DictComp ke ve [⟨target,iter,ifs,0⟩] scope pos) 0 it (.ref d) env).onRaise (λx=>do noteFrame x env;theTreesLotGoes x)) _ _ s;refine eK ?_;rw[zdW];refine aa (bA (aa (aS (turn n s hI) (λr s₁ h₁=>?_) λ_ _ h'=>h'.elim)))
 cases r with
 | none=>exact af h₁
 | some v=>
  refine aa (aS h₁ (λ_ s₂ h₂=>?_) λ_ _ h'=>h'.elim);refine aa (aS h₂ (λ_ s₃ h₃=>aa (aS h₃ (λok s₄ h₄=>?_) λ_ _ h'=>h'.elim)) λ_ _ h'=>h'.elim)
  cases ok with
  | false=>exact af ⟨rfl,h₄⟩
  | true=>
   refine aa (aa (aS h₄ (λx s₅ h₅=>?_) λ_ _ h'=>h'.elim));refine aa (bz (aS h₅ (λy s₆ h₆=>?_) λ_ _ h'=>h'.elim));refine aa (bA (bz (aS h₆ (λ_ s₇ h₇=>?_) λ_ _ h'=>h'.elim)));exact af ⟨rfl,h₇⟩
def ziv(h:Q (.ref s.heap.objs.size) { s with heap:=s.heap.push { cls:=.type "dict",data:=.dict #[] } }):wpAny (model prog w) A (newDict) Q E s:=by simp only[newDict,newObj];exact aa (eO (af h))
end
section
variable {X:Cx}{pins:List (Addr×Obj)}{σ:St}{H:Hp}{s:Shared}{a:Addr}{y v:V}{u r:Value}{o:Option V}{A:Around}{E:Value->Shared->Prop}
def zjk(hu:A.units+1<cLine)(I:Inv X pins σ H s)(g:zdK H a y v H')(Z:y1 y u)(rv:y1 v r)(h:∀s',Inv X pins σ H' s'->Q () s') :
  wpAny (model X.prog X.w) A (dictSet a u r) Q E s:=by
 rcases g with ⟨kvs,k,e,ey,l,eH⟩ | ⟨kvs,k,b,e,ey,eb,l,eH⟩
 ·subst ey eH;obtain⟨z,J,vs,B,L⟩:=zoO I.hok e;have O:vs.length<=sizeLine:=by rw[<- B.length];exact z
  have U:(zal kvs k v).length<=sizeLine:=by have:=xW kvs k v;lia
  refine wpAny_dictSet_pairs (hsz:=O) (zkg Z) L λh' D Y=>h _ ?_;have he:∃q,h'.get? a=some q:=let ⟨q,_,_,F,_⟩:=D;⟨q,F⟩;exact zcb I (by rw[e];exact True.intro) Y he (zjr U J (B.put k rv) D)
 ·subst ey eH;cases (show u=Value.ref b from Z);obtain⟨z,J,xs,B,L⟩:=zrH I.hok e;have O:xs.length<=sizeLine:=by rw[<- dL B];exact z
  have U:(zal kvs k v).length<=sizeLine:=by have:=xW kvs k v;lia
  refine wpAny_dictSet_heap (hsz:=O) (Nat.lt_of_succ_lt hu) (zhE I.hok eb) L λh' D Y=>h _ ?_;obtain⟨q,es,ep,F,h2,h3,h4,_,h5⟩:=D;refine zcb I (by rw[e];exact True.intro) Y ⟨q,F⟩ ⟨U,J,_,(B.put k eb rv).keeps λc ys ec=>?_,q,es,ep,F,h2,h3,h4,h5⟩;rw[zi (by grind)];exact ec
end
def zu1 (g:TG)(ti:TT)(tk tv:TE)(acc:Addr)(N:St->Hp->Prop)(x:V)(σ:St)(H:Hp):Prop:=
 g x σ H λq H3=>ti q H3 λB H4=>if B=true then tk q H4 λy H5=>tv q H5 λv H6=>∃H7,zdK H6 acc y v H7/\N q H7 else N q H4
def zu0 (J:It)(g:TG)(ti:TT)(tk tv:TE)(acc:Addr)(Q:VK)(σ:St)(H:Hp):Prop:=∃W:Nat->Nat->St->Hp->Prop,(∃m,W 0 m σ H)/\
 ∀i m q H',W i m q H'->(J.stop i H'/\Q (.ref acc) H')\/(J.go i H'/\∃N:St->Hp->Prop,(∀ B H2,N B H2->∃D,D<m/\W (i+1) D B H2)/\∀x H2,J.yld i H' x H2->zu1 g ti tk tv acc N x q H2)
def zfZ (o0:HO)(wi:TI)(g:TG)(ti:TT)(tk tv:TE)(cix:List (Option Nat)):TE:=λσ H Q=>wi σ H λJ H1=>∀acc,H1 acc=none->zu0 J g ti tk tv acc Q (x6 σ cix) (upd H1 acc o0)
section
variable {X:Cx}{Fam:Cx->Prop}{scope:Scope}{N:List Str}{cix:List (Option Nat)}{z:Str}{use:Option (Value->Sem Unit)}{Qp:Value->Shared->Prop}{elt ke ve tg iter tg2 iter2:Expr}{ifs ifs2:List Expr}{pos ipos spos px:Pos}{wi wi2:TI}{g g2:TG}{ti ti2:TT}{te tk tv:TE}{pins:List (Addr×Obj)}{σ:St}{H:Hp}{s:Shared}{Q:VK}{o0:HO}
def ze4 (U:o0 = .dK []\/o0 = .dT [])(hu:X.A.units+1<cLine)(O:Opn X scope cix Fam)(hc:X.calm=true)(hi:PI X tg iter wi)(hg:∀X',Fam X'->PG X' tg g)(ht:∀X',Fam X'->PTs X' ifs ti)(hk:∀X',Fam X'->PE X' ke tk)(hv:∀X',Fam X'->PE X' ve tv)(hs:∀x,foldedSetIterable iter X.env x=pure x)(I:Inv X pins σ H s)
  (h:zfZ o0 wi g ti tk tv cix σ H Q) (D:zuw X pins σ use Qp Q) :
  wpAny (model X.prog X.w) X.A (comprehension (.DictComp ke ve [⟨tg,iter,ifs,0⟩] scope pos) scope X.env ipos newDict false (eval iter X.env) use) Qp X.xe s:=
 zaP (ob:={ cls:=.type "dict",data:=.dict #[] }) (o0:=λ_=>o0) (Fin:=λacc H=>Q (.ref acc) H) (B:=λX' acc P s=>wpAny (model X'.prog X'.w) X'.A (eval ke X'.env) (λx s5=>wpAny (model X'.prog X'.w) X'.A (eval ve X'.env) (λy s6=>wpAny (model X'.prog X'.w) X'.A (dictSet acc x y) (λ_ s7=>P s7) (λ_ _=>False) s6) (λ_ _=>False) s5) (λ_ _=>False) s) (tb:=λacc Nx σ H=>tk σ H λy H5=>tv σ H5 λv H6=>∃H7,zdK H6 acc y v H7/\Nx σ H7) O hc rfl hs (λ_ _ _ _ _ h0 h1=>uW h0 h1) (λ_ _ _ _ _ _ I F n h=>zbm I F n h) (λs Q h=>ziv h) (λ{_ _ _ s} I _=>by
  rcases U with rfl | rfl
  ·exact zho s.heap I.big
  ·exact zhp s.heap I.big) hi hg ht (λX' hF pX wX AX _ xX acc pl s σ H Nx P I q k=>by
  have e9:=hk X' hF pl s σ H _ I q;rw[xX] at e9;refine thn e9 ?_;rintro u2 Y ⟨y,H10,I10,Z,ac⟩;have L:=hv X' hF pl Y σ H10 _ I10 ac;rw[xX] at L;refine thn L ?_;rintro u3 ag ⟨v,H11,I11,ad,H12,dp,nx⟩;exact zjk (by rw[AX];exact hu) I11 dp Z ad λs' I'=>k _ _ _ I' nx) I h (λJ H1 acc q hn=>q acc hn) D
end
def zgR{X:Cx}{tk tv:TE}{ifs:List Expr}{scope:Scope}{wi:TI}{g:TG}{ti:TT}{N:List Str}{o0:HO}(B:o0 = .dK []\/o0 = .dT [])(D:X.A.units+1<cLine)(F:X.calm=true)(c:CompOk X scope N cix)(hi:QI X tg iter wi)(J:∀C s H ex,QG (zu X scope N C s H ex) tg g)(L:∀C s H ex,QTs (zu X scope N C s H ex) ifs ti)(O:∀C s H ex,QE (zu X scope N C s H ex) ke tk)(U:∀C s H ex,QE (zu X scope N C s H ex) ve tv)(Y:∀x,foldedSetIterable iter X.env x=pure x:=by intro _;rfl):QE X (.DictComp ke ve [⟨tg,iter,ifs,0⟩] scope pos) (zfZ o0 wi g ti tk tv cix):=⟨λpins s σ H Q I h=>by
 rw[zat];exact ze4 B D (zab c) F hi.run (zdo λC s H ex=>(J C s H ex).run) (zdo λC s H ex=>(L C s H ex).run) (zdo λC s H ex=>(O C s H ex).run) (zdo λC s H ex=>(U C s H ex).run) Y I h λ_ _ _ _ _ Z hb q=>zaR Z hb q⟩
section
variable {X:Cx}{pins:List (Addr×Obj)}{σ:St}{H:Hp}{A:Around}
end
end L2
namespace L3
open PySem PySem.Spec L2
section
variable {X:Cx}{Pn:Option zq}{M S:List Nat}{fr fr':Bool}{e a b c:Expr}{es:List Expr}{f fa fb fc:Ev->Mo W}{pos p:Pos}
def zkM (ks:List (List Int×V)):NP (dtO ks):=λ_ e=>by cases e
def zod:NP (.dK []):=λ_ e=>by cases e;rfl
def zkL {ks:List (Key×V)}(h:∀q∈ks,∃j:Int,q.1=Sum.inl j):NP (.dK ks):=λkvs e=>by
 cases e
 induction ks with
 | nil=>rfl
 | cons q r B=>
  obtain⟨j,F⟩:=h q ak;have:=B λq D=>h q (ao _ D);unfold zbh at this ⊢
  grind
def zk5 {ks:List (Key×V)}{i:Int}{v:V}(h:∀q∈ks,∃j:Int,q.1=Sum.inl j):∀q∈zal ks (Sum.inl i:Key) v,∃j:Int,q.1=Sum.inl j:=λq B=>by
 unfold zal at B
 grind
def znW (mg:W->Ev->(Ev->Prop)->Prop)(L:Ev->Mo Bool)(fk fv:Ev->Mo W)(F:Ev)(Q:W->Nat->Prop):List W->Nat->Prop:=λl O=>l.length<=lim/\∃I:Nat->Ev->Nat->List (List Int×Dt)->Prop,I 0 F O []/\
 (∀i w B D acc,l[i]?=some w->I i B D acc->mg w B λq=>L q D λb J=>if b=true then fk q J λy U=>fv q U λx Y=>∃st d,y = .d (stD st)/\x = .d d/\I (i+1) q Y (zeR acc st d) else I (i+1) q J acc)/\
 ∀ B D acc,I l.length B D acc->Q (.dt acc) D
@[reducible] def zkt (q:Ev->Mo (List W)) (mg:W->Ev->(Ev->Prop)->Prop) (B:Ev->Mo Bool) (fk fv:Ev->Mo W) (cix:List (Option Nat)):Ev->Mo W:=λρ n Q=>q ρ n (znW mg B fk fv (uZ ρ cix) Q)
def znV (mg:W->Ev->(Ev->Prop)->Prop)(L:Ev->Mo Bool)(fk fv:Ev->Mo W)(F:Ev)(Q:W->Nat->Prop):List W->Nat->Prop:=λl O=>l.length<=lim/\∃I:Nat->Ev->Nat->List (Key×Dt)->Prop,I 0 F O []/\
 (∀i w B D acc,l[i]?=some w->I i B D acc->mg w B λq=>L q D λb J=>if b=true then fk q J λy U=>fv q U λx Y=>∃ (j:Int) (d:Dt),y = .d (.int j)/\x = .d d/\I (i+1) q Y (zeR acc (Sum.inl j) d) else I (i+1) q J acc)/\
 ∀ B D acc,I l.length B D acc->Q (.dk acc) D
@[reducible] def zgC (q:Ev->Mo (List W)) (mg:W->Ev->(Ev->Prop)->Prop) (B:Ev->Mo Bool) (fk fv:Ev->Mo W) (cix:List (Option Nat)):Ev->Mo W:=λρ n Q=>q ρ n (znV mg B fk fv (uZ ρ cix) Q)
def zli{wi:TI}{g:TG}{ti:TT}{tk tv:TE}{cix:List (Option Nat)}{fi:Ev->Mo (List W)}{mg:W->Ev->(Ev->Prop)->Prop}{ft:Ev->Mo Bool}{fk fv:Ev->Mo W}(hn:(cix.filterMap id).Nodup)(hi:RI Pn M ow wi fi)(hg:RG (zS M cix) (zS M cix) g mg)(ht:RT Pn (zS M cix) ti ft)(hk:RB Pn (zS M cix) tk fk)(he:RE Pn (zS M cix) fr' tv fv):RE Pn M true (zfZ (.dT []) wi g ti tk tv cix) (zkt fi mg ft fk fv cix):=⟨λA σ H ρ n Q R E P hf k=>by
 refine hi.run A σ H ρ n _ _ E P hf λl m J H1 ⟨hz,I,i0,it,ie⟩ iv g1=>λacc B=>?_;have E1:=E.stay g1.st;have E2:=(E1.cap hn).more (zv.upd (o:=.dT []) B) (Fr.of B) zk (zkM []) (by lia);have P2:xa Pn (λb=>A b\/b=acc) m (L2.upd H1 acc (.dT [])):=g1.pn.grow (g1.pn.same (xm.upd B)) (Fr.of B) zk (zkM [])
 have a1:∀k w,k∈zS M cix->(uZ ρ cix)[k]?=some (some w)->(x6 σ cix)[k]?≠some (some (.ref acc)):=λk w hk hw z=>by obtain⟨v,s1,_,s3⟩:=(E1.cap hn).val k w hw;obtain⟨a,e,hA,_⟩:=s3 hk;rw[z] at s1;cases s1;cases e;exact E1.new B hA
 have key:∀ F D H',EnvR (λb=>A b\/b=acc) (zS M cix) F H' D->(∀k∈zS M cix,F[k]?=(x6 σ cix)[k]?/\D[k]?=(uZ ρ cix)[k]?)->∀k w,k∈zS M cix->D[k]?=some (some w)->F[k]?≠some (some (.ref acc)):=λF D H' E' al k w hk hw z=>by simp_all
 refine⟨λi mm F H'=>mm=l.length - i/\i<=l.length/\∃ D n' q xs,EnvR (λb=>A b\/b=acc) (zS M cix) F H' D/\xa Pn (λb=>A b\/b=acc) n' H'/\I i D n' q/\H' acc=some (dtO xs)/\uB (zT (λb=>A b\/b=acc) H') q xs/\q.length<=i/\zv (zT A H1) (zT (λb=>A b\/b=acc) H')/\zv H1 H'/\(∀k∈zS M cix,F[k]?=(x6 σ cix)[k]?/\D[k]?=(uZ ρ cix)[k]?),
  ⟨l.length,by simp,aJ _,_,m,[],[],E2,P2,i0,zk,rfl,ah _,yz (zv.upd B) (Fr.of B),zv.upd B,λk hk=>⟨rfl,rfl⟩⟩,?_⟩
 rintro i mm F H' ⟨rfl,a2,D,n',q,xs,E',P',hI,ac,O,a3,st,s1,al⟩;by_cases ap:i<l.length
 ·right;have ag:l[i]?=some l[i]:=aj ap;obtain⟨go,yl⟩:=iv.one i l[i] _ H' ag st (λ_=>s1) λp hp=>E'.new hp
  refine⟨go,λan H2=>∃ D n' q xs,EnvR (λb=>A b\/b=acc) (zS M cix) an H2 D/\xa Pn (λb=>A b\/b=acc) n' H2/\I (i+1) D n' q/\H2 acc=some (dtO xs)/\uB (zT (λb=>A b\/b=acc) H2) q xs/\q.length<=i+1/\zv (zT A H1) (zT (λb=>A b\/b=acc) H2)/\zv H1 H2/\(∀k∈zS M cix,an[k]?=(x6 σ cix)[k]?/\D[k]?=(uZ ρ cix)[k]?),
   λan H2 h=>⟨l.length - (i+1),by lia,rfl,ap,h⟩,λx H2 hy=>?_⟩
  obtain⟨S2,V2⟩:=yl x H2 hy;refine hg.run _ F H2 D x l[i] _ _ (E'.stay (zv.same S2)) V2 (it i l[i] D n' q ag hI) λU L r3 E3 f3=>?_;have Y:∀k∈zS M cix,U[k]?=(x6 σ cix)[k]?/\L[k]?=(uZ ρ cix)[k]?:=λk hk=>⟨(f3 k hk).1.trans (al k hk).1,(f3 k hk).2.trans (al k hk).2⟩;refine ht.run _ U H2 L n' _ _ E3 (P'.same S2) r3 λb m3 H4 r4 g4=>?_;have Z:=(zv.same S2).trans g4.st
  cases b with
  | false=>
   rw[if_neg (by decide)] at r4 ⊢;exact⟨L,m3,q,xs,E3.stay g4.st,g4.pn,r4,Z _ _ ac (zkM _),O.stay (zx Z),by lia,st.trans (zx Z),s1.trans Z,Y⟩
  | true=>
   rw[if_pos rfl] at r4 ⊢;refine hk.run _ U H4 L m3 _ _ (E3.stay g4.st) g4.pn r4 λy5 m5 u5 H5 r5 B5 g5=>?_;refine he.run _ U H5 L m5 _ _ ((E3.stay g4.st).stay g5.st) g5.pn r5  ?_;rintro w6 m6 v6 H6 ⟨ky,d,ey,e6,r6⟩ V6 g6 _;subst ey e6;have ad:=(Z.trans g5.st).trans g6.st;have E6:=((E3.stay g4.st).stay g5.st).stay g6.st;have as:H6 acc=some (dtO xs):=ad _ _ ac (zkM _);obtain⟨bd,zs,rfl,av,hx⟩:=xT (B5.stay g6.st);obtain rfl:=hx.of_ints;have a4:=zgQ q ky d;refine⟨_,zdK.i as av (zcv (by rw[O.len];lia)),L,m6,zeR q ky d,zal xs ky v6,E6.upd (.inr rfl) (key U L H6 E6 Y) (zkM _) (by intro xs z;cases z),g6.pn.upd (.inr rfl),r6,zk,?_,by lia,?_,?_,Y⟩
   ·rw[zV (.inr rfl)];exact (O.stay (zx ad)).put V6.is
   ·rw[zV (.inr rfl)];exact st.trans (zx ad)
   ·exact λb o e nn=>by rw[zi (zd e B)];exact s1.trans ad b o e nn
 ·refine Or.inl ?_;have a0:i=l.length:=by lia
  subst a0;refine⟨iv.stop _ H' st (λ_=>s1),k _ n' _ H' (ie D n' q hI) ⟨acc,xs,rfl,zD (E1.new B) ac,O.stay (zv.same (yM λb z=>.inl z))⟩ (g1.trans ⟨s1,P'.less λa z=>.inl z⟩) λ_=>⟨acc,rfl,(Fr.of B).back g1.st,acc,xs,rfl,ac,O⟩⟩⟩
def zfN{wi:TI}{g:TG}{ti:TT}{tk tv:TE}{cix:List (Option Nat)}{fi:Ev->Mo (List W)}{mg:W->Ev->(Ev->Prop)->Prop}{ft:Ev->Mo Bool}{fk fv:Ev->Mo W}(hn:(cix.filterMap id).Nodup)(hi:RI Pn M ow wi fi)(hg:RG (zS M cix) (zS M cix) g mg)(ht:RT Pn (zS M cix) ti ft)(hk:RB Pn (zS M cix) tk fk)(he:RE Pn (zS M cix) fr' tv fv):RE Pn M true (zfZ (.dK []) wi g ti tk tv cix) (zgC fi mg ft fk fv cix):=⟨λA σ H ρ n Q R E P hf k=>by
 refine hi.run A σ H ρ n _ _ E P hf λl m J H1 ⟨hz,I,i0,it,ie⟩ iv g1=>λacc D=>?_;have E1:=E.stay g1.st;have E2:=(E1.cap hn).more (zv.upd (o:=.dK []) D) (Fr.of D) zk zod (by lia);have P2:xa Pn (λb=>A b\/b=acc) m (L2.upd H1 acc (.dK [])):=g1.pn.grow (g1.pn.same (xm.upd D)) (Fr.of D) zk zod
 have a3:∀k w,k∈zS M cix->(uZ ρ cix)[k]?=some (some w)->(x6 σ cix)[k]?≠some (some (.ref acc)):=λk w hk hw z=>by obtain⟨v,s1,_,s3⟩:=(E1.cap hn).val k w hw;obtain⟨a,e,hA,_⟩:=s3 hk;rw[z] at s1;cases s1;cases e;exact E1.new D hA
 have key:∀ L F H',EnvR (λb=>A b\/b=acc) (zS M cix) L H' F->(∀k∈zS M cix,L[k]?=(x6 σ cix)[k]?/\F[k]?=(uZ ρ cix)[k]?)->∀k w,k∈zS M cix->F[k]?=some (some w)->L[k]?≠some (some (.ref acc)):=λL F H' E' as k w hk hw z=>by simp_all
 refine⟨λi mm L H'=>mm=l.length - i/\i<=l.length/\∃ F n' B xs,EnvR (λb=>A b\/b=acc) (zS M cix) L H' F/\xa Pn (λb=>A b\/b=acc) n' H'/\I i F n' B/\H' acc=some (.dK xs)/\uB (zT (λb=>A b\/b=acc) H') B xs/\B.length<=i/\(∀q∈xs,∃j:Int,q.1=Sum.inl j)/\zv (zT A H1) (zT (λb=>A b\/b=acc) H')/\zv H1 H'/\(∀k∈zS M cix,L[k]?=(x6 σ cix)[k]?/\F[k]?=(uZ ρ cix)[k]?),
  ⟨l.length,by simp,aJ _,_,m,[],[],E2,P2,i0,zk,rfl,ah _,by simp,yz (zv.upd D) (Fr.of D),zv.upd D,λk hk=>⟨rfl,rfl⟩⟩,?_⟩
 rintro i mm L H' ⟨rfl,a4,F,n',B,xs,E',P',hI,ag,Y,a5,U,st,s1,as⟩;by_cases a0:i<l.length
 ·right;have an:l[i]?=some l[i]:=aj a0;obtain⟨go,yl⟩:=iv.one i l[i] _ H' an st (λ_=>s1) λp hp=>E'.new hp
  refine⟨go,λav H2=>∃ F n' B xs,EnvR (λb=>A b\/b=acc) (zS M cix) av H2 F/\xa Pn (λb=>A b\/b=acc) n' H2/\I (i+1) F n' B/\H2 acc=some (.dK xs)/\uB (zT (λb=>A b\/b=acc) H2) B xs/\B.length<=i+1/\(∀q∈xs,∃j:Int,q.1=Sum.inl j)/\zv (zT A H1) (zT (λb=>A b\/b=acc) H2)/\zv H1 H2/\(∀k∈zS M cix,av[k]?=(x6 σ cix)[k]?/\F[k]?=(uZ ρ cix)[k]?),
   λav H2 h=>⟨l.length - (i+1),by lia,rfl,a0,h⟩,λx H2 hy=>?_⟩
  obtain⟨S2,V2⟩:=yl x H2 hy;refine hg.run _ L H2 F x l[i] _ _ (E'.stay (zv.same S2)) V2 (it i l[i] F n' B an hI) λZ O r3 E3 f3=>?_;have ac:∀k∈zS M cix,Z[k]?=(x6 σ cix)[k]?/\O[k]?=(uZ ρ cix)[k]?:=λk hk=>⟨(f3 k hk).1.trans (as k hk).1,(f3 k hk).2.trans (as k hk).2⟩;refine ht.run _ Z H2 O n' _ _ E3 (P'.same S2) r3 λb m3 H4 r4 g4=>?_;have ad:=(zv.same S2).trans g4.st
  cases b with
  | false=>
   rw[if_neg (by decide)] at r4 ⊢;exact⟨O,m3,B,xs,E3.stay g4.st,g4.pn,r4,ad _ _ ag (zkL U),Y.stay (zx ad),by lia,U,st.trans (zx ad),s1.trans ad,ac⟩
  | true=>
   rw[if_pos rfl] at r4 ⊢;refine hk.run _ Z H4 O m3 _ _ (E3.stay g4.st) g4.pn r4 λy5 m5 u5 H5 r5 B5 g5=>?_;refine he.run _ Z H5 O m5 _ _ ((E3.stay g4.st).stay g5.st) g5.pn r5  ?_;rintro w6 m6 v6 H6 ⟨ky,d,ey,e6,r6⟩ V6 g6 _;subst ey e6;have al:=(ad.trans g5.st).trans g6.st;have E6:=((E3.stay g4.st).stay g5.st).stay g6.st;have a1:H6 acc=some (.dK xs):=al _ _ ag (zkL U);have eu:u5 = .int ky:=B5;subst eu;have a7:=zgQ B (Sum.inl ky:Key) d;have ap:∀q∈zal xs (Sum.inl ky:Key) v6,∃j:Int,q.1=Sum.inl j:=zk5 U;refine⟨_,zdK.k (k:=(Sum.inl ky:Key)) a1 (zcv (by rw[Y.len];lia)),O,m6,zeR B (Sum.inl ky) d,zal xs (Sum.inl ky) v6,E6.upd (.inr rfl) (key Z O H6 E6 ac) (zkL ap) (by simp),g6.pn.upd (.inr rfl),r6,zk,?_,by lia,ap,?_,?_,ac⟩
   ·rw[zV (.inr rfl)];exact (Y.stay (zx al)).put V6.is
   ·rw[zV (.inr rfl)];exact st.trans (zx al)
   ·exact λb o e nn=>by rw[zi (zd e D)];exact s1.trans al b o e nn
 ·refine Or.inl ?_;have a2:i=l.length:=by lia
  subst a2;refine⟨iv.stop _ H' st (λ_=>s1),k _ n' _ H' (ie F n' B hI) ⟨acc,xs,rfl,zD (E1.new D) ag,Y.stay (zv.same (yM λb z=>.inl z)),zkL U _ rfl⟩ (g1.trans ⟨s1,P'.less λa z=>.inl z⟩) λ_=>⟨acc,rfl,(Fr.of D).back g1.st,acc,xs,rfl,ag,Y,zkL U _ rfl⟩⟩⟩
def zwj(h:∀C s H ex,JB (zu X scope N C s H ex) Pn M e f):∃te,(∀C s H ex,QE (zu X scope N C s H ex) e te)/\RB Pn M te f:=
 ⟨λσ H Q=>∀C s H0 ex,(h C s H0 ex).ex.choose σ H Q,λC s H0 ex=>⟨λpins s' σ H Q I z=>(h C s H0 ex).ex.choose_spec.1.run pins s' σ H Q I (z C s H0 ex)⟩,
  ⟨λA σ H ρ n Q R E P q k C s H0 ex=>(h C s H0 ex).ex.choose_spec.2.run A σ H ρ n Q R E P q k⟩⟩
def zhA(F:X.A.units+1<cLine)(I:X.calm=true)(J:CompOk X scope N cix)(hi:JI X Pn M D tg iter q)(L:∀C s H ex,JG (zu X scope N C s H ex) (zS M cix) (zS M cix) tg mg)(O:∀C s H ex,JTs (zu X scope N C s H ex) Pn (zS M cix) ifs B)(U:∀C s H ex,JB (zu X scope N C s H ex) Pn (zS M cix) ke fk)(Y:∀C s H ex,JE (zu X scope N C s H ex) Pn (zS M cix) fr' ve fv)(Z:(cix.filterMap id).Nodup:=by decide)(hs:∀x,foldedSetIterable iter X.env x=pure x:=by intro _;rfl):JE X Pn M true (.DictComp ke ve [⟨tg,iter,ifs,0⟩] scope pos) (zgC q mg B fk fv cix):=by
 obtain⟨ti,qi,ri⟩:=hi.ex;obtain⟨g,qg,rg⟩:=ziL L;obtain⟨tt,qt,rt⟩:=ziM O;obtain⟨tk,qk,rk⟩:=zwj U;obtain⟨te,qe,re⟩:=zlK Y;exact⟨_,zgR (o0:=.dK []) (by simp) F I J qi qg qt qk qe hs,zfN Z ri rg rt rk re⟩
end
open PySem PySem.Spec L2
@[reducible] def onI (w:W) (P:Int->Prop):Prop:=match w with | .d (.int i)=>P i | _=>False
@[reducible] def onB (w:W) (P:Bool->Prop):Prop:=match w with | .d (.bl i)=>P i | _=>False
@[reducible] def onT (w:W) (P:List Dt->Prop):Prop:=match w with | .d (.tup i)=>P i | _=>False
@[reducible] def onL (w:W) (P:List Dt->Prop):Prop:=match w with | .d (.lst i)=>P i | _=>False
@[reducible] def onS (w:W) (P:List Dt->Prop):Prop:=match w with | .d (.lst i)=>P i | .d (.tup i)=>P i | _=>False
@[reducible] def onD (w:W) (P:Dt->Prop):Prop:=match w with | .d i=>P i | _=>False
@[reducible] def onK (w:W) (P:List (Key×Dt)->Prop):Prop:=match w with | .dk i=>P i | _=>False
@[reducible] def onE (w:W) (P:List (List Int×Dt)->Prop):Prop:=match w with | .dt i=>P i | _=>False
@[reducible] def onO {α:Type} (o:Option α) (P:α->Prop):Prop:=match o with | some i=>P i | none=>False
@[reducible] def onC (c:Bool) (A B:Prop):Prop:=match c with | true=>A | false=>B
@[reducible] def on1 (l:List W) (P:W->Prop):Prop:=match l with | [a]=>P a | _=>False
@[reducible] def on2 (l:List W) (P:W->W->Prop):Prop:=match l with | [a,b]=>P a b | _=>False
@[reducible] def onV:Ev->Nat->(W->Prop)->Prop
 | [],_,_=>False
 | a::_,0,P=>onO a P
 | _::r,i+1,P=>onV r i P
@[reducible] def onP:Ev->Nat->W->(Ev->Prop)->Prop
 | [],_,_,Q=>Q []
 | _::r,0,w,Q=>Q (some w::r)
 | a::r,i+1,w,Q=>onP r i w λq=>Q (a::q)
@[reducible] def onN:Ev->Nat->(Ev->Prop)->Prop
 | [],_,Q=>Q []
 | _::r,0,Q=>Q (none::r)
 | a::r,i+1,Q=>onN r i λq=>Q (a::q)
@[reducible] def zdd {α:Type}:Nat->List α->Prop->Prop
 | 0,[],P=>P
 | k+1,_::r,P=>zdd k r P
 | _,_,_=>False
def xB{P:Int->Prop}:onI w P = ∃i,w = .d (.int i)/\P i:=propext ⟨λh=>by rcases w with (x|x|x|x|_|_) <;> first | exact False.elim h | (cases x <;> first | exact False.elim h | exact⟨_,rfl,h⟩),by simp_all⟩
def zsv:onB w P = ∃i,w = .d (.bl i)/\P i:=propext ⟨λh=>by rcases w with (x|x|x|x|_|_) <;> first | exact False.elim h | (cases x <;> first | exact False.elim h | exact⟨_,rfl,h⟩),by rintro⟨i,e,h⟩;subst e;exact h⟩
def zdx:onT w P = ∃i,w = .d (.tup i)/\P i:=propext ⟨λh=>by rcases w with (x|x|x|x|_|_) <;> first | exact False.elim h | (cases x <;> first | exact False.elim h | exact⟨_,rfl,h⟩),by simp_all⟩
def xJ:onL w P = ∃i,w = .d (.lst i)/\P i:=propext ⟨λh=>by rcases w with (x|x|x|x|_|_) <;> first | exact False.elim h | (cases x <;> first | exact False.elim h | exact⟨_,rfl,h⟩),by simp_all⟩
def zfF:onS w P = ∃i,(w = .d (.lst i)\/w = .d (.tup i))/\P i:=propext ⟨λh=>by rcases w with (x|x|x|x|_|_) <;> first | exact False.elim h | (cases x <;> first | exact False.elim h | exact⟨_,.inl rfl,h⟩ | exact⟨_,.inr rfl,h⟩),by rintro⟨i,e,h⟩;rcases e with e | e <;> subst e <;> exact h⟩
def xI:onD w P = ∃i,w = .d i/\P i:=propext ⟨λh=>by cases w <;> first | exact False.elim h | exact⟨_,rfl,h⟩,by simp_all⟩
def zhL:onK w P = ∃i,w = .dk i/\P i:=propext ⟨λh=>by cases w <;> first | exact False.elim h | exact⟨_,rfl,h⟩,by simp_all⟩
def zkS{P:List (List Int×Dt)->Prop}:onE w P = ∃i,w = .dt i/\P i:=propext ⟨λh=>by cases w <;> first | exact False.elim h | exact⟨_,rfl,h⟩,by simp_all⟩
def zaA {α:Type}{w:Option α}{P:α->Prop}:onO w P = ∃i,w=some i/\P i:=propext ⟨λh=>by cases w <;> first | exact False.elim h | exact⟨_,rfl,h⟩,by simp_all⟩
def zaz{A B:Prop}:onC c A B=if c=true then A else B:=by cases c <;> simp[onC]
def uR:on1 l P = ∃a,l=[a]/\P a:=propext ⟨λh=>by rcases l with (_|⟨a,_|⟨b,l⟩⟩) <;> first | exact False.elim h | exact⟨_,rfl,h⟩,by simp_all⟩
def zsu:on2 l P = ∃a b,l=[a,b]/\P a b:=propext ⟨λh=>by rcases l with (_|⟨a,_|⟨b,_|⟨c,l⟩⟩⟩) <;> first | exact False.elim h | exact⟨_,_,rfl,h⟩,by simp_all⟩
def zaa:∀ {ρ:Ev} {i:Nat} {P:W->Prop},onV ρ i P = ∃w,ρ[i]?=some (some w)/\P w
 | [],i,P=>by simp[onV]
 | some w::r,0,P=>by simp[onV]
 | none::r,0,P=>by simp[onV]
 | some w::r,i+1,P=>by simpa [onV] using zaa (ρ:=r) (i:=i) (P:=P)
 | none::r,i+1,P=>by simpa [onV] using zaa (ρ:=r) (i:=i) (P:=P)
def uS:∀ {ρ:Ev} {i:Nat} {w:W} {Q:Ev->Prop},onP ρ i w Q=Q (ρ.set i (some w))
 | [],i,w,Q=>rfl
 | a::r,0,w,Q=>rfl
 | a::r,i+1,w,Q=>by rw[onP,uS];rfl
def zof:∀ {ρ:Ev} {i:Nat} {Q:Ev->Prop},onN ρ i Q=Q (ρ.set i none)
 | [],i,Q=>rfl
 | a::r,0,Q=>rfl
 | a::r,i+1,Q=>by rw[onN,zof];rfl
def zep {α:Type}:∀ {k:Nat} {l:List α} {P:Prop},zdd k l P=(l.length=k/\P)
 | 0,[],P=>by simp[zdd]
 | 0,a::r,P=>by simp[zdd]
 | k+1,[],P=>by simp[zdd]
 | k+1,a::r,P=>by simp[zdd,zep (l:=r)]
def xZ {P:Prop}[Decidable P]{A B:Prop}(h1:P->A)(h2:¬ P->B):onC (decide P) A B:=by
 by_cases h:P
 all_goals simp_all
def zkR {P:Prop}[Decidable P]{A B:Prop}(h1:¬ P->A)(h2:P->B):onC (!decide P) A B:=by
 by_cases h:P
 all_goals simp_all
def zbX{A B:Prop}(h1:c=true->A)(h2:c=false->B):onC c A B:=by
 cases c
 ·exact h2 rfl
 ·exact h1 rfl
def zoe{A B:Prop}(h1:c=false->A)(h2:c=true->B):onC (!c) A B:=by
 cases c
 ·exact h1 rfl
 ·exact h2 rfl
def zcD{A B:Prop}(h:c=true)(h1:A):onC c A B:=by subst h;exact h1
def zgO{A B:Prop}(h:c=false)(h1:B):onC c A B:=by subst h;exact h1
def xM {α:Type}{o:Option α}{a:α}{P:α->Prop}(e:o=some a)(h:P a):onO o P:=by subst e;exact h
def onA{st:List Int}{b:Int}(q:0<=b)(h1:b<st.length)(h:P (.int (z9 st b))):onO (atI (st.map Dt.int) b) P:=xM (zoD q h1) h
def zpI {L:List Dt}{a:Int}{P:Dt->Prop}(q:0<=a)(h1:a<L.length)(h:∀x∈L,P x):onO (atI L a) P:=by obtain⟨x,e,B⟩:=zrl q h1 h;exact xM e B
def onG {α:Type}{L:List α}{f:α->Dt}{i:Nat}{x:α}{P:Dt->Prop}(e:L[i]?=some x)(h:P (f x)):onO (atI (L.map f) (i:Int)) P:=xM (zbC (by simp_all)) h
section
variable {X:Cx}{Pn:Option zq}{M S:List Nat}{fr fr':Bool}{e a b c:Expr}{es:List Expr}{f fa fb fc g:Ev->Mo W}{pos p:Pos}{t u:Ev->Mo Bool}{fs gs:Ev->Mo (List W)}
def wE (h:f=g)(j:JE X Pn M fr e f):JE X Pn M fr e g:=h ▸ j
def wB (h:f=g)(j:JB X Pn M e f):JB X Pn M e g:=h ▸ j
def wT (h:t=u)(j:JT X Pn M e t):JT X Pn M e u:=h ▸ j
def wW (h:t=u)(j:JW X Pn M e t):JW X Pn M e u:=h ▸ j
def wO {f g:Ev->Mo (Option Int)}{e:Option Expr}(h:f=g)(j:JO X Pn M e f):JO X Pn M e g:=h ▸ j
def wG {f g:W->Ev->(Ev->Prop)->Prop}(h:f=g)(j:JG X S M e f):JG X S M e g:=h ▸ j
def wH {f g:List Dt->Ev->(Ev->Prop)->Prop}(h:f=g)(j:JGs X S M es f):JGs X S M es g:=h ▸ j
def wI(h:fs=gs)(j:JI X Pn M q tg e fs):JI X Pn M q tg e gs:=h ▸ j
def wS {s:Stmt}{f g:Ms}(h:f=g)(j:JS X Pn S M fr s f):JS X Pn S M fr s g:=h ▸ j
@[reducible] def zq6 (i:Nat):Ev->Mo W:=λρ n Q=>onV ρ i λw=>Q w n
def zkA:zso i=zq6 i:=by funext ρ n Q;exact zaa.symm
def kv (i:Nat){x:Str}(hi:i∉M:=by decide)(B:X.N[i]?=some x:=by rfl)(D:Vis X.env.scope x:=by walk_at "v")(F:(x==("__debug__" : Str))=false:=by decide)
  (q:(x==("__classdict__" : Str))=false:=by decide):JE X Pn M false (.Name x pos) (zq6 i):=wE zkA (zvj i hi B D F q)
def kb(i:Nat)(B:X.N[i]?=some x:=by rfl)(D:Vis X.env.scope x:=by walk_at "v")(F:(x==("__debug__" : Str))=false:=by decide)(q:(x==("__classdict__" : Str))=false:=by decide):JB X Pn M (.Name x pos) (zq6 i):=wB zkA (zvh i B D F q)
@[reducible] def dTst (fa:Ev->Mo W):Ev->Mo Bool:=λρ n Q=>fa ρ n λx m=>onB x λc=>Q c m
def zr:zpF fa=dTst fa:=by funext ρ n Q;simp only[zpF,dTst,zsv]
@[reducible] def dAnd (t u:Ev->Mo Bool):Ev->Mo Bool:=λρ n Q=>t ρ n λc m=>onC c (u ρ m Q) (Q false m)
def u9:zuh t u=dAnd t u:=by funext ρ n Q;simp only[zuh,dAnd,zaz]
@[reducible] def dOr (t u:Ev->Mo Bool):Ev->Mo Bool:=λρ n Q=>t ρ n λc m=>onC c (Q true m) (u ρ m Q)
def zob:mOr t u=dOr t u:=by funext ρ n Q;simp only[mOr,dOr,zaz]
@[reducible] def dNot (t:Ev->Mo Bool):Ev->Mo Bool:=λρ n Q=>t ρ n λc m=>onC c (Q false m) (Q true m)
def zkx:zvx t=dNot t:=by funext ρ n Q;simp only[zvx,dNot];congr 1;funext c m;cases c <;> rfl
@[reducible] def dAndV (fa fb:Ev->Mo W):Ev->Mo W:=λρ n Q=>fa ρ n λx m=>onB x λc=>onC c (fb ρ m Q) (Q (.d (.bl false)) m)
@[reducible] def dOrV (fa fb:Ev->Mo W):Ev->Mo W:=λρ n Q=>fa ρ n λx m=>onB x λc=>onC c (Q (.d (.bl true)) m) (fb ρ m Q)
@[reducible] def dNotV (fa:Ev->Mo W):Ev->Mo W:=λρ n Q=>fa ρ n λx m=>onB x λc=>Q (.d (.bl (!c))) m
@[reducible] def dIf (t:Ev->Mo Bool) (fa fb:Ev->Mo W):Ev->Mo W:=λρ n Q=>t ρ n λc m=>onC c (fa ρ m Q) (fb ρ m Q)
@[reducible] def dI (C:Int->Int->Prop) (g:Int->Int->Dt):W->W->Mo W:=λx y n Q=>onI x λi=>onI y λj=>C i j/\Q (.d (g i j)) n
def zrL {C:Int->Int->Prop}{g:Int->Int->Dt}:fI C g=dI C g:=by funext x y n Q;simp only[dI,xB];exact propext ⟨by rintro⟨i,j,q,B,h⟩;exact⟨i,q,j,B,h⟩,by rintro⟨i,q,j,B,h⟩;exact⟨i,j,q,B,h⟩⟩
@[reducible] def dI0 (g:Int->Int->Dt):W->W->Mo W:=λx y n Q=>onI x λi=>onI y λj=>Q (.d (g i j)) n
def ze8 {g:Int->Int->Dt}:fI0 g=dI0 g:=by funext x y n Q;simp only[dI0,xB];exact propext ⟨by rintro⟨i,j,q,B,h⟩;exact⟨i,q,j,B,h⟩,by rintro⟨i,q,j,B,h⟩;exact⟨i,j,q,B,h⟩⟩
def zcZ:F2 Pn false (rI0 λi j=>.int (i+j)) (dI0 λi j=>.int (i+j)):=ze8 ▸ zwl
def ztU:F2 Pn false (rI0 λi j=>.int (i - j)) (dI0 λi j=>.int (i - j)):=ze8 ▸ zww
def ztQ:F2 Pn false (rI zq5 λi j=>.int (i / j)) (dI zq5 λi j=>.int (i / j)):=zrL ▸ ztZ
def ztT:F2 Pn false (rI (λ_ j=>0<j) λi j=>.int (i % j)) (dI (λ_ j=>0<j) λi j=>.int (i % j)):=zrL ▸ zwt
def zuv:F2 Pn false (rI0 λi j=>.bl (decide (i<j))) (dI0 λi j=>.bl (decide (i<j))):=ze8 ▸ v_lt
def u_le:F2 Pn false (rI0 λi j=>.bl (decide (i<=j))) (dI0 λi j=>.bl (decide (i<=j))):=ze8 ▸ v_le
def u_gt:F2 Pn false (rI0 λi j=>.bl (decide (i > j))) (dI0 λi j=>.bl (decide (j<i))):=ze8 ▸ v_gt
@[reducible] def zuW:W->Mo W:=λx n Q=>onI x λi=>Q (.d (.int (-i))) n
def zwi:F1 Pn false (rU λi=>.int (-i)) zuW:=(show zvb=zuW by funext x n Q;simp only[zvb,zuW,xB]) ▸ zwv
@[reducible] def dEq:W->W->Mo W:=λx y n Q=>onD x λa=>onD y λb=>onO (sEq a b) λr=>Q (.d (.bl r)) n
def zrK:fEq=dEq:=by
 funext x y n Q;simp only[fEq,dEq,xI,zaA]
 simp_all
@[reducible] def dNe:W->W->Mo W:=λx y n Q=>onD x λa=>onD y λb=>onO (sEq a b) λr=>Q (.d (.bl (!r))) n
def zrN:fNe=dNe:=by
 funext x y n Q;simp only[fNe,dNe,xI,zaA]
 simp_all
def zc0:F2 Pn false rEq dEq:=zrK ▸ v_eq
def zrb:F2 Pn false rNe dNe:=zrN ▸ v_ne
@[reducible] def zuI:W->W->Mo W:=λx y n Q=>onD x λa=>onD y λb=>a.eqOk/\b.eqOk/\∀r:Bool,(r=true↔a=b)->Q (.d (.bl r)) n
@[reducible] def zuV:W->W->Mo W:=λx y n Q=>onD x λa=>onD y λb=>a.eqOk/\b.eqOk/\∀r:Bool,(r=true↔a=b)->Q (.d (.bl (!r))) n
def zoT:zu4=zuI:=by
 funext x y n Q;simp only[zu4,zuI,xI]
 simp_all
def zoZ:zva=zuV:=by
 funext x y n Q;simp only[zva,zuV,xI]
 simp_all
def znz:F2 Pn false zun zuI:=zoT ▸ zwn
def zlI:F2 Pn false zuq zuV:=zoZ ▸ zwu
@[reducible] def dIsB:W->W->Mo W:=λx y n Q=>onB x λa=>onB y λb=>Q (.d (.bl (a==b))) n
@[reducible] def zuO:W->W->Mo W:=λx y n Q=>onB x λa=>onB y λb=>Q (.d (.bl (a != b))) n
@[reducible] def zuM:W->W->Mo W:=λx y n Q=>onI x λb=>onS y λl=>∃ns:List Int,l=ns.map .int/\Q (.d (.bl (ns.contains b))) n
@[reducible] def zgi:W->W->Mo W:=λx y n Q=>onI x λb=>onS y λl=>∃ns:List Int,l=ns.map .int/\Q (.d (.bl (!ns.contains b))) n
def zoV:zu6=zuM:=by funext x y n Q;simp only[zu6,zuM,xB,zfF];exact propext ⟨by rintro⟨a,b,q,B,h⟩;exact⟨a,q,_,B,b,rfl,h⟩,by rintro⟨a,q,l,B,b,e,h⟩;subst e;exact⟨a,b,q,B,h⟩⟩
def zin:zgl=zgi:=by funext x y n Q;simp only[zgl,zgi,xB,zfF];exact propext ⟨by rintro⟨a,b,q,B,h⟩;exact⟨a,q,_,B,b,rfl,h⟩,by rintro⟨a,q,l,B,b,e,h⟩;subst e;exact⟨a,b,q,B,h⟩⟩
def ztR:F2 Pn false (rIn K false) zuM:=zoV ▸ zwp
def zb2:F2 Pn false (rIn K true) zgi:=zin ▸ znB
@[reducible] def xr:Bool->Bool->Bool
 | false,b=>b
 | true,b=>!b
@[reducible] def zuL (q:Bool):W->W->Mo W:=λx y n Q=>onD x λd=>onS y λds=>d.eqOk/\(Dt.lst ds).eqOk/\∀b:Bool,(b=true↔d∈ds)->Q (.d (.bl (xr q b))) n
def zwx {q b:Bool}:(if q then !b else b)=xr q b:=by cases q <;> rfl
def zoU:zu5 q=zuL q:=by
 funext x y n Q;simp only[zu5,zuL,xI,zfF,zwx]
 simp_all
def zwh:F2 Pn false (zv1 q) (zuL q):=zoU ▸ zwo
@[reducible] def zuS:W->W->Mo W:=λx y n Q=>onT x λl=>onI y λi=>onO (atI l i) λd=>Q (.d d) n
@[reducible] def zuR:W->W->Mo W:=λx y n Q=>onL x λl=>onI y λi=>onO (atI l i) λd=>Q (.d d) n
def zoX:zu8=zuS:=by
 funext x y n Q;simp only[zu8,zuS,zdx,xB,zaA]
 simp_all
def zoW:zu7=zuR:=by
 funext x y n Q;simp only[zu7,zuR,xJ,xB,zaA]
 simp_all
def uO:F2 Pn false (zup K) zuS:=zoX ▸ zwr
def zbA:F2 Pn false (zuo K) zuR:=zoW ▸ zwq
@[reducible] def zmj:W->W->Mo W:=λx y n Q=>onT x λl=>onT y λm=>l.length+m.length<=lim/\Q (.d (.tup (l++m))) n
@[reducible] def zoL:W->W->Mo W:=λx y n Q=>onL x λl=>onL y λm=>l.length+m.length<=lim/\Q (.d (.lst (l++m))) n
def zmq:zgk=zmj:=by
 funext x y n Q;simp only[zgk,zmj,zdx]
 simp_all
def zmp:zoS=zoL:=by
 funext x y n Q;simp only[zoS,zoL,xJ]
 simp_all
def xD:F2 Pn false (zlc K) zmj:=zmq ▸ ztY
def zlG:F2 Pn true zqt zoL:=zmp ▸ ztX
@[reducible] def dRepT:W->W->Mo W:=λx y n Q=>onT x λl=>onI y λj=>(1<=j/\j<=1000000/\l.length * j.toNat<=lim)/\Q (.d (.tup (List.replicate j.toNat l).flatten)) n
@[reducible] def zoM:W->W->Mo W:=λx y n Q=>onL x λl=>onI y λj=>(0<=j/\j<=1000000/\l.length * j.toNat<=lim)/\Q (.d (.lst (List.replicate j.toNat l).flatten)) n
def zmr:zo0=zoM:=by
 funext x y n Q;simp only[zo0,zoM,xJ,xB,and_assoc]
 simp_all
def zov:F2 Pn true zur zoM:=zmr ▸ zt1
@[reducible] def zuT:List W->Mo W:=λq n Q=>on1 q λx=>onO (lenD x) λk=>Q (.d (.int (k:Int))) n
def zoY:zu9=zuT:=by
 funext ws n Q;simp only[zu9,zuT,uR,zaA]
 simp_all
def x9:FL Pn false (λxs H Q=>∃x n,xs=[x]/\zrh K x H n/\Q (.int n) H) zuT:=zoY ▸ zws
@[reducible] def dAbs:List W->Mo W:=λq n Q=>on1 q λx=>onI x λi=>Q (.d (.int (if i<0 then -i else i))) n
@[reducible] def dMin:List W->Mo W:=λq n Q=>on2 q λx y=>onI x λi=>onI y λj=>Q (.d (.int (if j<i then j else i))) n
@[reducible] def dMax:List W->Mo W:=λq n Q=>on2 q λx y=>onI x λi=>onI y λj=>Q (.d (.int (if j > i then j else i))) n
@[reducible] def zuH:List W->Mo W:=λB n Q=>on1 B λx=>onL x λl=>∃q:List Bool,l=q.map .bl/\Q (.d (.bl (q.all id))) n
def zoR:zu3=zuH:=by funext ws n Q;simp only[zu3,zuH,uR,xJ];exact propext ⟨by rintro⟨x,e,h⟩;exact⟨_,e,_,rfl,x,rfl,h⟩,by simp_all⟩
def ztP:FL Pn false (λxs H Q=>∃ (p:Addr) (q:List Bool),xs=[.ref p]/\H p=some (.lst (q.map V.bl))/\Q (.bl (q.all id)) H) zuH:=zoR ▸ zwm
@[reducible] def zrB:List W->Mo W:=λq n Q=>on1 q λx=>onS x λl=>Q (.d (.lst l)) n
@[reducible] def znU:List W->Mo W:=λq n Q=>on1 q λx=>onS x λl=>Q (.d (.tup l)) n
def ztB:(∃l,(q=[.d (.lst l)]\/q=[.d (.tup l)])/\P l)=on1 q λx=>onS x P:=by
 simp only[uR,zfF]
 grind
def zlH:FL Pn true (zle K) zrB:=(show zrM=zrB by funext ws n Q;exact ztB) ▸ zt0
def uq:FL Pn false (zgT K) znU:=(show znZ=znU by funext ws n Q;exact ztB) ▸ zq3
@[reducible] def dDictT:List W->Mo W:=λq n Q=>on1 q λx=>onT x λl=>∃ps:List (Int×Dt),l=ps.map prD/\(ps.map (·.1)).Nodup/\ps.length<=1000/\Q (.dk (ps.map kvD)) n
@[reducible] def dInt1:List W->Mo W:=λq n Q=>on1 q λx=>match x with
 | .d (.int i)=>Q (.d (.int i)) n
 | .d (.bl b)=>Q (.d (.int (if b then 1 else 0))) n
 | _=>False
@[reducible] def zji:List W->Mo W:=λB n Q=>on1 B λx=>onL x λl=>∃ns:List Int,l=ns.map .int/\ns.length<64/\∀q:List Int,q.Perm ns->q.Pairwise (·<=·)->Q (.d (.lst (q.map .int))) n
def zjD:zjC=zji:=by funext ws n Q;simp only[zjC,zji,uR,xJ];exact propext ⟨by rintro⟨x,e,h⟩;exact⟨_,e,_,rfl,x,rfl,h⟩,by simp_all⟩
def zqY:FL Pn true zlf zji:=zjD ▸ zq1
@[reducible] def zjj:List W->Mo W:=λB n Q=>on1 B λx=>onL x λl=>∃ (sts:List (List Int)) (m:Nat),l=sts.map stD/\sts.length<64/\1<=m/\(∀st∈sts,st.length=m)/\sts.Nodup/\∀q:List (List Int),q.Perm sts->(q.Pairwise λa b=>HT.lexLt a b=true)->Q (.d (zaq q)) n
def zjF:zjE=zjj:=by funext ws n Q;simp only[zjE,zjj,uR,xJ];exact propext ⟨by rintro⟨x,m,e,h⟩;exact⟨_,e,_,rfl,x,m,rfl,h⟩,by simp_all⟩
def zlJ:FL Pn true zqw zjj:=zjF ▸ zq2
@[reducible] def dListD:List W->Mo W:=λq n Q=>on1 q λx=>onE x λkvs=>((kvs.map (·.1)).Nodup->Q (.d (.lst ((kvs.map (·.1)).map stD))) n)
end
open PySem PySem.Spec L2
section
variable {fa fb fc f fk fd fv:Ev->Mo W}{t u:Ev->Mo Bool}{fs gs:Ev->Mo (List W)}
@[reducible] def zrD (fa:Ev->Mo W):Ev->Mo (Option Int):=λρ n Q=>fa ρ n λx m=>onI x λi=>Q (some i) m
def yj:zpB fa=zrD fa:=by funext ρ n Q;simp only[zpB,zrD,xB]
@[reducible] def dSlT (fa:Ev->Mo W) (fl q:Ev->Mo (Option Int)):Ev->Mo W:=λρ n Q=>fa ρ n λx B=>fl ρ B λlo D=>q ρ D λhi F=>onT x λl=>Q (.d (.tup (ua l lo hi))) F
def uo {fl q:Ev->Mo (Option Int)}:zvA fa fl q=dSlT fa fl q:=by funext ρ n Q;simp only[zvA,dSlT,zdx]
@[reducible] def dSlL (fa:Ev->Mo W) (fl q:Ev->Mo (Option Int)):Ev->Mo W:=λρ n Q=>fa ρ n λx B=>fl ρ B λlo D=>q ρ D λhi F=>onL x λl=>Q (.d (.lst (ua l lo hi))) F
def zbp {fl q:Ev->Mo (Option Int)}:zvz fa fl q=dSlL fa fl q:=by funext ρ n Q;simp only[zvz,dSlL,xJ]
@[reducible] def dRevT (fa:Ev->Mo W):Ev->Mo W:=λρ n Q=>fa ρ n λx m=>onT x λl=>Q (.d (.tup l.reverse)) m
@[reducible] def zrF (fa:Ev->Mo W):Ev->Mo W:=λρ n Q=>fa ρ n λx m=>onL x λl=>Q (.d (.lst l.reverse)) m
def zmQ:zpE fa=zrF fa:=by funext ρ n Q;simp only[zpE,zrF,xJ]
@[reducible] def zrv (fd fk:Ev->Mo W):Ev->Mo W:=λρ n Q=>fd ρ n λx q=>fk ρ q λy B=>onK x λkvs=>onO (zr7 y) λk=>onO (xb kvs k) λd=>Q (.d d) B
def zee:zpu fd fk=zrv fd fk:=by
 funext ρ n Q;simp only[zpu,zrv,zhL,zaA]
 simp_all
@[reducible] def dDIn (q:Bool) (fk fd:Ev->Mo W):Ev->Mo W:=λρ n Q=>fk ρ n λy B=>fd ρ B λx D=>onK x λkvs=>onO (zr7 y) λk=>Q (.d (.bl (xr q (xb kvs k).isSome))) D
@[reducible] def dFn (k:Nat) (F:List W->Mo W) (fs:Ev->Mo (List W)):Ev->Mo W:=λρ n Q=>fs ρ n λq m=>zdd k q (F q m Q)
def zo:mFn k F fs=dFn k F fs:=by funext ρ n Q;simp only[mFn,dFn,zep]
@[reducible] def dFnB (k:Nat) (fr:Bool) (F:List W->Mo W) (fs:Ev->Mo (List W)):Ev->Mo W:=λρ n Q=>fs ρ n λq m=>zdd k q (F q m λw B=>W.flat fr w=true/\Q w B)
@[reducible] def eN (i:Nat):W->Ev->(Ev->Prop)->Prop:=λw ρ Q=>onP ρ i w Q
def zt:gN i=eN i:=by funext w ρ Q;exact uS.symm
@[reducible] def eNl:List Dt->Ev->(Ev->Prop)->Prop:=λds ρ Q=>match ds with | []=>Q ρ | _=>False
def yU:gNl=eNl:=by
 funext ds ρ Q
 cases ds with
 | nil=>simp[gNl,eNl]
 | cons _ _=>simp[gNl,eNl]
@[reducible] def eCn (g:W->Ev->(Ev->Prop)->Prop) (u:List Dt->Ev->(Ev->Prop)->Prop):List Dt->Ev->(Ev->Prop)->Prop:=λds ρ Q=>match ds with | d::r=>g (.d d) ρ λq=>u r q Q | []=>False
def zA {g:W->Ev->(Ev->Prop)->Prop}{u:List Dt->Ev->(Ev->Prop)->Prop}:gCn g u=eCn g u:=by
 funext ds ρ Q
 cases ds with
 | nil=>simp[gCn,eCn]
 | cons d r=>exact propext ⟨by rintro⟨d',q,e,h⟩;cases e;exact h,λh=>⟨d,r,rfl,h⟩⟩
@[reducible] def eTp (n:Nat) (u:List Dt->Ev->(Ev->Prop)->Prop):W->Ev->(Ev->Prop)->Prop:=λw ρ Q=>onT w λds=>zdd n ds (u ds ρ Q)
def yV {n:Nat}{u:List Dt->Ev->(Ev->Prop)->Prop}:gTp n u=eTp n u:=by funext w ρ Q;simp only[gTp,eTp,zdx,zep]
@[reducible] def zuP (fa:Ev->Mo W):Ev->Mo (List W):=λρ n Q=>fa ρ n λx m=>onL x λl=>Q (l.map W.d) m
@[reducible] def zuQ (fa:Ev->Mo W):Ev->Mo (List W):=λρ n Q=>fa ρ n λx m=>onT x λl=>Q (l.map W.d) m
def yi:zuj fa=zuP fa:=by funext ρ n Q;simp only[zuj,zuP,xJ]
def um:zuk fa=zuQ fa:=by funext ρ n Q;simp only[zuk,zuQ,zdx]
@[reducible] def dItR (fs:Ev->Mo (List W)):Ev->Mo (List W):=λρ n Q=>fs ρ n λq m=>on1 q λx=>onI x λj=>(j<=1000000/\-1000000<=j)/\Q (ziD 0 j.toNat) m
def yx:zvt fs=dItR fs:=by funext ρ n Q;simp only[zvt,dItR,uR,xB];congr 1;funext ws m;exact propext ⟨by simp_all,by simp_all⟩
@[reducible] def dItR2 (fs:Ev->Mo (List W)):Ev->Mo (List W):=λρ n Q=>fs ρ n λq m=>on2 q λx y=>onI x λi=>onI y λj=>(j<=1000000/\-1000000<=j/\i<=1000000/\-1000000<=i)/\Q (ziD i (j - i).toNat) m
@[reducible] def dItE (fs:Ev->Mo (List W)):Ev->Mo (List W):=λρ n Q=>fs ρ n λq m=>on1 q λx=>onT x λl=>Q (enW 0 l) m
@[reducible] def zry (fs:Ev->Mo (List W)):Ev->Mo (List W):=λρ n Q=>fs ρ n λq m=>on1 q λx=>onL x λl=>Q (enW 0 l) m
def za2:zpw fs=zry fs:=by funext ρ n Q;simp only[zpw,zry,uR,xJ];congr 1;funext ws m;exact propext ⟨by simp_all,by simp_all⟩
@[reducible] def dItZ (fs:Ev->Mo (List W)):Ev->Mo (List W):=λρ n Q=>fs ρ n λq m=>on2 q λx y=>onT x λl=>onT y λk=>l.length=k.length/\Q (ziW l k) m
@[reducible] def dItZM (fs:Ev->Mo (List W)):Ev->Mo (List W):=λρ n Q=>fs ρ n λq m=>on2 q λx y=>onL x λl=>onT y λk=>l.length=k.length/\Q (ziW l k) m
@[reducible] def zrz (fs:Ev->Mo (List W)):Ev->Mo (List W):=λρ n Q=>fs ρ n λq m=>on2 q λx y=>onL x λl=>onL y λk=>Q (ziW l k) m
def zmO:zpy fs=zrz fs:=by funext ρ n Q;simp only[zpy,zrz,zsu,xJ];congr 1;funext ws m;exact propext ⟨by rintro⟨i,j,e,h⟩;exact⟨_,_,e,i,rfl,j,rfl,h⟩,by rintro⟨x,y,e,i,q,j,B,h⟩;subst q B;exact⟨i,j,e,h⟩⟩
@[reducible] def dIfS (t:Ev->Mo Bool) (f g:Ms):Ms:=λρ n k=>t ρ n λc m=>onC c (blk f ρ m k) (blk g ρ m k)
def zJ {f g:Ms}:zvr t f g=dIfS t f g:=by funext ρ n k;simp only[zvr,dIfS,zaz]
@[reducible] def zuX (i:Nat):Ms:=λρ n k=>onV ρ i λw=>k.rt w n
def zbZ:zpD i=zuX i:=by funext ρ n k;exact zaa.symm
@[reducible] def dSet (i:Nat) (f:Ev->Mo W):Ms:=λρ n k=>f ρ n λw m=>onP ρ i w λq=>k.nx q m
def zp:zps f (gN i)=dSet i f:=by show zps f (gN i)=zps f (eN i);rw[zt]
@[reducible] def dOwn (i:Nat) (f:Ev->Mo W):Ms:=λρ n k=>f ρ n λw m=>onC (W.mut w) (onP ρ i w λρ'=>k.nx ρ' m) False
def yD:zsm i f=dOwn i f:=by funext ρ n k;simp only[zsm,dOwn,uS (Q:=λρ'=>k.nx ρ' _)];congr 1;funext w m;cases h:W.mut w <;> simp
@[reducible] def dApp (i:Nat) (f:Ev->Mo W):Ms:=λρ n k=>onV ρ i λv=>onL v λl=>f ρ n λw m=>onD w λd=>l.length<lim/\onP ρ i (.d (.lst (l++[d]))) λq=>k.nx q m
def zcx:(onV ρ i λv=>onL v P) = ∃l,ρ[i]?=some (some (.d (.lst l)))/\P l:=by simp only[zaa,xJ];exact propext ⟨by simp_all,by simp_all⟩
def zrI{P:List (List Int×Dt)->Prop}:(onV ρ i λv=>onE v P) = ∃l,ρ[i]?=some (some (.dt l))/\P l:=by simp only[zaa,zkS];exact propext ⟨by simp_all,by simp_all⟩
def ul:zui i f=dApp i f:=by
 funext ρ n k;simp only[zui,dApp,zcx,xI,uS (Q:=λq=>k.nx q _)];refine propext ⟨λ⟨⟨l,e⟩,h⟩=>⟨l,e,?_⟩,λ⟨l,e,h⟩=>⟨⟨l,e⟩,?_⟩⟩
 all_goals
  simp_all
@[reducible] def dExt (i:Nat) (f:Ev->Mo W):Ms:=λρ n k=>onV ρ i λv=>onL v λl=>f ρ n λw m=>onL w λB=>l.length+B.length<=lim/\onP ρ i (.d (.lst (l++B))) λq=>k.nx q m
def zgD:zvq i f=dExt i f:=by
 funext ρ n k;simp only[zvq,dExt,zcx];simp only[xJ,uS (Q:=λq=>k.nx q _)];refine propext ⟨λ⟨⟨l,e⟩,h⟩=>⟨l,e,?_⟩,λ⟨l,e,h⟩=>⟨⟨l,e⟩,?_⟩⟩
 all_goals
  simp_all
@[reducible] def dIns (i:Nat) (fk f:Ev->Mo W):Ms:=λρ n k=>onV ρ i λv=>onL v λl=>fk ρ n λy m=>f ρ m λw B=>onD w λd=>onI y λj=>(0<=j/\j<=l.length/\l.length<lim)/\onP ρ i (.d (.lst (zn2 l j.toNat d))) λq=>k.nx q B
def zpv:zvs i fk f=dIns i fk f:=by
 funext ρ n k;simp only[zvs,dIns,zcx,xI,xB,uS (Q:=λq=>k.nx q _)];refine propext ⟨λ⟨⟨l,e⟩,h⟩=>⟨l,e,?_⟩,λ⟨l,e,h⟩=>⟨⟨l,e⟩,?_⟩⟩
 all_goals
  refine (congrArg (fk ρ n) ?_).mp h;funext y m;refine congrArg (f ρ m) ?_;funext w m2;refine propext ?_;simp[e,and_assoc]
@[reducible] def zrE (i:Nat) (fk:Ev->Mo W):Ms:=λρ n k=>onV ρ i λv=>onL v λl=>fk ρ n λy m=>onI y λj=>(0<=j/\j<l.length/\l.length<=lim)/\onP ρ i (.d (.lst (l.eraseIdx j.toNat))) λq=>k.nx q m
def zmP:zpC i fk=zrE i fk:=by
 funext ρ n k;simp only[zpC,zrE,zcx,xB,uS (Q:=λq=>k.nx q _)];refine propext ⟨λ⟨⟨l,e⟩,h⟩=>⟨l,e,?_⟩,λ⟨l,e,h⟩=>⟨⟨l,e⟩,?_⟩⟩
 all_goals
  refine (congrArg (fk ρ n) ?_).mp h;funext y m;refine propext ?_;simp[e,and_assoc]
@[reducible] def zue (i:Nat):Ms:=λρ n k=>onV ρ i λv=>onL v λl=>onP ρ i (.d (.lst l.reverse)) λq=>k.nx q n
@[reducible] def dPut (i:Nat) (fk f:Ev->Mo W):Ms:=λρ n k=>onV ρ i λv=>onL v λl=>f ρ n λw m=>fk ρ m λy B=>onD w λd=>onI y λj=>(0<=j/\j<l.length)/\onP ρ i (.d (.lst (l.set j.toNat d))) λq=>k.nx q B
def zky:zvy i fk f=dPut i fk f:=by
 funext ρ n k;simp only[zvy,dPut,zcx,xI,xB,uS (Q:=λq=>k.nx q _)];refine propext ⟨λ⟨⟨l,e⟩,h⟩=>⟨l,e,?_⟩,λ⟨l,e,h⟩=>⟨⟨l,e⟩,?_⟩⟩
 all_goals
  refine (congrArg (f ρ n) ?_).mp h;funext y m;refine congrArg (fk ρ m) ?_;funext w m2;refine propext ?_;simp[e,and_assoc]
@[reducible] def onSt (w:W) (P:List Int->Prop):Prop:=∃st,w = .d (stD st)/\P st
@[reducible] def znP (fd fk:Ev->Mo W):Ev->Mo W:=λρ n Q=>fd ρ n λx q=>fk ρ q λy B=>onE x λkvs=>∃st,y = .d (stD st)/\onO (xb kvs st) λd=>Q (.d d) B
def zfx:zku fd fk=znP fd fk:=by
 funext ρ n Q;simp only[zku,znP,zkS,zaA]
 grind
@[reducible] def znQ (i:Nat) (fk f:Ev->Mo W):Ms:=λρ n k=>onV ρ i λv=>onE v λkvs=>f ρ n λw m=>fk ρ m λy B=>onD w λd=>∃st,y = .d (stD st)/\kvs.length<lim/\onP ρ i (.dt (zeR kvs st d)) λq=>k.nx q B
def zkw:zkv i fk f=znQ i fk f:=by
 funext ρ n k;simp only[zkv,znQ,zrI,xI,uS (Q:=λB=>k.nx B _)];refine propext ⟨λ⟨⟨l,e⟩,h⟩=>⟨l,e,?_⟩,λ⟨l,e,h⟩=>⟨⟨l,e⟩,?_⟩⟩
 all_goals
  refine (congrArg (f ρ n) ?_).mp h;funext y m;refine congrArg (fk ρ m) ?_;funext w m2;refine propext ?_;constructor
 ·rintro⟨kvs,st,d,q,D,F,h1,h2⟩;rw[e] at q;cases q;exact⟨d,D,st,F,h1,h2⟩
 ·simp_all
 ·simp_all
 ·rintro⟨kvs,st,d,q,D,F,h1,h2⟩;rw[e] at q;cases q;exact⟨d,D,st,F,h1,h2⟩
@[reducible] def zrC (i j:Nat):Ms:=λρ n k=>onV ρ j λw=>onN ρ j λq=>onP q i w λB=>k.nx B n
def zeg:zpz i j=zrC i j:=by funext ρ n k;simp only[zpz,zrC,zaa,uS (Q:=λq=>k.nx q _),zof (Q:=λB=>k.nx (B.set i (some _)) n)]
@[reducible] def dPar (i j:Nat) (fs:Ev->Mo (List W)):Ms:=λρ n k=>fs ρ n λD m=>on2 D λw u=>onP ρ i w λq=>onP q j u λB=>k.nx B m
@[reducible] def dIsi (B:Dt->Bool) (f:Ev->Mo W):Ev->Mo W:=λρ n Q=>f ρ n λw m=>onD w λd=>Q (.d (.bl (B d))) m
@[reducible] def zhl (fs:Ev->Mo (List W)):Ev->Mo W:=λρ n Q=>fs ρ n λq m=>on1 q λx=>onI x λj=>(0<=j/\j<=1000)/\Q (.d (.lst (zf7 j.toNat))) m
@[reducible] def zrG (fs:Ev->Mo (List W)):Ev->Mo W:=λρ n Q=>fs ρ n λq m=>on1 q λx=>onI x λj=>(0<=j/\j<=1000)/\Q (.d (.tup (zf7 j.toNat))) m
def ztp {q:List W}{P:Nat->Prop}:(∃j:Nat,q=[.d (.int (j:Int))]/\j<=1000/\P j)=on1 q λx=>onI x λj=>(0<=j/\j<=1000)/\P j.toNat:=by simp only[uR,xB];exact propext ⟨by rintro⟨j,e,h1,h⟩;exact⟨_,e,_,rfl,⟨by lia,by lia⟩,by simpa using h⟩,by rintro⟨x,e,j,B,⟨h1,h2⟩,h⟩;exact⟨j.toNat,by grind,by lia,h⟩⟩
def uG:zef fs=zhl fs:=by funext ρ n Q;simp only[zef,zhl];congr 1;funext ws m;exact ztp (P:=λj=>Q (.d (.lst (zf7 j))) m)
@[reducible] def dTru (f:Ev->Mo W):Ev->Mo Bool:=λρ n Q=>f ρ n λw m=>onO (truD w) λb=>Q b m
def zgE:zvB f=dTru f:=by funext ρ n Q;simp only[zvB,dTru,zaA]
@[reducible] def dChain (F G:W->W->Mo W) (fa fb fc:Ev->Mo W):Ev->Mo W:=λρ n Q=>fa ρ n λx B=>fb ρ B λy D=>F x y D λz q=>onB z λk=>onC k (fc ρ q λu I=>G y u I Q) (Q (.d (.bl false)) q)
def ze0{α:Type}(xs:List α)(D:α->W)(Z:l=xs.map D)(L:xs.length<=lim)(I:Nat->Ev->Nat->List Dt->Prop)(h0:I 0 J n [])(h:∀i a q F acc,xs[i]?=some a->I i q F acc->∀C:Ev->Nat->List Dt->Prop,(∀ {ρ m l},I (i+1) ρ m l->C ρ m l)->mg (D a) q λB=>O B F λb Y=>onC b (U B Y λx n3=>onD x λd=>C B n3 (acc++[d])) (C B Y acc))(fin:∀ q F acc,I xs.length q F acc->Q (.d (.lst acc)) F):ze1 mg O U J Q l n:=by
 refine zmd xs D Z L I h0 (λi a q F acc ha hI C hC=>?_) fin;have:=h i a q F acc ha hI C hC;simp only[zaz,xI] at this;exact this
def uC{α:Type}(xs:List α)(D:α->W)(Y:l=xs.map D)(J:Ev->Prop)(P:α->Bool)(E:α->Dt)(I:xs.length<=lim)(Z:J F)(h:∀a∈xs,∀ B,J B->∀C:Ev->Nat->Option Dt->Prop,(∀ {q},P a=true->J q->C q n (some (E a)))->(∀ {q},P a=false->J q->C q n none)->mg (D a) B λq=>L q n λb U=>onC b (O q U λx n3=>onD x λd=>C q n3 (some d)) (C q U none))(fin:Q (.d (.lst ((xs.filter P).map E))) n):ze1 mg L O F Q l n:=by
 refine zi9 xs D Y J P E I Z (λa ha B hj C hC=>?_) fin;have:=h a ha B hj C (λ{q} e z=>by simp_all) λ{q} e z=>by have:=hC q z;rwa[if_neg (by rw[e];decide)] at this
 simp only[zaz,xI] at this;exact this
def zas{α:Type}(xs:List α)(D:α->W)(O:l=xs.map D)(J:Ev->Prop)(E:α->Dt)(I:xs.length<=lim)(U:J F)(h:∀a∈xs,∀ B,J B->∀C:Ev->Nat->Dt->Prop,(∀ {q},J q->C q n (E a))->mg (D a) B λq=>L q n λx Y=>onD x λd=>C q Y d)(fin:Q (.d (.lst (xs.map E))) n):ze1 mg zpG L F Q l n:=by
 refine zme xs D O J E I U (λa Z B hj C hC=>?_) fin;have:=h a Z B hj C λ{q} z=>hC q z;simp only[xI] at this;exact this
def zlP{t:Ev->Mo Bool}{fb:Ms}{ρ:Ev}{k:Kt}(I:Nat->Ev->Nat->Prop)(L:Nat)(U:I L ρ n)(h:∀m q F,I m q F->∀ (C B:Ev->Nat->Prop) (E:W->Nat->Prop),(∀ {ρ n} (D:Nat),D<m->I D ρ n->C ρ n)->(∀ {ρ n},k.nx ρ n->B ρ n)->(∀ {w n},k.rt w n->E w n)->t q F λb O=>onC b (blk fb q O { rt:=E,nx:=C,ct:=C,bk:=B }) (B q O)):zkB t fb ρ n k:=by
 refine zlQ I L U λm q F Y=>?_;have:=h m q F Y (λJ Z=>∃D,D<m/\I D J Z) k.nx k.rt (λD a b=>⟨D,a,b⟩) (λz=>z) λz=>z;simp only[zaz,zrp] at this;exact this
end
open PySem PySem.Spec L2
@[reducible] def rep:Nat->(Ev->Prop)->Prop
 | 0,Q=>Q []
 | k+1,Q=>rep k λρ=>Q (none::ρ)
@[reducible] def beg:List W->Nat->(Ev->Prop)->Prop
 | [],r,Q=>rep r Q
 | w::q,r,Q=>beg q r λρ=>Q (some w::ρ)
def zlk:∀ {r:Nat} {Q:Ev->Prop},rep r Q=Q (List.replicate r none)
 | 0,Q=>rfl
 | r+1,Q=>by rw[rep,zlk];rfl
def zi1:∀ {q:List W} {r:Nat} {Q:Ev->Prop},beg q r Q=Q (q.map some++List.replicate r none)
 | [],r,Q=>by rw[beg,zlk];rfl
 | w::q,r,Q=>by rw[beg,zi1];rfl
def zss {P:Program}{w:World}{K:PySem.W.Frag}{mg:Str->Option Value}{base:Heap}{D:Str}{st:Stmt}{f:Addr}{fd:FuncData}{N ps:List Str}{k m:Nat}{fr:Bool}{F:Option zq->List W->Mo W}(M:List Nat)(r:Nat)(L:(∀vs H Q E,spV m fr F vs H Q E->vs.length=ps.length)->(∀ (B:Value) (A:Around) (q:List Env) (s:Shared) (H:Hp) (vs:List V) (Q:VK) (E:XK),Room k (A.deeper (PyProof.Rows.envOfC D (zg st) s.heap.objs.size f B))->spV m fr F vs H Q E->
   ∃t,QSs (zdX CX0 P w K mg base N D (zg st) f B A q s H E).nox (yt st) t/\t { nx:=λ_ H'=>Q .non H',rt:=Q } (L2.xt N vs) H)->FnOk P w K mg base CX0 (k+1) f fd ps (spV m fr F)) (O:m=ps.length) (U:∀i∈M,m<=i) (Y:N.length=m+r)
  (I:∀ (B:Value) (A:Around) (q:List Env) (s:Shared) (H:Hp) (E:XK) (Pn:Option zq),Room k (A.deeper (PyProof.Rows.envOfC D (zg st) s.heap.objs.size f B))->
   ∃fs,JSs (zdX CX0 P w K mg base N D (zg st) f B A q s H E).nox Pn [] M fr (yt st) fs/\∀J n R,F Pn J n R->beg J r λρ=>fs ρ n { nx:=λ_ Z=>onC fr False (R (.d .non) Z),rt:=R }):FnOk P w K mg base CX0 (k+1) f fd ps (spV m fr F):=by
 refine zsr M L O U λB A q s H E Pn hr=>?_;obtain⟨fs,h1,h2⟩:=I B A q s H E Pn hr;refine⟨fs,h1,λJ n R hl hF=>?_⟩;have:=h2 J n R hF;rw[zi1] at this;have e:xC N J=J.map some++List.replicate r none:=by unfold xC;rw[Y,hl,Nat.add_sub_cancel_left]
 grind
def Fun.okW(M:List Nat)(r:Nat)(Fu:Fun K x q st f fd)(S:FnScope N ps (zg st))(L:m=ps.length)(O:∀i∈M,m<=i)(U:N.length=m+r)(B:∀ (I:Value) (A:Around) (D:List Env) (s:Shared) (H:Hp) (E:XK) (Pn:Option zq),Room k (A.deeper (PyProof.Rows.envOfC q (zg st) s.heap.objs.size f I))->
   ∃fs,JSs (zdX CX0 P w K mg base N q (zg st) f I A D s H E).nox Pn [] M fr (yt st) fs/\∀J n R,F Pn J n R->beg J r λρ=>fs ρ n { nx:=λ_ Y=>onC fr False (R (.d .non) Y),rt:=R }):FnOk P w K mg base CX0 (k+1) f fd ps (spV m fr F):=zss M r (λl b=>Fun.okQ Fu S l b) L O U B
@[reducible] def dItS (i:Nat):Ev->Mo (List W):=λρ n Q=>onV ρ i λx=>onS x λl=>Q (l.map W.d) n
def zpx:zvu (zq6 i)=dItS i:=by
 funext ρ n Q;simp only[zvu,yi,um,zuP,zuQ,dItS,zaa,zfF,xJ,zdx]
 grind
def ztm{fs:Ms}(h:rep r λρ=>fs (a::b::ρ) n k):fs (a::b::List.replicate r none) n k:=by rw[zlk] at h;exact h
def zvD {G:Prop}(P:W->Prop)(h:(∀a,P a)->G)(r:∀a,P a):G:=h r
def len1 {st:List Int}{x:Dt}(h:st.length<=1000):(st.map Dt.int).length+[x].length<=lim:=by rw[ab];exact ar (by simp;lia:_<=1001) (by decide)
def cat1 {st:List Int}{x:Int}:st.map Dt.int++[Dt.int x]=(st++[x]).map Dt.int:=by simp_all
def zge {st:List Int}{b x:Int}(q:0<=b)(B:st.length<=1000):ua (st.map Dt.int) none (some b)++[Dt.int x]++ua (st.map Dt.int) (some (b+1)) none=(chg st b x).map Dt.int:=by
 have key:∀z:W,zgk (.d (.tup (ua (st.map Dt.int) none (some b)))) (.d (.tup [.int x])) 0 (λw m=>zgk w (.d (.tup (ua (st.map Dt.int) (some (b+1)) none))) m λw' _=>w' = .d (stD (chg st b x))):=λz=>zoF q B rfl;obtain⟨l,m,D,F,_,I,J,L,O,_,h⟩:=key (.d .non)
 grind
def zdS {st:List Int}{b:Int}{x:Dt}(q:st.length<=1000):(ua (st.map Dt.int) none (some b)).length+[x].length<=lim:=by have:=zca (st.map Dt.int) none (some b);rw[ab] at this;exact ar (by simp;lia:_<=1001) (by decide)
def zdT{st:List Int}{b c:Int}(q:st.length<=1000):(ua (st.map Dt.int) none (some b)++[x]).length+(ua (st.map Dt.int) (some c) none).length<=lim:=by have h1:=zca (st.map Dt.int) none (some b);have h2:=zca (st.map Dt.int) (some c) none;rw[ab] at h1 h2;rw[ai];exact ar (by simp;lia:_<=2001) (by decide)
def scR (mg:W->Ev->(Ev->Prop)->Prop)(L:Ev->Mo Bool)(O:Ev->Mo W)(F:Ev)(Q:List (List Int)->Nat->Prop):List W->Nat->Prop:=λl U=>∃I:Nat->Ev->Nat->List (List Int)->Prop,I 0 F U []/\
 (∀i w q D acc,l[i]?=some w->I i q D acc->mg w q λB=>L B D λb J=>if b=true then O B J λx Y=>∃st,x = .d (stD st)/\I (i+1) B Y (acc++[st]) else I (i+1) B J acc)/\
 (∀i q D acc ks,I i q D acc->List.Nodup ks->(∀z∈ks,z∈acc)->ks.length<300)/\
 ∀ q D acc ks,I l.length q D acc->List.Nodup ks->(∀z,z∈ks↔z∈acc)->Q ks D
@[reducible] def zkz (q:Ev->Mo (List W)) (mg:W->Ev->(Ev->Prop)->Prop) (B:Ev->Mo Bool) (D:Ev->Mo W) (cix:List (Option Nat)):Ev->Mo W:=λρ n Q=>q ρ n (scR mg B D (uZ ρ cix) λks F=>∃m,ks.length<64/\1<=m/\(∀st∈ks,st.length=m)/\∀l':List (List Int),l'.Perm ks->(l'.Pairwise λa b=>HT.lexLt a b=true)->Q (.d (zaq l')) F)
def zkN:NP (zh0 P w a xs):=λ_ e=>by cases e
def zg0{ks:List (List Int)}(S:zdk P w (upd H acc o) acc ks):NP o/\∀xs,o≠.tup xs:=by obtain⟨xs,h1,_⟩:=S;rw[zk] at h1;cases h1;exact⟨zkN,λ_ e=>by cases e⟩
section
variable {X:Cx}{Pn:Option zq}{M S:List Nat}{fr fr':Bool}{pos p:Pos}
def zlj{P:Program}{w:World}{wi:TI}{g:TG}{ti:TT}{te:TE}{cix:List (Option Nat)}{fi:Ev->Mo (List W)}{mg:W->Ev->(Ev->Prop)->Prop}{ft:Ev->Mo Bool}{fe:Ev->Mo W}(hn:(cix.filterMap id).Nodup)(hi:RI Pn M ow wi fi)(hg:RG (zS M cix) (zS M cix) g mg)(ht:RT Pn (zS M cix) ti ft)(he:RE Pn (zS M cix) fr' te fe):RE Pn M true (tCB (zlg P w) (zdg (zqR P w wi g ti te cix) zlV)) (zkz fi mg ft fe cix):=⟨λA σ H ρ n Q R E Pp hf k=>by
 refine hi.run A σ H ρ n _ _ E Pp hf λl m J H1 ⟨I,i0,it,ib,ie⟩ iv g1=>λacc D S0=>?_;have E1:=E.stay g1.st;have E2:=(E1.cap hn).more (zv.upd (o:=zh0 P w acc []) D) (Fr.of D) zk zkN (by intro xs z;cases z);have P2:xa Pn (λb=>A b\/b=acc) m (L2.upd H1 acc (zh0 P w acc [])):=g1.pn.grow (g1.pn.same (xm.upd D)) (Fr.of D) zk zkN
 have bx:∀k w,k∈zS M cix->(uZ ρ cix)[k]?=some (some w)->(x6 σ cix)[k]?≠some (some (.ref acc)):=λk w hk hw z=>by obtain⟨v,Z,_,s3⟩:=(E1.cap hn).val k w hw;obtain⟨a,e,hA,_⟩:=s3 hk;rw[z] at Z;cases Z;cases e;exact E1.new D hA
 have key:∀ F q H',EnvR (λb=>A b\/b=acc) (zS M cix) F H' q->(∀k∈zS M cix,F[k]?=(x6 σ cix)[k]?/\q[k]?=(uZ ρ cix)[k]?)->∀k w,k∈zS M cix->q[k]?=some (some w)->F[k]?≠some (some (.ref acc)):=λF q H' E' an k w hk hw z=>by simp_all
 refine⟨λi mm F H'=>mm=l.length - i/\i<=l.length/\∃ q O B ks,EnvR (λb=>A b\/b=acc) (zS M cix) F H' q/\xa Pn (λb=>A b\/b=acc) O H'/\I i q O B/\zdk P w H' acc ks/\(∀z,z∈ks↔z∈B)/\zv (zT A H1) (zT (λb=>A b\/b=acc) H')/\zv H1 H'/\(∀k∈zS M cix,F[k]?=(x6 σ cix)[k]?/\q[k]?=(uZ ρ cix)[k]?),
  ⟨l.length,by simp,aJ _,_,m,[],[],E2,P2,i0,S0,λ_=>Iff.rfl,yz (zv.upd D) (Fr.of D),zv.upd D,λk hk=>⟨rfl,rfl⟩⟩,?_⟩
 rintro i mm F H' ⟨rfl,b0,q,O,B,ks,E',P',hI,hS,hm,st,Z,an⟩;have av:ks.Nodup:=hS.choose_spec.2.2.2;by_cases a0:i<l.length
 ·right;have ag:l[i]?=some l[i]:=aj a0;obtain⟨go,yl⟩:=iv.one i l[i] _ H' ag st (λ_=>Z) λp hp=>E'.new hp
  refine⟨go,λap H2=>∃ q O B ks,EnvR (λb=>A b\/b=acc) (zS M cix) ap H2 q/\xa Pn (λb=>A b\/b=acc) O H2/\I (i+1) q O B/\zdk P w H2 acc ks/\(∀z,z∈ks↔z∈B)/\zv (zT A H1) (zT (λb=>A b\/b=acc) H2)/\zv H1 H2/\(∀k∈zS M cix,ap[k]?=(x6 σ cix)[k]?/\q[k]?=(uZ ρ cix)[k]?),
   λap H2 h=>⟨l.length - (i+1),by lia,rfl,a0,h⟩,λx H2 hy=>?_⟩
  obtain⟨S2,V2⟩:=yl x H2 hy;refine hg.run _ F H2 q x l[i] _ _ (E'.stay (zv.same S2)) V2 (it i l[i] q O B ag hI) λac L r3 E3 f3=>?_;have U:∀k∈zS M cix,ac[k]?=(x6 σ cix)[k]?/\L[k]?=(uZ ρ cix)[k]?:=λk hk=>⟨(f3 k hk).1.trans (an k hk).1,(f3 k hk).2.trans (an k hk).2⟩;refine ht.run _ ac H2 L O _ _ E3 (P'.same S2) r3 λb m3 H4 r4 g4=>?_;have ad:=(zv.same S2).trans g4.st
  cases b with
  | false=>
   rw[if_neg (by decide)] at r4 ⊢;exact⟨L,m3,B,ks,E3.stay g4.st,g4.pn,r4,hS.stay ad,hm,st.trans (zx ad),Z.trans ad,U⟩
  | true=>
   rw[if_pos rfl] at r4 ⊢;refine he.run _ ac H4 L m3 _ _ (E3.stay g4.st) g4.pn r4  ?_;rintro w5 m5 v5 H5 ⟨d,e5,r5⟩ V5 g5 _;subst e5;have as:=ad.trans g5.st;have E5:=(E3.stay g4.st).stay g5.st;obtain⟨b,rfl,hb⟩:=zt4 V5;refine⟨b,d,ks,rfl,hb,hS.stay as,ib i q O B ks hI av λz hz=>(hm z).mp hz,λo a5 S' a7 b1=>?_⟩;obtain⟨np,nt⟩:=zg0 S';refine⟨L,m5,B++[d],a5,E5.upd (.inr rfl) (key ac L H5 E5 U) np nt,g5.pn.upd (.inr rfl),r5,S',λz=>?_,?_,?_,U⟩
   ·rw[a7 z,aG,aB,hm z,or_comm]
   ·rw[zV (.inr rfl)];exact st.trans (zx as)
   ·exact λb o e nn=>by rw[zi (zd e D)];exact Z.trans as b o e nn
 ·refine Or.inl ?_;have bb:i=l.length:=by lia
  subst bb;refine⟨iv.stop _ H' st (λ_=>Z),?_⟩;obtain⟨ml,bd,h1,bk,hq⟩:=ie q O B ks hI av hm;refine⟨acc,ks,ml,rfl,hS,bd,h1,bk,λys Y bl hp hu=>λp H3 a1 gp S3=>?_⟩;have bo:=Z.trans (zv.same S3);have a2:Al A H':=E1.al.stay Z;have bs:xa Pn A O H3:=(P'.same S3).less λa z=>.inl z;have a3:=a2.stay (zv.same S3);have a4:=bl.stay (zv.same S3);refine k _ O _ H3 (hq Y hp hu) (Val.of ⟨p,ys,rfl,zD (a2.new a1) gp,u7 a3.noT (ue Y) a4⟩) (g1.trans ⟨bo,bs⟩) λ_=>⟨p,rfl,((Fr.of a1).back Z).back g1.st,p,ys,rfl,gp,u7 (λb xs z e=>?_) (ue Y) a4⟩;rcases z with z | z
  ·exact a3.noT b xs z e
  ·subst z;rw[gp] at e;cases e⟩
def zmD {elt tg iter:Expr}{ifs:List Expr}{scope:Scope}{N:List Str}{cix:List (Option Nat)}{I:Ev->Mo (List W)}{mg:W->Ev->(Ev->Prop)->Prop}{J:Ev->Mo Bool}{L:Ev->Mo W}{U:Bool}{sp:Pos}(B:X.mg "sorted" = none)(Y:X.A.units+1<cLine)(O:X.calm=true)(Z:CompOk X scope N cix)
  (hi:JI X Pn M U tg iter I) (hg:∀C s H ex,JG (zu X scope N C s H ex) (zS M cix) (zS M cix) tg mg) (ht:∀C s H ex,JTs (zu X scope N C s H ex) Pn (zS M cix) ifs J) (he:∀C s H ex,JE (zu X scope N C s H ex) Pn (zS M cix) fr' elt L)
  (hn:(cix.filterMap id).Nodup:=by decide) (hs:∀x,foldedSetIterable iter X.env x=pure x:=by intro _;rfl) (D:Gl X "sorted" := by rfl) (q:starEach [.SetComp elt [⟨tg,iter,ifs,0⟩] scope sp] X.env=[(false,eval (.SetComp elt [⟨tg,iter,ifs,0⟩] scope sp) X.env)]:=by rfl) (F:(backTo pos (starEach [] X.env)).any (·.1)=false:=by rfl) :
  JE X Pn M true (.Call (.Name "sorted" p) [.SetComp elt [⟨tg,iter,ifs,0⟩] scope sp] [] pos) (zkz I mg J L cix):=by
 obtain⟨ti,qi,ri⟩:=hi.ex;obtain⟨g,qg,rg⟩:=ziL hg;obtain⟨tt,qt,rt⟩:=ziM ht;obtain⟨te,qe,re⟩:=zlK he;exact⟨_,xN (zhk O) D B bZ (zK (ziB Y O Z qi qg qt qe hs) yB q) (by decide) (by decide) q F,zlj hn ri rg rt re⟩
end
def zqL{α:Type}{Q:List (List Int)->Nat->Prop}(xs:List α)(I:α->W)(hl:l=xs.map I)(J:Ev->Prop)(P:α->Bool)(E:α->List Int)(j0:J F)(h:∀a∈xs,∀ B,J B->∀C:Ev->Nat->Option (List Int)->Prop,(∀ {q},P a=true->J q->C q n (some (E a)))->(∀ {q},P a=false->J q->C q n none)->mg (I a) B λq=>ft q n λb n2=>onC b (fe q n2 λx O=>∃st,x = .d (stD st)/\C q O (some st)) (C q n2 none))(U:∀ks,List.Nodup ks->(∀z∈ks,z∈(xs.filter P).map E)->ks.length<300)(fin:∀ks,List.Nodup ks->(∀z,z∈ks↔z∈(xs.filter P).map E)->Q ks n):scR mg ft fe F Q l n:=by
 subst hl;refine⟨λi B L acc=>J B/\L=n/\acc=((xs.take i).filter P).map E,⟨j0,rfl,by simp⟩,?_,?_,?_⟩
 ·rintro i w B L acc hw ⟨hj,rfl,rfl⟩;rw[aw] at hw;obtain⟨a,Y,rfl⟩:=aE.mp hw
  have:=h a (au Y) B hj (λq O o=>match o with
   | some d=>J q/\O=L/\((xs.take i).filter P).map E++[d]=((xs.take (i+1)).filter P).map E
   | none=>J q/\O=L/\((xs.take i).filter P).map E=((xs.take (i+1)).filter P).map E) (λ{q} Z D=>by
    rw[zl Y,bQ,az]
    exact⟨D,rfl,by simp[Z]⟩) (λ{q} Z D=>by
    rw[zl Y,bQ,az];exact⟨D,rfl,by simp[Z]⟩)
  simp only[zaz] at this;exact this
 ·rintro i B L acc ks ⟨_,rfl,rfl⟩ hn hk;refine U ks hn λz hz=>?_
  grind
 ·simp_all
open PySem PySem.Spec L2
@[reducible] def dGetI (fd fk q:Ev->Mo W):Ev->Mo W:=λρ n Q=>fd ρ n λx B=>onK x λkvs=>fk ρ B λy D=>q ρ D λz F=>onO (zr7 y) λk=>onI z λi=>Q (.d ((xb kvs k).getD (.int i))) F
section
variable {X:Cx}{Pn:Option zq}{M:List Nat}{a b c:Expr}{fa fb fc:Ev->Mo W}{apos cpos:Pos}
end
end L3
namespace L2
open PySem PySem.Spec PyProof.Rows
section
variable {X:Cx}{e lo st:Expr}{te tl tk:TE}{pos p2:Pos}
end
end L2
namespace L3
open PySem PySem.Spec L2
@[reducible] def dFromL (fa fl fk:Ev->Mo W):Ev->Mo W:=λρ n Q=>fa ρ n λx q=>onL x λl=>fl ρ q λy B=>onI y λc=>fk ρ B λz D=>onI z λk=>(0<=c/\1<=k)/\∀ys:List Dt,ys.Sublist (l.drop c.toNat)->Q (.d (.lst ys)) D
section
variable {X:Cx}{Pn:Option zq}{M:List Nat}{e lo st:Expr}{f fl fk:Ev->Mo W}{pos p2:Pos}
end
open PySem PySem.Spec L2
def zgA (A:Addr->Prop)(a:Addr):Addr->Prop:=λb=>A b/\b≠a
def zo4:HO:=.dK [(Sum.inr "at",.non)]
def zjS:¬ NP zo4:=λh=>by have:=h _ rfl;rw[xw (p:=((Sum.inr "at" : Key),V.non)) rfl] at this;cases this
abbrev zjP (H:Hp)(a:Addr):Hp:=L2.upd H a zo4
def zjQ:zjP H a a=some zo4:=zk
def zci(h:b≠a):zjP H a b=H b:=zi h
def zjR:Fr (zjP H a) a:=λo e=>by rw[zjQ] at e;cases e;exact zjS
def zaV(B:A a):zv (zT A H) (zT (zgA A a) (zjP H a)):=λb o e D=>by
 obtain⟨h1,h2⟩:=yA.mp e;by_cases q:b=a
 ·simp_all
 ·exact zD (λz=>h1 z.1) (by rw[zci q];exact h2)
def ziX(q:Al A H):Al (zgA A a) (zjP H a):=λb z=>by obtain⟨o,h1,h2⟩:=q b z.1;exact⟨o,by rw[zci z.2];exact h1,h2⟩
def WAt.top(h:WAt T G u (.ref c))(e:T' c=T c)(hm:u.mut=true):WAt T' G u (.ref c):=by
 cases u with
 | d x=>
  cases x with
  | lst l=>obtain⟨a2,xs,e2,g1,g2⟩:=h;cases e2;exact⟨c,xs,rfl,by rw[e];exact g1,g2⟩
  | dct=>obtain⟨a2,xs,e2,g1,g2⟩:=h;cases e2;exact⟨c,xs,rfl,by rw[e];exact g1,g2⟩
  | _=>cases hm
 | pen p=>cases hm
 | dk kvs=>obtain⟨a2,xs,e2,g1,g2,g3⟩:=h;cases e2;exact⟨c,xs,rfl,by rw[e];exact g1,g2,g3⟩
 | dt kvs=>obtain⟨a2,xs,e2,g1,g2⟩:=h;cases e2;exact⟨c,xs,rfl,by rw[e];exact g1,g2⟩
 | ss P w kvs=>obtain⟨a2,xs,e2,g1,g2⟩:=h;cases e2;exact⟨c,xs,rfl,by rw[e];exact g1,g2⟩
 | df kvs=>obtain⟨a2,ob,xs,e2,g1,g2⟩:=h;cases e2;exact⟨c,ob,xs,rfl,by rw[e];exact g1,g2⟩
 | kf kvs=>obtain⟨a2,ob,xs,e2,g1,g2⟩:=h;cases e2;exact⟨c,ob,xs,rfl,by rw[e];exact g1,g2⟩
section
variable {X:Cx}{Pn:Option zq}{M S:List Nat}{fr fr':Bool}{pos p:Pos}
def At3.put(a:At3 Pn B S M A σ H ρ n)(hi:i∈M)(hs:i∉S)(g':Go Pn A H m H')(hF:Fr H ad)(hb:WAt H' (zT (λb=>A b\/b=ad) H') w (.ref ad))(hm:w.mut=true) :
  At3 Pn B S M (λb=>A b\/b=ad) (σ.set i (some (.ref ad))) H' (ρ.set i (some w)) m:=by
 obtain⟨a2,o,e2,ho,np,nt⟩:=zkH hb hm;cases e2;have E1:=a.env.more g'.st hF ho np nt;have hnA:¬ A ad:=a.env.newF hF;refine⟨⟨?_,?_,?_,E1.al⟩,⟨λb z=>.inl (a.frm.sub b z),λb z=>?_,λb o e n c=>g'.st b o (a.frm.st b o e n c) n,a.frm.al,a.frm.cn,λb z=>let ⟨o,e,n⟩:=a.frm.cs b z;⟨o,g'.st b o e n,n⟩⟩,a.pn.grow' g'.pn hF ho np,a.prot.trans (yz g'.st hF),λj hj=>?_,λj u b hj e s=>?_⟩
 ·rw[bf,bf];exact a.env.len
 ·intro j u e;by_cases hj:j=i
  ·subst hj
   have hl:j<ρ.length:=by
    have:=(ae.mp e).1
    simp_all
   rw[aN hl] at e;cases e;exact⟨.ref ad,aN (by rw[a.env.len];exact hl),λz=>absurd hi z,λ_=>⟨ad,rfl,.inr rfl,hb,hm⟩⟩
  ·rw[ay (Ne.symm hj)] at e ⊢;exact E1.val j u e
 ·intro j l u u' b hj hl hne e1 e2 s1 s2
  have own:∀q u,q∈M->q≠i->ρ[q]?=some (some u)->σ[q]?≠some (some (.ref ad)):=λq u hq hqi eq sq=>by
   obtain⟨v,s,_,s3⟩:=a.env.val q u eq;obtain⟨c,ec,hc,_⟩:=s3 hq
   simp_all
  have len:∀q (u:W),(ρ.set i (some w))[q]?=some (some u)->q<σ.length:=λq u e=>by have:=(ae.mp e).1;rw[bf] at this;rw[a.env.len];exact this
  by_cases hji:j=i
  ·subst hji;rw[aN (len _ _ e1)] at s1;cases s1;rw[ay hne] at e2 s2;exact own l u' hl (Ne.symm hne) e2 s2
  ·rw[ay (Ne.symm hji)] at e1 s1;by_cases hli:l=i
   ·simp_all
   ·rw[ay (Ne.symm hli)] at e2 s2;exact a.env.dis j l u u' b hj hl hne e1 e2 s1 s2
 ·rcases z with z | z
  ·exact a.frm.new b z
  ·subst z;exact .inr (.inl (a.frm.back hF hnA))
 ·rw[ay λ(z:i=j)=>hs (by rw[z];exact hj)];exact a.fix j hj
 ·by_cases hji:j=i
  ·subst hji
   have hl:j<σ.length:=by
    have:=(ae.mp s).1
    simp_all
   rw[aN hl] at s;cases s;exact .inl (a.frm.back hF hnA)
  ·rw[ay (Ne.symm hji)] at e s;exact a.mine j u b hj e s
def At3.let'(a:At3 Pn B S M A σ H ρ n)(I:∀b,¬ B.ca b)(hi:i∈M)(e:ρ[i]?=some (some w))(s:σ[i]?=some (some (.ref F)))(J:A F) :
  At3 Pn B S M (zgA A F) σ (zjP H F) (ρ.set i none) n:=by
 have Z:Fr B.H0 F:=(a.mine i w F hi e s).resolve_right (I F)
 have O:∀ {j:Nat} {u:W},(ρ.set i none)[j]?=some (some u)->j≠i/\ρ[j]?=some (some u):=λ{j u} h=>by
  by_cases D:j=i
  ·subst D;rw[aN (ae.mp e).1] at h;cases h
  ·rw[ay (Ne.symm D)] at h;exact⟨D,h⟩
 refine⟨⟨?_,?_,?_,ziX a.env.al⟩,⟨λb z=>?_,λb z=>a.frm.new b z.1,λb o e' np nc=>?_,a.frm.al,a.frm.cn,λb z=>absurd z (I b)⟩,(a.pn.upd J).less λ_ z=>z.1,a.prot.trans (zaV J),a.fix,?_⟩
 ·rw[bf];exact a.env.len
 ·intro j u h;obtain⟨D,h⟩:=O h;obtain⟨v,U,s2,s3⟩:=a.env.val j u h;refine⟨v,U,λz=>WAt.up (zaV J) (zaV J) (s2 z),λz=>?_⟩;obtain⟨c,rfl,hc,hb,hm⟩:=s3 z
  have L:c≠F:=λq=>by subst q;exact a.env.dis i j w u c hi z (Ne.symm D) e h s U
  refine⟨c,rfl,⟨hc,L⟩,?_,hm⟩;exact WAt.top (WAt.up (zv.refl _) (zaV J) hb) (zci L) hm
 ·intro j l u u' b D hl Y e1 e2;exact a.env.dis j l u u' b D hl Y (O e1).2 (O e2).2
 ·refine⟨a.frm.sub b z,λq=>?_⟩;subst q;obtain⟨o,o1,o2,_⟩:=a.frm.al b z;exact Z o o1 o2
 ·rw[zci λq=>by subst q;exact Z o e' np];exact a.frm.st b o e' np nc
 ·intro j u b D h U;exact a.mine j u b D (O h).2 U
def spG (k:Nat)(fr:Bool)(F:Option zq->List W->Mo W):Sp:=λvs H Q _=>∃Pn A us zs w a n R,vs=us++[.ref a]/\Al A H/\A a/\zdl A H zs us/\Bor A H w (.ref a)/\w.mut=true/\zs.length+1=k/\xa Pn A n H/\F Pn (zs++[w]) n R/\
 ∀w' m v H',R w' m->Val (zgA A a) H' w' v->zv (zjP H a) H'->xa Pn (zgA A a) m H'->(fr=true->FrV (zgA A a) (zjP H a) H' w' v)->Q v H'
@[reducible] def dGiv (i:Nat) (F:List W->Mo W) (f1 f2:Ev->Mo W):Ms:=λρ n k=>f1 ρ n λw1 m1=>f2 ρ m1 λw2 m2=>onV ρ i λw=>F [w1,w2,w] m2 λw' m'=>onC (W.mut w') (onP ρ i w' λρ'=>k.nx ρ' m') False
def zts(h1:RE Pn M b1 t1 f1)(h2:RE Pn M b2 t2 f2)(hi:i∈M)(hs:i∉S) :
  RS Pn S M fr (zg2 (zg3 (spG 3 true F) [] E0 (zdg t1 (zdg t2 (zdg (zlW i) zlV)))) (zap i)) (dGiv i (F Pn) f1 f2):=⟨λB A σ H ρ n k D a kk hf=>by
 refine h1.run A σ H ρ n _ _ a.env a.pn hf λw1 m1 v1 H1 r1 V1 g1 _=>?_;refine h2.run A σ H1 ρ m1 _ _ (a.env.stay g1.st) g1.pn r1 λw2 m2 v2 H2 r2 V2 g2 _=>?_;rw[zaa] at r2;obtain⟨w,ew,r2⟩:=r2;have a2:=(a.step g1).step g2;obtain⟨v,s1,_,s3⟩:=a2.env.val i w ew;obtain⟨ad,rfl,hA,hb,hm⟩:=s3 hi;refine⟨.ref ad,s1,?_⟩;show spG 3 true F ([v1,v2,.ref ad]++[]) H2 (λx H1=>zap i x σ H1 D.nx) E0;rw[dg];refine⟨Pn,A,[v1,v2],[w1,w2],w,ad,m2,_,rfl,a2.env.al,hA,⟨v1,_,rfl,V1.stay g2.st,v2,_,rfl,V2,rfl⟩,hb,hm,rfl,g2.pn,r2,λw' m' v' H' r' hv st pn hfr=>?_⟩;rw[zaz] at r'
 cases hm':W.mut w' with
 | false=>rw[hm'] at r';exact r'.elim
 | true=>
  rw[hm',if_pos rfl,uS] at r';obtain⟨a',rfl,hF,hb'⟩:=hfr rfl;have av:=a2.let' kk.fc hi ew s1 hA;have:=av.put hi hs ⟨st,pn⟩ hF hb' hm';rw[List.set_set] at this;exact kk.nx _ _ H' _ m' this r'⟩
def zr4{x y:Str}{st:Stmt}{ps:List Str}{fA:Addr}{fd:FuncData}{F:Option zq->List W->Mo W}{f1 f2:Ev->Mo W}{p3 px spos:Pos}(D:Dfn X.K X.mg y st ps fA fd)(G:FnOk X.prog X.w X.K X.mg X.base CX0 j fA fd ps (spG 3 true F))(hr:Room Z X.A)(h1:JE X Pn M b1 B f1)(h2:JE X Pn M b2 q f2)(hN:X.N.Nodup)(hi:X.N[i]?=some x)(hx:Loc X.env.scope x)(I:i∈M:=by decide)(J:i∉S:=by decide)(L:j<=Z:=by decide)(hg:Gl X y:=by rfl)(O:(y==("__debug__" : Str))=false:=by decide)(hv:Vis X.env.scope x:=by walk_at "v")(hd:(x==("__debug__" : Str))=false:=by decide)(U:(x==("__classdict__" : Str))=false:=by decide)(q1:starEach [B,q,.Name x p3] X.env=(false,eval B X.env)::starEach [q,.Name x p3] X.env:=by rfl)(q2:starEach [q,.Name x p3] X.env=(false,eval q X.env)::starEach [.Name x p3] X.env:=by rfl)(q3:starEach [.Name x p3] X.env=(false,eval (.Name x p3) X.env)::starEach [] X.env:=by rfl)(Y:(backTo pos (starEach [q,.Name x p3] X.env)).any (·.1)=false:=by rfl)(hs:swapsWith (.Call (.Name y p) [B,q,.Name x p3] [] pos) (some (.Name x px)) spos.line X.env=pure false:=by rfl)(hf:X.fn x=true\/X.env.scope.names.lookup x=some .local:=by walk_at "l") :
  JS X Pn S M fr (.Assign [.Name x px] (.Call (.Name y p) [B,q,.Name x p3] [] pos) spos) (dGiv i (F Pn) f1 f2):=by
 obtain⟨t1,p1,r1⟩:=h1.ex;obtain⟨t2,p2,r2⟩:=h2.ex;exact⟨_,ug hN hi hx (znc D G hr (zK p1 (zK p2 (zK (qv i hi hv hd U) yB q3) q2) q1) L hg O q1 Y) hs hf,zts r1 r2 I J⟩
def zik {A:Addr->Prop}{H:Hp}{N:List Str}{zs:List W}{us:List V}{w:W}{a:Addr}(al:Al A H)(hA:A a)(h:zdl A H zs us)(hb:Bor A H w (.ref a))(hm:w.mut=true)(hg:zs.length∈M)(hM:∀i∈M,zs.length<=i) :
  EnvR A M (L2.xt N (us++[.ref a])) H (xC N (zs++[w]))/\∀i u,i∈M->(xC N (zs++[w]))[i]?=some (some u)->(L2.xt N (us++[.ref a]))[i]?=some (some (.ref a)):=by
 have hl:=h.len
 have few:∀i u,(xC N (zs++[w]))[i]?=some (some u)->i<zs.length+1/\(zs++[w])[i]?=some u:=λi u e=>by
  unfold xC at e
  have hi:i<(zs++[w]).length:=by
   apply bG;intro z;rw[bj (by simp_all)] at e;obtain⟨_,q⟩:=ae.mp e
   simp_all
  rw[bh (by simp_all),aw] at e
  simp_all
 have at':∀i v,(us++[V.ref a])[i]?=some v->(L2.xt N (us++[.ref a]))[i]?=some (some v):=λi v e=>by unfold L2.xt;rw[bh (by rw[ab];exact (ae.mp e).1),aw,e];rfl
 have last:(us++[V.ref a])[zs.length]?=some (.ref a):=by rw[<- hl];simp
 refine⟨⟨?_,λi u e=>?_,λi j u u' b hi hj hne e1 e2=>?_,al⟩,λi u hi e=>?_⟩
 ·unfold L2.xt xC;simp[hl]
 ·obtain⟨h1,h2⟩:=few i u e;by_cases hi:i<zs.length
  ·rw[bh hi] at h2;obtain⟨v,v1,v2⟩:=h.get h2;exact⟨v,at' i v (by grind),λ_=>v2,by grind⟩
  ·have hie:i=zs.length:=by lia
   subst hie;have:u=w:=by simpa using h2.symm
   subst this;exact⟨.ref a,at' _ _ last,λz=>absurd hg z,λ_=>⟨a,rfl,hA,hb,hm⟩⟩
 ·have h1:=(few i u e1).1;have h2:=(few j u' e2).1;have h3:=hM i hi;have h4:=hM j hj;exact absurd (show i=j by lia) hne
 ·have h1:=(few i u e).1;have h3:=hM i hi;have:i=zs.length:=by lia
  subst this;exact at' _ _ last
def zsq(M:List Nat)(r:Nat)(U:(∀vs H Q E,spG m fr F vs H Q E->vs.length=ps.length)->(∀ (D:Value) (A:Around) (B:List Env) (s:Shared) (H:Hp) (vs:List V) (Q:VK) (E:XK),Room k (A.deeper (PyProof.Rows.envOfC I (zg st) s.heap.objs.size f D))->spG m fr F vs H Q E->
   ∃t,QSs (zdX CX0 P w K mg base N I (zg st) f D A B s H E).nox (yt st) t/\t { nx:=λ_ H'=>Q .non H',rt:=Q } (L2.xt N vs) H)->FnOk P w K mg base CX0 (k+1) f fd ps (spG m fr F))(hm:m=ps.length)(hg:m - 1∈M)(hM:∀i∈M,m - 1<=i)(hN:N.length=m+r)(L:∀ (D:Value) (A:Around) (B:List Env) (s:Shared) (H:Hp) (E:XK) (Pn:Option zq),Room k (A.deeper (PyProof.Rows.envOfC I (zg st) s.heap.objs.size f D))->
   ∃fs,JSs (zdX CX0 P w K mg base N I (zg st) f D A B s H E).nox Pn [] M fr (yt st) fs/\∀ws n R,F Pn ws n R->beg ws r λρ=>fs ρ n { nx:=λ_ n'=>False,rt:=R }):FnOk P w K mg base CX0 (k+1) f fd ps (spG m fr F):=by
 refine U (λvs H Q E h=>?_) (λD A B s H vs Q E hr h=>?_)
 ·obtain⟨Pn,A,Y,zs,w,a,n,R,rfl,_,_,Z,_,_,hl,_⟩:=h;rw[ai,Z.len,<- hm,<- hl];rfl
 ·obtain⟨Pn,A3,Y,zs,w,a,n,R,rfl,al,hA,Z,O,ac,hl,hp,hF,q⟩:=h;obtain⟨fs,⟨t,qs,rs⟩,ad⟩:=L D A B s H E Pn hr;obtain⟨ev,mi⟩:=zik (N:=N) (M:=M) al hA Z O ac (by grind) (by grind);have J:=ad (zs++[w]) n R hF;rw[zi1] at J
  have e:xC N (zs++[w])=(zs++[w]).map some++List.replicate r none:=by
   unfold xC
   simp_all
  rw[<- e] at J;refine⟨t,qs,rs.run { A0:=zgA A3 a,H0:=zjP H a,G0:=zT A3 H,σ0:=L2.xt N (Y++[.ref a]) } A3 (L2.xt N (Y++[.ref a])) H (xC N (zs++[w])) n _ _ ⟨ev,⟨λ_ z=>z.1,λb z=>?_,λb o e np _=>?_,ziX al,λ_ z=>z.elim,λ_ z=>z.elim⟩,hp,zv.refl _,λi hi=>rfl,λi u b hi e1 s1=>?_⟩ ⟨?_,?_,?_,λ_ z=>z,?_⟩ J⟩
  ·by_cases O:b=a
   ·subst O;exact .inr (.inl zjR)
   ·exact .inl ⟨z,O⟩
  ·by_cases O:b=a
   ·subst O;have e:zjP H b b=some o:=e;rw[zjQ] at e;cases e;exact absurd np zjS
   ·have e:zjP H a b=some o:=e;rwa[zci O] at e
  ·have:=mi i u hi e1;rw[s1] at this;cases this;exact .inl zjR
  ·simp_all
  ·simp_all
  ·simp_all
  ·intro w n' v H' ag st pn an r;exact q w n' v H' r ag st.stay pn an
def Fun.okG(M:List Nat)(r:Nat)(Fu:Fun K x q st f fd)(S:FnScope N ps (zg st))(L:m=ps.length)(O:m - 1∈M)(U:∀i∈M,m - 1<=i)(Y:N.length=m+r)(B:∀ (I:Value) (A:Around) (D:List Env) (s:Shared) (H:Hp) (E:XK) (Pn:Option zq),Room k (A.deeper (PyProof.Rows.envOfC q (zg st) s.heap.objs.size f I))->
   ∃fs,JSs (zdX CX0 P w K mg base N q (zg st) f I A D s H E).nox Pn [] M fr (yt st) fs/\∀J n R,F Pn J n R->beg J r λρ=>fs ρ n { nx:=λ_ Z=>False,rt:=R }):FnOk P w K mg base CX0 (k+1) f fd ps (spG m fr F):=zsq M r (λl b=>Fun.okQ Fu S l b) L O U Y B
end
end L3
namespace L2
open PySem PySem.Spec PyProof.Rows PySem.W PySem.SeqAt
section
variable {X:Cx}
def ztg:V->List V->Hp->VK->Prop:=λx vs H Q=>∃ (l:Addr) (ns:List Int) (k:Int),x = .ref l/\vs=[.int k]/\H l=some (.lst (ns.map V.int))/\k∈ns/\Q (.int (ns.idxOf k:Nat)) H
def zmT:MtM X "list.index" ztg:=by
 intro pins s σ H x vs v us Q I L O h;obtain⟨l,ns,k,rfl,rfl,U,Y,q⟩:=h;cases L;obtain⟨u,rfl,Z⟩:=O.one;obtain⟨t,rfl⟩:=Z;obtain⟨z,its,n,r,hl,e⟩:=I.lstM U;have hi:=zd5 r;have J:=hi.length;have hj:ns.idxOf k<ns.length:=List.idxOf_lt_length_iff.mpr Y;rw[ab,bH] at z
 refine dP F.slot_list_index ⟨_,e,rfl⟩ F.entry_list_index (F.args_list_index_2 _ _)
  (list_indexAt l its.toArray n none #[] (.int k t) (isInt k) (ns.idxOf k) (by simp_all) (by lia) ?_ ?_) ⟨e,λy hy=>(eq_isInt k t hi y (by simpa using hy)).at _ _,?_⟩
 ·show isInt k its[ns.idxOf k]=true;rw[isInt_at k hi _ (by lia) hj]
  simp_all
 ·intro j B D;show isInt k its[j]=false;rw[isInt_at k hi j (by simpa using B) (by lia)];exact ne_of_lt_idxOf D _
 ·exact⟨.int (ns.idxOf k:Nat),H,I.tok _,⟨_,rfl⟩,q⟩
def zjq {pins:List (Addr×Obj)}{σ:St}{H:Hp}{s:Shared}(I:Inv X pins σ H s){a:Addr}{kvs:List (Key×V)}{ns:List Int}(h:Rd H a (.dK kvs))(J:kvs.map (·.1)=ns.map Sum.inl) :
  (a==sysModules)=false/\∃ (es:Array DictEntry) (B:Nat),uj s.heap a es B/\yb (ns.map V.int) (es.toList.map (·.key))/\kvs.length<=sizeLine:=by
 obtain⟨z,lo,vs,r,o,es,B,h1,h2,L,_,O,_⟩:=zjs I.hok h
 have D:∀ {kvs:List (Key×V)} {vs:List (Key×Value)} {es:List DictEntry} {ns:List Int},KV kvs vs->Pairs (zX X.prog X.w) es vs->kvs.map (·.1)=ns.map Sum.inl->yb (ns.map V.int) (es.map (·.key)):=by
  intro kvs
  induction kvs with
  | nil=>
   intro vs es ns r p e;cases r;cases p
   cases ns with
   | nil=>exact .nil
   | cons _ _=>cases e
  | cons q kvs U=>
   intro vs es ns r p e
   cases r with
   | cons Y Z=>
    cases p with
    | cons F p2 p3=>
     cases ns with
     | nil=>cases e
     | cons i ns=>
      rw[aA,aA] at e;obtain⟨e1,e2⟩:=dM e;rw[aA,aA];refine .cons ?_ (U Z p3 e2);rw[<- Y.1,e1] at F;rw[ziu] at F;obtain⟨t,et⟩:=Value.isInt_shape (k:=i) F;exact⟨t,et⟩
 exact⟨lo,es,B,⟨o,h1,h2,L⟩,D r O J,z⟩
def zld:List V->Hp->VK->Prop:=λxs H Q=>∃ (a:Addr) (kvs:List (Key×V)) (ns:List Int),xs=[.ref a]/\Rd H a (.dK kvs)/\kvs.map (·.1)=ns.map Sum.inl/\New H (.lst (ns.map V.int)) Q
def zhj (L:X.calm=true):CallQ X (.type "list") zld:=⟨by
 intro pins s σ H xs us Q I r h;obtain⟨a,kvs,ns,rfl,O,J,q⟩:=h;obtain⟨u,rfl,U⟩:=zaM r;cases U;obtain⟨lo,es,Y,E,F,hz⟩:=zjq I O J
 have hl:es.size=ns.length:=by
  have:=F.length
  grind
 have Z:ns.length=kvs.length:=by
  have:=congrArg List.length J
  grind
 refine kdl_call (zml (es:=es) a Y lo) (I.ok.hd L) E (by simp_all) λh' tk acc c kp hg B=>?_
 have D:acc.toList=es.toList.map (·.key):=by
  refine cW (by rw[aT,B.1,ab,aT]) λj h1 h2=>?_;obtain⟨e,he,F⟩:=B.2 j acc.toList[j] (by simp);rw[F,cF];rw[zbR] at he;rw[ab] at h2
  simp_all
 refine⟨.ref s.heap.objs.size,_,I.laid (t':=tk) (o:=.lst (ns.map V.int)) kp (ah _) ⟨by simp_all,es.toList.map (·.key),c,F,?_⟩,rfl,q.at (I.hok.fresh (ah _))⟩;rw[<- D,Array.toArray_toList];exact hg⟩
def zmf:CallQ X (.builtin "len") (λxs H Q=>∃a kvs,xs=[V.ref a]/\H a=some (.dK kvs)/\Q (.int kvs.length) H):=⟨zi4⟩
end
end L2
namespace L3
open PySem PySem.Spec L2
section
variable {X:Cx}{Pn:Option zq}{M S:List Nat}{fr fr':Bool}{e o:Expr}{f fo:Ev->Mo W}{pos p:Pos}
@[reducible] def zrA:List W->Mo W:=λq n Q=>on1 q λx=>onK x λkvs=>Q (.d (.int (kvs.length:Nat))) n
def ztS:FL Pn false (λxs H Q=>∃a kvs,xs=[V.ref a]/\H a=some (.dK kvs)/\Q (.int kvs.length) H) zrA:=⟨λA H xs F n Q R I b P h k=>by simp only[zrA,uR,zhL] at h;obtain⟨x,rfl,kvs,rfl,h⟩:=h;obtain⟨v,rfl,q⟩:=zaN b;obtain⟨a,ks,rfl,B,D,_⟩:=zi3 q;exact⟨a,ks,rfl,B,by rw[D.len];exact k _ n _ H h (Val.of rfl) (Go.refl P) λz=>by cases z⟩⟩
@[reducible] def znR:List W->Mo W:=λq n Q=>on1 q λx=>onK x λkvs=>∃ns:List Int,kvs.map (·.1)=ns.map Sum.inl/\Q (.d (.lst (ns.map .int))) n
def zqW:FL Pn true zld znR:=⟨λA H xs L n Q R B b P h k=>by simp only[znR,uR,zhL] at h;obtain⟨x,rfl,kvs,rfl,ns,D,h⟩:=h;obtain⟨v,rfl,F⟩:=zaN b;obtain⟨a,ks,rfl,I,J,_⟩:=zi3 F;exact⟨a,ks,ns,rfl,.inl I,J.keys.trans D,λp H' q g S=>k _ n _ H' h (xu (H:=H) IsL.ints (zv.same S) (B.new q) g) (Go.same P S) λz=>xF (H:=H) IsL.ints S q g⟩⟩
@[reducible] def zrx (fo f:Ev->Mo W):Ev->Mo W:=λρ n Q=>fo ρ n λx q=>onL x λl=>f ρ q λy B=>onI y λk=>∃ns:List Int,l=ns.map .int/\k∈ns/\Q (.d (.int (ns.idxOf k:Nat))) B
def zpf (K:PySem.W.Frag)(Z:X.K=K){apos cpos:Pos}(ho:JB X Pn M o fo)(he:JB X Pn M e f)
  (B:attributeBase o "index" X.env (eval o X.env)=eval o X.env:=by rfl)
  (I:((backTo cpos (starEach [e] X.env)).all (λx=>!x.1)&&(backToKw cpos (keywordEach [] X.env)).all (λx=>x.1.isSome)
   && decide (([e]:List Expr).length+([]:List Keyword).length+(if ([]:List Keyword).isEmpty then 0 else 1)<30))=true:=by rfl)
  (D:(apos.endLine==cpos.line)=true:=by rfl) (U:starEach [e] X.env=(false,eval e X.env)::starEach [] X.env:=by rfl) (q:(backTo cpos (starEach [] X.env)).any (·.1)=false:=by rfl) :
  JE X Pn M false (.Call (.Attribute o "index" apos) [e] [] cpos) (zrx fo f):=by
 subst Z;obtain⟨to,qo,ro⟩:=ho.ex;obtain⟨te,qe,re⟩:=he.ex;refine⟨_,zfM bN PySem.F.slot_list_index PySem.F.type_list_index zmT qo (zK qe yB U) B I D U q,⟨λA σ H ρ n Q R E P hf k=>?_⟩⟩;refine ro.run A σ H ρ n _ _ E P hf λw m v H1 J b1 O=>?_;rw[xJ] at J;obtain⟨l,rfl,J⟩:=J;obtain⟨ad,xs,rfl,Y,hl⟩:=xg b1;refine⟨.inl ⟨rfl,_,SqL.of Y⟩,?_⟩;refine re.run A σ H1 ρ m _ _ (E.stay O.st) O.pn J λw2 m2 v2 H2 L b2 g2=>?_;rw[xB] at L;obtain⟨i,rfl,ns,rfl,hi,L⟩:=L;have ev:v2 = .int i:=yL b2;subst ev;obtain rfl:=hl.of_ints;exact⟨ad,ns,i,rfl,rfl,g2.st.lst Y,hi,k _ m2 _ H2 L (Val.of rfl) (O.trans g2) λz=>by cases z⟩
@[reducible] def zuU (f:Ev->Mo W):Ev->Mo W:=λρ n Q=>f ρ n λx q=>onL x λl=>∃ns:List Int,l=ns.map .int/\ns.Nodup/\ns.length<=1000/\Q (.d (.int (ns.length:Nat))) q
end
end L3
namespace L2
def us_1 {α:Type}{q:List α}(h:q.length=1):∃a,q=[a]:=match q,h with | [a],_=>⟨a,rfl⟩
def us_2 {α:Type}{q:List α}(h:q.length=2):∃a b,q=[a,b]:=match q,h with | [a,b],_=>⟨a,b,rfl⟩
def us_3 {α:Type}{q:List α}(h:q.length=3):∃a b c,q=[a,b,c]:=match q,h with | [a,b,c],_=>⟨a,b,c,rfl⟩
def us_4 {α:Type}{q:List α}(h:q.length=4):∃a b c d,q=[a,b,c,d]:=match q,h with | [a,b,c,d],_=>⟨a,b,c,d,rfl⟩
open PySem PySem.Spec PyProof.Rows PySem.W PySem.Calls
def zbL{X:Cx}{tk tv:TE}{ifs:List Expr}{scope:Scope}{wi:TI}{g:TG}{ti:TT}{N:List Str}{z:Str}{o0:HO}(B:o0 = .dK []\/o0 = .dT [])(F:X.A.units+1<cLine)(J:X.calm=true)(c:CompOkC X scope N z cix)(hi:QI X tg iter wi)(L:∀C D s H ex,QG (zF X scope N z C D s H ex) tg g)(O:∀C D s H ex,QTs (zF X scope N z C D s H ex) ifs ti)(U:∀C D s H ex,QE (zF X scope N z C D s H ex) ke tk)(Y:∀C D s H ex,QE (zF X scope N z C D s H ex) ve tv)(Z:∀x,foldedSetIterable iter X.env x=pure x:=by intro _;rfl):QE X (.DictComp ke ve [⟨tg,iter,ifs,0⟩] scope pos) (zfZ o0 wi g ti tk tv cix):=⟨λpins s σ H Q I h=>by
 rw[zat];exact ze4 B F (zhN c) J hi.run (zo1 λC D s H ex=>(L C D s H ex).run) (zo1 λC D s H ex=>(O C D s H ex).run) (zo1 λC D s H ex=>(U C D s H ex).run) (zo1 λC D s H ex=>(Y C D s H ex).run) Z I h λ_ _ _ _ _ hm hb q=>zaR hm hb q⟩
end L2
namespace L3
open PySem PySem.Spec L2
section
variable {X:Cx}{Pn:Option zq}{M S:List Nat}{fr fr':Bool}{e a b c:Expr}{es:List Expr}{f fa fb fc:Ev->Mo W}{pos p:Pos}
def zlL(h:∀C D s H ex,JE (zF X scope N z C D s H ex) Pn M fr e f):∃te,(∀C D s H ex,QE (zF X scope N z C D s H ex) e te)/\RE Pn M fr te f:=
 ⟨λσ H Q=>∀C D s H0 ex,(h C D s H0 ex).ex.choose σ H Q,λC D s H0 ex=>⟨λpins s' σ H Q I q=>(h C D s H0 ex).ex.choose_spec.1.run pins s' σ H Q I (q C D s H0 ex)⟩,
  ⟨λA σ H ρ n Q R E P B k C D s H0 ex=>(h C D s H0 ex).ex.choose_spec.2.run A σ H ρ n Q R E P B k⟩⟩
def zlN(h:∀C D s H ex,JTs (zF X scope N z C D s H ex) Pn M es q):∃te,(∀C D s H ex,QTs (zF X scope N z C D s H ex) es te)/\RT Pn M te q:=
 ⟨λσ H Q=>∀C D s H0 ex,(h C D s H0 ex).ex.choose σ H Q,λC D s H0 ex=>⟨λpins s' σ H Q I B=>(h C D s H0 ex).ex.choose_spec.1.run pins s' σ H Q I (B C D s H0 ex)⟩,
  ⟨λA σ H ρ n Q R E P F k C D s H0 ex=>(h C D s H0 ex).ex.choose_spec.2.run A σ H ρ n Q R E P F k⟩⟩
def zlM(h:∀C D s H ex,JG (zF X scope N z C D s H ex) S M e mg):∃g,(∀C D s H ex,QG (zF X scope N z C D s H ex) e g)/\RG S M g mg:=
 ⟨λv σ H Q=>∀C D s H0 ex,(h C D s H0 ex).ex.choose v σ H Q,λC D s H0 ex=>⟨λpins s' σ H v u Q I q B=>(h C D s H0 ex).ex.choose_spec.1.run pins s' σ H v u Q I q (B C D s H0 ex)⟩,
  ⟨λA σ H ρ v w Q R E F J k C D s H0 ex=>(h C D s H0 ex).ex.choose_spec.2.run A σ H ρ v w Q R E F J k⟩⟩
def zox(h:∀C D s H ex,JB (zF X scope N z C D s H ex) Pn M e f):∃te,(∀C D s H ex,QE (zF X scope N z C D s H ex) e te)/\RB Pn M te f:=
 ⟨λσ H Q=>∀C D s H0 ex,(h C D s H0 ex).ex.choose σ H Q,λC D s H0 ex=>⟨λpins s' σ H Q I q=>(h C D s H0 ex).ex.choose_spec.1.run pins s' σ H Q I (q C D s H0 ex)⟩,
  ⟨λA σ H ρ n Q R E P B k C D s H0 ex=>(h C D s H0 ex).ex.choose_spec.2.run A σ H ρ n Q R E P B k⟩⟩
def zfl(I:X.A.units+1<cLine)(J:X.calm=true)(L:CompOkC X scope N z cix)(hi:JI X Pn M F tg iter q)(O:∀C D s H ex,JG (zF X scope N z C D s H ex) (zS M cix) (zS M cix) tg mg)(U:∀C D s H ex,JTs (zF X scope N z C D s H ex) Pn (zS M cix) ifs B)(Y:∀C D s H ex,JB (zF X scope N z C D s H ex) Pn (zS M cix) ke fk)(Z:∀C D s H ex,JE (zF X scope N z C D s H ex) Pn (zS M cix) fr' ve fv)(hn:(cix.filterMap id).Nodup:=by decide)(hs:∀x,foldedSetIterable iter X.env x=pure x:=by intro _;rfl):JE X Pn M true (.DictComp ke ve [⟨tg,iter,ifs,0⟩] scope pos) (zgC q mg B fk fv cix):=by
 obtain⟨ti,qi,ri⟩:=hi.ex;obtain⟨g,qg,rg⟩:=zlM O;obtain⟨tt,qt,rt⟩:=zlN U;obtain⟨tk,qk,rk⟩:=zox Y;obtain⟨te,qe,re⟩:=zlL Z;exact⟨_,zbL (o0:=.dK []) (by simp) I J L qi qg qt qk qe hs,zfN hn ri rg rt rk re⟩
def zpd(J:X.calm=true)(L:CompOkC X scope N z cix)(hi:JI X Pn M I tg iter q)(O:∀C D s H ex,JG (zF X scope N z C D s H ex) (zS M cix) (zS M cix) tg mg)(U:∀C D s H ex,JTs (zF X scope N z C D s H ex) Pn (zS M cix) ifs B)(Y:∀C D s H ex,JE (zF X scope N z C D s H ex) Pn (zS M cix) fr' elt F)(Z:(cix.filterMap id).Nodup:=by decide)(hs:∀x,foldedSetIterable iter X.env x=pure x:=by intro _;rfl):JE X Pn M true (.ListComp elt [⟨tg,iter,ifs,0⟩] scope pos) (zmN q mg B F cix):=by
 obtain⟨ti,qi,ri⟩:=hi.ex;obtain⟨g,qg,rg⟩:=zlM O;obtain⟨tt,qt,rt⟩:=zlN U;obtain⟨te,qe,re⟩:=zlL Y;exact⟨_,zk6 J L qi qg qt qe hs,zgU Z ri rg rt re⟩
end
open PySem PySem.Spec L2
section
variable {Pn:Option zq}{K:PySem.W.Frag}
@[reducible] def dInB:W->W->Mo W:=λx y n Q=>onB x λb=>onL y λl=>∃q:List Bool,l=q.map .bl/\Q (.d (.bl (q.contains b))) n
end
end L3
namespace L2
open PySem PySem.Spec PyProof.Rows PySem.W PySem.Calls
section
variable {prog:Program}{w:World}{A:Around}{E:Value->Shared->Prop}{s:Shared}
def zc4(h:Q₁ (.ref s.heap.objs.size) { s with heap:=s.heap.push { cls:=.type "set",dict:=none,data:=.set #[] 0 (.fresh 0 0 (!w.params.followText "set-order")) } }) :
  codeAny (model prog w) A (.call (.builtin "set.__new__") ⟨[.type "set"],[]⟩) (wants Q₁ E) s:=by
 refine dj ?_;show wpAny _ A.in1 (do checkBuiltinCall "set.__new__" ⟨[.type "set"],[]⟩;again (.builtin "set.__new__" ⟨[.type "set"],[]⟩)) _ _ s;refine aa (wpAny_of_eq PySem.F.newCall_set_0 (af ⟨plainId_quiet PySem.F.plain_set_new _,codeAny_builtin PySem.F.entry_set_new ?_⟩));rw[Around.under_plainId PySem.F.plain_set_new _];unfold Builtin.«set.__new__» Builtin.Frozenset.newClass;have hsub:=sub_set_self;obtain⟨hp,g,d,tk,os⟩:=s;dsimp only
 wp_walk
 refine bp (af ?_);dsimp only;simp only[newObj];refine aa (eO (af ?_));exact af h
set_option maxHeartbeats 1000000 in
def zgd {Q:Value->Shared->Prop}
  (h:Q (.ref s.heap.objs.size) { s with heap:=s.heap.push { cls:=.type "set",dict:=none,data:=.set #[] 0 (.fresh 0 0 (!w.params.followText "set-order")) } }) :
  wpAny (model prog w) A (call (.type "set") []) Q E s:=by
 obtain⟨c,tl,Z⟩:=PySem.F.called_set.mro;have U:=PySem.F.called_set.made;have ac:=PySem.F.called_set.sub;refine wpAny_call (dj ?_);show wpAny _ _ (callAny (.type "set") _) _ _ _;refine af ⟨Code.quiet_builtin _ (by decide +kernel),codeAny_builtin PySem.F.entry_type_call ?_⟩;rw[Around.under_plain (weight_type_call_type "set" [] []) rfl];have h1:=PySem.F.called_set.notType;have h2:=PySem.F.called_set.canCreate;have ad:=PySem.F.typeCall_set_0
 repeat (any_goals (first | assumption | wp_step))
 generalize J:(!w.params.followText "set-order")=led at *;refine dC (zc4 (E:=E) (Q₁:=λL B=>L = .ref s.heap.objs.size/\B={ s with heap:=s.heap.push { cls:=.type "set",dict:=none,data:=.set #[] 0 (.fresh 0 0 led) } }) ⟨rfl,by rw[J]⟩) λr B Y=>?_
 cases r with
 | error e=>exact Y
 | ok fl=>
  cases fl with
  | ret L=>
   obtain⟨rfl,rfl⟩:=Y;have hS:(s.heap.push { cls:=.type "set",dict:=none,data:=.set #[] 0 (.fresh 0 0 led) }).get? s.heap.objs.size=some { cls:=.type "set",dict:=none,data:=.set #[] 0 (.fresh 0 0 led) }:=aF _ rfl;have hT:Shared.TypeIs { s with heap:=s.heap.push { cls:=.type "set",dict:=none,data:=.set #[] 0 (.fresh 0 0 led) } } (.ref s.heap.objs.size) "set" := ⟨_,hS,rfl⟩;have ag:=PySem.F.called_set.init.lookup;have al:=PySem.F.called_set.init.bind (.ref s.heap.objs.size)
   repeat (any_goals (first | assumption | wp_step))
   refine dC (codeAny_call_builtin (R:=wants (λr D=>r = .none/\Q (.ref s.heap.objs.size) D) E) PySem.F.called_set.init.plain PySem.F.entry_set_init (check_set_init hT ?_)) λO D q=>?_
   ·unfold Builtin.«set.__init__» noKeywords
    wp_walk
    exact⟨rfl,h⟩
   ·cases O with
    | error e=>exact q
    | ok I=>
     cases I with
     | ret r=>
      obtain⟨rfl,hq⟩:=q
      repeat (any_goals (first | assumption | wp_step))
     | _=>exact q.elim
  | _=>exact Y.elim
end
section
variable {X:Cx}
def zth (P:Program)(w:World):List V->Hp->VK->Prop:=λxs H Q=>xs=[]/\∀ (l:Addr) (H':Hp),H l=none->zdk P w H' l []->xm H H'->Q (.ref l) H'
def zoJ:CallQ X (.type "set") (zth X.prog X.w):=⟨by
 intro pins s σ H xs D Q I r h;obtain⟨rfl,q⟩:=h;cases r;refine zgd ?_;have B:H s.heap.objs.size=none:=I.hok.fresh (ah _);exact⟨.ref s.heap.objs.size,_,I.laid (t':=s.toks) (o:=zh0 X.prog X.w s.heap.objs.size []) (λb o e=>aq _ e) (ah _) (zgZ (zfT _)),rfl,q _ _ B ⟨[],zk,λ_ h=>by simp at h,rfl,eA⟩ (λb o e=>by rw[zi (zd e B)];exact e)⟩⟩
def ztJ (P:Program)(w:World)(to:TE)(t:TA):TE:=λσ H Q=>to σ H λx H1=>∃a,x = .ref a/\(∃ks,zdk P w H1 a ks)/\t σ H1 λxs H2=>∃b ns ks,xs=[.ref b]/\zdk P w H2 a ks/\H2 b=some (.tup (ns.map V.int))/\ks.length<300/\
 ∀o q,zdk P w (upd H2 a o) a q->(∀x,x∈q↔x=ns\/x∈ks)->q.length<=ks.length+1->Q .non (upd H2 a o)
def zqj {o e:Expr}{to:TE}{t:TA}{apos cpos:Pos}(hu:X.A.units+1<cLine)(ho:QE X o to)(ha:QA X [e] t)(hbase:attributeBase o "add" X.env (eval o X.env)=eval o X.env:=by rfl)
  (hfew:((backTo cpos (starEach [e] X.env)).all (λx=>!x.1)&&(backToKw cpos (keywordEach [] X.env)).all (λx=>x.1.isSome)&&decide (([e]:List Expr).length+([]:List Keyword).length+(if ([]:List Keyword).isEmpty then 0 else 1)<30))=true:=by rfl)
  (hline:(apos.endLine==cpos.line)=true:=by rfl) (hs:starEach [e] X.env=(false,eval e X.env)::starEach [] X.env:=by rfl) (hplain:(backTo cpos (starEach [] X.env)).any (·.1)=false:=by rfl) :
  QE X (.Call (.Attribute o "add" apos) [e] [] cpos) (ztJ X.prog X.w to t):=⟨by
 intro pins s σ H Q I h;refine wpAny_Call_method_late hbase hfew hline rfl (thn (ho.run pins s σ H _ I h)  ?_);rintro v s1 ⟨x,H1,I1,r1,q1⟩;obtain⟨a,rfl,⟨ks,S⟩,q1⟩:=q1;cases r1;obtain⟨xs,hH,_⟩:=S;obtain⟨ob,es,ep,tb,ho1,hx,hd,T,hroom⟩:=(show y0 X.prog X.w H1 s1.heap a (zh0 X.prog X.w a (uX xs)) from I1.hok a _ hH).1;refine⟨"set","set.add",PySem.F.plainAttrs_set,PySem.F.slot_set_add,PySem.F.type_set_add,⟨ob,ho1,hx.1⟩,λb e=>(by injection e with e;subst e;exact⟨ob,ho1,hx.2.1⟩),?_⟩;have hA:=ha.run cpos pins s1 σ H1 _ I1 q1;rw[hs] at hA ⊢;refine Calls.callWith_builtin (by show (false || (backTo cpos (starEach [] X.env)).any (·.1))=false;rw[hplain] <;> rfl) (Calls.evalArgs_plain ?_);refine thn hA  ?_;rintro us s2 ⟨vs,H2,I2,r2,q2⟩;obtain⟨b,ns,ks2,rfl,S2,hb,hn,q2⟩:=q2;obtain⟨u,rfl,ru⟩:=zaM r2;cases ru;exact zdH hu I2 S2 hb hn λo ks' s' S' m' l' I'=>⟨.non,_,I',rfl,q2 o ks' S' m' l'⟩⟩
end
end L2
namespace L3
open PySem PySem.Spec L2
section
variable {X:Cx}{Pn:Option zq}{M S:List Nat}{fr fr':Bool}{pos p:Pos}{e:Expr}{f:Ev->Mo W}
def zg1{ks:List (List Int)}(h:Bor A H (.ss P w ks) v):∃a,v = .ref a/\zdk P w H a ks:=by obtain⟨a,xs,e,B,g2,D,F⟩:=h;exact⟨a,e,xs,B,λq I=>zw _ _ (D q I),g2,F⟩
def zwa{ks:List (List Int)}(F:∀a xs,A a->H a≠some (.tup xs))(S:zdk P w (L2.upd H B o) B ks):WAt (L2.upd H B o) (zT A H) (.ss P w ks) (.ref B):=by
 obtain⟨xs,h1,h2,I,J⟩:=S;refine⟨B,xs,rfl,h1,I,λq L=>?_,J⟩;have z:=h2 q L;have D:q.2≠B:=λe=>by rw[e,h1] at z;cases z
 rw[zi D] at z;exact zD (λy=>F _ _ y z) z
def zqz:RE Pn M true (tCB (zth P w) zlV) (mC (.ss P w [])):=⟨λA σ H ρ n Q R E Pp I k=>⟨rfl,λl H' D SV Sm=>by obtain⟨xs,h1,h2,J,F⟩:=SV;have L:xs=[]:=List.map_eq_nil_iff.mp J.symm;subst L;exact k _ n _ H' I ⟨l,[],rfl,zD (E.new D) h1,rfl,λq B=>absurd B ci,F⟩ (Go.same Pp Sm) λ_=>⟨l,rfl,.of D,l,[],rfl,h1,rfl,λq B=>absurd B ci,F⟩⟩⟩
def zr1 (q:X.mg "set" = none)(B:Gl X "set" := by rfl):JE X Pn M true (.Call (.Name "set" p) [] [] pos) (mC (.ss X.prog X.w [])):=⟨_,⟨ziz zoJ.run B q PyProof.Rows.boot_set⟩,zqz⟩
@[reducible] def zoN (P:Program) (w:World) (i:Nat) (f:Ev->Mo W):Ms:=λρ n k=>onV ρ i λv=>∃ks,v = .ss P w ks/\f ρ n λx m=>∃st:List Int,x = .d (stD st)/\ks.length<300/\
 ∀q:List (List Int),(∀y,y∈q↔y=st\/y∈ks)->q.length<=ks.length+1->q.Nodup->onP ρ i (.ss P w q) λB=>k.nx B m
def zqG(h:RE Pn M fr' te f)(hi:i∈M):RS Pn S M fr (znx (ztJ P w (zlW i) (zdg te zlV))) (zoN P w i f):=⟨λB A σ H ρ n k D a kk F=>by simp only[zoN,zaa] at F;obtain⟨v0,I,ks,rfl,F⟩:=F;obtain⟨v,J,_,s3⟩:=a.env.val i _ I;obtain⟨ad,rfl,hA,hb,_⟩:=s3 hi;obtain⟨a2,e2,SV⟩:=zg1 hb;cases e2;refine⟨.ref ad,J,ad,rfl,⟨ks,SV⟩,?_⟩;refine h.run A σ H ρ n _ _ a.env a.pn F  ?_;rintro w m v H' ⟨st,ed,hz,r⟩ hv g _;subst ed;have L:=a.step g;obtain⟨v2,t1,_,t3⟩:=L.env.val i _ I;rw[J] at t1;cases t1;obtain⟨a3,e3,ac,O,_⟩:=t3 hi;cases e3;obtain⟨a4,e4,SV'⟩:=zg1 O;cases e4;obtain⟨b,us,rfl,U,Y⟩:=(hv.is.stay (zv.same zw):Is H' (stD st) v);obtain rfl:=Y.of_ints;refine⟨b,st,ks,rfl,SV',U,hz,λo Z S' mm ll=>?_⟩;have q:=r Z mm ll S'.choose_spec.2.2.2;rw[uS] at q;exact kk.nx A σ _ _ m (L.wrX hi I J (zwa L.env.alT S') rfl (zg0 S').1 (zg0 S').2) q⟩
def zpl (i:Nat){x:Str}{U I sp J:Pos}(Z:X.A.units+1<cLine)(he:JE X Pn M fr' e f)(hi:i∈M:=by decide)(hN:X.N[i]?=some x:=by rfl)(hv:Vis X.env.scope x:=by walk_at "v")(hd:(x==("__debug__" : Str))=false:=by decide)
  (Y:(x==("__classdict__" : Str))=false:=by decide) (L:starEach (e::[]) X.env=(false,eval e X.env)::starEach [] X.env:=by rfl) (hs:swapsWith (.Call (.Attribute (.Name x J) "add" U) [e] [] I) none sp.line X.env=pure false:=by rfl) (D:attributeBase (.Name x J) "add" X.env (eval (.Name x J) X.env)=eval (.Name x J) X.env:=by rfl) (F:(U.endLine==I.line)=true:=by rfl)
  (O:((backTo I (starEach [e] X.env)).all (λx=>!x.1)&&(backToKw I (keywordEach [] X.env)).all (λx=>x.1.isSome)&&decide (([e]:List Expr).length+([]:List Keyword).length+(if ([]:List Keyword).isEmpty then 0 else 1)<30))=true:=by rfl) (B:(backTo I (starEach [] X.env)).any (·.1)=false:=by rfl) :
  JS X Pn S M fr (.Expr (.Call (.Attribute (.Name x J) "add" U) [e] [] I) sp) (zoN X.prog X.w i f):=by
 obtain⟨te,q,r⟩:=he.ex;exact⟨_,zcI (zqj Z (qv i hN hv hd Y) (zK q yB L) D O F L B) hs,zqG r hi⟩
@[reducible] def znT (P:Program) (w:World):List W->Mo W:=λB n Q=>on1 B λx=>∃ (ks:List (List Int)) (m:Nat),x = .ss P w ks/\ks.length<64/\1<=m/\(∀st∈ks,st.length=m)/\∀q:List (List Int),q.Perm ks->(q.Pairwise λa b=>HT.lexLt a b=true)->Q (.d (zaq q)) n
def zqZ:FL Pn true (zlg P w) (znT P w):=⟨λA H xs ws n Q R I b Pp h k=>by simp only[znT,uR] at h;obtain⟨x,e,ks,m,rfl,D,h1,L,h⟩:=h;subst e;obtain⟨v,rfl,O⟩:=zaN b;obtain⟨a,rfl,SV⟩:=zg1 O;refine⟨a,ks,m,rfl,SV,D,h1,L,λF q U Y Z p H' J g S=>?_⟩;have B:IsL (zT A H) (q.map stD) F:=u7 I.noT (ue q) U;exact k _ n _ H' (h q Y Z) (xu B (zv.same S) (I.new J) g) (Go.same Pp S) λz=>xF B S J g⟩
end
open PySem PySem.Spec L2
def zh1 {α:Type}{p:List α->Prop}(q:p [])(B:∀l x,p l->p (l++[x]))(l:List α):p l:=by
 have h:∀l:List α,p l.reverse:=λl=>by
  induction l with
  | nil=>exact q
  | cons x l D=>rw[cP];exact B _ _ D
 have:=h l.reverse
 grind
def zhu {α:Type}(a b:List α)(i:Nat)(d:α)(h:i<a.length):(a++b).getD i d=a.getD i d:=by grind
def zmS:∀ {cs:List (List Int)} {st:List Int},st∈yQ cs↔st.length=cs.length/\∀i,i<cs.length->st.getD i 0∈cs.getD i []:=by
 intro cs;refine zh1 (p:=λcs=>∀ {st:List Int},st∈yQ cs↔st.length=cs.length/\∀i,i<cs.length->st.getD i 0∈cs.getD i []) ?_ ?_ cs
 ·intro st;simp[yQ,List.length_eq_zero_iff]
 ·intro cs c F st;rw[xf];unfold xV;rw[cH];constructor
  ·rintro⟨r,I,h⟩;obtain⟨w,J,rfl⟩:=aC.mp h;obtain⟨h1,h2⟩:=F.mp I;refine⟨by simp[h1],λi hi=>?_⟩;simp at hi;by_cases e:i=cs.length
   ·simp_all
   ·grind
  ·rintro⟨h1,h2⟩;simp at h1;have q:st≠[]:=λz=>by rw[z] at h1;simp at h1
   have D:=bn q;have B:st.dropLast.length=cs.length:=by simp[h1]
   refine⟨st.dropLast,F.mpr ⟨B,λi hi=>?_⟩,aC.mpr ⟨st.getLast q,?_,D⟩⟩
   ·have:=h2 i (by simp;omega);rw[zhu _ _ _ _ hi] at this;rw[<- D,zhu _ _ _ _ (by omega)] at this;exact this
   ·have:=h2 cs.length (by simp);rw[<- D] at this;have e:(st.dropLast++[st.getLast q]).getD cs.length 0=st.getLast q:=by simp[<- B]
    simp_all
def zoA:∀ (cs:List (List Int)),(∀c∈cs,c.Pairwise (· < ·))->Up' (yQ cs):=by
 intro cs;refine zh1 (p:=λcs=>(∀c∈cs,c.Pairwise (· < ·))->Up' (yQ cs)) ?_ ?_ cs
 ·intro _;simp[yQ,Up']
 ·intro cs c D h;have F:=h c (by simp);have D:=D λd I=>h d (by simp[I]);rw[xf];have q:=zdO cs;generalize yQ cs=rows at D q;unfold xV Up';rw[List.pairwise_flatMap];constructor
  ·intro r Z;rw[br];refine F.imp λ{a b} B=>?_;exact lex_app r B
  ·refine (List.Pairwise.and_mem.mp D).imp λ{a b} ⟨J,L,B⟩=>?_;intro x O y U;obtain⟨v,_,rfl⟩:=aC.mp O;obtain⟨w,_,rfl⟩:=aC.mp U;exact lex_pre ((q a J).trans (q b L).symm) B
where
 lex_app:∀ (r:List Int) {a b:Int},a<b->HT.lexLt (r++[a]) (r++[b])=true
  | [],a,b,h=>by
   show (if a=b then HT.lexLt [] [] else decide (a<b))=true
   grind
  | x::r,a,b,h=>by show (if x=x then HT.lexLt (r++[a]) (r++[b]) else decide (x<x))=true;rw[if_pos rfl];exact lex_app r h
 lex_pre:∀ {r t:List Int} {a b:Int},r.length=t.length->HT.lexLt r t=true->HT.lexLt (r++[a]) (t++[b])=true
  | [],[],_,_,_,h=>by rw[y8] at h;cases h
  | [],_::_,_,_,h,_=>by simp at h
  | _::_,[],_,_,h,_=>by simp at h
  | x::r,y::t,a,b,Y,h=>by
   have h:(if x=y then HT.lexLt r t else decide (x<y))=true:=h;show (if x=y then HT.lexLt (r++[a]) (t++[b]) else decide (x<y))=true;by_cases e:x=y
   ·rw[if_pos e] at h ⊢;exact lex_pre (by simpa using Y) h
   ·simp_all
def zhM {P:Bool->Prop}{a:Dt}(h:a.eqOk)(q:P true):a.eqOk/\a.eqOk/\∀r:Bool,(r=true↔a=a)->P r:=by simp_all
def IsP (Pn:Option zq)(p:Addr):Prop:=∃c ns,Pn=some (p,c,ns)
def dc{z9:Int}(q:IsP Pn p)(h:∀r,0<=r->r<z9->Q (.d (.int r)) (n+1))(B:n<=1000000:=by lia)(h1:1<=z9:=by lia)(h2:z9<1073741824:=by lia):ziQ Pn [.pen p,.d (.int z9)] n Q:=let ⟨c,ns,e⟩:=q;⟨p,c,ns,z9,e,rfl,B,h1,h2,h⟩
def tc(q:IsP Pn p)(h:∀l':List Dt,l'.Perm l->Q (.d (.lst l')) (n+l.length))(B:n+l.length<=1000000:=by lia)(h1:l.length<=100000:=by lia):ziS Pn [.pen p,.d (.lst l)] n Q:=let ⟨c,ns,e⟩:=q;⟨p,c,ns,l,e,rfl,B,h1,h⟩
def zll {B:List Int}{a L q:Int}(D:∀r∈B,2<=r/\r<=4)(O:2<=a/\a<=4)(F:yI B * L<=q)(h:a<=L):yI (B++[a]) * (L / a)<=q/\1<=L / a/\L / a<=L:=by
 have h1:1<=L / a:=(Int.le_ediv_iff_mul_le (by lia)).mpr (by lia);have h2:a * (L / a)<=L:=Int.mul_ediv_self_le (by lia);have I:0<=yI B:=by have:=za9 (ns:=B) (λr J=>by have:=D r J;lia);lia
 refine⟨?_,h1,?_⟩
 ·rw[ux,Int.mul_assoc];exact Int.le_trans (cI h2 I) F
 ·exact Int.ediv_le_self _ (by lia)
def zjt {α:Type}(f:α->Dt)(d:α)(l:List α):enW 0 (l.map f)=(List.range l.length).map λi:Nat=>W.d (.tup [.int (i:Int),f (l.getD i d)]):=by
 apply du;intro i;rw[zdZ,aw,aw];by_cases h:i<l.length
 all_goals simp_all
def zjw (sts:List (List Int)):enW 0 (sts.map stD)=(List.range sts.length).map λk:Nat=>W.d (.tup [.int (k:Int),stD (sts.getD k [])]):=zjt stD [] sts
def zam:(zf7 k).length=k:=by unfold zf7;rw[ab,ax]
def zqE:zf7 k=(zj (k:Int)).map Dt.int:=by unfold zf7 zj;rw[am,aL];rfl
def za8{α:Type}{f:α->Dt}{xs:List α}(h:l.Perm (xs.map f)):∃ys:List α,l=ys.map f/\ys.Perm xs:=by
 generalize B:xs.map f=zs at h
 induction h generalizing xs with
 | nil=>exact⟨[],rfl,by simp_all⟩
 | @cons x O U _ I=>
  match xs,B with
  | y::r,B=>
   rw[aA] at B;obtain⟨h1,h2⟩:=dM B;obtain⟨ys,e,q⟩:=I h2;exact⟨y::ys,by simp_all,q.cons y⟩
 | swap x y l=>
  match xs,B with
  | a::b::r,B=>
   rw[aA,aA] at B;obtain⟨h1,h2⟩:=dM B;obtain⟨Y,Z⟩:=dM h2;exact⟨b::a::r,by simp_all,.swap ..⟩
 | trans _ _ D F=>
  obtain⟨ys,e,q⟩:=F B;obtain⟨zs,J,L⟩:=D e.symm;exact⟨zs,J,L.trans q⟩
def zhS{l:List Dt}(h:l.Perm (zf7 k)):∃q:List Int,l=q.map Dt.int/\q.Perm (zj (k:Int)):=by rw[zqE] at h;exact za8 h
def xP {m b:Int}:b∈zj m↔0<=b/\b<m:=by
 unfold zj;rw[aC];constructor
 ·rintro⟨k,q,rfl⟩
  grind
 ·rintro⟨B,h1⟩;exact⟨b.toNat,aM.mpr (by lia),by lia⟩
def x4 (m:Int):(zj m).Nodup:=by unfold zj List.Nodup;rw[br];exact List.pairwise_lt_range.imp λh=>by lia
def zmR {α q:Type}{G:Prop}(C:α->q->Prop)(P:α->q->Prop)(h:(∀a b,C a b->P a b)->G)(r:∀a b,C a b->P a b):G:=h r
def zqT {q:List Int}(h:q.Nodup){i:Nat}(hi:i<q.length):q.getD i 0∉q.take i:=λz=>by
 obtain⟨j,B,e⟩:=bw.mp z;rw[aQ] at B;rw[dw] at e;have:q.getD i 0=q[i]:=by simp[hi]
 rw[this] at e;have:=(b4 h).mp e;lia
def zch{q:List Int}(hi:i<q.length):q.getD i 0∈q:=by simp_all
def zjh {α:Type}(l:List α)(lo hi:Option Int):(ua l lo hi).Sublist l:=(dq _ _).trans (List.drop_sublist _ _)
def zjg {α:Type}(l:List α):ua l (some 1) none=l.drop 1:=by
 unfold ua
 have h1:HT.sIx l.length 0 (some 1)=min 1 l.length:=by unfold HT.sIx;simp;try lia
 have h2:HT.sIx l.length l.length none=l.length:=rfl;rw[h1,h2,cb (by simp)]
 cases l with
 | nil=>rfl
 | cons a l=>simp
def zlR:∀ (l k:List Dt) (i:Nat),(ziW l k)[i]?=(l[i]?).bind λx=>(k[i]?).map λy=>W.d (.tup [x,y])
 | [],k,i=>by simp[ziW]
 | x::r,[],i=>by
  simp only[ziW,List.getElem?_nil,Option.map_none]
  simp_all
 | x::r,y::s,0=>rfl
 | x::r,y::s,i+1=>by rw[ziW,bB,bB,bB];exact zlR r s i
def znE (q:List (List Int)):ziW (q.map stD) (ua (q.map stD) (some 1) none)=(List.range (q.length - 1)).map λi:Nat=>W.d (.tup [stD (q.getD i []),stD (q.getD (i+1) [])]):=by
 rw[zjg];apply du;intro i;rw[zlR,List.getElem?_drop,aw,aw,aw]
 grind
def zhF {κ:Type}[DecidableEq κ](kvs:List (κ×Dt))(k z:κ)(d:Dt):xb (zeR kvs k d) z=if z=k then some d else xb kvs z:=by
 unfold zeR;by_cases D:(kvs.any λkv=>decide (kv.1=k))=true
 ·rw[if_pos D];unfold xb
  induction kvs with
  | nil=>simp at D
  | cons q r I=>
   rw[aA,bq,bq];by_cases e:q.1=k
   ·rw[if_pos e];by_cases B:z=k
    ·simp_all
    ·have h1:¬ q.1=z:=λw=>B (w.symm.trans e);rw[if_neg B];simp only[h1,decide_false];by_cases J:(r.any λkv=>decide (kv.1=k))=true
     ·simp_all
     ·congr 2;refine (bJ λp F=>?_).trans (List.map_id _)
      grind
   ·grind
 ·rw[if_neg D];unfold xb;rw[List.find?_append];by_cases B:z=k
  ·subst B;have:kvs.find? (λq=>decide (q.1=z))=none:=dl.mpr λp F w=>D (cY.mpr ⟨p,F,w⟩);rw[this];simp
  ·have:¬ k=z:=λw=>B w.symm
   simp_all
def zeH {rm st:List Int}(h:StOk rm st):st∈yQ (rm.map zj):=by
 rw[zmS];have q:=h.len;refine⟨by grind,λi hi=>?_⟩;rw[ab] at hi;have e:(rm.map zj).getD i []=zj (rm.getD i 0):=by simp[hi]
 rw[e,xP];have:=h.box (i:Int) (by lia) (by lia);rw[zP,zP] at this;exact this
def zkD {l:List (List Int)}{st:List Int}:(Dt.tup (st.map Dt.int)∈l.map stD)↔st∈l:=by
 constructor
 ·intro z;obtain⟨s,q,e⟩:=aC.mp z;have:s=st:=List.map_inj_right (by grind) |>.mp (Dt.tup.inj e)
  grind
 ·exact λz=>aC.mpr ⟨_,z,rfl⟩
def zao {rm st:List Int}{b x:Int}(h:StOk rm st)(q:0<=b)(I:b<rm.length)(J:0<=x)(x1:x<z9 rm b):StOk rm (chg st b x):=by
 have D:=h.len;refine⟨by rw[zaG q (by lia)];exact D,λc B F=>?_⟩;rw[xU q (by lia) B];split
 ·simp_all
 ·exact h.box c B F
def zro{rm:List Int}(h:ya rm bk):(Dt.lst (bk.map zQ)).eqOk:=(zaJ (rm:=rm) λd q=>by obtain⟨x,B,rfl⟩:=aC.mp q;exact⟨x,rfl,h x B⟩).2
def zqV{rm:List Int}(h:WishOk rm x):WishOk rm (ztN x):=⟨h.giv,h.b0,h.b1,h.apart,h.w0,h.w1,h.r0,h.r1,Ne.symm h.ne⟩
def zoK{rm:List Int}(h:WishOk rm x){lo hi:Option Int}:WishOk rm { x with g:=ua x.g lo hi }:=by have s:=zjh x.g lo hi;exact⟨⟨λq B=>h.giv.ok q (s.subset B),h.giv.up.sublist s⟩,h.b0,h.b1,λq B=>h.apart q (s.subset B),h.r0,h.r1,h.w0,h.w1,h.ne⟩
end L3
namespace L3
def ze6 {α q:Type}(f:α->q):∀ (l:List α) (i:Nat),(l.eraseIdx i).map f=(l.map f).eraseIdx i
 | [],_=>rfl
 | _::_,0=>rfl
 | x::l,i+1=>by simp[ze6 f l i]
open PySem PySem.Spec L2
def lpE (bk:List Wi)(box:Int)(st:List Int):List (Int×Int):=(lpF bk box st).map λr=>(r.getD 0 0,r.getD 1 0)
def zsf{box:Int}{st:List Int}:(lpF bk box st).map stD=(lpE bk box st).map yn:=by
 unfold lpE;rw[am];refine bJ λr q=>?_;have:=zsk r q
 match r,this with
 | [a,b],_=>rfl
def zsg{rm:List Int}{box:Int}{st:List Int}(B:ya rm bk):∀q∈lpE bk box st,0<=q.1/\q.1<z9 rm box/\0<=q.2/\q.2<z9 rm box/\q.1≠q.2:=λq D=>by obtain⟨r,F,rfl⟩:=aC.mp D;obtain⟨x,I,h2,J,rfl⟩:=xq.mp (yC.mp F);have o:=B x I;subst h2;exact⟨o.w0,o.w1,o.r0,o.r1,Ne.symm o.ne⟩
def zpq{rm:List Int}{box:Int}{st:List Int}(q:RoomOk rm)(B:ya rm bk):(lpE bk box st).length<=16:=by unfold lpE;rw[ab];exact zsi B q.box
def zgB{rm:List Int}{box w:Int}{st:List Int}(q:ya rm bk)(B:st.length=rm.length):lpE bk box (chg st box w)=lpE bk box st:=by unfold lpE;rw[zsh q B]
def zbi (E:List (Int×Int))(h:Int):List Int:=(E.filter λq=>decide (q.1=h)).map (·.2)
def zhG {E:List (Int×Int)}{h b:Int}:b∈zbi E h↔(h,b)∈E:=by
 unfold zbi
 simp_all
def zh5 (E:List (Int×Int))(h:Int):(zbi E h).length<=E.length:=by unfold zbi;rw[ab];exact List.length_filter_le _ _
def PF (E:List (Int×Int))(D:Int->Prop):Prop:=∀a,D a->∃b,D b/\(a,b)∈E
def Cyc (E:List (Int×Int)):Prop:=∃D a,PF E D/\D a
structure IsRd (E:List (Int×Int))(row:List Int):Prop where
 ne:row≠[]
 nd:row.Nodup
 next:∀i,i+1<row.length->(row.getD i 0,row.getD (i+1) 0)∈E
 back:(row.getD (row.length - 1) 0,row.getD 0 0)∈E
def inF (E:List (Int×Int))(lf:List Int)(h:Int):List Int:=(zbi E h).filter λb=>lf.contains b
def onF (E:List (Int×Int))(lf:List Int):List Int:=lf.filter λh=>!(inF E lf h).isEmpty
def zeh {E:List (Int×Int)}{lf:List Int}{h b:Int}:b∈inF E lf h↔(h,b)∈E/\b∈lf:=by unfold inF;rw[a9,zhG,bW]
def zkC {E:List (Int×Int)}{lf:List Int}{h:Int}:h∈onF E lf↔h∈lf/\∃b,b∈lf/\(h,b)∈E:=by
 unfold onF;rw[a9];constructor
 ·rintro⟨h1,h2⟩;refine⟨h1,?_⟩
  cases e:inF E lf h with
  | nil=>rw[e] at h2;cases h2
  | cons b r=>
   have:=zeh.mp (show b∈inF E lf h by simp_all);exact⟨b,this.2,this.1⟩
 ·rintro⟨h1,b,h2,q⟩;refine⟨h1,?_⟩;have:=zeh.mpr ⟨q,h2⟩
  grind
def zsw {E:List (Int×Int)}{lf:List Int}{D:Int->Prop}(h:PF E D)(q:∀a,D a->a∈lf):∀a,D a->a∈onF E lf:=λa B=>by obtain⟨b,h1,h2⟩:=h a B;exact zkC.mpr ⟨q a B,b,q b h1,h2⟩
def zpJ {E:List (Int×Int)}{lf:List Int}(h:lf.length<=(onF E lf).length):∀a∈lf,∃b,b∈lf/\(a,b)∈E:=λa q=>by have:onF E lf=lf:=dO ee h;rw[<- this] at q;exact (zkC.mp q).2
def ldK (l:List Int)(f:Int->List Int):List (Key×Dt):=l.map λh=>((Sum.inl h:Key),lsD (f h))
def zec {l:List Int}{f:Int->List Int}:(ldK l f).map (·.1)=l.map Sum.inl:=by unfold ldK;rw[am];rfl
def zak {f:Int->List Int}{h:Int}:∀ {l:List Int},h∈l->xb (ldK l f) (Sum.inl h)=some (lsD (f h))
 | x::l,q=>by
  unfold ldK xb;rw[aA,bq];by_cases e:x=h
  ·subst e;simp
  ·have:decide (((Sum.inl x:Key),lsD (f x)).1=(Sum.inl h:Key))=false:=aX λz=>e (Sum.inl.inj z);rw[this];have:=zak (f:=f) (h:=h) (l:=l) (by grind);unfold ldK xb at this;exact this
def zpn {l:List Int}{f:Int->List Int}:(ldK l f).length=l.length:=by unfold ldK;rw[ab]
def zdY(xs:List Int)(hl:l=xs.map λi=>W.d (.int i))(J:Ev->Prop)(P:Int->Bool)(E:Int->Dt)(hN:xs.Nodup)(ad:xs.length<=lim)(j0:J I)(h:∀a∈xs,∀ D,J D->∀C:Ev->Nat->Option (Int×Dt)->Prop,(∀ {B},P a=true->J B->C B n (some (a,E a)))->(∀ {B},P a=false->J B->C B n none)->mg (.d (.int a)) D λB=>ft B n λb n2=>onC b (fk B n2 λy n3=>fv B n3 λx O=>onI y λj=>onD x λd=>C B O (some (j,d))) (C B n2 none))(fin:Q (.dk ((xs.filter P).map λa=>((Sum.inl a:Key),E a))) n):znV mg ft fk fv I Q l n:=by
 subst hl;refine⟨by simp_all,λi D U acc=>J D/\U=n/\acc=((xs.take i).filter P).map λa=>((Sum.inl a:Key),E a),⟨j0,rfl,rfl⟩,?_,?_⟩
 ·rintro i w D U acc hw ⟨Y,rfl,rfl⟩;rw[aw] at hw;obtain⟨a,L,rfl⟩:=aE.mp hw
  have:=h a (au L) D Y (λB O o=>match o with
   | some q=>J B/\O=U/\zeR (((xs.take i).filter P).map λa=>((Sum.inl a:Key),E a)) (Sum.inl q.1) q.2=((xs.take (i+1)).filter P).map λa=>((Sum.inl a:Key),E a)
   | none=>J B/\O=U/\(((xs.take i).filter P).map λa=>((Sum.inl a:Key),E a))=((xs.take (i+1)).filter P).map λa=>((Sum.inl a:Key),E a)) (λ{B} Z F=>by
    refine⟨F,rfl,?_⟩;have hi:=(ae.mp L).1
    have hn:((((xs.take i).filter P).map λa=>((Sum.inl a:Key),E a)).any λkv=>decide (kv.1=(Sum.inl a:Key)))=false:=by rw[List.any_eq_false];intro kv ac z;obtain⟨b,hb,rfl⟩:=aC.mp ac;have e:b=a:=Sum.inl.inj (bC z);subst e;obtain⟨j,Y,e2⟩:=bw.mp (a9.mp hb).1;rw[aQ] at Y;rw[dw] at e2;have e3:=(ae.mp L).2;rw[<- e3] at e2;have:=(b4 hN).mp e2;lia
    unfold zeR;rw[hn,if_neg (by decide),zl L,bQ,az]
    simp[Z]) (λ{B} Z F=>by
    refine⟨F,rfl,?_⟩;rw[zl L,bQ,az];simp[Z])
  simp only[zaz,xB,xI] at this
  grind
 ·grind
def ze3 {α:Type}(l:List α)(k:Nat):ua l (some (k:Int)) none=l.drop k:=by
 unfold ua
 have h1:HT.sIx l.length 0 (some (k:Int))=min k l.length:=by unfold HT.sIx;simp;try lia
 have h2:HT.sIx l.length l.length none=l.length:=rfl;rw[h1,h2,cb (by simp)]
 simp_all
def zaj {l:List Int}{j i:Nat}:(l.drop j).getD i 0=l.getD (j+i) 0:=by grind
def uv {l:List Int}{h:Int}{i:Nat}(hi:i<l.length):(l++[h]).getD i 0=l.getD i 0:=by grind
def zcf {l:List Int}{h:Int}:(l++[h]).getD l.length 0=h:=by simp
def rdOf {E:List (Int×Int)}{q:List Int}{h:Int}(I:q.Nodup)(J:h∈q)(F:∀i,i<q.length->((q++[h]).getD i 0,(q++[h]).getD (i+1) 0)∈E):IsRd E (q.drop (q.idxOf h)):=by
 have L:q.idxOf h<q.length:=List.idxOf_lt_length_iff.mpr J
 have B:q.getD (q.idxOf h) 0=h:=by simp_all
 have D:(q.drop (q.idxOf h)).length=q.length - q.idxOf h:=cV;generalize q.idxOf h=j at L B D;refine⟨by grind,I.sublist (List.drop_sublist _ _),λi hi=>?_,?_⟩
 ·rw[D] at hi;have:=F (j+i) (by lia);rw[uv (by lia),uv (by lia)] at this;rw[zaj,zaj];exact this
 ·have:=F (q.length - 1) (by lia);rw[uv (by lia),show q.length - 1+1=q.length by lia,zcf] at this;rw[D,zaj,zaj,Nat.add_zero,B,show j+(q.length - j - 1)=q.length - 1 by lia];exact this
def zf1 (C:Nat->Nat->Bool)(w j:Nat):(yR C w j).length<=j:=by
 unfold yR
 grind
end L3
namespace L2
open PySem PySem.Spec PyProof.Rows PySem.W PySem.Calls
section
variable {X:Cx}{pins:List (Addr×Obj)}{σ:St}{H:Hp}{s:Shared}{a:Addr}
def Inv.frz {kvs:List (List Int×V)}(I:Inv X pins σ H s)(h:H a=some (dtO kvs)):∃ob,Inv X pins σ (upd H a (.frz ob (dtO kvs))) s:=by obtain⟨z,lo,xs,r,o,es,D,h1,h2,F,J,L⟩:=(show y0 X.prog X.w H s.heap a (.dT (zhB kvs)) from I.hok a _ h);refine⟨o,I.write (x:=a) (e:=a) (h':=s.heap) (t':=s.toks) (by rw[h];trivial) (.inl rfl) (λ_ _ _ e=>e) ⟨o,h1⟩ ⟨h1,z,lo,xs,Paired.imp' (λp q y=>?_) r,o,es,D,h1,h2,F,J,L⟩⟩;obtain⟨O,B,U⟩:=y;exact⟨O,by rw[zi (λy=>by rw[y,h] at B;cases B)];exact B,U⟩
def tFrz (te:TE):TE:=λσ H Q=>te σ H λx H1=>∃a ks,x = .ref a/\H1 a=some (dtO ks)/\∀ob,Q x (upd H1 a (.frz ob (dtO ks)))
def zs7(h:QE X e te):QE X e (tFrz te):=⟨by
 intro pins s σ H Q I q;refine thn (h.run pins s σ H _ I q) ?_;rintro v J ⟨x,H1,I1,B,a,ks,rfl,D,F⟩;obtain⟨ob,I2⟩:=I1.frz D;exact⟨_,_,I2,B,F ob⟩⟩
def zmt{kvs:List (List Int×V)}(I:Inv X pins σ H s)(h:H a=some (.frz ob (dtO kvs))) :
  (a==sysModules)=false/\∃ (es:Array DictEntry) (B:Nat) (ys:List (List Int×Addr)),ob.ExactDict/\ob.data = .dict es B/\uj s.heap a es B/\ys.map (·.1)=kvs.map (·.1)/\(∀q∈ys,H q.2=some (.tup (q.1.map V.int)))/\es.toList.map (·.key)=ys.map (λq=>Value.ref q.2)/\(kvs.map (·.1)).Nodup:=by
 have k:=I.hok a _ h;obtain⟨lo,es,B,ys,⟨o,D,F,J⟩,L,O,U,_,Y⟩:=zmm I (.inr ⟨ob,h⟩);have:o=ob:=by have:=k.1;rw[D] at this;exact bE this
 subst this;exact⟨lo,es,B,ys,F,J,⟨o,D,F,J⟩,L,O,U,Y⟩
end
def Itd (d:Addr)(ob:Obj)(ks:List (List Int×V))(ys:List (List Int×Addr)):It:=
 ⟨λi H=>H d=some (.frz ob (dtO ks))/\i<ys.length,λi H x H'=>H'=H/\∃q,ys[i]?=some q/\x = .ref q.2,λi H=>H d=some (.frz ob (dtO ks))/\i=ys.length⟩
def zlD {P:Program}{w:World}{K:PySem.W.Frag}{tg:Expr}{ob:Obj}{ks:List (List Int×V)}{ys:List (List Int×Addr)}{es:Array DictEntry}{J:Nat}(d B:Addr)(hx:ob.ExactDict)(hd:ob.data = .dict es J)(O:es.toList.map (·.key)=ys.map (λq=>Value.ref q.2)) :
  Turn P w K tg (Itd d ob ks ys) [B] B (λi h=>h.IsKeyIter B d i es.size J) where
 mem:=by simp
 obj:=λi h st b D=>by
  have e:b=B:=by simpa using D
  subst e;obtain⟨o,e,c,d⟩:=st
  simp_all
 keep:=λi h h' ⟨o,e,r⟩ k=>⟨o,k B (by simp) o e,r⟩
 item:=by
  rintro X U Y Z hc i pins s σ H E I L st ⟨hg,hi⟩;subst U Y Z;obtain⟨f0,f1,f2,f3,f4,f5⟩:=L B (by simp);have hm:uj s.heap d es J:=⟨ob,(I.hok d _ hg).1,hx,hd⟩;have hl:es.toList.length=ys.length:=by have:=congrArg List.length O;rwa[ab,ab] at this
  have e1:es[i]?=some es.toList[i]:=by rw[zbR,aj]
  have e2:es.toList[i].key=Value.ref ys[i].2:=by
   have:(es.toList.map (·.key))[i]?=(ys.map (λq=>Value.ref q.2))[i]?:=by rw[O]
   rw[aw,aw,aj (by lia),aj hi] at this
   simp_all
  refine zbr st hm e1 λh' F sb=>?_;have I1:Inv X pins σ H { s with heap:=h' }:=I.turned (t':=s.toks) (λb o D e=>(sb.2 b D).trans e) f0 f1 f3 f4 f5;obtain⟨o,e,c,d⟩:=id F;exact⟨_,rfl,zjN (s:={ s with heap:=h' }) e c d (by decide) ⟨.ref ys[i].2,H,I1,e2,⟨rfl,_,aj hi,rfl⟩,F,λb D=>(L b D).1⟩⟩
 done:=by
  rintro X U Y Z hc i pins s σ H E I L st ⟨hg,hi⟩;subst U Y Z;obtain⟨f0,f1,f2,f3,f4,f5⟩:=L B (by simp);have hm:uj s.heap d es J:=⟨ob,(I.hok d _ hg).1,hx,hd⟩;have hl:es.size=ys.length:=by have:=congrArg List.length O;rwa[ab,ab,aT] at this
  subst hi;rw[<- hl] at st;exact zcz (I.ok.hd hc) st hm λh' eb=>⟨rfl,I.turned (t':=s.toks) (λb o D e=>eb b o D e) f0 f1 f3 f4 f5⟩
 self:=λ_ _ _ _ _ st h=>dJ st h
def zvf (te:TE):TI:=λσ H R=>te σ H λx H1=>∃a ob ks,x = .ref a/\H1 a=some (.frz ob (dtO ks))/\∀ys:List (List Int×Addr),ys.map (·.1)=ks.map (·.1)->(∀q∈ys,H1 q.2=some (.tup (q.1.map V.int)))->(ks.map (·.1)).Nodup->R (Itd a ob ks ys) H1
def zqn(h:QE X e te):QI X tg e (zvf te):=⟨by
 intro pins s σ H R I q;refine thn (h.run pins s σ H _ I q) ?_;rintro v B ⟨x,H1,I1,D,a,ob,ks,rfl,F,J⟩;cases D;obtain⟨lo,es,ep,ys,L,O,U,Y,Z,e3,e5⟩:=zmt I1 F;refine zcq lo U ?_;refine⟨B.heap.objs.size,[B.heap.objs.size],_,_,H1,rfl,I1.kept (t':=B.toks) λb o e=>aq _ e,zlD a _ L O e3,⟨_,aF _ rfl,rfl,rfl⟩,λb hb=>?_,J ys Y Z e5⟩;have e:b=B.heap.objs.size:=by simpa using hb
 subst e;exact I1.fpOk (ah _) (I1.hok.fresh (ah _))⟩
end L2
namespace L3
open PySem PySem.Spec L2
def zm3{ks:List (List Int×V)}(h:xa Pn A n H)(B:H p=some (dtO ks)):xa Pn A n (L2.upd H p o):=by
 unfold xa at h ⊢;split at h
 ·trivial
 ·refine⟨?_,h.2⟩;obtain⟨h1,_⟩:=h;obtain⟨a,l,q,g2⟩:=h1.ob;exact⟨⟨a,l,by rw[zi λz=>by rw[z,B] at q;cases q];exact q,g2⟩,by rw[zi λz=>by have:=h1.ls;rw[z,B] at this;cases this];exact h1.ls,h1.len⟩
def zhx:∀st:List Int,IsL G (st.map Dt.int) (st.map V.int)
 | []=>rfl
 | _::st=>⟨_,_,rfl,rfl,zhx st⟩
@[reducible] def onZ (w:W) (P:List (List Int×Dt)->Prop):Prop:=match w with | .df i=>P i | _=>False
def zog{P:List (List Int×Dt)->Prop}:onZ w P = ∃i,w = .df i/\P i:=propext ⟨λh=>by cases w <;> first | exact False.elim h | exact⟨_,rfl,h⟩,by simp_all⟩
section
variable {X:Cx}{Pn:Option zq}{M S:List Nat}{fr fr':Bool}{pos p:Pos}{e a b c:Expr}{f fa fb fc:Ev->Mo W}
@[reducible] def dFrz (f:Ev->Mo W):Ev->Mo W:=λρ n Q=>f ρ n λx m=>onE x λkvs=>Q (.df kvs) m
def zvi (h:JE X Pn M true e f):JE X Pn M false e (dFrz f):=by
 obtain⟨te,q,r⟩:=h.ex;refine⟨_,zs7 q,⟨λA σ H ρ n Q R E P O k=>?_⟩⟩;refine r.run A σ H ρ n _ _ E P O λw m v H' D hv g U=>?_;rw[zkS] at D;obtain⟨kvs,rfl,D⟩:=D;obtain⟨J,Y,B,Z,ks,e2,h1,h2⟩:=U rfl;subst Y;cases e2;have nA:=E.newF B;refine⟨J,ks,rfl,h1,λob=>k _ m _ _ D ⟨J,ob,ks,rfl,zD nA zk,h2.stay λb o F I=>?_⟩ ⟨λb o F I=>?_,?_⟩ λz=>by cases z⟩
 ·obtain⟨L,z2⟩:=yA.mp F;exact zD (λy=>L (.inl y)) (by rw[zi λy=>L (.inr y)];exact z2)
 ·rw[zi λy=>by subst y;exact B o F I];exact g.st b o F I
 ·exact zm3 g.pn h1
def zrV{ks:List (List Int×V)}{ys:List (List Int×Addr)}(h:zT A H B=some (.frz ob (dtO ks)))(D:l=ys.map λq=>W.d (stD q.1))(F:∀q∈ys,zT A H q.2=some (.tup (q.1.map V.int))):ItV false A H (Itd B ob ks ys) l where
 one:=λi w A2 H2 e s _ _=>by subst D;rw[aw] at e;obtain⟨q,h1,rfl⟩:=aE.mp e;refine⟨⟨zw _ _ (s _ _ h λk z=>by cases z),(ae.mp h1).1⟩,?_⟩;rintro y H3 ⟨rfl,I,h2,rfl⟩;rw[h1] at h2;cases h2;exact⟨λ_ _ z=>z,Val.of ⟨q.2,_,rfl,s.tup (F q (au h1)),zhx q.1⟩⟩
 stop:=λA2 H2 s _=>by subst D;exact⟨zw _ _ (s _ _ h λk z=>by cases z),by simp⟩
@[reducible] def dItF (fa:Ev->Mo W):Ev->Mo (List W):=λρ n Q=>fa ρ n λx m=>onZ x λkvs=>(kvs.map (·.1)).Nodup->Q (kvs.map λq=>W.d (stD q.1)) m
def zr2(h:JE X Pn M fr e f):JI X Pn M false tg e (dItF f):=by
 obtain⟨te,q,r⟩:=h.ex;refine⟨_,zqn q,⟨λA σ H ρ n Q R E P O k=>?_⟩⟩;refine r.run A σ H ρ n _ _ E P O λw m v H1 D U g _=>?_;rw[zog] at D;obtain⟨kvs,rfl,D⟩:=D;obtain⟨Y,ob,ks,rfl,B,Z⟩:=U;have I:ks.map (·.1)=kvs.map (·.1):=Z.keys;have F:=(E.stay g.st).alT;refine⟨Y,ob,ks,rfl,zw _ _ B,λys e1 J e3=>k _ m _ H1 (D (by rw[<- I];exact e3)) (zrV B ?_ λq L=>zD (λy=>F _ _ y (J q L)) (J q L)) g⟩;have:(ys.map (·.1)).map (λst=>W.d (stD st))=(kvs.map (·.1)).map λst=>W.d (stD st):=by rw[e1,I]
 rw[am,am] at this;exact this.symm
@[reducible] def zuJ (fd fk:Ev->Mo W):Ev->Mo W:=λρ n Q=>fd ρ n λx q=>fk ρ q λy B=>onZ x λkvs=>∃st,y = .d (stD st)/\onO (xb kvs st) λd=>Q (.d d) B
def zrs{kvs:List (List Int×Dt)}(h:Bor A H (.df kvs) v):∃q ks,v = .ref q/\Rd H q (dtO ks)/\uB (zT A H) kvs ks:=by obtain⟨q,ob,ks,e,h1,h2⟩:=h;exact⟨q,ks,e,.inr ⟨ob,h1⟩,h2⟩
def zc2.z {H:Hp}{a b:Addr}{kvs:List (List Int×V)}{st:List Int}(e:Rd H a (dtO kvs))(q:H b=some (.tup (st.map V.int))):zc2 H a (.ref b) (zbh kvs st):=
 .inr ⟨_,st.map Sum.inl,b,e,rfl,by rw[zcn];exact q,(zhC kvs st).symm⟩
def zgx (I:X.A.units+1<cLine)(J:JB X Pn M a fa)(L:JB X Pn M b fb)(O:zoy b):JE X Pn M false (.Subscript a b pos) (zuJ fa fb):=by obtain⟨ta,U,Y⟩:=J.ex;obtain⟨tb,Z,rb⟩:=L.ex;refine⟨_,xH I U Z O,⟨λA σ H ρ n Q R E P hf k=>?_⟩⟩;refine Y.run A σ H ρ n _ _ E P hf λw1 m1 v1 H1 r1 b1 B=>?_;refine rb.run A σ H1 ρ m1 _ _ (E.stay B.st) B.pn r1 λw2 m2 v2 H2 q b2 g2=>?_;rw[zog] at q;obtain⟨kvs,rfl,st,rfl,q⟩:=q;rw[zaA] at q;obtain⟨d,e3,r⟩:=q;obtain⟨ad,ks,rfl,D,hk⟩:=zrs (b1.stay g2.st);obtain⟨bd,xs,rfl,F,hx⟩:=xT b2;obtain rfl:=hx.of_ints;obtain⟨v,h1,h2⟩:=(hk.look (k:=st)).2 d e3;refine⟨ad,v,rfl,?_,k _ m2 _ H2 r (Val.of h2) (B.trans g2) λz=>by cases z⟩;rw[<- h1];exact zc2.z D F
@[reducible] def dGetFD (fd fk q:Ev->Mo W):Ev->Mo W:=λρ n Q=>fd ρ n λx B=>onZ x λkvs=>fk ρ B λy D=>q ρ D λz F=>∃st,y = .d (stD st)/\onD z λi=>Q (.d ((xb kvs st).getD i)) F
def zj8(I:X.A.units+1<cLine)(J:X.calm=true)(L:CompOkC X scope N z cix)(hi:JI X Pn M F tg iter q)(O:∀C D s H ex,JG (zF X scope N z C D s H ex) (zS M cix) (zS M cix) tg mg)(U:∀C D s H ex,JTs (zF X scope N z C D s H ex) Pn (zS M cix) ifs B)(Y:∀C D s H ex,JB (zF X scope N z C D s H ex) Pn (zS M cix) ke fk)(Z:∀C D s H ex,JE (zF X scope N z C D s H ex) Pn (zS M cix) fr' ve fv)(hn:(cix.filterMap id).Nodup:=by decide)(hs:∀x,foldedSetIterable iter X.env x=pure x:=by intro _;rfl):JE X Pn M true (.DictComp ke ve [⟨tg,iter,ifs,0⟩] scope pos) (zkt q mg B fk fv cix):=by
 obtain⟨ti,qi,ri⟩:=hi.ex;obtain⟨g,qg,rg⟩:=zlM O;obtain⟨tt,qt,rt⟩:=zlN U;obtain⟨tk,qk,rk⟩:=zox Y;obtain⟨te,qe,re⟩:=zlL Z;exact⟨_,zbL (o0:=.dT []) (by simp) I J L qi qg qt qk qe hs,zli hn ri rg rt rk re⟩
@[reducible] def dDictL:List W->Mo W:=λB n Q=>on1 B λx=>∃kvs:List (List Int×Dt),x = .d (.lst (kvs.map λq=>Dt.tup [stD q.1,q.2]))/\(kvs.map (·.1)).Nodup/\kvs.length<=lim/\Q (.dt kvs) n
end
def zmk(xs:List (List Int))(hl:l=xs.map λi=>W.d (stD i))(J:Ev->Prop)(P:List Int->Bool)(E:List Int->Dt)(hN:xs.Nodup)(ad:xs.length<=lim)(j0:J I)(h:∀a∈xs,∀ D,J D->∀C:Ev->Nat->Option (List Int×Dt)->Prop,(∀ {B},P a=true->J B->C B n (some (a,E a)))->(∀ {B},P a=false->J B->C B n none)->mg (.d (stD a)) D λB=>ft B n λb n2=>onC b (fk B n2 λy n3=>fv B n3 λx O=>∃j,y = .d (stD j)/\onD x λd=>C B O (some (j,d))) (C B n2 none))(fin:Q (.dt ((xs.filter P).map λa=>(a,E a))) n):znW mg ft fk fv I Q l n:=by
 subst hl;refine⟨by simp_all,λi D U acc=>J D/\U=n/\acc=((xs.take i).filter P).map λa=>(a,E a),⟨j0,rfl,rfl⟩,?_,?_⟩
 ·rintro i w D U acc hw ⟨Y,rfl,rfl⟩;rw[aw] at hw;obtain⟨a,L,rfl⟩:=aE.mp hw
  have:=h a (au L) D Y (λB O o=>match o with
   | some q=>J B/\O=U/\zeR (((xs.take i).filter P).map λa=>(a,E a)) q.1 q.2=((xs.take (i+1)).filter P).map λa=>(a,E a)
   | none=>J B/\O=U/\(((xs.take i).filter P).map λa=>(a,E a))=((xs.take (i+1)).filter P).map λa=>(a,E a)) (λ{B} Z F=>by
    refine⟨F,rfl,?_⟩;have hi:=(ae.mp L).1
    have hn:((((xs.take i).filter P).map λa=>(a,E a)).any λkv=>decide (kv.1=a))=false:=by rw[List.any_eq_false];intro kv ac z;obtain⟨b,hb,rfl⟩:=aC.mp ac;have e:b=a:=bC z;subst e;obtain⟨j,Y,e2⟩:=bw.mp (a9.mp hb).1;rw[aQ] at Y;rw[dw] at e2;have e3:=(ae.mp L).2;rw[<- e3] at e2;have:=(b4 hN).mp e2;lia
    unfold zeR;rw[hn,if_neg (by decide),zl L,bQ,az]
    simp[Z]) (λ{B} Z F=>by
    refine⟨F,rfl,?_⟩;rw[zl L,bQ,az];simp[Z])
  simp only[zaz,xI] at this
  grind
 ·grind
open PySem PySem.Spec L2
def zra (bk:List Wi)(b:Int):List Wi:=bk.filter λx=>decide (x.b=b)
def zvM{rm:List Int}{b:Int}(h:ya rm bk):ya rm (zra bk b):=λx q=>h x (a9.mp q).1
def zpr{b:Int}{st:List Int}:lpE (zra bk b) b st=lpE bk b st:=by
 unfold lpE lpF zaB zra;rw[List.filter_filter];congr 4;funext x
 simp_all
def zdU {st:List Int}{b x:Int}(q:0<=b)(B:b<st.length):chg st b x=st.set b.toNat x:=by unfold chg;rw[List.set_eq_take_append_cons_drop,if_pos (by lia)];simp
def zmc {st:List Int}{b o x y:Int}(q:0<=b)(B:b<st.length)(o0:0<=o)(D:o<st.length)(h:b≠o):chg (chg st b x) o y=chg (chg st o y) b x:=by
 have F:chg (chg st b x) o y=(st.set b.toNat x).set o.toNat y:=by rw[zdU o0 (by rw[zaG q B];exact D),zdU q B]
 have I:chg (chg st o y) b x=(st.set o.toNat y).set b.toNat x:=by rw[zdU q (by rw[zaG o0 D];exact B),zdU o0 D]
 rw[F,I];exact List.set_comm _ _ (by lia)
def zhn (bk:List Wi)(b o:Int)(st:List Int):Bool:=decide (lpE bk b st≠lpE bk b (chg st o 0))
def zmZ (rm:List Int)(bk:List Wi)(b o:Int):Bool:=(yQ (rm.map zj)).any λst=>decide (z9 st b=0)&&zhn bk b o st
def zhQ {rm:List Int}{bk:List Wi}{b o:Int}(O:RoomOk rm)(F:ya rm bk)(q:0<=b)(J:b<rm.length)(o0:0<=o)(Z:o<rm.length):(∃st∈yQ (rm.map zj),zhn bk b o st=true)↔o≠b/\zmZ rm bk b o=true:=by
 unfold zmZ;constructor
 ·rintro⟨st,U,Y⟩;have L:=xS _ _ U;have I:st.length=rm.length:=L.len;have B:lpE bk b st≠lpE bk b (chg st o 0):=bC Y;have D:o≠b:=λe=>B (by subst e;rw[zgB F I]);refine⟨D,cY.mpr ⟨chg st b 0,zeH (zao L q J (by decide) ?_),?_⟩⟩
  ·have:=yk O.box q J;lia
  ·rw[a6];refine⟨aY (by rw[xU q (by lia) q,if_pos rfl]),aY ?_⟩;rw[zmc q (by lia) o0 (by lia) (Ne.symm D),zgB F I,zgB F (by rw[zaG o0 (by lia)];exact I)];exact B
 ·grind
def zbn (rm:List Int)(bk:List Wi)(b o:Nat):Bool:=decide (o≠b)&&zmZ rm bk b o
def xK (rm:List Int)(bk:List Wi):List (List Int):=zeL (zbn rm bk) rm.length rm.length
def zfg {rm:List Int}{bk:List Wi}{z:List Int}(D:RoomOk rm)(F:ya rm bk):z∈xK rm bk↔∃b o:Nat,b<rm.length/\o<rm.length/\(∃st∈yQ (rm.map zj),zhn bk b o st=true)/\z=[(b:Int),(o:Int)]:=by
 unfold xK;rw[x5];constructor
 ·rintro⟨b,o,h1,h2,q,B⟩;unfold zbn at q;rw[a6] at q;exact⟨b,o,h1,h2,(zhQ D F (by lia) (by lia) (by lia) (by lia)).mpr ⟨by grind,q.2⟩,B⟩
 ·rintro⟨b,o,h1,h2,q,B⟩;obtain⟨I,J⟩:=(zhQ D F (by lia) (by lia) (by lia) (by lia)).mp q;refine⟨b,o,h1,h2,?_,B⟩;unfold zbn
  grind
def zcl{rm:List Int}{z:List Int}(h:z∈xK rm bk):z.length=2:=by obtain⟨b,o,_,_,_,rfl⟩:=x5.mp h;rfl
def zcm (rm:List Int)(bk:List Wi)(b:Nat):∀j,b<j->(yR (zbn rm bk) b j).length+1<=j
 | 0,h=>by lia
 | j+1,h=>by
  rw[zeM];have h1:=zf1 (zbn rm bk) b j;split
  ·rename_i e;have q:j≠b:=λz=>by unfold zbn at e;simp[z] at e
   have:=zcm rm bk b j (by lia)
   simp_all
  ·lia
def zfh (rm:List Int)(bk:List Wi)(n:Nat):∀i,i<=n->(zeL (zbn rm bk) n i).length+i<=i * n
 | 0,_=>by simp[zeL]
 | i+1,h=>by
  have h1:=zfh rm bk n i (by lia);have h2:=zcm rm bk i n (by lia);have e:zeL (zbn rm bk) n (i+1)=zeL (zbn rm bk) n i++yR (zbn rm bk) i n:=rfl
  grind
def zff {rm:List Int}{bk:List Wi}(q:RoomOk rm):(xK rm bk).length<=56:=by have h1:=zfh rm bk rm.length rm.length (ah _);have B:=q.few;unfold xK;have:rm.length * rm.length<=8 * rm.length:=Nat.mul_le_mul_right _ B;lia
def zjW{rm:List Int}{l:List (List Int)}(q:Up' l)(h:∀z,z∈l↔z∈xK rm bk):l=xK rm bk:=
 zg6 (m:=2) (λy B=>zcl ((h y).mp B)) q (zeN _ _ _) h
@[reducible] def lpD (bk:List Wi) (b:Int) (st:List Int):Dt:=.lst ((lpE bk b st).map yn)
@[reducible] def zut (rm:List Int) (bk:List Wi) (st:List Int):Dt:=.lst ((List.range rm.length).map λb:Nat=>lpD bk (b:Int) st)
def ziN (rm:List Int)(bk:List Wi):List (List Int×Dt):=(yQ (rm.map zj)).map λst=>(st,zut rm bk st)
def zfv {f:List Int->Dt}{st:List Int}:∀ {l:List (List Int)},st∈l->xb (l.map λs=>(s,f s)) st=some (f st)
 | a::l,h=>by
  unfold xb;rw[aA,bq];by_cases e:a=st
  ·subst e;simp
  ·have h':st∈l:=by
    grind
   have:=zfv (f:=f) h';unfold xb at this
   simp_all
def zb4{rm:List Int}{st:List Int}(h:StOk rm st):xb (ziN rm bk) st=some (zut rm bk st):=zfv (zeH h)
def zq0 {l:List (List Int)}(h:Up' l):l.Nodup:=h.imp λh e=>by subst e;rw[y8] at h;cases h
def zrk (rm:List Int):(yQ (rm.map zj)).Nodup:=zq0 (zoA _ λc q=>by obtain⟨m,_,rfl⟩:=aC.mp q;unfold zj;rw[br];exact List.pairwise_lt_range.imp λh=>by lia)
def zoC {rm:List Int}(q:RoomOk rm):(yQ (rm.map zj)).length<=65536:=by
 have:=zdP q.few q.box rm.length
 simp_all
def znJ{f:Nat->Dt}{P:Dt->Prop}(q:k<n)(h:P (f k)):onO (atI ((List.range n).map f) (k:Int)) P:=
 xM (zi0 (by simp_all)) h
def zjv(n:Nat):enW 0 ((List.range n).map f)=(List.range n).map λk:Nat=>W.d (.tup [.int (k:Int),f k]):=by
 rw[zjt f 0 (List.range n),ax]
 simp_all
def zn8{b:Int}{st:List Int}:(lpD bk b st).eqOk:=by show (Dt.lst ((lpE bk b st).map yn)).eqOk;rw[<- zsf];exact zgz _
def zet:∀ {l l':List (Int×Int)},l.map yn=l'.map yn->l=l'
 | [],[],_=>rfl
 | [],_::_,h=>by cases h
 | _::_,[],h=>by cases h
 | (a,b)::l,(c,d)::l',h=>by rw[aA,aA,dU] at h;have h1:=h.1;unfold yn at h1;injection h1 with h1;injection h1 with q h1;injection h1 with B;injection q with q;injection B with B;rw[zet h.2];simp only at q B;rw[q,B]
def zkq{b:Int}{st q:List Int}:lpD bk b st=lpD bk b q↔lpE bk b st=lpE bk b q:=⟨λh=>zet (Dt.lst.inj h),λh=>by unfold lpD;rw[h]⟩
def zu2{b o:Int}{st:List Int}(h:r=true↔lpD bk b st=lpD bk b (chg st o 0)):(!r)=zhn bk b o st:=by
 unfold zhn
 cases r with
 | true=>simp[zkq.mp (h.mp rfl)]
 | false=>simp;exact λz=>by have:=h.mpr (zkq.mpr z);cases this
def BkD (bk:List Wi)(q:Dt):Prop:=q=yK bk\/q = .lst (bk.map zQ)
def zsx(h:BkD bk q)(k:P (bk.map zQ)):onS (.d q) P:=by rcases h with rfl | rfl <;> exact k
def zmu {rm:List Int}{g:List (Int×Int)}{o v:Int}(Y:Giv rm g)(Z:∀q∈g,q.1≠o)(o0:0<=o)(o1:o<rm.length)(v0:0<=v)(v1:v<z9 rm o){l:List (List Int)}(hp:l.Perm ((g++[(o,v)]).map λq=>[q.1,q.2]))(hu:Up' l) :
  ∃g',l.map stD=g'.map yn/\Giv rm g'/\∀q∈g',q∈g\/q=(o,v):=by
 have I:∀r∈l,∃q∈g++[(o,v)],r=[q.1,q.2]:=λr B=>by obtain⟨q,D,rfl⟩:=aC.mp (hp.mem_iff.mp B);exact⟨q,D,rfl⟩
 have J:∀a∈g++[(o,v)],∀b∈g++[(o,v)],a.1=b.1->a=b:=λa L b O e=>by
  rcases aG.mp L with z | z <;> rcases aG.mp O with y | y
  ·exact zo3 Y z y e
  ·rw[aB.mp y] at e;exact absurd e (Z a z)
  ·rw[aB.mp z] at e;exact absurd e.symm (Z b y)
  ·simp_all
 refine⟨l.map λr=>(r.getD 0 0,r.getD 1 0),?_,⟨λq D=>?_,?_⟩,λq D=>?_⟩
 ·rw[am];refine bJ λr B=>?_;obtain⟨q,_,rfl⟩:=I r B;rfl
 ·obtain⟨r,B,rfl⟩:=aC.mp D;obtain⟨q,F,rfl⟩:=I r B;rcases aG.mp F with z | z
  ·exact Y.ok q z
  ·rw[aB.mp z];exact⟨o0,o1,v0,v1⟩
 ·rw[br];refine de ?_ hu;intro a b L O h;obtain⟨q,D,rfl⟩:=I a L;obtain⟨q',U,rfl⟩:=I b O;rcases zvo.mp h with z | ⟨z,y⟩
  ·exact z
  ·have:=J q D q' U z
   simp_all
 ·obtain⟨r,B,rfl⟩:=aC.mp D;obtain⟨q,F,rfl⟩:=I r B;rcases aG.mp F with z | z
  ·exact .inl z
  ·exact .inr (aB.mp z)
def zd2 {rm:List Int}{g:List (Int×Int)}(h:Giv rm g):g.length<=rm.length:=by
 have:=xA (l:=g.map (·.1)) (l':=zj rm.length) (br.mpr (h.up.imp λh e=>by lia)) λx B=>by obtain⟨q,D,rfl⟩:=aC.mp B;have:=h.ok q D;exact xP.mpr ⟨this.1,this.2.1⟩
 rw[ab,zW] at this;lia
def zrQ {rm:List Int}{g:List (Int×Int)}{o v:Int}(B:Giv rm g)(D:∀q∈g,q.1≠o):((g++[(o,v)]).map λq=>[q.1,q.2]).Nodup:=by
 refine br.mpr (dH.mpr ⟨B.up.imp λh e=>?_,cC _ _,λa F b I e=>?_⟩)
 ·simp_all
 ·grind
structure CS (Pn:Option zq)(A:Addr->Prop)(acc:Addr)(H1:Hp)(cM:List Nat)(σc:St)(ρc:Ev)(σ:St)(H:Hp)(ρ:Ev)(n:Nat)(ds:List Dt):Prop where
 env:EnvR (λb=>A b\/b=acc) cM σ H ρ
 pn:xa Pn (λb=>A b\/b=acc) n H
 ac:∃xs,H acc=some (.lst xs)/\IsL (zT (λb=>A b\/b=acc) H) ds xs
 st:zv (zT A H1) (zT (λb=>A b\/b=acc) H)
 s1:zv H1 H
 fx:∀k∈cM,σ[k]?=σc[k]?/\ρ[k]?=ρc[k]?
section
variable {X:Cx}{Pn:Option zq}{M S cM:List Nat}{fr fr':Bool}{e:Expr}{es:List Expr}{pos:Pos}{A:Addr->Prop}{acc:Addr}{H1 H H':Hp}{σc σ:St}{ρc ρ:Ev}{n m:Nat}{ds:List Dt}
def CS.go (c:CS Pn A acc H1 cM σc ρc σ H ρ n ds)(s:zv H H')(p:xa Pn (λb=>A b\/b=acc) m H'):CS Pn A acc H1 cM σc ρc σ H' ρ m ds:=
 ⟨c.env.stay s,p,let ⟨xs,h1,h2⟩:=c.ac;⟨xs,s.lst h1,h2.stay (zx s)⟩,c.st.trans (zx s),c.s1.trans s,c.fx⟩
def zja {g:TG}{ti:TT}{te:TE}{mg:W->Ev->(Ev->Prop)->Prop}{ft:Ev->Mo Bool}{fe:Ev->Mo W}{w:W}{x:V}{G:Hp}{K:Ev->Nat->List Dt->Prop}{Nx:St->Hp->Prop}(hg:RG cM cM g mg)(ht:RT Pn cM ti ft)(he:RE Pn cM fr' te fe)
  (J:H1 acc=none) (na:∀k w,k∈cM->ρc[k]?=some (some w)->σc[k]?≠some (some (.ref acc))) (c:CS Pn A acc H1 cM σc ρc σ H ρ n ds) (sG:zv G (zT (λb=>A b\/b=acc) H)) (V2:Val (λb=>A b\/b=acc) H w x)
  (r:mg w ρ λq=>ft q n λb L=>if b=true then fe q L λx n3=>∃d,x = .d d/\ds.length<=lim/\K q n3 (ds++[d]) else K q L ds)
  (k:∀ O H2 U L Y,CS Pn A acc H1 cM σc ρc O H2 U L Y->zv G (zT (λb=>A b\/b=acc) H2)->K U L Y->Nx O H2):zgf g ti te acc Nx x σ H:=by
 refine hg.run _ σ H ρ x w _ _ c.env V2 r λB D r3 E3 f3=>?_;have c3:CS Pn A acc H1 cM σc ρc B H D n ds:=⟨E3,c.pn,c.ac,c.st,c.s1,λk F=>⟨(f3 k F).1.trans (c.fx k F).1,(f3 k F).2.trans (c.fx k F).2⟩⟩;refine ht.run _ B H D n _ _ E3 c.pn r3 λb m3 H4 r4 g4=>?_;have c4:=c3.go g4.st g4.pn;have Z:=sG.trans (zx g4.st)
 cases b with
 | false=>
  rw[if_neg (by decide)] at r4 ⊢;exact k _ _ _ _ _ c4 Z r4
 | true=>
  rw[if_pos rfl] at r4 ⊢;refine he.run _ B H4 D m3 _ _ c4.env c4.pn r4 ?_;rintro w5 m5 v5 H5 ⟨d,e5,ag,r5⟩ V5 g5 _;subst e5;have I:=c4.go g5.st g5.pn;have al:=Z.trans (zx g5.st);obtain⟨xs,an,ad⟩:=I.ac;refine⟨xs,an,zcv (by rw[ad.length];exact ag),k _ _ _ _ _ ⟨I.env.upd (.inr rfl) (λk w F hw z=>?_) NP.lst (by lia),I.pn.upd (.inr rfl),⟨_,zk,?_⟩,?_,?_,I.fx⟩ ?_ r5⟩
  ·obtain⟨f1,f2⟩:=I.fx k F;rw[f1] at z;rw[f2] at hw;exact na k w F hw z
  ·rw[zV (.inr rfl)];exact ad.append (IsL.one V5.is)
  ·rw[zV (.inr rfl)];exact I.st
  ·exact λb o e nn=>by rw[zi (zd e J)];exact I.s1 b o e nn
  ·rw[zV (.inr rfl)];exact al
def inR (mg:W->Ev->(Ev->Prop)->Prop)(J:Ev->Mo Bool)(L:Ev->Mo W)(B:Ev)(D:List Dt)(K:Ev->Nat->List Dt->Prop):List W->Nat->Prop:=λl O=>∃I:Nat->Ev->Nat->List Dt->Prop,I 0 B O D/\
 (∀i w ρ n ds,l[i]?=some w->I i ρ n ds->mg w ρ λq=>J q n λb F=>if b=true then L q F λx U=>∃d,x = .d d/\ds.length<=lim/\I (i+1) q U (ds++[d]) else I (i+1) q F ds)/\
 ∀ ρ n ds,I l.length ρ n ds->K ρ n ds
def znM (mg:W->Ev->(Ev->Prop)->Prop)(O:Ev->Mo Bool)(B:Ev->Mo (List W))(D:W->Ev->(Ev->Prop)->Prop)(F:Ev->Mo Bool)(U:Ev->Mo W)(J:Ev)(Q:W->Nat->Prop):List W->Nat->Prop:=λl Y=>∃I:Nat->Ev->Nat->List Dt->Prop,I 0 J Y []/\
 (∀i w ρ n ds,l[i]?=some w->I i ρ n ds->mg w ρ λq=>O q n λb L=>if b=true then B q L (inR D F U q ds (I (i+1))) else I (i+1) q L ds)/\
 ∀ ρ n ds,I l.length ρ n ds->Q (.d (.lst ds)) n
@[reducible] def zoa (F:Ev->Mo (List W)) (mg:W->Ev->(Ev->Prop)->Prop) (I:Ev->Mo Bool) (q:Ev->Mo (List W)) (B:W->Ev->(Ev->Prop)->Prop) (D:Ev->Mo Bool) (J:Ev->Mo W) (cix:List (Option Nat)):Ev->Mo W:=λρ n Q=>F ρ n (znM mg I q B D J (uZ ρ cix) Q)
def znj{wi wi2:TI}{g g2:TG}{ti ti2:TT}{te:TE}{cix:List (Option Nat)}{fi ap:Ev->Mo (List W)}{mg as:W->Ev->(Ev->Prop)->Prop}{ft av:Ev->Mo Bool}{fe:Ev->Mo W}(hn:(cix.filterMap id).Nodup)(hi:RI Pn M ow wi fi)(hg:RG (zS M cix) (zS M cix) g mg)(ht:RT Pn (zS M cix) ti ft)(bd:RI Pn (zS M cix) false wi2 ap)(bk:RG (zS M cix) (zS M cix) g2 as)(bl:RT Pn (zS M cix) ti2 av)(he:RE Pn (zS M cix) fr' te fe):RE Pn M true (zlz wi g ti wi2 g2 ti2 te cix) (zoa fi mg ft ap as av fe cix):=⟨λA σ H ρ n Q R E P hf k=>by
 refine hi.run A σ H ρ n _ _ E P hf λl m J H1 ⟨I,i0,it,ie⟩ iv g1=>λacc q=>?_;have E1:=E.stay g1.st
 have c0:CS Pn A acc H1 (zS M cix) (x6 σ cix) (uZ ρ cix) (x6 σ cix) (L2.upd H1 acc (.lst [])) (uZ ρ cix) m []:=
  ⟨(E1.cap hn).more (zv.upd (o:=.lst []) q) (Fr.of q) zk NP.lst (by lia),g1.pn.grow (g1.pn.same (xm.upd q)) (Fr.of q) zk NP.lst,⟨[],zk,rfl⟩,yz (zv.upd q) (Fr.of q),zv.upd q,λk Z=>⟨rfl,rfl⟩⟩
 have na:∀k w,k∈zS M cix->(uZ ρ cix)[k]?=some (some w)->(x6 σ cix)[k]?≠some (some (.ref acc)):=λk w Z hw z=>by obtain⟨v,s1,_,s3⟩:=(E1.cap hn).val k w hw;obtain⟨a,e,hA,_⟩:=s3 Z;rw[z] at s1;cases s1;cases e;exact E1.new q hA
 refine⟨λi mm F H'=>mm=l.length - i/\i<=l.length/\∃ B D ds,CS Pn A acc H1 (zS M cix) (x6 σ cix) (uZ ρ cix) F H' B D ds/\I i B D ds,⟨l.length,by simp,aJ _,_,m,[],c0,i0⟩,?_⟩;rintro i mm F H' ⟨rfl,b3,B,D,ds,c,hI⟩;by_cases a3:i<l.length
 ·right;have U:l[i]?=some l[i]:=aj a3;obtain⟨go,yl⟩:=iv.one i l[i] _ H' U c.st (λ_=>c.s1) λp hp=>c.env.new hp;refine⟨go,λad H2=>∃ B D ds,CS Pn A acc H1 (zS M cix) (x6 σ cix) (uZ ρ cix) ad H2 B D ds/\I (i+1) B D ds,λad H2 h=>⟨l.length - (i+1),by lia,rfl,a3,h⟩,λx H2 hy=>?_⟩;obtain⟨S2,V2⟩:=yl x H2 hy;have c2:=c.go (zv.same S2) (c.pn.same S2);refine hg.run _ F H2 B x l[i] _ _ c2.env V2 (it i l[i] B D ds U hI) λag al r3 E3 f3=>?_;have c3:CS Pn A acc H1 (zS M cix) (x6 σ cix) (uZ ρ cix) ag H2 al D ds:=⟨E3,c2.pn,c2.ac,c2.st,c2.s1,λk Z=>⟨(f3 k Z).1.trans (c2.fx k Z).1,(f3 k Z).2.trans (c2.fx k Z).2⟩⟩;refine ht.run _ ag H2 al D _ _ E3 c3.pn r3 λb m3 H4 r4 g4=>?_;have c4:=c3.go g4.st g4.pn
  cases b with
  | false=>
   rw[if_neg (by decide)] at r4 ⊢;exact⟨_,_,_,c4,r4⟩
  | true=>
   rw[if_pos rfl] at r4 ⊢;refine bd.run _ ag H4 al m3 _ _ c4.env c4.pn r4 λO m5 J2 H5 ⟨I2,a0,a1,a2⟩ a4 g5=>?_;have c5:=c4.go g5.st g5.pn;refine⟨λj mm F H'=>mm=O.length - j/\j<=O.length/\∃ B D ds,CS Pn A acc H1 (zS M cix) (x6 σ cix) (uZ ρ cix) F H' B D ds/\zv (zT (λb=>A b\/b=acc) H5) (zT (λb=>A b\/b=acc) H')/\I2 j B D ds,⟨O.length,by simp,aJ _,_,_,_,c5,zv.refl _,a0⟩,?_⟩;rintro j mm b5 H6 ⟨rfl,b6,bo,n6,bs,c6,s6,a5⟩;by_cases Y:j<O.length
   ·right;have L:O[j]?=some O[j]:=aj Y;obtain⟨bx,b0⟩:=a4.one j O[j] _ H6 L s6 (λz=>by cases z) λp hp=>c6.env.new hp;refine⟨bx,λb1 H7=>∃ B D ds,CS Pn A acc H1 (zS M cix) (x6 σ cix) (uZ ρ cix) b1 H7 B D ds/\zv (zT (λb=>A b\/b=acc) H5) (zT (λb=>A b\/b=acc) H7)/\I2 (j+1) B D ds,λad H2 h=>⟨O.length - (j+1),by lia,rfl,Y,h⟩,λy H7 b2=>?_⟩;obtain⟨S7,V7⟩:=b0 y H7 b2;exact zja bk bl he q na (c6.go (zv.same S7) (c6.pn.same S7)) (s6.trans (zx (zv.same S7))) V7 (a1 j O[j] bo n6 bs L a5) λ_ _ _ _ _ q1 q2 q3=>⟨_,_,_,q1,q2,q3⟩
   ·refine Or.inl ?_;have an:j=O.length:=by lia
    subst an;exact⟨a4.stop _ H6 s6 (λz=>by cases z),_,_,_,c6,a2 _ _ _ a5⟩
 ·refine Or.inl ?_;have an:i=l.length:=by lia
  subst an;obtain⟨xs,a7,bb⟩:=c.ac;refine⟨iv.stop _ H' c.st (λ_=>c.s1),k _ D _ H' (ie B D ds hI) (Val.of ⟨acc,xs,rfl,zD (E1.new q) a7,bb.stay (zv.same (yM λb z=>.inl z))⟩) (g1.trans ⟨c.s1,c.pn.less λa z=>.inl z⟩) λ_=>⟨acc,rfl,(Fr.of q).back g1.st,acc,xs,rfl,a7,bb⟩⟩⟩
def zwk(h:∀C s H ex,JI (zu X scope N C s H ex) Pn M q tg e B):∃te,(∀C s H ex,QI (zu X scope N C s H ex) tg e te)/\RI Pn M q te B:=
 ⟨λσ H Q=>∀C s H0 ex,(h C s H0 ex).ex.choose σ H Q,λC s H0 ex=>⟨λpins s' σ H Q I z=>(h C s H0 ex).ex.choose_spec.1.run pins s' σ H Q I (z C s H0 ex)⟩,
  ⟨λA σ H ρ n Q R E P D k C s H0 ex=>(h C s H0 ex).ex.choose_spec.2.run A σ H ρ n Q R E P D k⟩⟩
def zkc{ifs ifs2:List Expr}{scope:Scope}{N:List Str}{cix:List (Option Nat)}{fi q:Ev->Mo (List W)}{mg B:W->Ev->(Ev->Prop)->Prop}{ft D:Ev->Mo Bool}{fe:Ev->Mo W}{nx:Str}{px spos:Pos}(F:X.N.Nodup)(I:X.N[ix]?=some nx)(J:X.env.scope.names.lookup nx=some .local)(hc:X.calm=true)(cc:CompOk X scope N cix)(hi:JI X Pn M ow tg iter fi)(hg:∀C s H ex,JG (zu X scope N C s H ex) (zS M cix) (zS M cix) tg mg)(ht:∀C s H ex,JTs (zu X scope N C s H ex) Pn (zS M cix) ifs ft)(L:∀C s H ex,JI (zu X scope N C s H ex) Pn (zS M cix) false tg2 iter2 q)(O:∀C s H ex,JG (zu X scope N C s H ex) (zS M cix) (zS M cix) tg2 B)(U:∀C s H ex,JTs (zu X scope N C s H ex) Pn (zS M cix) ifs2 D)(he:∀C s H ex,JE (zu X scope N C s H ex) Pn (zS M cix) fr' elt fe)(hn:(cix.filterMap id).Nodup:=by decide)(Y:swapsWithSole [.Name nx px] (.ListComp elt [⟨tg,iter,ifs,0⟩,⟨tg2,iter2,ifs2,0⟩] scope pos) spos.line X.env=pure true:=by rfl)(hs:∀x,foldedSetIterable iter X.env x=pure x:=by intro _;rfl)(Z:∀C s H ex x,foldedSetIterable iter2 (zu X scope N C s H ex).env x=pure x:=by intro _ _ _ _ _;rfl)(ac:(assignEach [.Name nx px] X.env).map (·.2)=[assign (.Name nx px) X.env]:=by rfl):∃te,QS X (.Assign [.Name nx px] (.ListComp elt [⟨tg,iter,ifs,0⟩,⟨tg2,iter2,ifs2,0⟩] scope pos) spos) (zg2 te (zap ix))/\RE Pn M true te (zoa fi mg ft q B D fe cix):=by
 obtain⟨ti,qi,ri⟩:=hi.ex;obtain⟨g,qg,rg⟩:=ziL hg;obtain⟨tt,qt,rt⟩:=ziM ht;obtain⟨ti2,ad,ag⟩:=zwk L;obtain⟨g2,al,an⟩:=ziL O;obtain⟨av,ap,as⟩:=ziM U;obtain⟨te,qe,re⟩:=zlK he;exact⟨_,zhW F I J hc cc qi qg qt ad al ap qe Y hs Z ac,znj hn ri rg rt ag an as re⟩
def zoH {α β:Type}{l:List W}{L:Ev}{n:Nat}{mg I:W->Ev->(Ev->Prop)->Prop}{O:Ev->Mo (List W)}{fe:Ev->Mo W}{Q:W->Nat->Prop}(xs:List α)(U:α->W)(hl:l=xs.map U)(ys:List β)(F:α->β->W)(J:Ev->Prop)(J2:α->Ev->Prop)(E:α->β->Dt)(ag:(xs.flatMap λa=>ys.map (E a)).length<=lim)(j0:J L)
  (h:∀a∈xs,∀ D,J D->∀C:Ev->Nat->List W->Prop,(∀ {B},J2 a B->C B n (ys.map (F a)))->mg (U a) D λB=>O B n λl2 n2=>C B n2 l2)
  (h2:∀a∈xs,∀b∈ys,∀ D,J2 a D->∀C:Ev->Nat->Dt->Prop,(∀ {B},J2 a B->C B n (E a b))->I (F a b) D λB=>fe B n λx n3=>onD x λd=>C B n3 d)
  (jj:∀a∈xs,∀ ρ,J2 a ρ->J ρ) (fin:Q (.d (.lst (xs.flatMap λa=>ys.map (E a)))) n):znM mg zpG O I zpG fe L Q l n:=by
 subst hl;refine⟨λi D n' ds=>J D/\n'=n/\ds=(xs.take i).flatMap λa=>ys.map (E a),⟨j0,rfl,rfl⟩,?_,?_⟩
 ·rintro i w D n' ds hw ⟨hj,rfl,rfl⟩;rw[aw] at hw;obtain⟨a,ha,rfl⟩:=aE.mp hw;have hm:=au ha;have e1:((xs.take (i+1)).flatMap λa=>ys.map (E a))=((xs.take i).flatMap λa=>ys.map (E a))++ys.map (E a):=by rw[zl ha,eh];simp
  have al:((xs.take i).flatMap λa=>ys.map (E a)).length+ys.length<=(xs.flatMap λa=>ys.map (E a)).length:=by
   have e2:xs.flatMap (λa=>ys.map (E a))=((xs.take (i+1)).flatMap λa=>ys.map (E a))++((xs.drop (i+1)).flatMap λa=>ys.map (E a)):=by rw[<- eh,cL]
   simp_all
  refine h a hm D hj (λB n2 l2=>inR I zpG fe B _ _ l2 n2) λ{B} j1=>⟨λj ρ m ds=>J2 a ρ/\m=n'/\j<=ys.length/\ds=((xs.take i).flatMap λa=>ys.map (E a))++(ys.take j).map (E a),⟨j1,rfl,aJ _,by simp⟩,?_,?_⟩
  ·rintro j w Y m2 ac Z ⟨k1,rfl,kl,rfl⟩;rw[aw] at Z;obtain⟨b,hb,rfl⟩:=aE.mp Z;have ad:=(ae.mp hb).1
   have:=h2 a hm b (au hb) Y k1 (λB n3 d=>(((xs.take i).flatMap λa=>ys.map (E a))++(ys.take j).map (E a)).length<=lim/\J2 a B/\n3=m2/\j+1<=ys.length/\(((xs.take i).flatMap λa=>ys.map (E a))++(ys.take j).map (E a))++[d]=((xs.take i).flatMap λa=>ys.map (E a))++(ys.take (j+1)).map (E a))
    λ{B} q=>⟨by rw[ai,ab,aQ];lia,q,rfl,ad,by rw[zl hb,az,bK];rfl⟩
   simp only[xI] at this;exact this
  ·rintro Y m2 ac ⟨k1,rfl,_,rfl⟩;exact⟨jj a hm _ k1,rfl,by simp_all⟩
 ·grind
end
end L3
namespace L2
open PySem PySem.Spec PyProof.Rows PySem.W PySem.Calls
section
variable {X:Cx}{pins:List (Addr×Obj)}{σ:St}{H:Hp}{s:Shared}{a:Addr}
def Inv.frzK(I:Inv X pins σ H s)(h:H a=some (.dK kvs)):∃ob,Inv X pins σ (upd H a (.frz ob (.dK kvs))) s:=by have k:=(show y0 X.prog X.w H s.heap a (.dK kvs) from I.hok a _ h);obtain⟨z,lo,vs,r,o,es,q,h1,h2,B,D⟩:=id k;exact⟨o,I.write (x:=a) (e:=a) (h':=s.heap) (t':=s.toks) (by rw[h];trivial) (.inl rfl) (λ_ _ _ e=>e) ⟨o,h1⟩ ⟨h1,z,lo,vs,r,o,es,q,h1,h2,B,D⟩⟩
def zwf (te:TE):TE:=λσ H Q=>te σ H λx H1=>∃a ks,x = .ref a/\H1 a=some (.dK ks)/\∀ob,Q x (upd H1 a (.frz ob (.dK ks)))
def zqg(h:QE X e te):QE X e (zwf te):=⟨by
 intro pins s σ H Q I q;refine thn (h.run pins s σ H _ I q) ?_;rintro v J ⟨x,H1,I1,B,a,ks,rfl,D,F⟩;obtain⟨ob,I2⟩:=I1.frzK D;exact⟨_,_,I2,B,F ob⟩⟩
end
def Itk (d:Addr)(ob:Obj)(ks:List (Key×V))(ns:List Int):It:=
 ⟨λi H=>H d=some (.frz ob (.dK ks))/\i<ns.length,λi H x H'=>H'=H/\∃q,ns[i]?=some q/\x = .int q,λi H=>H d=some (.frz ob (.dK ks))/\i=ns.length⟩
def ziH {P:Program}{w:World}{K:PySem.W.Frag}{tg:Expr}{ob:Obj}{ks:List (Key×V)}{ns:List Int}{es:Array DictEntry}{F:Nat}(d q:Addr)(hx:ob.ExactDict)(hd:ob.data = .dict es F)(L:yb (ns.map V.int) (es.toList.map (·.key))) :
  Turn P w K tg (Itk d ob ks ns) [q] q (λi h=>h.IsKeyIter q d i es.size F) where
 mem:=by simp
 obj:=λi h st b B=>by
  have e:b=q:=by simpa using B
  subst e;obtain⟨o,e,c,d⟩:=st
  simp_all
 keep:=λi h h' ⟨o,e,r⟩ k=>⟨o,k q (by simp) o e,r⟩
 item:=by
  rintro X O U Y hc i pins s σ H E I J st ⟨Z,hi⟩;subst O U Y;obtain⟨f0,f1,f2,f3,f4,f5⟩:=J q (by simp);have hm:uj s.heap d es F:=⟨ob,(I.hok d _ Z).1,hx,hd⟩;have hl:ns.length=es.toList.length:=by have:=L.length;rwa[ab,ab] at this
  have e1:es[i]?=some es.toList[i]:=by rw[zbR,aj]
  have e2:y1 (.int ns[i]) es.toList[i].key:=by
   obtain⟨u,h1,h2⟩:=L.get (i:=i) (x:=.int ns[i]) (by simp);rw[aw,aj (by lia)] at h1
   simp_all
  refine zbr st hm e1 λh' D sb=>?_;have I1:Inv X pins σ H { s with heap:=h' }:=I.turned (t':=s.toks) (λb o B e=>(sb.2 b B).trans e) f0 f1 f3 f4 f5;obtain⟨o,e,c,d⟩:=id D;exact⟨_,rfl,zjN (s:={ s with heap:=h' }) e c d (by decide) ⟨.int ns[i],H,I1,e2,⟨rfl,_,aj hi,rfl⟩,D,λb B=>(J b B).1⟩⟩
 done:=by
  rintro X O U Y hc i pins s σ H E I J st ⟨Z,hi⟩;subst O U Y;obtain⟨f0,f1,f2,f3,f4,f5⟩:=J q (by simp);have hm:uj s.heap d es F:=⟨ob,(I.hok d _ Z).1,hx,hd⟩;have hl:es.size=ns.length:=by have:=L.length;rw[ab,ab,aT] at this;exact this.symm
  subst hi;rw[<- hl] at st;exact zcz (I.ok.hd hc) st hm λh' eb=>⟨rfl,I.turned (t':=s.toks) (λb o B e=>eb b o B e) f0 f1 f3 f4 f5⟩
 self:=λ_ _ _ _ _ st h=>dJ st h
def zrR (te:TE):TI:=λσ H R=>te σ H λx H1=>∃a ob ks ns,x = .ref a/\H1 a=some (.frz ob (.dK ks))/\ks.map (·.1)=ns.map Sum.inl/\R (Itk a ob ks ns) H1
def zne(h:QE X e te):QI X tg e (zrR te):=⟨by
 intro pins s σ H R I q;refine thn (h.run pins s σ H _ I q) ?_;rintro v B ⟨x,H1,I1,O,a,ob,ks,ns,rfl,D,U,Y⟩;cases O;obtain⟨lo,es,ep,⟨o,F,J,L⟩,Z,_⟩:=zjq I1 (.inr ⟨ob,D⟩) U;have:o=ob:=by have:=(I1.hok a _ D).1;rw[F] at this;exact bE this
 subst this;refine zcq lo ⟨o,F,J,L⟩ ?_;refine⟨B.heap.objs.size,[B.heap.objs.size],_,_,H1,rfl,I1.kept (t':=B.toks) λb o e=>aq _ e,ziH a _ J L Z,⟨_,aF _ rfl,rfl,rfl⟩,λb hb=>?_,Y⟩;have e:b=B.heap.objs.size:=by simpa using hb
 subst e;exact I1.fpOk (ah _) (I1.hok.fresh (ah _))⟩
end L2
namespace L3
open PySem PySem.Spec L2
def zk1(h:xa Pn A n H)(B:H p=some (.dK ks))(D:zbh ks (Sum.inr "at" : Key)=none):xa Pn A n (L2.upd H p o):=by
 unfold xa at h ⊢;split at h
 ·trivial
 ·refine⟨?_,h.2⟩;obtain⟨h1,_⟩:=h;obtain⟨a,l,F,g2⟩:=h1.ob
  have q:∀ {c d:Addr},H c=some (.dK (za7 d a l))->c≠p:=λ{c d} g z=>by rw[z,B] at g;have g:=HO.dK.inj (bE g);rw[g,zkZ] at D;cases D
  exact⟨⟨a,l,by rw[zi (q F)];exact F,g2⟩,by rw[zi λz=>by have:=h1.ls;rw[z,B] at this;cases this];exact h1.ls,h1.len⟩
@[reducible] def onY (w:W) (P:List (Key×Dt)->Prop):Prop:=match w with | .kf i=>P i | _=>False
def zkT:onY w P = ∃i,w = .kf i/\P i:=propext ⟨λh=>by cases w <;> first | exact False.elim h | exact⟨_,rfl,h⟩,by simp_all⟩
section
variable {X:Cx}{Pn:Option zq}{M S:List Nat}{fr fr':Bool}{pos p:Pos}{e a b c:Expr}{f fa fb fc:Ev->Mo W}
@[reducible] def zrw (f:Ev->Mo W):Ev->Mo W:=λρ n Q=>f ρ n λx m=>onK x λkvs=>Q (.kf kvs) m
def zvd (h:∃te,QE X e te/\RE Pn M true te f):JE X Pn M false e (zrw f):=by
 obtain⟨te,q,r⟩:=h;refine⟨_,zqg q,⟨λA σ H ρ n Q R E P O k=>?_⟩⟩;refine r.run A σ H ρ n _ _ E P O λw m v H' D hv g U=>?_;rw[zhL] at D;obtain⟨kvs,rfl,D⟩:=D;obtain⟨J,Y,B,Z,ks,e2,h1,h2,h3⟩:=U rfl;subst Y;cases e2;have nA:=E.newF B;refine⟨J,ks,rfl,h1,λob=>k _ m _ _ D ⟨J,ob,ks,rfl,zD nA zk,h2.stay λb o F I=>?_⟩ ⟨λb o F I=>?_,?_⟩ λz=>by cases z⟩
 ·obtain⟨L,z2⟩:=yA.mp F;exact zD (λy=>L (.inl y)) (by rw[zi λy=>L (.inr y)];exact z2)
 ·rw[zi λy=>by subst y;exact B o F I];exact g.st b o F I
 ·exact zk1 g.pn h1 h3
def zn4 (h:JE X Pn M true e f):JE X Pn M false e (zrw f):=zvd h.ex
def zrW{ns:List Int}(h:zT A H B=some (.frz ob (.dK ks))):ItV false A H (Itk B ob ks ns) (ns.map λi=>W.d (.int i)) where
 one:=λi w A2 H2 e s _ _=>by rw[aw] at e;obtain⟨q,h1,rfl⟩:=aE.mp e;refine⟨⟨zw _ _ (s _ _ h λk z=>by cases z),(ae.mp h1).1⟩,?_⟩;rintro y H3 ⟨rfl,D,h2,rfl⟩;rw[h1] at h2;cases h2;exact⟨λ_ _ z=>z,Val.of rfl⟩
 stop:=λA2 H2 s _=>⟨zw _ _ (s _ _ h λk z=>by cases z),by simp⟩
@[reducible] def dItK (fa:Ev->Mo W):Ev->Mo (List W):=λρ n Q=>fa ρ n λx m=>onY x λkvs=>∃ns:List Int,kvs.map (·.1)=ns.map Sum.inl/\Q (ns.map λi=>W.d (.int i)) m
def zvk(h:JE X Pn M fr e f):JI X Pn M false tg e (dItK f):=by obtain⟨te,q,r⟩:=h.ex;refine⟨_,zne q,⟨λA σ H ρ n Q R E P F k=>?_⟩⟩;refine r.run A σ H ρ n _ _ E P F λw m v H1 D I g _=>?_;rw[zkT] at D;obtain⟨kvs,rfl,ns,J,D⟩:=D;obtain⟨L,ob,ks,rfl,B,O⟩:=I;exact⟨L,ob,ks,ns,rfl,zw _ _ B,O.keys.trans J,k _ m _ H1 D (zrW B) g⟩
def znK(h:Bor A H (.kf kvs) v):∃q ks,v = .ref q/\Rd H q (.dK ks)/\uB (zT A H) kvs ks:=by obtain⟨q,ob,ks,e,h1,h2⟩:=h;exact⟨q,ks,e,.inr ⟨ob,h1⟩,h2⟩
@[reducible] def zuK (fd fk:Ev->Mo W):Ev->Mo W:=λρ n Q=>fd ρ n λx q=>fk ρ q λy B=>onY x λkvs=>onI y λi=>onO (xb kvs (Sum.inl i)) λd=>Q (.d d) B
def zkb (F:X.A.units+1<cLine)(I:JB X Pn M a fa)(J:JB X Pn M b fb)(L:zoy b):JE X Pn M false (.Subscript a b pos) (zuK fa fb):=by obtain⟨ta,O,U⟩:=I.ex;obtain⟨tb,Y,Z⟩:=J.ex;refine⟨_,xH F O Y L,⟨λA σ H ρ n Q R E P hf k=>?_⟩⟩;refine U.run A σ H ρ n _ _ E P hf λw1 m1 v1 H1 r1 b1 B=>?_;refine Z.run A σ H1 ρ m1 _ _ (E.stay B.st) B.pn r1 λw2 m2 v2 H2 q b2 g2=>?_;rw[zkT] at q;obtain⟨kvs,rfl,q⟩:=q;rw[xB] at q;obtain⟨i,rfl,q⟩:=q;rw[zaA] at q;obtain⟨d,e3,r⟩:=q;obtain⟨ad,ks,rfl,D,hk⟩:=znK (b1.stay g2.st);have ev:v2 = .int i:=yL b2;subst ev;obtain⟨v,h1,h2⟩:=(hk.look (k:=Sum.inl i)).2 d e3;refine⟨ad,v,rfl,?_,k _ m2 _ H2 r (Val.of h2) (B.trans g2) λz=>by cases z⟩;exact .inl ⟨ks,Sum.inl i,D,rfl,h1.symm⟩
@[reducible] def znS:List W->Mo W:=λq n Q=>on1 q λx=>onY x λkvs=>∃ns:List Int,kvs.map (·.1)=ns.map Sum.inl/\Q (.d (.lst (ns.map .int))) n
def zqX:FL Pn true zld znS:=⟨λA H xs L n Q R B b P h k=>by simp only[znS,uR,zkT] at h;obtain⟨x,rfl,kvs,rfl,ns,D,h⟩:=h;obtain⟨v,rfl,F⟩:=zaN b;obtain⟨a,ks,rfl,I,J⟩:=znK F;exact⟨a,ks,ns,rfl,I,J.keys.trans D,λp H' q g S=>k _ n _ H' h (xu (H:=H) IsL.ints (zv.same S) (B.new q) g) (Go.same P S) λz=>xF (H:=H) IsL.ints S q g⟩⟩
@[reducible] def zuY (f:Ev->Mo W) (i:Nat):Ms:=λρ n k=>f ρ n λw m=>onD w λd=>onV ρ i λx=>onL x λl=>k.rt (.d (.tup [d,.lst l])) m
def zpk (i:Nat){x:Str}{x1}{q:Pos}(he:JE X Pn M fr' e f)(hi:i∈M:=by decide)(hN:X.N[i]?=some x:=by rfl)(hv:Vis X.env.scope x:=by walk_at "v")(hd:(x==("__debug__" : Str))=false:=by decide)
  (U:(x==("__classdict__" : Str))=false:=by decide) {pos':Pos} (h1:starEach [e,.Name x p] X.env=(false,eval e X.env)::starEach [.Name x p] X.env:=by rfl) (h2:starEach [.Name x p] X.env=(false,eval (.Name x p) X.env)::starEach [] X.env:=by rfl) :
  JS X Pn S M false (.Return (some (.Tuple [e,.Name x p] x1 q)) pos') (zuY f i):=by
 obtain⟨te,qe,re⟩:=he.ex;refine⟨_,zbb (zev (zK qe (zK (qv i hN hv hd U) yB h2) h1)),⟨λB A σ H ρ n k D a kk hf=>?_⟩⟩;refine re.run A σ H ρ n _ _ a.env a.pn hf λw m v H' r hV g _=>?_;have I:=a.step g;rw[xI] at r;obtain⟨d,rfl,r⟩:=r;rw[zaa] at r;obtain⟨w2,Y,r⟩:=r;rw[xJ] at r;obtain⟨l,rfl,r⟩:=r;obtain⟨v2,Z,_,s3⟩:=I.env.val i _ Y;obtain⟨J,rfl,hA,hb,_⟩:=s3 hi;have L:=I.mine i _ J hi Y Z
 have hn:¬ B.A0 J:=λz=>by
  rcases L with L | L
  ·obtain⟨o,o1,o2,_⟩:=I.frm.al J z;exact L o o1 o2
  ·exact I.frm.cn J L z
 obtain⟨a2,xs,e3,g1,g2⟩:=hb;cases e3;refine⟨.ref J,Z,?_⟩;refine⟨zcu (show 2<=lim by decide),λp H2 np gp S=>?_⟩;have F:=I.step (Go.same I.pn S);have O:xm (zT A H2) (zT B.A0 H2):=yM F.frm.sub;have up:zv (zT A H') (zT B.A0 H2):=(zx (zv.same S)).trans (zv.same O);exact kk.rt (.d (.tup [d,.lst l])) m _ H2 (Val.of ⟨p,_,rfl,zD (λz=>I.env.new np (I.frm.sub p z)) gp,_,_,rfl,hV.is.stay up,_,_,rfl,⟨J,xs,rfl,zD hn (S _ _ g1),g2.stay up⟩,rfl⟩) F.frm.st (F.pn.less F.frm.sub) (λz=>by cases z) r
end
end L3
namespace L2
open PySem PySem.Spec PyProof.Rows PySem.SeqAt
section
variable {prog:Program}{w:World}{t:SetTable}{es:Array (Int×Value)}{xs:List (List Key×Addr)}{A:Around}{E:Value->Shared->Prop}{s:Shared}
end
section
variable {X:Cx}
end
end L2
namespace L3
open PySem PySem.Spec L2
section
variable {X:Cx}{Pn:Option zq}{M S:List Nat}{fr fr':Bool}{pos p:Pos}{e o a b c:Expr}{es:List Expr}{f fo fa fc:Ev->Mo W}
@[reducible] def dAug (F:Int->Int->Int) (i:Nat) (f:Ev->Mo W):Ms:=λρ n k=>onV ρ i λx=>onI x λa=>f ρ n λy m=>onI y λb=>onP ρ i (.d (.int (F a b))) λq=>k.nx q m
@[reducible] def dAugT (F:Int->Int->Int) (i:Nat) (fk f:Ev->Mo W):Ms:=λρ n k=>onV ρ i λx=>onE x λkvs=>fk ρ n λy m=>∃st,y = .d (stD st)/\∃a,xb kvs st=some (.int a)/\f ρ m λw B=>onI w λb=>kvs.length<lim/\onP ρ i (.dt (zeR kvs st (.int (F a b)))) λq=>k.nx q B
@[reducible] def dSetL (P:Program) (w:World):List W->Mo W:=λq n Q=>on1 q λx=>∃sts:List (List Int),x = .d (.lst (sts.map stD))/\sts.length<300/\∀ks:List (List Int),ks.Nodup->(∀st,st∈ks↔st∈sts)->Q (.ss P w ks) n
@[reducible] def dInS (P:Program) (w:World):W->W->Mo W:=λx y n Q=>∃ (st:List Int) (ks:List (List Int)),x = .d (stD st)/\y = .ss P w ks/\∀c:Bool,(c=true↔st∈ks)->Q (.d (.bl c)) n
@[reducible] def dItEF (fa:Ev->Mo (List W)):Ev->Mo (List W):=λρ n Q=>fa ρ n λq m=>on1 q λx=>onZ x λkvs=>(kvs.map (·.1)).Nodup->Q (enW 0 ((kvs.map (·.1)).map stD)) m
@[reducible] def zuN (fo f:Ev->Mo W):Ev->Mo W:=λρ n Q=>fo ρ n λx q=>onL x λl=>f ρ q λy B=>onD y λd=>d.eqOk/\(Dt.lst l).eqOk/\d∈l/\∀j:Nat,l[j]?=some d->(∀i,i<j->l[i]?≠some d)->Q (.d (.int j)) B
@[reducible] def snN:List W->(List W->Prop)->Prop
 | [],P=>P [.d .non]
 | a::r,P=>snN r λq=>P (a::q)
@[reducible] def dFnD (k:Nat) (F:List W->Mo W) (fs:Ev->Mo (List W)):Ev->Mo W:=λρ n Q=>fs ρ n λB m=>snN B λq=>zdd k q (F q m Q)
end
end L3
local macro_rules | `(tactic| left)=>`(tactic| ((try (with_reducible conv=>whnf));repeat (with_reducible refine L3.zrq ?_;try (with_reducible conv=>whnf)));try dsimp only)
local macro_rules | `(tactic| walk_at "ct")=>`(tactic| (with_reducible refine L3.zcD ?_ ?_;(first | decide | assumption | rfl));left)
local macro_rules | `(tactic| walk_at "cf")=>`(tactic| (with_reducible refine L3.zgO ?_ ?_;(first | decide | assumption | rfl));left)
namespace Law
open PySem L2 L3
abbrev la:List Str:=["_law_pen_here","_law_room_here"]
abbrev lb:List Str:=["_law_pen_here","_law_room_here","_law_book_here"]
abbrev lc:List Str:=["room","book"]
abbrev ld:List Str:=["given","at","better","worse","box","standing"]
abbrev lh:List Str:=["_law_pen_here","_law_many"]
abbrev li:List Str:=["_law_room_here","_law_book_here"]
abbrev lj:List Str:=["standing","box","here","room","pairs"]
abbrev lm:List Str:=["_law_script"]
abbrev ln:List Str:=["_law_one","_law_other"]
abbrev lq:List Str:=["room","book","box","standing"]
abbrev lr:List Str:=["worths","pairs"]
abbrev lu:List Str:=["_law_at","_law_worth","_law_standing"]
abbrev lv:List Str:=["_law_pen_here","_law_some"]
abbrev lw:List Str:=["_law_room_here"]
abbrev lx:List Str:=["standing","box","worth"]
abbrev ly:List Str:=["_law_book_here","_law_standing"]
abbrev lz:List Str:=["_law_worth","_law_one"]
abbrev lA:List Str:=["room","pairs"]
abbrev lB:List Str:=["_law_room_here","_law_boxes"]
abbrev lC:List Str:=["_law_pen_here","_law_most"]
abbrev lD:List Str:=["_law_k","_law_pen_here","_law_room_here"]
abbrev lE:List Str:=["_law_one","_law_left","_law_pen_here"]
abbrev lF:List Str:=["_law_worth","_law_given","_law_box"]
abbrev lG:List Str:=["worse","better","here"]
abbrev lH:List Str:=["_law_one","_law_worth"]
abbrev lI:List Str:=["row","worth","worths"]
abbrev lJ:List Str:=["_law_k","_law_one","_law_other"]
abbrev lK:List Str:=["_law_wish_here","_law_pen_here"]
abbrev lL:List Str:=["_law_k","_law_one","_law_box"]
abbrev lM:List Str:=["box","room","standing","own"]
abbrev lN:List Str:=["standing","given"]
abbrev lO:List Str:=["at","other","box"]
abbrev lP:List Str:=["worse","better"]
abbrev lQ:List Str:=["leads","left"]
abbrev lR:List Str:=["choices"]
def top (i:Nat):Stmt:=PySem.Challenge.pw_allelse_k33_hanging_by_betterings_alone.main.body.getD i (.Pass ⟨0,0,0,0⟩)
abbrev zdA:Stmt:=top 24
abbrev zcN:Stmt:=top 25
abbrev zcS:Stmt:=top 26
abbrev zcP:Stmt:=top 27
abbrev uT:Stmt:=top 28
abbrev zdB:Stmt:=top 30
abbrev zcT:Stmt:=top 31
abbrev zad:Stmt:=top 32
abbrev zac:Stmt:=top 33
abbrev zcO:Stmt:=top 34
abbrev zbN:Stmt:=top 35
abbrev zbM:Stmt:=top 36
abbrev zbe:Stmt:=top 37
abbrev zaC:Stmt:=top 38
abbrev zcM:Stmt:=top 39
abbrev zdC:Stmt:=top 1
abbrev zcU:Stmt:=top 2
abbrev zfO:Stmt:=top 3
abbrev zlq:Stmt:=top 8
abbrev zbf:Stmt:=top 10
abbrev uz:Stmt:=top 11
abbrev zdD:Stmt:=top 13
abbrev zlp:Stmt:=top 14
abbrev zaD:Stmt:=top 6
abbrev zdF:Stmt:=top 5
abbrev zdE:Stmt:=top 18
abbrev zfQ:Stmt:=top 19
abbrev zaE:Stmt:=top 15
abbrev zlr:Stmt:=top 16
abbrev zae:Stmt:=top 20
abbrev uU:Stmt:=top 21
abbrev zfP:Stmt:=top 22
abbrev zbO:Stmt:=top 29
abbrev zbd:Stmt:=top 40
abbrev zcQ:Stmt:=top 41
abbrev zcR:Stmt:=top 42
abbrev ztz:Stmt:=top 43
def zgX:FnScope lm lm (zg zdA):=by walk_at "f"
def yq:FnScope ["_law_pen_here","_law_many","_law_found","_law_at","_law_cell","_law_mixed"] lh (zg zcN):=by walk_at "f"
def zbP:FnScope ["_law_pen_here","_law_some","_law_left"] lv (zg zcS):=by walk_at "f"
def yr:FnScope ["_law_pen_here","_law_most","_law_way","_law_wanted","_law_room_here","_law_left","_law_many"] lC (zg zcP):=by walk_at "f"
def z4:FnScope ["_law_room_here","_law_found","_law_many","_law_longer","_law_one"] lw (zg uT):=by walk_at "f"
def zcV:FnScope ["_law_pen_here","_law_many","_law_one"] lh (zg zdB):=by walk_at "f"
def yO:FnScope ["_law_pen_here","_law_room_here","_law_box","_law_share","_law_given","_law_at","_law_better","_law_worse"] la (zg zcT):=by walk_at "f"
def yc:FnScope ["_law_room_here","_law_boxes","_law_found","_law_box","_law_longer","_law_given"] lB (zg zad):=by walk_at "f"
def zH:FnScope ["_law_pen_here","_law_room_here","_law_boxes","_law_found","_law_place","_law_box","_law_looks","_law_given","_law_ranks","_law_k"] la (zg zac):=by walk_at "f"
def zaf:FnScope ["_law_one","_law_other","_law_box","_law_given"] ln (zg zcO):=by walk_at "f"
def zZ:FnScope ["_law_room_here","_law_found","_law_many","_law_longer","_law_k","_law_one","_law_worths"] lw (zg zbN):=by walk_at "f"
def uM:FnScope ["_law_pen_here","_law_room_here","_law_way"] la (zg zbM):=by walk_at "f"
def zM:FnScope ["_law_pen_here","_law_room_here","_law_every","_law_rank","_law_k","_law_one","_law_found","_law_box","_law_worth","_law_other"] la (zg zbe):=by walk_at "f"
def z7:FnScope ["_law_pen_here","_law_room_here","_law_book_here","_law_way","_law_at","_law_given","_law_box","_law_better","_law_worse"] lb (zg zaC):=by walk_at "f"
def ye:FnScope ["_law_pen_here","_law_room_here","_law_kind","_law_spoil","_law_many","_law_book_here"] la (zg zcM):=by walk_at "f"
def uN:FnScope ["choices","rows","worths"] lR (zg zdC):=by walk_at "f"
def zfR:FnScope ["room"] ["room"] (zg zcU):=by walk_at "f"
def ziE:FnScope lx lx (zg zfO):=by walk_at "f"
def zeC:FnScope ["standing","given","box","worth"] lN (zg zlq):=by walk_at "f"
def zdf:FnScope lq lq (zg zbf):=by walk_at "f"
def ui:FnScope ["room","book","own"] lc (zg uz):=by walk_at "f"
def y6:FnScope ["room","pairs","found","standing","other","there","box","here"] lA (zg zdD):=by walk_at "f"
def znq:FnScope lc lc (zg zlp):=by walk_at "f"
def zag:FnScope ["leads","left","told"] lQ (zg zaD):=by walk_at "f"
def yP:FnScope ["leads","left","within","row","here"] ["leads"] (zg zdF):=by walk_at "f"
def zgY:FnScope lr lr (zg zdE):=by walk_at "f"
def zdG:FnScope ["worths","pairs","bettered"] lr (zg zfQ):=by walk_at "f"
def xj:FnScope ["room","pairs","ahead","row","free"] lA (zg zaE):=by walk_at "f"
def znr:FnScope lc lc (zg zlr):=by walk_at "f"
def zI:FnScope ["rows","place","worths","pairs","found"] ["rows"] (zg zae):=by walk_at "f"
def ym:FnScope ["room","book","pairs","word","boxes","rows"] lc (zg uU):=by walk_at "f"
def ziF:FnScope lc lc (zg zfP):=by walk_at "f"
def yy:FnScope ["_law_book_here","_law_standing","_law_found","_law_given","_law_box","_law_better","_law_worse","_law_there"] ly (zg zbO):=by walk_at "f"
def zG:FnScope ["_law_pen_here","_law_room_here","_law_book_here","_law_at","_law_given","_law_box","_law_better","_law_worse","_law_looks","_law_free","_law_other","_law_some","_law_worth"] lb (zg zbd):=by walk_at "f"
def uh:FnScope ["_law_room_here","_law_book_here","_law_found","_law_one","_law_other"] li (zg zcQ):=by walk_at "f"
def y9:FnScope ["_law_room_here","_law_book_here","_law_word","_law_boxes","_law_because"] li (zg zcR):=by walk_at "f"
def zaF:FnScope ["_law_script","_law_pen_here","_law_turn_here","_law_room_here","_law_book_here","_law_said","_law_doubled","_law_other","_law_rows_here","_law_wish_here"] lm (zg ztz):=by walk_at "f"
set_option genInjectivity false in
structure Ad where
 f0:Addr
 d0:FuncData
 f1:Addr
 d1:FuncData
 f2:Addr
 d2:FuncData
 f3:Addr
 d3:FuncData
 f4:Addr
 d4:FuncData
 f5:Addr
 d5:FuncData
 f6:Addr
 d6:FuncData
 f7:Addr
 d7:FuncData
 f8:Addr
 d8:FuncData
 f9:Addr
 d9:FuncData
 f10:Addr
 d10:FuncData
 f11:Addr
 d11:FuncData
 f12:Addr
 d12:FuncData
 f13:Addr
 d13:FuncData
 f14:Addr
 d14:FuncData
 f15:Addr
 d15:FuncData
 f16:Addr
 d16:FuncData
 f17:Addr
 d17:FuncData
 f18:Addr
 d18:FuncData
 f19:Addr
 d19:FuncData
 f20:Addr
 d20:FuncData
 f21:Addr
 d21:FuncData
 f22:Addr
 d22:FuncData
 f23:Addr
 d23:FuncData
 f24:Addr
 d24:FuncData
 f25:Addr
 d25:FuncData
 f26:Addr
 d26:FuncData
 f27:Addr
 d27:FuncData
 f28:Addr
 d28:FuncData
 f29:Addr
 d29:FuncData
 f30:Addr
 d30:FuncData
 f31:Addr
 d31:FuncData
 f32:Addr
 d32:FuncData
 f33:Addr
 d33:FuncData
 f34:Addr
 d34:FuncData
 f35:Addr
 d35:FuncData
 f36:Addr
 d36:FuncData
structure Txt (K:PySem.W.Frag)(mg:Str->Option Value)(t:Ad):Prop where
 q0:Dfn K mg "_law_pen" zdA lm t.f0 t.d0
 q1:Dfn K mg "_law_draw" zcN lh t.f1 t.d1
 q2:Dfn K mg "_law_turn" zcS lv t.f2 t.d2
 q3:Dfn K mg "_law_room" zcP lC t.f3 t.d3
 q4:Dfn K mg "_law_standings" uT lw t.f4 t.d4
 q5:Dfn K mg "_law_two" zdB lh t.f5 t.d5
 q6:Dfn K mg "_law_wish" zcT la t.f6 t.d6
 q7:Dfn K mg "_law_contexts" zad lB t.f7 t.d7
 q8:Dfn K mg "_law_by_order" zac la t.f8 t.d8
 q9:Dfn K mg "_law_full" zcO ln t.f9 t.d9
 q10:Dfn K mg "_law_snake" zbN lw t.f10 t.d10
 q11:Dfn K mg "_law_along" zbM la t.f11 t.d11
 q12:Dfn K mg "_law_rising" zbe la t.f12 t.d12
 q13:Dfn K mg "_law_spoiled" zaC lb t.f13 t.d13
 q14:Dfn K mg "_law_book" zcM la t.f14 t.d14
 q15:Dfn K mg "combined" zdC lR t.f15 t.d15
 q16:Dfn K mg "standings" zcU ["room"] t.f16 t.d16
 q17:Dfn K mg "changed" zfO lx t.f17 t.d17
 q18:Dfn K mg "keeps" zlq lN t.f18 t.d18
 q19:Dfn K mg "local_pairs" zbf lq t.f19 t.d19
 q20:Dfn K mg "all_local_pairs" uz lc t.f20 t.d20
 q21:Dfn K mg "hangs_by" zdD lA t.f21 t.d21
 q22:Dfn K mg "hangs" zlp lc t.f22 t.d22
 q23:Dfn K mg "leads_within" zaD lQ t.f23 t.d23
 q24:Dfn K mg "round_of" zdF ["leads"] t.f24 t.d24
 q25:Dfn K mg "round_by" zdE lr t.f25 t.d25
 q26:Dfn K mg "tops_by" zfQ lr t.f26 t.d26
 q27:Dfn K mg "put_in_order" zaE lA t.f27 t.d27
 q28:Dfn K mg "order" zlr lc t.f28 t.d28
 q29:Dfn K mg "first_against" zae ["rows"] t.f29 t.d29
 q30:Dfn K mg "looked_through" uU lc t.f30 t.d30
 q31:Dfn K mg "settled" zfP lc t.f31 t.d31
 q32:Dfn K mg "_law_steps" zbO ly t.f32 t.d32
 q33:Dfn K mg "_law_parted" zbd lb t.f33 t.d33
 q34:Dfn K mg "_law_rows" zcQ li t.f34 t.d34
 q35:Dfn K mg "_law_told" zcR li t.f35 t.d35
 q36:Dfn K mg "law" ztz lm t.f36 t.d36
 b_list:mg "list" = none
 b_sorted:mg "sorted" = none
 b_set:mg "set" = none
 b_tuple:mg "tuple" = none
 b_range:mg "range" = none
 b_enumerate:mg "enumerate" = none
 b_len:mg "len" = none
 b_abs:mg "abs" = none
 b_all:mg "all" = none
 b_zip:mg "zip" = none
section
variable {P:Program}{w:World}{K:PySem.W.Frag}{mg:Str->Option Value}{base:Heap}{t:Ad}
def zgJ (T:Txt K mg t):FnOk P w K mg base CX0 1 t.f0 t.d0 lm (znv K):=by
 refine T.q0.F.okQ zgX (λvs H Q E h=>?_) (λY A I s H vs Q E hr h=>?_)
 ·obtain⟨a,ns,rfl,_⟩:=h;rfl
 ·obtain⟨a,ns,rfl,Z,U,k⟩:=h;refine⟨_,(uL (zbb (zqf (zex x3 (zeu zly (qv 0) zk9 (zla yG)) (zex x3 yG (zex x3 yG zqq))) rfl rfl (by simp) (by decide)))),?_⟩;intro p J;refine⟨_,rfl,_,rfl,a,_,rfl,(xm.upd J).seq Z,λc D=>?_⟩;have q:p≠c:=λe=>by subst e;rw[zk] at D;cases D
  have L:H c=none:=by rw[zi (Ne.symm q)] at D;exact D
  refine⟨by rw[zi q,zk],za7 c 0 0,rfl,(by show 3<=15;decide),?_⟩;rw[zsQ]
  have B:zc5 (ns.map V.int) none (some 63)=ns.map V.int:=by
   unfold zc5;rw[HT.sIx_none]
   have O:HT.sIx (ns.map V.int).length (ns.map V.int).length (some 63)=(ns.map V.int).length:=by have:=HT.sIx_nat (ns.map V.int).length (ns.map V.int).length 63;rw[ab] at this ⊢;rw[Nat.min_eq_right U] at this;exact this
   rw[O,eB,eR,ba]
  refine k p c _ ⟨⟨0,0,zk,by lia,by lia,by lia⟩,?_,U⟩ ?_
  ·rw[zi (Ne.symm q),zk];exact congrArg (λz=>some (HO.lst z)) B
  ·intro b o e;rw[zi (zd e J),zi (zd e L),zi (zd e J)];exact e
def zbG (T:Txt K mg t):FnOk P w K mg base CX0 1 t.f1 t.d1 lh zlw:=by
 refine T.q1.F.okQ yq (λvs H Q E h=>?_) (λa0 A an s H vs Q E hr h=>?_)
 ·obtain⟨p,c,ns,n,z9,rfl,_⟩:=h;rfl
 ·obtain⟨p,c,ns,n,z9,rfl,hP,hn,h1,h2,k⟩:=h;have J:=uF hr;obtain⟨⟨a,l,O,U,Z,ac⟩,hc,L⟩:=id hP;have Y:c≠p:=zkI hc O (by intro z;cases z)
  refine⟨_,(yd (zng (zcJ zpN (xH J (qv 0) x3 (λ_ _=>rfl)) yG (zC _)) (yd (ug (i:=2) yq.nd rfl (Or.inl rfl) (xc za6 (xH J (qv 0) x3 (λ_ _=>rfl)) (qv 1)))
   (yd (zey J (qv 0) x3 (xc zeq (xH J (qv 0) x3 (λ_ _=>rfl)) (qv 1)) rfl)
   (uL (zbb (qv 2))))) zez)
   (yd (ug (i:=3) yq.nd rfl (Or.inl rfl) (xH J (qv 0) x3 (λ_ _=>rfl)))
   (yd (zey J (qv 0) x3 (xc xi (qv 3) yG) rfl)
   (yd (ug (i:=4) yq.nd rfl (Or.inl rfl) (xc xi (xc zcE yG (qv 3)) yG))
   (yd (zng (zcJ zpN (xN yo (by rfl) T.b_len aR (zK (xH J (qv 0) x3 (λ_ _=>rfl)) yB)) yG (zC _)) (uL (ug (i:=4) yq.nd rfl (Or.inl rfl) (zs8 xk (xH J (qv 0) x3 (λ_ _=>rfl)) (xc za6 (qv 3) (xN yo (by rfl) T.b_len aR (zK (xH J (qv 0) x3 (λ_ _=>rfl)) yB))) (λ_ _=>rfl)))) zez)
   (yd (zng (QW.pt (zon (zcJ zkV (qv 3) (xN yo (by rfl) T.b_len aR (zK (xH J (qv 0) x3 (λ_ _=>rfl)) yB)) (zC _)) (zlb (zcJ zvL (xN zjc (by rfl) T.b_abs dF (zK (qv 4) yB)) (xc zkX yG yG) (zC _))))) (yd (zey J (qv 0) x3 (xc zeq (xN zjc (by rfl) T.b_abs dF (zK (qv 4) yB)) (qv 1)) rfl)
   (uL (zbb (xc za6 (xN zjc (by rfl) T.b_abs dF (zK (qv 4) yB)) (qv 1))))) zez)
   (yd (ug (i:=5) yq.nd rfl (Or.inl rfl) (xc xi (xc xi (xc zcE (xc xi (xc za6 (qv 4) yG) yG) (xc xi (xc zcE yG (qv 3)) yG)) (xc zcE (xc zcE yG (qv 3)) (qv 3))) (xc zcE yG (qv 3))))
   (yd (ug (i:=5) yq.nd rfl (Or.inl rfl) (xc za6 (xc zkX (qv 5) yG) yG))
   (yd (ug (i:=5) yq.nd rfl (Or.inl rfl) (xc za6 (xc zkX (xc xi (xc xi (qv 5) (xc zcE yG (qv 3))) yG) yG) yG))
   (uL (zbb (xc za6 (xc zeq (qv 5) yG) (qv 1))))))))))))),?_⟩
  refine⟨_,rfl,p,_,rfl,zk0 O,_,_,rfl,rfl,_,rfl,zuf (λhl=>?_) (λhl=>?_)⟩
  ·have a1:0<l:=bC hl;refine⟨_,rfl,p,_,rfl,zk0 O,_,rfl,_,_,rfl,rfl,(by show (0:Int)<z9;lia),?_⟩;refine⟨_,rfl,p,_,rfl,zk0 O,_,rfl,_,_,rfl,rfl,⟨by show (0:Int)<z9;lia,h2⟩,_,rfl,p,_,rfl,zok O _,?_⟩;refine⟨_,rfl,k _ _ (cv _ (by lia)) (bX _ (by lia)) ⟨⟨a,_,zk,U,by lia,Int.ediv_nonneg ac (by lia)⟩,by rw[zi Y];exact hc,L⟩ (zeI O)⟩
  ·refine⟨_,rfl,p,_,rfl,zsP O,?_⟩;refine⟨_,rfl,_,_,rfl,rfl,_,rfl,p,_,rfl,zsT O _,?_⟩;have D:upd H p (.dK (za7 c (a+1) l)) p=some (.dK (za7 c (a+1) l)):=zk;have I:upd H p (.dK (za7 c (a+1) l)) c=some (.lst (ns.map V.int)):=by rw[zi Y];exact hc
   generalize ap:upd H p (.dK (za7 c (a+1) l))=H1 at D I ⊢;have ad:zv H H1:=ap ▸ zeI O;refine⟨_,rfl,_,_,rfl,rfl,.inl ⟨by lia,by lia⟩,_,_,rfl,rfl,?_⟩;refine' meet (α:=Int) _ (λyf=>?_) ?_;rotate_left
   ·
    refine⟨_,rfl,p,_,rfl,zhR D,_,_,rfl,.inl ⟨_,.of I,rfl⟩,_,_,rfl,rfl,_,rfl,zuf (λhz=>?_) (λhz=>?_)⟩;have ag:0<((ns.map V.int).length:Int):=bC hz;obtain⟨B,al⟩:=zrn ns a ag;refine⟨_,rfl,p,_,rfl,zhR D,_,rfl,_,rfl,p,_,rfl,zhR D,_,_,rfl,.inl ⟨_,.of I,rfl⟩,_,_,rfl,rfl,ag,c,_,_,_,rfl,rfl,.of I,al,?_⟩;exact yf B;exact yf (31 * a+7)
   ·intro B;have a2:∀ {q:Addr},H1 q=none->p≠q:=λhq=>zd D hq;refine' zvC _ (λyf=>?_) ?_;rotate_left
    ·refine⟨_,rfl,_,rfl,p,_,rfl,zhR D,_,_,rfl,.inl ⟨_,.of I,rfl⟩,_,_,rfl,rfl,_,rfl,zuf (λh3=>?_) (λh3=>?_)⟩;rotate_left
     ·refine iteF ?_;exact yf
     refine⟨_,rfl,_,rfl,_,_,rfl,rfl,⟨by decide,by decide,by decide⟩,_,_,rfl,rfl,_,rfl,zuf (λh4=>?_) (λh4=>?_)⟩;rotate_left
     ·exact yf
     have ha:0<=(if B<0 then -B else B):=by split <;> lia
     refine⟨_,rfl,_,rfl,_,rfl,_,_,rfl,rfl,⟨by show (0:Int)<z9;lia,h2⟩,_,rfl,p,_,rfl,zok D _,?_⟩;refine⟨_,rfl,_,rfl,_,rfl,_,_,rfl,rfl,(by show (0:Int)<z9;lia),k _ _ (cv _ (by lia)) (bX _ (by lia)) ⟨⟨a+1,_,zk,by lia,by lia,Int.ediv_nonneg ha (by lia)⟩,by rw[zi Y];exact I,L⟩ (ad.trans (zeI D))⟩
    ·obtain⟨a3,a4⟩:=znw U Z hn;have as:=cv B (show (2147483549:Int)≠0 by decide);have av:=bX B (show (0:Int)<2147483549 by decide);obtain⟨a5,a7⟩:=zkE U Z hn as av;refine⟨_,rfl,_,_,rfl,rfl,(by show (0:Int)<2147483549;decide),_,_,rfl,rfl,_,rfl,_,_,rfl,rfl,.inl ⟨by decide,by decide⟩,_,_,rfl,rfl,_,_,rfl,rfl,.inr ⟨by lia,by lia⟩,_,rfl,_,_,rfl,rfl,.inl ⟨by decide,by decide⟩,_,rfl,_,_,rfl,rfl,.inr ⟨by lia,by lia⟩,_,_,rfl,rfl,_,rfl,_,_,rfl,rfl,.inl ⟨by decide,by decide⟩,_,_,rfl,rfl,_,rfl,_,_,rfl,rfl,⟨by decide,by decide,?_⟩,_,_,rfl,rfl,(by show (0:Int)<2147483647;decide),?_⟩
     ·show ((B % 2147483549+70009) * (2 * a+1)+6133 * a * a+577 * a).natAbs<2 ^ 64;lia
     ·generalize bb:(((B % 2147483549+70009) * (2 * a+1)+6133 * a * a+577 * a) ^ (5:Int).toNat:Int)=w1;have w0:=cv w1 (show (2147483647:Int)≠0 by decide);have w2:=bX w1 (show (0:Int)<2147483647 by decide);refine⟨_,rfl,_,rfl,_,_,rfl,rfl,.inl ⟨by decide,by decide⟩,_,_,rfl,rfl,_,_,rfl,rfl,_,_,rfl,rfl,⟨by decide,by decide,?_⟩,_,_,rfl,rfl,(by show (0:Int)<2147483587;decide),?_⟩
      ·show (w1 % 2147483647+5 * a+1).natAbs<2 ^ 64;lia
      ·refine⟨_,rfl,_,_,rfl,rfl,⟨by decide,by decide⟩,_,rfl,_,_,rfl,rfl,(by show (0:Int)<z9;lia),?_⟩;exact k _ _ (cv _ (by lia)) (bX _ (by lia)) ⟨⟨a+1,l,D,by lia,by lia,ac⟩,I,L⟩ ad
def zU (T:Txt K mg t):FnOk P w K mg base CX0 1 t.f1 t.d1 lh (spV 2 false ziQ):=FnOk.lift (FnOk.mono (zbG T) (by decide)) zkm
def zfA (T:Txt K mg t):FnOk P w K mg base CX0 2 t.f2 t.d2 lv zou:=by
 have G1:FnOk P w K mg base CX0 1 t.f1 t.d1 lh zlw:=zbG T;refine T.q2.F.okQ zbP (λvs H Q E h=>?_) (λan A ac s H vs Q E hr h=>?_)
 ·obtain⟨p,c,a,ns,n,xs,rfl,_⟩:=h;rfl
 ·obtain⟨p,c,a,ns,n,xs,rfl,hP,hn,hx,ha,k⟩:=h
  refine⟨_,(yd (ug (i:=2) zbP.nd rfl (Or.inr rfl) (zba uD (by rfl) T.b_list bD (zK (qv 1) yB)))
   (uL (zbb (zhU (N:=lE) (cix:=[none,some 2,some 0]) rfl (by walk_at "c") (zew (qv 1)) (λ_ _ _ _=>(zcH (i:=0) (show (lE:List Str).Nodup by decide +kernel) rfl (Or.inl rfl))) (λ_ _ _ _=>zeA) (λ_ _ _ _=>(zqh K rfl (qv 1) (zK (znc T.q1 G1 hr (zK (qv 2) (zK (xN (zoI K rfl) (by rfl) T.b_len aR (zK (qv 1) yB)) yB))) yB))))))),?_⟩
  refine⟨_,rfl,a,xs,rfl,.inl (.of ha),λb H1 O U S1=>?_⟩;refine⟨_,rfl,a,rfl,⟨_,.of (S1 _ _ ha)⟩,λacc q=>?_⟩;have P1:=hP.same S1;have ad:c≠acc:=zd P1.ls q;have D:b≠acc:=zd U q;have ag:c≠b:=zd hP.ls O
  refine zi8 (xs:=xs) q (λi I H'=>(∃v,I=[v,some (.ref b),some (.ref p)])/\∃ys zs:List V,H' acc=some (.lst ys)/\H' b=some (.lst zs)/\(ys++zs).Perm xs/\ys.length=i/\Pen H' p c ns (n+i)/\zv H H')
   (λH' z1 z2=>⟨⟨_,rfl⟩,[],xs,z1,z2 _ _ U,.refl _,rfl,P1.same z2,zv.same (S1.trans z2)⟩) (λ_ _ _ _ ⟨_,_,_,_,_,_,_,_,S⟩=>.of (S.lst ha)) ?_ ?_
  ·rintro i y I H' al ⟨⟨v,rfl⟩,ys,zs,J,Z,L,hi,P',S'⟩;have ap:=(ae.mp al).1;have hz:=L.length_eq;rw[ai,hi] at hz;refine znN ⟨_,rfl,.inl ⟨rfl,_,SqL.of Z⟩,_,rfl,_,rfl,_,_,rfl,.inl ⟨_,.of Z,rfl⟩,p,c,ns,n+i,(zs.length:Int),rfl,P',by lia,by lia,by lia,λr H2 r0 r1 P2 S2=>?_⟩;have hk:r.toNat<zs.length:=by lia
   have Y:=S2.lst Z;have B:=S2.lst J;refine⟨b,zs,r,r.toNat,zs[r.toNat],rfl,rfl,Y,by lia,by lia,L3.zot r0 r1,aj hk,ys,by rw[zi (Ne.symm D)];exact B,aW (by lia:ys.length<=100000) (by decide),⟨_,rfl⟩,ys++[zs[r.toNat]],zs.eraseIdx r.toNat,zk,by rw[zi D];exact zk,L3.zim hk L,by rw[ai,hi];rfl,(P2.app Y ag).app (by rw[zi (Ne.symm D)];exact B) ad,?_⟩;have Sa:zv H (upd H2 b (.lst (zs.eraseIdx r.toNat))):=zh3 O (S'.trans S2);exact zh3 (S1.free q) Sa
  ·rintro I H' ⟨⟨v,rfl⟩,ys,zs,J,Z,L,hi,P',S'⟩;have hz:=L.length_eq;rw[ai,hi] at hz;have:zs=[]:=bm (by lia);subst this;rw[dg] at L;exact k acc ys H' (S1.free q) J L P' S'
def xL (T:Txt K mg t):FnOk P w K mg base CX0 2 t.f2 t.d2 lv (spV 2 true ziS):=FnOk.lift (FnOk.mono (zfA T) (by decide)) zkn
def zl0  : FV:=λPn B n R=>∃ (p:Addr) (q:Int),B=[.pen p,.d (.int q)]/\(IsP Pn p)/\(n+30<=1000000)/\(4<=q)/\(q<=256)/\(∀rm m,RoomOk rm->yI rm<=q->m<=n+20->R (.d (stD rm)) m)
def zl0.i{q:Int}(B:IsP Pn p)(D:4<=q)(F:q<=256)(h:∀rm m,RoomOk rm->yI rm<=q->m<=n+20->R (.d (stD rm)) m)(I:n+30<=1000000:=by lia):zl0 Pn [.pen p,.d (.int q)] n R:=⟨p,q,rfl,B,I,D,F,h⟩
def zek (T:Txt K mg t):FnOk P w K mg base CX0 2 t.f3 t.d3 lC (spV 2 false zl0):=by
 have G1:=zU (P:=P) (w:=w) (base:=base) T
 refine Fun.okW (k:=1) (fr:=false) [4] 5 T.q3.F yr rfl (by decide) rfl λa4 A an s H E Pn J=>⟨_,(zb (wS zp <| zy (i:=2) yr.nd (wE zo <| yv T.q1 G1 J (za (kv 0) (za zE zc))))
   (zb (wS zp <| zcr (i:=3) (zaZ (ix:=3) yr.nd rfl rfl (N:=["_law_k","_law_pen_here"]) (cix:=[none,some 0]) rfl (by walk_at "c") (wI yx <| zO rfl T.b_range (zh (JE.bo (uP xi zcZ (JE.bo zE) (JE.bo (wE zo <| yv T.q1 G1 J (za (kv 0) (za zE zc)))))) zm)) (λ_ _ _ _=>(wG zt <| zf (i:=0) (show (["_law_k","_law_pen_here"]:List Str).Nodup by decide +kernel))) (λ_ _ _ _=>yw) (λ_ _ _ _=>(uP xi zcZ (JE.bo zE) (JE.bo (wE zo <| yv T.q1 G1 J (za (kv 1) (za zE zc))))))))
   (zb (wS zJ <| y2 (wT zr <| zB x8 zc0 (kb 2) (JE.bo zE) (zC _)) (ze (wS zp <| zy (i:=3) yr.nd (zau xk zbA (JE.bo (xG (za (xG (za zE zc)) (za (uP zoh zov (JE.bo (xG (za zE zc))) (JE.bo zE)) (za (uP zoh zov (JE.bo (xG (za zE zc))) (JE.bo zE)) zc))))) (JE.bo (wE zo <| yv T.q1 G1 J (za (kv 0) (za zE zc)))) (λ_ _=>rfl)))) zR)
   (zb (wS yD <| xx (i:=4) yr.nd (xG zc))
   (zb (wS zp <| zy (i:=5) yr.nd (kv 1))
   (zb (yp aI rfl (wI yi <| yh K rfl (kv 3)) (wG zt <| zf (i:=6) yr.nd) (ze (wS zJ <| y2 (wT zr <| zB zsI u_le (kb 6) (kb 5) (zC _)) (zb (wS ul <| zaw 4 (kv 6))
   (ze (wS zp <| zy (i:=5) yr.nd (uP zeq ztQ (kb 5) (kb 6))))) zR)))
   (ze (zL (yu z0 uq (by rfl) T.b_tuple bg (zh (kb 4) zm)))))))))),λO n R hF=>?_⟩
 obtain⟨p,q,rfl,hP,hn,m1,m2,r⟩:=hF;left;refine dc hP λap w0 w1=>?_;left;refine dc hP λt t0 t1=>?_;left;refine⟨⟨by lia,by lia⟩,?_⟩;rw[yZ];refine ze0 (List.range (1+t).toNat) (λk:Nat=>W.d (.int (k:Int))) rfl (by rw[ax];exact ar (by lia:_<=100) (by decide)) (λi Y n' acc=>n'=n+2+i/\i<=6/\∃ (v:Option W) (O:List Int),Y=[v,some (.pen p)]/\acc=O.map Dt.int/\(∀r∈O,2<=r/\r<=4)/\O.length=i) ⟨by lia,by lia,none,[],rfl,rfl,by simp,rfl⟩ ?_ ?_
 ·rintro i k Y n' acc hk ⟨rfl,hi,v,O,rfl,rfl,hb,hl⟩ C hC;have as:=(ae.mp hk).1;rw[ax] at as;left;refine dc hP λx x0 x1=>?_
  exact hC ⟨by lia,by lia,_,O++[2+x],rfl,by rw[az];rfl,λr J=>by
   rcases aG.mp J with z | z
   ·exact hb r z
   ·rw[aB.mp z];lia,by rw[ai,hl];rfl⟩
 rintro Y n' acc ⟨rfl,hi,v,O,rfl,rfl,hb,hl⟩;rw[ax] at hi hl;rw[ax];left;refine' zmR (λ(zs:List Int) (Z:Nat)=>(∀r∈zs,2<=r/\r<=4)/\zs≠[]/\Z<=n+12) _ (λyf=>?_) ?_;rotate_left
 ·refine xZ (λ_=>?_) (λ_=>?_)
  ·left;refine⟨⟨by decide,by decide,by decide⟩,?_⟩;left;refine⟨⟨by decide,by decide,by decide⟩,?_⟩;left;refine dc hP λx x0 x1=>?_;left;refine zpI x0 x1 λy hy=>?_
   obtain⟨zs,rfl,hz,av⟩:∃zs:List Int,y=lsD zs/\(∀r∈zs,2<=r/\r<=4)/\zs≠[]:=by
    simp only[aK,ci,or_false] at hy;rcases hy with rfl | rfl | rfl
    ·exact⟨[4],rfl,by decide,by decide⟩
    ·exact⟨[2,2,2,2,2,2,2,2],rfl,by decide,by decide⟩
    ·exact⟨[4,4,4,4],rfl,by decide,by decide⟩
   left;generalize hk:n+2+(1+t).toNat+1=Z;exact yf zs Z ⟨hz,av,by lia⟩
  ·left;generalize hk:n+2+(1+t).toNat=Z;exact yf O Z ⟨hb,λz=>by rw[z] at hl;simp at hl;lia,by lia⟩
 rintro O Z ⟨hb,a0,a5⟩;refine zY O (λi=>.d (.int i)) (by rw[am];rfl) (λi ρ m=>m=Z/\∃ (D:List Int) (L:Int) (v6:Option W),ρ=[some (.pen p),some (.d (.int q)),some (.d (.int ap)),some (.d (lsD O)),some (.d (lsD D)),some (.d (.int L)),v6]/\(∀r∈D,2<=r/\r<=4)/\yI D * L<=q/\1<=L/\L<=q/\(i=0->L=q)/\(1<=i->D≠[])) ⟨rfl,[],q,_,rfl,by simp,by show 1 * q<=q;lia,by lia,by lia,λ_=>rfl,by lia⟩ ?_ ?_
 ·rintro i a ρ m ha ⟨rfl,D,L,v6,rfl,I,hp,U,ad,ag,ac⟩ C B E hC _ _;have al:=hb a (au ha);have a1:=za9 (ns:=D) λr J=>by have:=I r J;lia
  have h8:D.length<=8:=zbK I (by have:yI D * 1<=yI D * L:=cI U (by lia);lia)
  left;refine xZ (λh=>?_) (λh=>?_)
  ·obtain⟨q1,q2,q3⟩:=zll I al hp h;left;refine⟨by rw[ab];exact aW h8 (by decide),?_⟩;left;refine⟨⟨by lia,by lia⟩,hC ⟨rfl,D++[a],L / a,some (.d (.int a)),?_,?_,q1,q2,by lia,by lia,λ_=>by simp⟩⟩
   ·rw[show lsD (D++[a])=Dt.lst (D.map Dt.int++[Dt.int a]) by unfold lsD;rw[az];rfl]
   ·intro r J;rcases aG.mp J with z | z
    ·exact I r z
    ·rw[aB.mp z];exact al
  ·left
   exact hC ⟨rfl,D,L,_,rfl,I,hp,U,ad,λz=>by lia,λ_=>by
    by_cases h0:i=0
    ·have:=ag h0;lia
    ·exact ac (by lia)⟩
 ·rintro ρ m ⟨rfl,D,L,v6,rfl,I,hp,U,ad,ag,ac⟩;have a1:=za9 (ns:=D) λr J=>by have:=I r J;lia
  have a2:yI D<=q:=by have:yI D * 1<=yI D * L:=cI U (by lia);lia
  have a3:0<O.length:=c7.mpr a0;left;exact r D _ ⟨ac (by lia),zbK I (by lia),I⟩ a2 (by lia)
def zdj  : FV:=λPn q n R=>∃ (rm:List Int),q=[.d (stD rm)]/\(RoomOk rm)/\(R (.d (zaq (yQ (rm.map zj)))) n)
def zdj.i{rm:List Int}(q:RoomOk rm)(h:R (.d (zaq (yQ (rm.map zj)))) n)  : zdj Pn [.d (stD rm)] n R:=⟨rm,rfl,q,h⟩
def xh (T:Txt K mg t):FnOk P w K mg base CX0 1 t.f4 t.d4 lw (spV 1 false zdj):=by
 refine Fun.okW (k:=0) (fr:=false) [3] 4 T.q4.F z4 rfl (by decide) rfl λag A U s H E Pn hr=>⟨_,(zb (wS zp <| zy (i:=1) z4.nd (xG (za (yH zc) zc)))
   (zb (yp aI rfl (wI um <| zav K rfl (kv 0)) (wG zt <| zf (i:=2) z4.nd) (zb (wS yD <| xx (i:=3) z4.nd (xG zc))
   (zb (yp aI rfl (wI yi <| yh K rfl (kv 1)) (wG zt <| zf (i:=4) z4.nd) (ze (wS zgD <| zkd 3 (xn (N:=lz) (cix:=[none,some 4]) rfl (by walk_at "c") (wI yx <| zO rfl T.b_range (zh (kb 2) zm)) (λ_ _ _ _=>(wG zt <| zf (i:=0) (show (lz:List Str).Nodup by decide +kernel))) (λ_ _ _ _=>yw) (λ_ _ _ _=>(uP yE xD (kb 1) (JE.bo (yH (za (kv 0) zc)))))))))
   (ze (wS zeg <| zgy (i:=1) 3 z4.nd rfl (Or.inl rfl))))))
   (ze (zL (kv 1))))),λws n R hF=>?_⟩
 obtain⟨rm,rfl,Y,r⟩:=hF;left;have h8:=Y.few;refine zY rm (λi=>.d (.int i)) (by rw[am];rfl) (λi ρ m=>m=n/\∃ (Z v3 L:Option W),ρ=[some (.d (stD rm)),some (.d (zaq (yQ ((rm.take i).map zj)))),Z,v3,L]) ⟨rfl,_,_,_,rfl⟩ ?_ ?_
 ·rintro i a ρ m ha ⟨rfl,Z,v3,L,rfl⟩ C B E hC _ _;have hm:=Y.box a (au ha);have O:=zdP h8 Y.box i;have J:∀st∈yQ ((rm.take i).map zj),st.length<=8:=λst ac=>by rw[zdO _ _ ac,ab,aQ];lia
  have q:xV (yQ ((rm.take i).map zj)) (zj a)=yQ ((rm.take (i+1)).map zj):=by rw[zl ha,az,aA,dD,xf]
  generalize yQ ((rm.take i).map zj)=rows at O J q;left;refine zY rows (λst=>.d (stD st)) (by rw[am];rfl) (λj ρ m'=>m'=m/\∃L,ρ=[some (.d (stD rm)),some (.d (zaq rows)),some (.d (.int a)),some (.d (zaq (xV (rows.take j) (zj a)))),L]) ⟨rfl,_,rfl⟩ ?_ ?_
  ·rintro j I ρ m' hj ⟨rfl,L,rfl⟩ C' B' E' ad _ _;have al:=J I (au hj);have an:=(ae.mp hj).1;left;refine⟨⟨by lia,by lia⟩,?_⟩;rw[yZ];refine zas (List.range a.toNat) (λk:Nat=>W.d (.int (k:Int))) rfl (λρ=>∃v,ρ=[v,some (.d (stD I))]) (λk:Nat=>stD (I++[(k:Int)])) (by rw[ax];exact ar (by lia:_<=4) (by decide)) ⟨_,rfl⟩ ?_ ?_
   ·rintro k hk ap ⟨v,rfl⟩ D hD;left;refine⟨len1 (by lia),?_⟩;rw[cat1];exact hD ⟨_,rfl⟩
   ·have e:(List.range a.toNat).map (λk:Nat=>stD (I++[(k:Int)]))=((zj a).map λw=>I++[w]).map stD:=by unfold zj;rw[am,am];rfl
    rw[e];have hl:(xV (rows.take j) (zj a)).length=(rows.take j).length * a.toNat:=by rw[uu,zW]
    have as:(rows.take j).length * a.toNat<=65536 * 4:=eC (by rw[aQ];lia) (by lia);refine⟨?_,?_⟩
    ·rw[ab,ab,ab,zW,hl];exact ar (by lia:_<=300000) (by decide)
    rw[<- az,<- zb8,<- zl hj];exact ad ⟨rfl,_,rfl⟩
  ·rintro ρ m' ⟨rfl,L,rfl⟩;rw[ba,q];left;exact hC ⟨rfl,_,_,_,rfl⟩
 ·rintro ρ m ⟨rfl,Z,v3,L,rfl⟩;rw[ba];left;exact r
def zl4  : FV:=λPn B n R=>∃ (p:Addr) (q:Int),B=[.pen p,.d (.int q)]/\(IsP Pn p)/\(n+10<=1000000)/\(2<=q)/\(q<=4)/\(∀a b,0<=a->a<q->0<=b->b<q->a≠b->R (.d (.tup [.int a,.int b])) (n+2))
def zl4.i{q:Int}(B:IsP Pn p)(h2:2<=q)(D:q<=4)(h:∀a b,0<=a->a<q->0<=b->b<q->a≠b->R (.d (.tup [.int a,.int b])) (n+2))(F:n+10<=1000000:=by lia):zl4 Pn [.pen p,.d (.int q)] n R:=⟨p,q,rfl,B,F,h2,D,h⟩
def zfB (T:Txt K mg t):FnOk P w K mg base CX0 2 t.f5 t.d5 lh (spV 2 false zl4):=by
 have G1:=zU (P:=P) (w:=w) (base:=base) T
 refine Fun.okW (k:=1) (fr:=false) [] 1 T.q5.F zcV rfl (by decide) rfl λO A D s H E Pn J=>⟨_,(zb (wS zp <| zy (i:=2) zcV.nd (wE zo <| yv T.q1 G1 J (za (kv 0) (za (kv 1) zc))))
   (ze (zL (yH (za (kv 2) (za (uP za6 ztT (JE.bo (uP xi zcZ (JE.bo (uP xi zcZ (kb 2) (JE.bo zE))) (JE.bo (wE zo <| yv T.q1 G1 J (za (kv 0) (za (uP zoi ztU (kb 1) (JE.bo zE)) zc)))))) (kb 1)) zc)))))),λws n R U=>?_⟩
 obtain⟨p,q,rfl,L,hn,h2,h4,r⟩:=U;left;refine dc L λB Y Z=>?_;left;refine dc L λt t0 t1=>?_;left;refine⟨by lia,?_⟩;have c0:=cv (B+1+t) (show q≠0 by lia);have c1:=bX (B+1+t) (show 0<q by lia)
 have I:(B+1+t) % q≠B:=by
  have h3:q=2\/q=3\/q=4:=by lia
  rcases h3 with rfl | rfl | rfl <;> lia
 exact r _ _ Y Z c0 c1 (Ne.symm I)
def zib  : FV:=λPn q n R=>∃ (p:Addr) (rm:List Int),q=[.pen p,.d (stD rm)]/\(IsP Pn p)/\(n+60<=1000000)/\(RoomOk rm)/\(∀x m,WishOk rm x->m<=n+30->R (.d (zQ x)) m)
def zib.i{rm:List Int}(q:IsP Pn p)(B:RoomOk rm)(h:∀x m,WishOk rm x->m<=n+30->R (.d (zQ x)) m)(D:n+60<=1000000:=by lia):zib Pn [.pen p,.d (stD rm)] n R:=⟨p,rm,rfl,q,D,B,h⟩
def uJ (T:Txt K mg t):FnOk P w K mg base CX0 3 t.f6 t.d6 la (spV 2 false zib):=by
 have G1:=zU (P:=P) (w:=w) (base:=base) T;have G5:=zfB (P:=P) (w:=w) (base:=base) T
 refine Fun.okW (k:=2) (fr:=false) [4] 6 T.q6.F yO rfl (by decide) rfl λap A ac s H E Pn L=>⟨_,(zb (wS zp <| zy (i:=2) yO.nd (wE zo <| yv T.q1 G1 L (za (kv 0) (za (zN yo x9 (by rfl) T.b_len aR (zh (kb 1) zm)) zc))))
   (zb (wS zp <| zy (i:=3) yO.nd (uP xi zcZ (JE.bo zE) (JE.bo (wE zo <| yv T.q1 G1 L (za (kv 0) (za zE zc))))))
   (zb (wS yD <| xx (i:=4) yO.nd (xG zc))
   (zb (yp aI rfl (wI yx <| zO rfl T.b_range (zh (JE.bo (zN yo x9 (by rfl) T.b_len aR (zh (kb 1) zm))) zm)) (wG zt <| zf (i:=5) yO.nd) (ze (wS zJ <| y2 (JW.t (wW u9 <| zbD (wT zr <| zB zix zrb (kb 5) (kb 2) (zC _)) (zax (.inl rfl) (wT zr <| zB x8 zc0 (JE.bo (wE zo <| yv T.q1 G1 L (za (kv 0) (za (kv 3) zc)))) (JE.bo zE) (zC _))))) (ze (wS ul <| zaw 4 (yH (za (kv 5) (za (wE zo <| yv T.q1 G1 L (za (kv 0) (za (zau xl uO (kb 1) (kb 5) (λ_ _=>rfl)) zc))) zc))))) zR)))
   (zb (zfn (wE zo <| yv T.q5 G5 L (za (kv 0) (za (zau xl uO (kb 1) (kb 2) (λ_ _=>rfl)) zc))) (wG yV <| yX (n:=2) K rfl rfl (wH zA <| zn (wG zt <| zf (i:=6) yO.nd) (wH zA <| zn (wG zt <| zf (i:=7) yO.nd) (wH yU yg)))))
   (ze (zL (yH (za (yu z0 uq (by rfl) T.b_tuple bg (zh (kb 4) zm)) (za (kv 2) (za (kv 6) (za (kv 7) zc)))))))))))),λws n R hF=>?_⟩
 obtain⟨p,rm,rfl,O,hn,Z,r⟩:=hF;left;have h8:=Z.few;have an:=Z.pos;rw[ab];refine dc O λbox b0 b1=>?_;have hm:=yk Z.box b0 b1;left;refine dc O λsh s0 s1=>?_;left;rw[ab];refine⟨⟨by lia,by lia⟩,zce (λi ρ m=>m<=n+2+2 * i/\i<=rm.length/\∃g J,ρ=[some (.pen p),some (.d (stD rm)),some (.d (.int box)),some (.d (.int (2+sh))),some (.d (.lst (g.map yn))),J,none,none]/\Giv rm g/\(∀q∈g,q.1≠box)/\(∀q∈g,q.1<(i:Int))/\g.length<=i) ⟨by lia,aJ _,[],_,rfl,⟨by simp,.nil⟩,by simp,by simp,aJ _⟩ ?_ ?_⟩
 ·rintro i ρ m hi ⟨ad,ag,g,J,rfl,hG,D,I,al⟩ C B E hC _ _;have as:=yk Z.box (b:=(i:Int)) (by lia) (by lia);have U:∀m',m'<=m+1->∀J,C [some (.pen p),some (.d (stD rm)),some (.d (.int box)),some (.d (.int (2+sh))),some (.d (.lst (g.map yn))),J,none,none] m':=λm' av J=>hC ⟨by lia,by lia,g,_,rfl,hG,D,λq Y=>by have:=I q Y;lia,by lia⟩;left;refine zkR (λhb=>?_) (λ_=>⟨U _ (by lia) _⟩);left;refine dc O λt t0 t1=>?_;left;refine xZ (λ_=>?_) (λ_=>⟨U _ (by lia) _⟩);left;refine onA (by lia) (by lia) ?_;left;refine dc O λu u0 u1=>?_;left;refine⟨by rw[ab];exact aW (by lia:_<=8) (by decide),hC ⟨by lia,by lia,g++[((i:Int),u)],_,by rw[az];rfl,hG.snoc I (by lia) (by lia) u0 u1,λq Y=>?_,λq Y=>?_,by rw[ai];simp;lia⟩⟩
  ·rcases aG.mp Y with z | z
   ·exact D q z
   ·rw[aB.mp z];exact hb
  ·rcases aG.mp Y with z | z
   ·have:=I q z;lia
   ·rw[aB.mp z];show (i:Int)<((i+1:Nat):Int);lia
 ·rintro ρ m ⟨ad,ag,g,J,rfl,hG,D,I,al⟩;left;refine onA b0 b1 ?_;left;refine zl4.i O hm.1 hm.2 λa b a0 a1 c0 c1 ne=>?_;left;exact r ⟨g,box,a,b⟩ _ ⟨hG,b0,b1,D,a0,a1,c0,c1,ne⟩ (by lia)
def zlY  : FV:=λPn D n R=>∃ (rm B:List Int),D=[.d (stD rm),.d (lsD B)]/\(RoomOk rm)/\(B.Nodup)/\(∀b∈B,0<=b/\b<rm.length)/\(B.length<=2)/\(∀gs:List (List (Int×Int)),(∀g∈gs,Giv rm g/\∀q∈g,q.1∈B)->gs.length<=16->R (.d (.lst (gs.map zeQ))) n)
def zlY.i{rm B:List Int}(D:RoomOk rm)(F:B.Nodup)(I:∀b∈B,0<=b/\b<rm.length)(h2:B.length<=2)(h:∀gs:List (List (Int×Int)),(∀g∈gs,Giv rm g/\∀q∈g,q.1∈B)->gs.length<=16->R (.d (.lst (gs.map zeQ))) n)  : zlY Pn [.d (stD rm),.d (lsD B)] n R:=⟨rm,B,rfl,D,F,I,h2,h⟩
def zbt (T:Txt K mg t):FnOk P w K mg base CX0 1 t.f7 t.d7 lB (spV 2 false zlY):=by
 refine Fun.okW (k:=0) (fr:=false) [4] 4 T.q7.F yc rfl (by decide) rfl λa1 A ag s H E Pn hr=>⟨_,(zb (wS zp <| zy (i:=2) yc.nd (xG (za (yH zc) zc)))
   (zb (yp aI rfl (wI yi <| yh K rfl (zN zmh zqY (by rfl) T.b_sorted bZ (zh (kb 1) zm))) (wG zt <| zf (i:=3) yc.nd) (zb (wS yD <| xx (i:=4) yc.nd (xG zc))
   (zb (yp aI rfl (wI yi <| yh K rfl (kv 2)) (wG zt <| zf (i:=5) yc.nd) (ze (wS zgD <| zkd 4 (xn (N:=lF) (cix:=[none,some 5,some 3]) rfl (by walk_at "c") (wI yx <| zO rfl T.b_range (zh (JE.bo (zau xl uO (kb 0) (kb 3) (λ_ _=>rfl))) zm)) (λ_ _ _ _=>(wG zt <| zf (i:=0) (show (lF:List Str).Nodup by decide +kernel))) (λ_ _ _ _=>yw) (λ_ _ _ _=>(uP yE xD (kb 1) (JE.bo (yH (za (yH (za (kv 2) (za (kv 0) zc))) zc)))))))))
   (ze (wS zeg <| zgy (i:=2) 4 yc.nd rfl (Or.inl rfl))))))
   (ze (zL (kv 2))))),λws n R hF=>?_⟩
 obtain⟨rm,bs,rfl,hR,hN,hb,h2,r⟩:=hF;left;have h8:=hR.few;refine⟨bs,rfl,by lia,λcs hp hs=>?_⟩;have al:cs.Nodup:=hp.nodup_iff.mpr hN;have an:cs.Pairwise (· < ·):=(hs.and al).imp λ{a b} ⟨h1,h2⟩=>by lia
 have ac:∀c∈cs,c∈bs:=λc hc=>hp.mem_iff.mp hc;have a2:=hp.length_eq;left;refine zY cs (λi=>.d (.int i)) (by rw[am];rfl) (λi ρ m=>m=n/\∃ (gs:List (List (Int×Int))) (v3 v4 U:Option W),ρ=[some (.d (stD rm)),some (.d (lsD bs)),some (.d (.lst (gs.map zeQ))),v3,v4,U]/\(∀g∈gs,Giv rm g/\∀q∈g,q.1∈cs.take i)/\gs.length<=4 ^ i) ⟨rfl,[[]],_,_,_,rfl,λg Y=>?_,by decide⟩ ?_ ?_
 ·rw[aB.mp Y];exact⟨⟨by simp,.nil⟩,by simp⟩
 ·rintro i c ρ m hc ⟨rfl,gs,v3,v4,U,rfl,J,ap⟩ C B E hC _ _;have I:=hb c (ac c (au hc));have a3:=yk hR.box I.1 I.2;have hi:=(ae.mp hc).1;have as:4 ^ i<=4:=cq (by decide) (by lia:i<=1)
  have ad:∀x∈cs.take i,x<c:=λx hx=>by obtain⟨j,hj,rfl⟩:=bw.mp hx;rw[aQ] at hj;have:=bU.mp an j i (by lia) hi (by lia);rw[(ae.mp hc).2] at this;rw[dw];exact this
  left;refine zY gs (λg=>.d (zeQ g)) (by rw[am];rfl) (λj ρ m'=>m'=m/\∃ (lg:List (List (Int×Int))) (U:Option W),ρ=[some (.d (stD rm)),some (.d (lsD bs)),some (.d (.lst (gs.map zeQ))),some (.d (.int c)),some (.d (.lst (lg.map zeQ))),U]/\(∀g∈lg,Giv rm g/\∀q∈g,q.1∈cs.take (i+1))/\lg.length<=j * 4) ⟨rfl,[],_,rfl,by simp,by simp⟩ ?_ ?_
  ·rintro j g ρ m' Y ⟨rfl,lg,U,rfl,Z,av⟩ C' B' E' a0 _ _;have L:=J g (au Y);have a4:=zjM L.1 h8;have hj:=(ae.mp Y).1;left;refine onA I.1 I.2 ?_;left;refine⟨⟨by lia,by lia⟩,?_⟩;rw[yZ];refine zas (List.range (z9 rm c).toNat) (λk:Nat=>W.d (.int (k:Int))) rfl (λρ=>∃v,ρ=[v,some (.d (zeQ g)),some (.d (.int c))]) (λk:Nat=>zeQ (g++[(c,(k:Int))])) (by rw[ax];exact ar (by lia:_<=4) (by decide)) ⟨_,rfl⟩ ?_ ?_
   ·rintro k hk a5 ⟨v,rfl⟩ D hD;left;refine⟨by rw[ab];exact ar (by simp;lia:_<=101) (by decide),?_⟩;rw[show g.map yn++[Dt.tup [Dt.int c,Dt.int (k:Int)]]=(g++[(c,(k:Int))]).map yn by rw[az];rfl];exact hD ⟨_,rfl⟩
   ·have e:(List.range (z9 rm c).toNat).map (λk:Nat=>zeQ (g++[(c,(k:Int))]))=((List.range (z9 rm c).toNat).map λk:Nat=>g++[(c,(k:Int))]).map zeQ:=by rw[am];rfl
    rw[e];refine⟨by rw[ab,ab,ab,ax];exact ar (by lia:_<=100) (by decide),?_⟩;rw[<- az];refine a0 ⟨rfl,_,_,rfl,λz hz=>?_,by rw[ai,ab,ax];lia⟩;rcases aG.mp hz with hz | hz
    ·exact Z z hz
    ·obtain⟨k,hk,rfl⟩:=aC.mp hz;have hk:=aM.mp hk;refine⟨L.1.snoc (λq O=>ad _ (L.2 q O)) I.1 I.2 (by lia) (by lia),λq O=>?_⟩;rw[zl hc];rcases aG.mp O with O | O
     ·exact be _ (L.2 q O)
     ·rw[aB.mp O];exact aV _ (by simp)
  ·rintro ρ m' ⟨rfl,lg,U,rfl,Z,av⟩;left;exact hC ⟨rfl,lg,_,_,_,rfl,Z,by rw[Nat.pow_succ];lia⟩
 ·rintro ρ m ⟨rfl,gs,v3,v4,U,rfl,J,ap⟩;rw[ba] at J;have as:4 ^ cs.length<=16:=cq (by decide) (by lia:cs.length<=2);left;exact r gs (λg Y=>⟨(J g Y).1,λq O=>ac _ ((J g Y).2 q O)⟩) (by lia)
def ziP  : FV:=λPn q n R=>∃ (p:Addr) (rm:List Int),q=[.pen p,.d (stD rm)]/\(IsP Pn p)/\(n+2000<=1000000)/\(RoomOk rm)/\(∀bk m,ya rm bk->bk.length<=400->m<=n+1000->R (.d (.lst (bk.map zQ))) m)
def ziP.i{rm:List Int}(q:IsP Pn p)(B:RoomOk rm)(h:∀bk m,ya rm bk->bk.length<=400->m<=n+1000->R (.d (.lst (bk.map zQ))) m)(D:n+2000<=1000000:=by lia):ziP Pn [.pen p,.d (stD rm)] n R:=⟨p,rm,rfl,q,D,B,h⟩
def zbs (T:Txt K mg t):FnOk P w K mg base CX0 3 t.f8 t.d8 la (spV 2 true ziP):=by
 have G1:=zU (P:=P) (w:=w) (base:=base) T;have G2:=xL (P:=P) (w:=w) (base:=base) T;have G7:=zbt (P:=P) (w:=w) (base:=base) T
 refine Fun.okW (k:=2) (fr:=true) [3] 8 T.q8.F zH rfl (by decide) rfl λb5 A a5 s H E Pn hr=>⟨_,(zb (wS zp <| zy (i:=2) zH.nd (wE zo <| yv T.q2 G2 hr (za (kv 0) (za (wE uG <| zaX T.b_list T.b_range (zh (JE.bo (zN yo x9 (by rfl) T.b_len aR (zh (kb 1) zm))) zm)) zc))))
   (zb (wS yD <| xx (i:=3) zH.nd (xG zc))
   (zb (yp aI rfl (wI za2 <| zaY rfl T.b_enumerate (za (kv 2) zc)) (wG yV <| yX (n:=2) K rfl rfl (wH zA <| zn (wG zt <| zf (i:=4) zH.nd) (wH zA <| zn (wG zt <| zf (i:=5) zH.nd) (wH yU yg)))) (zb (wS zp <| zy (i:=6) zH.nd (wE zbp <| zis (JE.bo (xn (N:=["_law_one","_law_pen_here"]) (cix:=[none,some 0]) rfl (by walk_at "c") (wI yi <| yh K rfl (wE zbp <| zis (kb 2) yS (wO yj <| yT (kb 4)))) (λ_ _ _ _=>(wG zt <| zf (i:=0) (show (["_law_one","_law_pen_here"]:List Str).Nodup by decide +kernel))) (λ_ _ _ _=>(xo (wT zr <| zB x8 zc0 (JE.bo (wE zo <| yv T.q1 G1 hr (za (kv 1) (za zE zc)))) (JE.bo zE) (zC _)))) (λ_ _ _ _=>(kv 0)))) yS (wO yj <| yT (JE.bo zE))))
   (ze (yp aI rfl (wI yi <| yh K rfl (wE zo <| yv T.q7 G7 hr (za (kv 1) (za (kv 6) zc)))) (wG zt <| zf (i:=7) zH.nd) (zb (wS zp <| zy (i:=8) zH.nd (wE zo <| yv T.q2 G2 hr (za (kv 0) (za (wE uG <| zaX T.b_list T.b_range (zh (JE.bo (zau xl uO (kb 1) (kb 5) (λ_ _=>rfl))) zm)) zc))))
   (ze (yp aI rfl (wI yx <| zO rfl T.b_range (zh (JE.bo (uP zoi ztU (JE.bo (zN yo x9 (by rfl) T.b_len aR (zh (kb 8) zm))) (JE.bo zE))) zm)) (wG zt <| zf (i:=9) zH.nd) (ze (wS ul <| zaw 3 (yH (za (kv 7) (za (kv 5) (za (zau xk zbA (kb 8) (kb 9) (λ_ _=>rfl)) (za (zau xk zbA (kb 8) (JE.bo (uP xi zcZ (kb 9) (JE.bo zE))) (λ_ _=>rfl)) zc))))))))))))))
   (ze (wS zbZ <| zd8 3))))),λws n R hF=>?_⟩
 obtain⟨p,rm,rfl,hP,hn,hR,r⟩:=hF;left;have h8:=hR.few;rw[ab];refine⟨⟨by lia,by lia⟩,?_⟩;left;refine tc hP (λl hl=>?_) (by rw[zam];lia) (by rw[zam];lia);rw[zam];obtain⟨J,rfl,ad⟩:=zhS hl;have as:J.Nodup:=ad.nodup_iff.mpr (x4 _)
 have av:∀b∈J,0<=b/\b<rm.length:=λb hb=>by have:=xP.mp (ad.mem_iff.mp hb);lia
 have a7:=ad.length_eq;rw[zW] at a7;left;have b3:J.length<=8:=by lia
 generalize b6:n+(rm.length:Int).toNat=n1;refine zY (List.range J.length) (λi=>W.d (.tup [.int (i:Int),.int (J.getD i 0)])) (zoQ J) (λi ρ m=>m<=n1+100 * i/\∃ (bk:List Wi) (v4 v5 v6 v7 v8 Y:Option W),ρ=[some (.pen p),some (.d (stD rm)),some (.d (.lst (J.map Dt.int))),some (.d (.lst (bk.map zQ))),v4,v5,v6,v7,v8,Y]/\ya rm bk/\bk.length<=48 * i) ⟨by lia,[],_,_,_,_,_,_,rfl,by intro x hx;simp at hx,by simp⟩ ?_ ?_
 ·rintro i k ρ m bb ⟨hm,bk,v4,v5,v6,v7,v8,Y,rfl,Z,L⟩ C B E hC _ _;obtain⟨O,a0⟩:=ae.mp bb;rw[ax] at O;rw[bP] at a0;subst a0;have I:=av _ (zch O);have ac:=zqT as O;generalize J.getD i 0=box at I ac;have ca:=yk hR.box I.1 I.2;left;rw[xE,L3.zbY];have cc:(J.take i).length<=8:=by rw[aQ];lia
  refine ze0 (J.take i) (λx=>W.d (.int x)) (by rw[am];rfl) (ar (by lia:_<=100) (by decide)) (λj ag n' acc=>n'=m+j/\∃ (v:Option W) (ls:List Int),ag=[v,some (.pen p)]/\acc=ls.map Dt.int/\ls.Sublist ((J.take i).take j)) ⟨by lia,none,[],rfl,rfl,List.nil_sublist _⟩ ?_ ?_
  ·rintro j x ag n' acc hx ⟨rfl,v,ls,rfl,rfl,hs⟩ D hD;have cd:=(ae.mp hx).1;left;refine dc hP (λt t0 t1=>?_) (by lia);left;refine xZ (λ_=>?_) (λ_=>?_)
   ·refine hD ⟨by lia,_,ls++[x],rfl,by rw[az];rfl,?_⟩;rw[zl hx];exact hs.append (List.Sublist.refl _)
   ·refine hD ⟨by lia,_,ls,rfl,rfl,?_⟩;rw[zl hx];exact hs.trans (List.sublist_append_left _ _)
  rintro ag n' acc ⟨rfl,v,ls,rfl,rfl,hs⟩;rw[ba] at hs;left;rw[xE,show (2:Int)=((2:Nat):Int) from rfl,L3.zbY];have al:=(dq 2 ls).trans hs;have an:∀x∈ls.take 2,x∈J/\x≠box:=λx hx=>⟨bR (al.subset hx),λe=>ac (by rw[<- e];exact al.subset hx)⟩;have a1:(ls.take 2).Nodup:=(as.sublist (dq _ _)).sublist al;have a2:(ls.take 2).length<=2:=by rw[aQ];lia
  generalize ls.take 2=lk at an a1 a2;generalize ch:m+(J.take i).length=n2;left;refine zlY.i hR a1 (λb hb=>av b (an b hb).1) a2 λgs bd cn=>?_;left;refine zY gs (λg=>.d (zeQ g)) (by rw[am];rfl) (λj ρ m'=>m'<=n2+4 * j/\∃ (bk:List Wi) (v7 v8 Y:Option W),ρ=[some (.pen p),some (.d (stD rm)),some (.d (.lst (J.map Dt.int))),some (.d (.lst (bk.map zQ))),some (.d (.int (i:Int))),some (.d (.int box)),some (.d (.lst (lk.map Dt.int))),v7,v8,Y]/\ya rm bk/\bk.length<=48 * i+3 * j) ⟨by lia,bk,_,_,_,rfl,Z,by lia⟩ ?_ ?_
  ·rintro j g ρ m' hg ⟨bl,bk,v7,v8,Y,rfl,Z,L⟩ C' B' E' bx _ _;have a3:=bd g (au hg);have hj:=(ae.mp hg).1;left;refine onA I.1 I.2 ?_;left;refine⟨⟨by lia,by lia⟩,?_⟩;left;refine tc hP (λl hl=>?_) (by rw[zam];lia) (by rw[zam];lia);rw[zam];obtain⟨U,rfl,ap⟩:=zhS hl;have b0:U.Nodup:=ap.nodup_iff.mpr (x4 _);have b1:=ap.length_eq;rw[zW] at b1
   have a4:∀x∈U,0<=x/\x<z9 rm box:=λx hx=>by have:=xP.mp (ap.mem_iff.mp hx);lia
   left;rw[ab];refine⟨⟨by lia,by lia⟩,zce (λk ρ m2=>m2=m'+(z9 rm box).toNat/\∃ (bk:List Wi) (Y:Option W),ρ=[some (.pen p),some (.d (stD rm)),some (.d (.lst (J.map Dt.int))),some (.d (.lst (bk.map zQ))),some (.d (.int (i:Int))),some (.d (.int box)),some (.d (.lst (lk.map Dt.int))),some (.d (zeQ g)),some (.d (.lst (U.map Dt.int))),Y]/\ya rm bk/\bk.length<=48 * i+3 * j+k) ⟨rfl,bk,_,rfl,Z,by lia⟩ ?_ ?_⟩
   ·rintro k ρ m2 hk ⟨rfl,bk,Y,rfl,Z,L⟩ C2 B2 E2 b2 _ _;have O:k+1<U.length:=by lia
    left;refine onA (cK k) (by lia) ?_;left;refine onA (by lia) (by lia) ?_;rw[show ((k:Int)+1)=((k+1:Nat):Int) from rfl,zP,zP];have q1:=a4 _ (zch (i:=k) (by lia));have q2:=a4 _ (zch O)
    have q3:U.getD k 0≠U.getD (k+1) 0:=λe=>by
     have e1:U.getD k 0=U[k]:=by simp[show k<U.length by lia]
     have e2:U.getD (k+1) 0=U[k+1]:=by simp[O]
     rw[e1,e2] at e;have:=(b4 b0).mp e;lia
    left;refine⟨by rw[ab];exact aW (by lia:_<=1000) (by decide),?_⟩;refine b2 ⟨rfl,bk++[⟨g,box,U.getD k 0,U.getD (k+1) 0⟩],_,by rw[az];rfl,Z.app λy hy=>?_,by rw[ai];simp;lia⟩;rw[aB.mp hy];exact⟨a3.1,I.1,I.2,λq hq=>(an _ (a3.2 q hq)).2,q1.1,q1.2,q2.1,q2.2,q3⟩
   ·rintro ρ m2 ⟨rfl,bk,Y,rfl,Z,L⟩;left;exact bx ⟨by lia,bk,_,_,_,rfl,Z,by lia⟩
  ·rintro ρ m' ⟨bl,bk,v7,v8,Y,rfl,Z,L⟩;left;exact hC ⟨by lia,bk,_,_,_,_,_,_,rfl,Z,by lia⟩
 ·rintro ρ m ⟨hm,bk,v4,v5,v6,v7,v8,Y,rfl,Z,L⟩;rw[ax] at hm L;left;exact r bk m Z (by lia) (by lia)
def zlT (a b:List Int):Nat:=((List.range a.length).filter λk=>!decide (a.getD k 0=b.getD k 0)).headD 0
def zdi  : FV:=λPn q n R=>∃ (rm a b:List Int),q=[.d (stD a),.d (stD b)]/\(RoomOk rm)/\(StOk rm a)/\(StOk rm b)/\(a≠b)/\(∀x,WishOk rm x->x=zc7 a b (zlT a b)->R (.d (zQ x)) n)
def zdi.i{rm a b:List Int}(B:RoomOk rm)(D:StOk rm a)(F:StOk rm b)(q:a≠b)(h:∀x,WishOk rm x->x=zc7 a b (zlT a b)->R (.d (zQ x)) n)  : zdi Pn [.d (stD a),.d (stD b)] n R:=⟨rm,a,b,rfl,B,D,F,q,h⟩
def uI (T:Txt K mg t):FnOk P w K mg base CX0 1 t.f9 t.d9 ln (spV 2 false zdi):=by
 refine Fun.okW (k:=0) (fr:=false) [] 2 T.q9.F zaf rfl (by decide) rfl λac A B s H E Pn hr=>⟨_,(zb (wS zp <| zy (i:=2) zaf.nd (zau xk zbA (JE.bo (xn (N:=lJ) (cix:=[none,some 0,some 1]) rfl (by walk_at "c") (wI yx <| zO rfl T.b_range (zh (JE.bo (zN yo x9 (by rfl) T.b_len aR (zh (kb 0) zm))) zm)) (λ_ _ _ _=>(wG zt <| zf (i:=0) (show (lJ:List Str).Nodup by decide +kernel))) (λ_ _ _ _=>(xo (wT zr <| zB zix zrb (JE.bo (zau xl uO (kb 1) (kb 0) (λ_ _=>rfl))) (JE.bo (zau xl uO (kb 2) (kb 0) (λ_ _=>rfl))) (zC _)))) (λ_ _ _ _=>(kv 0)))) (JE.bo zE) (λ_ _=>rfl)))
   (zb (wS zp <| zy (i:=3) zaf.nd (yu z0 uq (by rfl) T.b_tuple bg (zh (JE.bo (xn (N:=lL) (cix:=[none,some 0,some 2]) rfl (by walk_at "c") (wI yx <| zO rfl T.b_range (zh (JE.bo (zN yo x9 (by rfl) T.b_len aR (zh (kb 0) zm))) zm)) (λ_ _ _ _=>(wG zt <| zf (i:=0) (show (lL:List Str).Nodup by decide +kernel))) (λ_ _ _ _=>(xo (wT zr <| zB zix zrb (kb 0) (kb 2) (zC _)))) (λ_ _ _ _=>(yH (za (kv 0) (za (zau xl uO (kb 1) (kb 0) (λ_ _=>rfl)) zc)))))) zm)))
   (ze (zL (yH (za (kv 3) (za (kv 2) (za (zau xl uO (kb 1) (kb 2) (λ_ _=>rfl)) (za (zau xl uO (kb 0) (kb 2) (λ_ _=>rfl)) zc))))))))),λws n R hF=>?_⟩
 obtain⟨rm,a,b,rfl,hR,ha,hb,D,r⟩:=hF;left;have I:=ha.len;have J:=hb.len;have h8:=hR.few;rw[ab];refine⟨⟨by lia,by lia⟩,?_⟩;rw[aL,yZ];refine uC (List.range a.length) (λk:Nat=>W.d (.int (k:Int))) rfl (λρ=>∃v,ρ=[v,some (.d (stD a)),some (.d (stD b))]) (λk=>!decide (a.getD k 0=b.getD k 0)) (λk=>.int (k:Int)) (by rw[ax];exact ar (by lia:a.length<=8) (by decide)) ⟨_,rfl⟩ ?_ ?_
 ·rintro k q L ⟨v,rfl⟩ C O U;have ad:=aM.mp q;left;refine onA (by lia) (by lia) ?_;left;refine onA (by lia) (by lia) ?_;left;rw[zP,zP];refine zkR (λh=>?_) (λh=>?_)
  ·exact O (by rw[aX h];rfl) ⟨_,rfl⟩
  ·exact U (by rw[aY h];rfl) ⟨_,rfl⟩
 ·obtain⟨k,yf,q,Y,Z⟩:=zcc (I.trans J.symm) D;rw[q];left;refine xM (zbC (i:=0) rfl) ?_;left;rw[ab];refine⟨⟨by lia,by lia⟩,?_⟩;rw[aL,yZ];refine uC (List.range a.length) (λk:Nat=>W.d (.int (k:Int))) rfl (λρ=>∃v,ρ=[v,some (.d (stD a)),some (.d (.int (k:Int)))]) (λi=>!decide (i=k)) (λi=>yn ((i:Int),a.getD i 0)) (by rw[ax];exact ar (by lia:a.length<=8) (by decide)) ⟨_,rfl⟩ ?_ ?_
  ·rintro i hi L ⟨v,rfl⟩ C O U;have ag:=aM.mp hi;left;refine zkR (λh=>?_) (λh=>?_)
   ·left;refine onA (by lia) (by lia) ?_;left;rw[zP];exact O (by rw[aX (by lia)];rfl) ⟨_,rfl⟩
   ·exact U (by rw[aY (by lia)];rfl) ⟨_,rfl⟩
  ·left;refine onA (by lia) (by lia) ?_;left;refine onA (by lia) (by lia) ?_;left;have:=r _ (zht ha hb Y Z) (by unfold zlT;rw[q];rfl);unfold zc7 zQ at this;rw[am] at this;rw[zP,zP];exact this
def zg9  : FV:=λPn q n R=>∃ (rm:List Int),q=[.d (stD rm)]/\(RoomOk rm)/\(∀sts:List (List Int),sts.Nodup->(∀st∈sts,StOk rm st)->(sts.length:Int)=yI rm->R (.d (zaq sts)) n)
def zg9.i{rm:List Int}(q:RoomOk rm)(h:∀sts:List (List Int),sts.Nodup->(∀st∈sts,StOk rm st)->(sts.length:Int)=yI rm->R (.d (zaq sts)) n)  : zg9 Pn [.d (stD rm)] n R:=⟨rm,rfl,q,h⟩
def zdb (T:Txt K mg t):FnOk P w K mg base CX0 1 t.f10 t.d10 lw (spV 1 false zg9):=by
 refine Fun.okW (k:=0) (fr:=false) [3] 6 T.q10.F zZ rfl (by decide) rfl λa3 A av s H E Pn hr=>⟨_,(zb (wS zp <| zy (i:=1) zZ.nd (xG (za (yH zc) zc)))
   (zb (yp aI rfl (wI um <| zav K rfl (kv 0)) (wG zt <| zf (i:=2) zZ.nd) (zb (wS yD <| xx (i:=3) zZ.nd (xG zc))
   (zb (yp aI rfl (wI za2 <| zaY rfl T.b_enumerate (za (kv 1) zc)) (wG yV <| yX (n:=2) K rfl rfl (wH zA <| zn (wG zt <| zf (i:=4) zZ.nd) (wH zA <| zn (wG zt <| zf (i:=5) zZ.nd) (wH yU yg)))) (zb (wS zp <| zy (i:=6) zZ.nd (wE uG <| zaX T.b_list T.b_range (zh (kb 2) zm)))
   (zb (wS zJ <| y2 (wT zr <| zB x8 zc0 (JE.bo (uP za6 ztT (kb 4) (JE.bo zE))) (JE.bo zE) (zC _)) (ze (wS zp <| zy (i:=6) zZ.nd (wE zmQ <| zr0 (kb 6)))) zR)
   (ze (wS zgD <| zkd 3 (xn (N:=lz) (cix:=[none,some 5]) rfl (by walk_at "c") (wI yi <| yh K rfl (kv 6)) (λ_ _ _ _=>(wG zt <| zf (i:=0) (show (lz:List Str).Nodup by decide +kernel))) (λ_ _ _ _=>yw) (λ_ _ _ _=>(uP yE xD (kb 1) (JE.bo (yH (za (kv 0) zc)))))))))))
   (ze (wS zeg <| zgy (i:=1) 3 zZ.nd rfl (Or.inl rfl))))))
   (ze (zL (kv 1))))),λJ n R hF=>?_⟩
 obtain⟨rm,rfl,hR,r⟩:=hF;left;have h8:=hR.few
 have ac:∀i,yI (rm.take i)<=65536:=λi=>by rw[<- xR _ λn hn=>by have:=hR.box n (bR hn);lia];have:=zdP h8 hR.box i;lia
 refine zY rm (λi=>.d (.int i)) (by rw[am];rfl) (λi ρ m=>m=n/\∃ (sts:List (List Int)) (v2 v3 L O v6:Option W),ρ=[some (.d (stD rm)),some (.d (zaq sts)),v2,v3,L,O,v6]/\sts.Nodup/\(∀st∈sts,StOk (rm.take i) st)/\(sts.length:Int)=yI (rm.take i)) ⟨rfl,[[]],_,_,_,_,_,rfl,by decide,λst ad=>?_,rfl⟩ ?_ ?_
 ·rw[aB.mp ad];exact⟨rfl,λb b0 b1=>absurd b1 (by simp;lia)⟩
 ·rintro i a ρ m ha ⟨rfl,sts,v2,v3,L,O,v6,rfl,hN,I,q⟩ C B E hC _ _;have hm:=hR.box a (au ha);have hf:=ac i;have a4:=ac (i+1);have al:yI (rm.take (i+1))=yI (rm.take i) * a:=by rw[zl ha,ux]
  obtain⟨w,rfl⟩:∃w:Nat,a=(w:Int):=⟨a.toNat,by lia⟩
  have a5:sts.length * w<=65536:=by
   have:((sts.length * w:Nat):Int)=yI (rm.take (i+1)):=by rw[al,<- q,Int.natCast_mul]
   lia
  left;refine zY (List.range sts.length) (λk:Nat=>W.d (.tup [.int (k:Int),stD (sts.getD k [])])) (zjw sts) (λk ρ m'=>m'=m/\∃ (U:List (List Int)) (L O v6:Option W),ρ=[some (.d (stD rm)),some (.d (zaq sts)),some (.d (.int (w:Int))),some (.d (.lst (U.map stD))),L,O,v6]/\U.Nodup/\(∀x∈U,∃b∈sts.take k,∃v:Int,0<=v/\v<w/\x=b++[v])/\U.length=k * w) ⟨rfl,[],_,_,_,rfl,.nil,by simp,by simp⟩ ?_ ?_
  ·rintro j k ρ m' a0 ⟨rfl,U,L,O,v6,rfl,ag,Y,Z⟩ C' B' E' a1 _ _;obtain⟨an,ap⟩:=ae.mp a0;rw[ax] at an;rw[bP] at ap;subst ap;have hk:=an;have a2:=(I _ (zcg hk)).len;rw[aQ] at a2;have a7:(j+1) * w<=sts.length * w:=Nat.mul_le_mul_right _ hk;left;refine⟨⟨by lia,by lia⟩,?_⟩;rw[aL];have as:zf7 w=(zj (w:Int)).map Dt.int:=by unfold zf7 zj;rw[am,aL];rfl
   rw[as]
   have fin:∀J:List Int,J.Perm (zj (w:Int))->∀L O,ze1 (eN 0) zpG (zq8 zmj (zq6 1) (zsn (zpt (zq6 0) zvw))) [none,some (.d (stD (sts.getD j [])))] (λx n2=>onL x λl2=>(U.map stD).length+l2.length<=lim/\C' [some (.d (stD rm)),some (.d (zaq sts)),some (.d (.int (w:Int))),some (.d (.lst (U.map stD++l2))),L,O,some (.d (lsD J))] n2) ((J.map Dt.int).map W.d) m':=λJ hp L O=>by
    refine zas J (λv=>W.d (.int v)) (by rw[am];rfl) (λρ=>∃v,ρ=[v,some (.d (stD (sts.getD j [])))]) (λv=>stD (sts.getD j []++[v])) (by rw[hp.length_eq,zW];exact ar (by lia:_<=4) (by decide)) ⟨_,rfl⟩ ?_ ?_
    ·rintro v hv bb ⟨u,rfl⟩ D hD;left;refine⟨len1 (by lia),?_⟩;rw[cat1];exact hD ⟨_,rfl⟩
    ·have hB:(J.map λv=>sts.getD j []++[v]).Perm ((List.range w).map λv:Nat=>sts.getD j []++[(v:Int)]):=by
      have:=hp.map λv=>sts.getD j []++[v];unfold zj at this;rw[am,aL] at this;exact this
     obtain⟨q1,q2,q3⟩:=ziG hk hN ag Y Z hB;rw[show J.map (λv=>stD (sts.getD j []++[v]))=(J.map λv=>sts.getD j []++[v]).map stD by rw[am];rfl];refine⟨?_,a1 ⟨rfl,U++J.map (λv=>sts.getD j []++[v]),_,_,_,by rw[az],q1,q2,q3⟩⟩;rw[ab,ab,<- ai,q3];exact ar (by lia:_<=65536) (by decide)
   refine⟨by lia,?_⟩;left;refine xZ (λ_=>?_) (λ_=>?_)
   ·left;rw[<- List.map_reverse];exact fin _ (List.reverse_perm _) _ _
   ·left;exact fin _ (.refl _) _ _
  ·rintro ρ m' ⟨rfl,U,L,O,v6,rfl,ag,Y,Z⟩;rw[ax] at Y Z;left;refine hC ⟨rfl,U,_,_,_,_,_,rfl,ag,λst ad=>?_,?_⟩
   ·obtain⟨b,hb,v,v0,v1,rfl⟩:=Y st ad;rw[ba] at hb;rw[zl ha];exact (I b hb).snoc v0 v1
   ·rw[Z,al,<- q,Int.natCast_mul]
 ·rintro ρ m ⟨rfl,sts,v2,v3,L,O,v6,rfl,hN,I,q⟩;rw[ba] at q I;left;exact r sts hN I q
def zdL  : FV:=λPn q n R=>∃ (p:Addr) (rm:List Int),q=[.pen p,.d (stD rm)]/\(IsP Pn p)/\(n+10<=1000000)/\(RoomOk rm)/\(yI rm<=256)/\(∀bk m,ya rm bk->bk.length<=400->m<=n+5->R (.d (.lst (bk.map zQ))) m)
def zdL.i{rm:List Int}(q:IsP Pn p)(B:RoomOk rm)(D:yI rm<=256)(h:∀bk m,ya rm bk->bk.length<=400->m<=n+5->R (.d (.lst (bk.map zQ))) m)(F:n+10<=1000000:=by lia):zdL Pn [.pen p,.d (stD rm)] n R:=⟨p,rm,rfl,q,F,B,D,h⟩
def zda (T:Txt K mg t):FnOk P w K mg base CX0 2 t.f11 t.d11 la (spV 2 true zdL):=by
 have G1:=zU (P:=P) (w:=w) (base:=base) T;have G9:=uI (P:=P) (w:=w) (base:=base) T;have G10:=zdb (P:=P) (w:=w) (base:=base) T
 refine Fun.okW (k:=1) (fr:=true) [] 1 T.q11.F uM rfl (by decide) rfl λal A ac s H E Pn Y=>⟨_,(zb (wS zp <| zy (i:=2) uM.nd (wE zo <| yv T.q10 G10 Y (za (kv 1) zc)))
   (zb (wS zJ <| y2 (wT zr <| zB x8 zc0 (JE.bo (wE zo <| yv T.q1 G1 Y (za (kv 0) (za zE zc)))) (JE.bo zE) (zC _)) (ze (wS zp <| zy (i:=2) uM.nd (wE zbp <| zis (kb 2) (wO yj <| yT (JE.bo (wE zo <| yv T.q1 G1 Y (za (kv 0) (za (zN yo x9 (by rfl) T.b_len aR (zh (kb 2) zm)) zc))))) yS))) zR)
   (ze (zL (xn (N:=ln) (cix:=[none,none]) rfl (by walk_at "c") (wI zmO <| zph rfl T.b_zip (za (kv 2) (za (wE zbp <| zis (kb 2) (wO yj <| yT (JE.bo zE)) yS) zc))) (λ_ _ _ _=>(wG yV <| yX (n:=2) K rfl rfl (wH zA <| zn (wG zt <| zf (i:=0) (show (ln:List Str).Nodup by decide +kernel)) (wH zA <| zn (wG zt <| zf (i:=1) (show (ln:List Str).Nodup by decide +kernel)) (wH yU yg))))) (λ_ _ _ _=>yw) (λ_ _ _ _=>(wE zo <| yv T.q9 G9 Y (za (kv 0) (za (kv 1) zc))))))))),λws n R hF=>?_⟩
 obtain⟨p,rm,rfl,hP,hn,Z,hp,r⟩:=hF;left;refine zg9.i Z λsts hN B ag=>?_;have h2:=zk4 Z.ne λn hn=>(Z.box n hn).1;left;refine dc hP λa a0 a1=>?_;left;refine' zmR (λ(D:List (List Int)) (I:Nat)=>D.Nodup/\(∀st∈D,StOk rm st)/\D.length<=256/\I<=n+2) _ (λyf=>?_) ?_;rotate_left
 ·refine xZ (λ_=>?_) (λ_=>?_)
  ·left;rw[ab];refine dc hP λb b0 b1=>?_;left;rw[xE];have q:=zjh sts (some b) none;generalize ua sts (some b) none=D at q;generalize hk:n+1+1=I;exact yf D I ⟨hN.sublist q,λst ad=>B st (q.subset ad),by have:=q.length_le;lia,by lia⟩
  ·left;generalize hk:n+1=I;exact yf sts I ⟨hN,B,by lia,by lia⟩
 rintro D I ⟨hN,B,hl,an⟩;rw[znE];refine ze0 (List.range (D.length - 1)) (λi:Nat=>W.d (.tup [stD (D.getD i []),stD (D.getD (i+1) [])])) rfl (by rw[ax];exact ar (by lia:_<=256) (by decide)) (λi J n' acc=>n'=I/\i<=D.length - 1/\∃ (v0 v1:Option W) (bk:List Wi),J=[v0,v1]/\acc=bk.map zQ/\ya rm bk/\bk.length=i) ⟨rfl,aJ _,none,none,[],rfl,rfl,by intro x hx;simp at hx,rfl⟩ ?_ ?_
 ·rintro i k J n' acc hk ⟨rfl,hi,v0,v1,bk,rfl,rfl,hB,L⟩ C hC;obtain⟨O,U⟩:=ae.mp hk;rw[ax] at O;rw[bP] at U;subst U;left;refine zdi.i Z (B _ (zcg (by lia))) (B _ (zcg (by lia))) (ziw hN (by lia)) λx hx _=>?_;exact hC ⟨rfl,O,_,_,bk++[x],rfl,by rw[az];rfl,hB.app (λy hy=>by rw[aB.mp hy];exact hx),by rw[ai,L];rfl⟩
 ·rintro J n' acc ⟨rfl,hi,v0,v1,bk,rfl,rfl,hB,L⟩;rw[ax] at L;exact r bk _ hB (by lia) (by lia)
def zg8  : FV:=λPn q n R=>∃ (p:Addr) (rm:List Int),q=[.pen p,.d (stD rm)]/\(IsP Pn p)/\(n+3000<=1000000)/\(RoomOk rm)/\(yI rm<=16)/\(∀bk m,ya rm bk->bk.length<=1000->m<=n+1000->R (.d (.lst (bk.map zQ))) m)
def zg8.i{rm:List Int}(q:IsP Pn p)(B:RoomOk rm)(D:yI rm<=16)(h:∀bk m,ya rm bk->bk.length<=1000->m<=n+1000->R (.d (.lst (bk.map zQ))) m)(F:n+3000<=1000000:=by lia):zg8 Pn [.pen p,.d (stD rm)] n R:=⟨p,rm,rfl,q,F,B,D,h⟩
def zcB (T:Txt K mg t):FnOk P w K mg base CX0 3 t.f12 t.d12 la (spV 2 true zg8):=by
 have G1:=zU (P:=P) (w:=w) (base:=base) T;have G2:=xL (P:=P) (w:=w) (base:=base) T;have G4:=xh (P:=P) (w:=w) (base:=base) T;have G9:=uI (P:=P) (w:=w) (base:=base) T
 refine Fun.okW (k:=2) (fr:=true) [3,6] 8 T.q12.F zM rfl (by decide) rfl λbs A a1 s H E Pn Z=>⟨_,(zb (wS zp <| zy (i:=2) zM.nd (wE zo <| yv T.q4 G4 Z (za (kv 1) zc)))
   (zb (wS yD <| xx (i:=3) zM.nd zpe)
   (zb (yp aI rfl (wI za2 <| zaY rfl T.b_enumerate (za (wE zo <| yv T.q2 G2 Z (za (kv 0) (za (kv 2) zc))) zc)) (wG yV <| yX (n:=2) K rfl rfl (wH zA <| zn (wG zt <| zf (i:=4) zM.nd) (wH zA <| zn (wG zt <| zf (i:=5) zM.nd) (wH yU yg)))) (ze (wS zkw <| zmE 3 (uF Z) (kb 5) (kv 4))))
   (zb (wS yD <| xx (i:=6) zM.nd (xG zc))
   (zb (yp aI rfl (wI yi <| yh K rfl (kv 2)) (wG zt <| zf (i:=5) zM.nd) (ze (yp aI rfl (wI yx <| zO rfl T.b_range (zh (JE.bo (zN yo x9 (by rfl) T.b_len aR (zh (kb 1) zm))) zm)) (wG zt <| zf (i:=7) zM.nd) (ze (yp aI rfl (wI yx <| zO rfl T.b_range (zh (JE.bo (zau xl uO (kb 1) (kb 7) (λ_ _=>rfl))) zm)) (wG zt <| zf (i:=8) zM.nd) (zb (wS zp <| zy (i:=9) zM.nd (uP yE xD (JE.bo (uP yE xD (JE.bo (wE uo <| zc9 (kb 5) yS (wO yj <| yT (kb 7)))) (JE.bo (yH (za (kv 8) zc))))) (JE.bo (wE uo <| zc9 (kb 5) (wO yj <| yT (JE.bo (uP xi zcZ (kb 7) (JE.bo zE)))) yS))))
   (ze (wS zJ <| y2 (JW.t (wW u9 <| zbD (wT zr <| zB zkV zuv (JE.bo (wE zfx <| zka (uF Z) (kb 3) (kb 5) (λ_ _=>rfl))) (JE.bo (wE zfx <| zka (uF Z) (kb 3) (kb 9) (λ_ _=>rfl))) (zC _)) (zax (.inl rfl) (wT zr <| zB zpN u_gt (JE.bo (wE zo <| yv T.q1 G1 Z (za (kv 0) (za zE zc)))) (JE.bo zE) (zC _))))) (ze (wS ul <| zaw 6 (wE zo <| yv T.q9 G9 Z (za (kv 5) (za (kv 9) zc))))) zR))))))))
   (ze (wS zbZ <| zd8 6))))))),λws n R hF=>?_⟩
 obtain⟨p,rm,rfl,hP,hn,hR,hp,r⟩:=hF;left;have h8:=hR.few
 have hsz:(yQ (rm.map zj)).length<=16:=by
  have:=xR rm λn hn=>by have:=hR.box n hn;lia
  lia
 have ag:∀st∈yQ (rm.map zj),StOk rm st:=λst I=>xS rm st I;have al:∀st,StOk rm st->st∈yQ (rm.map zj):=λst I=>zeH I;refine zdj.i hR ?_;left;generalize yQ (rm.map zj)=ev at hsz ag al;refine tc hP (λl hl=>?_) (by rw[ab];lia) (by rw[ab];lia);rw[ab];obtain⟨ys,rfl,an⟩:=za8 hl;have bx:=an.length_eq;left;generalize b0:n+ev.length=n1;refine zY (List.range ys.length) (λk:Nat=>W.d (.tup [.int (k:Int),stD (ys.getD k [])])) (zjw ys) (λi ρ m=>m=n1/\i<=ys.length/\∃ (kvs:List (List Int×Dt)) (v4 v5:Option W),ρ=[some (.pen p),some (.d (stD rm)),some (.d (zaq ev)),some (.dt kvs),v4,v5,none,none,none,none]/\(∀j,j<i->∃r:Int,xb kvs (ys.getD j [])=some (.int r))/\kvs.length<=i) ⟨rfl,aJ _,[],_,_,rfl,λj hj=>by lia,ah _⟩ ?_ ?_
 ·rintro i k ρ m a2 ⟨rfl,ap,kvs,v4,v5,rfl,Y,a3⟩ C B E hC _ _;obtain⟨as,av⟩:=ae.mp a2;rw[ax] at as;rw[bP] at av;subst av;left;refine⟨ys.getD i [],rfl,aW (by lia:_<=100) (by decide),hC ⟨rfl,as,_,_,_,rfl,λj hj=>?_,by have:=zgQ kvs (ys.getD i []) (.int (i:Int));lia⟩⟩;by_cases e:ys.getD j []=ys.getD i []
  ·exact⟨i,by rw[zhF,if_pos e]⟩
  ·obtain⟨r',a4⟩:=Y j (by
    rcases Nat.lt_succ_iff_lt_or_eq.mp hj with h | h
    ·exact h
    ·subst h;exact absurd rfl e)
   exact⟨r',by rw[zhF,if_neg e];exact a4⟩
 rintro ρ n2 ⟨rfl,ap,kvs,v4,v5,rfl,Y,a3⟩;rw[ax] at Y
 have J:∀st,StOk rm st->∃r:Int,xb kvs st=some (.int r):=λst I=>by have:=an.mem_iff.mpr (al st I);obtain⟨j,hj,rfl⟩:=bw.mp this;have:=Y j hj;rwa[show ys.getD j []=ys[j] by simp[hj]] at this
 left;refine zY ev (λst=>.d (stD st)) (by rw[am];rfl) (λi ρ m=>m<=n2+32 * i/\∃ (bk:List Wi) (v5 v7 L O:Option W),ρ=[some (.pen p),some (.d (stD rm)),some (.d (zaq ev)),some (.dt kvs),v4,v5,some (.d (.lst (bk.map zQ))),v7,L,O]/\ya rm bk/\bk.length<=32 * i) ⟨by lia,[],_,_,_,_,rfl,by intro x hx;simp at hx,by simp⟩ ?_ ?_
 ·rintro i q ρ m ho ⟨hm,bk,v5,v7,L,O,rfl,D,U⟩ C B E hC _ _;have ap:=(ae.mp ho).1;have hO:=ag q (au ho);have b1:=hO.len;obtain⟨ra,a0⟩:=J q hO;left;rw[ab];refine⟨⟨by lia,by lia⟩,zce (λj ρ m'=>m'<=m+4 * j/\∃ (bk:List Wi) (v7 L O:Option W),ρ=[some (.pen p),some (.d (stD rm)),some (.d (zaq ev)),some (.dt kvs),v4,some (.d (stD q)),some (.d (.lst (bk.map zQ))),v7,L,O]/\ya rm bk/\bk.length<=32 * i+4 * j) ⟨by lia,bk,_,_,_,rfl,D,by lia⟩ ?_ ?_⟩
  ·rintro j ρ m' hj ⟨a5,bk,v7,L,O,rfl,D,U⟩ C' B' E' a7 _ _;have hj:j<rm.length:=by lia
   have b2:=yk hR.box (cK j) (by lia);left;refine onA (cK j) (by lia) ?_;left;refine⟨⟨by lia,by lia⟩,zce (λk ρ m2=>m2<=m'+k/\k<=4/\∃ (bk:List Wi) (L O:Option W),ρ=[some (.pen p),some (.d (stD rm)),some (.d (zaq ev)),some (.dt kvs),v4,some (.d (stD q)),some (.d (.lst (bk.map zQ))),some (.d (.int (j:Int))),L,O]/\ya rm bk/\bk.length<=32 * i+4 * j+k) ⟨by lia,by lia,bk,_,_,rfl,D,by lia⟩ ?_ ?_⟩
   ·rintro k ρ m2 hk ⟨bb,bd,bk,L,O,rfl,D,U⟩ C2 B2 E2 ac _ _;left;refine⟨zdS (by lia),?_⟩;left;refine⟨zdT (by lia),?_⟩;rw[zge (cK j) (by lia)];have hT:StOk rm (chg q (j:Int) (k:Int)):=zao hO (cK j) (by lia) (by lia) (by lia);obtain⟨rb,ad⟩:=J _ hT;left;refine⟨q,rfl,xM a0 ?_⟩;left;refine⟨chg q (j:Int) (k:Int),rfl,xM ad ?_⟩;left;refine xZ (λb3=>?_) (λ_=>⟨ac ⟨by lia,by lia,bk,_,_,rfl,D,by lia⟩⟩)
    have bl:q≠chg q (j:Int) (k:Int):=λe=>by rw[<- e,a0] at ad;cases ad;lia
    left;refine dc hP (λd d0 d1=>?_) (by lia);left;refine xZ (λ_=>?_) (λ_=>⟨ac ⟨by lia,by lia,bk,_,_,rfl,D,by lia⟩⟩);left;refine zdi.i hR hO hT bl λx hx _=>?_;left;refine⟨by rw[ab];exact aW (by lia:_<=1000) (by decide),ac ⟨by lia,by lia,bk++[x],_,_,by rw[az];rfl,D.app (λy hy=>by rw[aB.mp hy];exact hx),by rw[ai];simp;lia⟩⟩
   ·rintro ρ m2 ⟨bb,bd,bk,L,O,rfl,D,U⟩;left;exact a7 ⟨by lia,bk,_,_,_,rfl,D,by lia⟩
  ·rintro ρ m' ⟨a5,bk,v7,L,O,rfl,D,U⟩;left;exact hC ⟨by lia,bk,_,_,_,_,rfl,D,by lia⟩
 ·rintro ρ m ⟨hm,bk,v5,v7,L,O,rfl,D,U⟩;left;exact r bk m D (by lia) (by lia)
def zdM  : FV:=λPn B n R=>∃ (p:Addr) (rm:List Int) (bk:List Wi),B=[.pen p,.d (stD rm),.d (.lst (bk.map zQ))]/\(IsP Pn p)/\(n+100<=1000000)/\(RoomOk rm)/\(ya rm bk)/\(bk.length<=2000)/\(∀q m,ya rm q->q.length<=2001->m<=n+50->R (.d (.lst (q.map zQ))) m)
def zdM.i{rm:List Int}(B:IsP Pn p)(D:RoomOk rm)(F:ya rm bk)(I:bk.length<=2000)(h:∀q m,ya rm q->q.length<=2001->m<=n+50->R (.d (.lst (q.map zQ))) m)(J:n+100<=1000000:=by lia):zdM Pn [.pen p,.d (stD rm),.d (.lst (bk.map zQ))] n R:=⟨p,rm,bk,rfl,B,J,D,F,I,h⟩
def zbV (T:Txt K mg t):FnOk P w K mg base CX0 4 t.f13 t.d13 lb (spG 3 true zdM):=by
 have G1:=zU (P:=P) (w:=w) (base:=base) T;have G6:=uJ (P:=P) (w:=w) (base:=base) T
 refine Fun.okG (k:=3) (fr:=true) [2] 6 T.q13.F z7 rfl (by decide) (by decide) rfl λal A ac s H E Pn L=>⟨_,(zb (wS zp <| zy (i:=3) z7.nd (wE zo <| yv T.q1 G1 L (za (kv 0) (za zE zc))))
   (zb (wS zJ <| y2 (JW.t (wW zob <| zr6 (wT zr <| zB x8 zc0 (kb 3) (JE.bo zE) (zC _)) (zax (.inr rfl) (wT zr <| zB (zhO L.units) znz (kb 2) (JE.bo (xG zc)) (zC _))))) (zb (wS zpv <| zr5 2 (wE zo <| yv T.q1 G1 L (za (kv 0) (za (uP xi zcZ (JE.bo (zN yo x9 (by rfl) T.b_len aR (zh (kb 2) zm))) (JE.bo zE)) zc))) (wE zo <| yv T.q6 G6 L (za (kv 0) (za (kv 1) zc))))
   (ze (wS zbZ <| zd8 2))) zR)
   (zb (wS zp <| zy (i:=4) z7.nd (wE zo <| yv T.q1 G1 L (za (kv 0) (za (zN yo x9 (by rfl) T.b_len aR (zh (kb 2) zm)) zc))))
   (zb (zfn (zau xk zbA (kb 2) (kb 4) (λ_ _=>rfl)) (wG yV <| yX (n:=4) K rfl rfl (wH zA <| zn (wG zt <| zf (i:=5) z7.nd) (wH zA <| zn (wG zt <| zf (i:=6) z7.nd) (wH zA <| zn (wG zt <| zf (i:=7) z7.nd) (wH zA <| zn (wG zt <| zf (i:=8) z7.nd) (wH yU yg)))))))
   (zb (wS zJ <| y2 (wT zr <| zB x8 zc0 (kb 3) (JE.bo zE) (zC _)) (ze (wS zky <| zn5 2 (kb 4) (yH (za (kv 5) (za (kv 6) (za (kv 8) (za (kv 7) zc))))))) zR)
   (zb (wS zJ <| y2 (wT zr <| zB x8 zc0 (kb 3) (JE.bo zE) (zC _)) (ze (wS zmP <| zpj 2 (kb 4))) zR)
   (zb (wS zJ <| y2 (wT zr <| zB x8 zc0 (kb 3) (JE.bo zE) (zC _)) (ze (wS ul <| zaw 2 (zau xk zbA (kb 2) (kb 4) (λ_ _=>rfl)))) zR)
   (zb (wS zJ <| y2 (wT zr <| zB x8 zc0 (kb 3) (JE.bo zE) (zC _)) (ze (wS zky <| zn5 2 (kb 4) (yH (za (wE uo <| zc9 (kb 5) (wO yj <| yT (JE.bo zE)) yS) (za (kv 6) (za (kv 7) (za (kv 8) zc))))))) zR)
   (ze (wS zbZ <| zd8 2)))))))))),λws n R hF=>?_⟩
 obtain⟨p,rm,bk,rfl,Z,hn,hR,B,hl,r⟩:=hF;left;have h8:=hR.few;refine dc Z λq w0 w1=>?_;left;refine' zvD _ (λkey=>?_) ?_;rotate_left
 ·refine xZ (λh4=>?_) (λh4=>?_)
  ·left;rw[ab];generalize W.d (Dt.int q)=x;exact key x
  ·left;refine⟨zro B,zro (rm:=rm) (bk:=[]) (by intro x J;simp at J),λb hb=>?_⟩;left;refine zbX (λD=>?_) (λD=>?_)
   ·left;rw[ab];exact key (.d (.int q))
   ·left
    have ad:bk≠[]:=λz=>by have:=hb.mpr (by rw[z];rfl);rw[this] at D;cases D
    have ag:0<bk.length:=c7.mpr ad;rw[ab];refine dc Z λO a0 a1=>?_;obtain⟨j,rfl⟩:∃j:Nat,O=(j:Int):=⟨O.toNat,by lia⟩;have hj:j<bk.length:=by lia
    have J:=B _ (cg hj);have I:atI (bk.map zQ) (j:Int)=some (zQ bk[j]):=zbC (by rw[aw,aj hj];rfl);generalize bk[j]=x at J I;left;refine xM I ?_;left;have U:q=0\/q=1\/q=2\/q=3:=by lia
    rcases U with rfl | rfl | rfl | rfl
    ·walk_at "ct";refine⟨⟨by lia,by rw[ab];lia⟩,?_⟩;rw[aL,show (bk.map zQ).set j (Dt.tup [Dt.tup (x.g.map yn),.int x.b,.int x.w,.int x.r])=(bk.set j (ztN x)).map zQ by rw[List.map_set];rfl];left;walk_at "cf";walk_at "cf";walk_at "cf";exact r _ _ (B.set (zqV J) j) (by rw[bf];lia) (by lia)
    ·walk_at "cf";walk_at "ct";refine⟨⟨by lia,by rw[ab];lia,by rw[ab];exact ar hl (by decide)⟩,?_⟩;rw[aL,<- ze6];left;walk_at "cf";walk_at "cf";exact r _ _ (λy Y=>B y (List.mem_of_mem_eraseIdx Y)) (by have:=List.length_eraseIdx_le bk j;lia) (by lia)
    ·walk_at "cf";walk_at "cf";walk_at "ct";refine xM I ?_;left;refine⟨by rw[ab];exact aW hl (by decide),?_⟩;rw[show bk.map zQ++[zQ x]=(bk++[x]).map zQ by rw[az];rfl];left;walk_at "cf";exact r _ _ (B.app λy Y=>by rw[aB.mp Y];exact J) (by rw[ai];simp;lia) (by lia)
    ·walk_at "cf";walk_at "cf";walk_at "cf";walk_at "ct";refine⟨⟨by lia,by rw[ab];lia⟩,?_⟩;rw[aL,xE,show (bk.map zQ).set j (Dt.tup [Dt.tup ((ua x.g (some 1) none).map yn),.int x.b,.int x.r,.int x.w])=(bk.set j { x with g:=ua x.g (some 1) none }).map zQ by rw[List.map_set] <;> rfl];left;exact r _ _ (B.set (zoK J) j) (by rw[bf];lia) (by lia)
 intro x;refine dc Z λk k0 k1=>?_;obtain⟨j,rfl⟩:∃j:Nat,k=(j:Int):=⟨k.toNat,by lia⟩;left;refine zib.i Z hR λy m Y hm=>?_;left;refine⟨⟨by lia,by lia,aW hl (by decide)⟩,?_⟩;rw[aL,zo9];left;exact r _ _ (B.ins Y j) (by rw[zo8];lia) (by lia)
def zg7  : FV:=λPn q n R=>∃ (p:Addr) (rm:List Int),q=[.pen p,.d (stD rm)]/\(IsP Pn p)/\(n+4000<=1000000)/\(RoomOk rm)/\(yI rm<=256)/\(∀bk m,ya rm bk->bk.length<=80->m<=n+2000->R (.d (yK bk)) m)
def zg7.i{rm:List Int}(q:IsP Pn p)(B:RoomOk rm)(D:yI rm<=256)(h:∀bk m,ya rm bk->bk.length<=80->m<=n+2000->R (.d (yK bk)) m)(F:n+4000<=1000000:=by lia):zg7 Pn [.pen p,.d (stD rm)] n R:=⟨p,rm,rfl,q,F,B,D,h⟩
def zej (T:Txt K mg t):FnOk P w K mg base CX0 5 t.f14 t.d14 la (spV 2 false zg7):=by
 have G1:=zU (P:=P) (w:=w) (base:=base) T;have G2:=xL (P:=P) (w:=w) (base:=base) T;have G4:=xh (P:=P) (w:=w) (base:=base) T;have G6:=uJ (P:=P) (w:=w) (base:=base) T;have G8:=zbs (P:=P) (w:=w) (base:=base) T;have G11:=zda (P:=P) (w:=w) (base:=base) T;have G12:=zcB (P:=P) (w:=w) (base:=base) T;have G13:=zbV (P:=P) (w:=w) (base:=base) T
 refine Fun.okW (k:=4) (fr:=false) [5] 4 T.q14.F ye rfl (by decide) rfl λa4 A ap s H E Pn B=>⟨_,(zb (wS zp <| zy (i:=2) ye.nd (wE zo <| yv T.q1 G1 B (za (kv 0) (za zE zc))))
   (zb (wS zp <| zy (i:=3) ye.nd (wE zo <| yv T.q1 G1 B (za (kv 0) (za zE zc))))
   (zb (wS zp <| zy (i:=4) ye.nd (zN yo x9 (by rfl) T.b_len aR (zh (JE.bo (wE zo <| yv T.q4 G4 B (za (kv 1) zc))) zm)))
   (zb (wS zJ <| y2 (wT zr <| zB x8 zc0 (kb 2) (JE.bo zE) (zC _)) (ze (wS yD <| xx (i:=5) ye.nd (wE zo <| yv T.q11 G11 B (za (kv 0) (za (kv 1) zc))))) (ze (wS zJ <| y2 (JW.t (wW u9 <| zbD (wT zr <| zB x8 zc0 (kb 2) (JE.bo zE) (zC _)) (zax (.inl rfl) (wT zr <| zB zsI u_le (kb 4) (JE.bo zE) (zC _))))) (ze (wS yD <| xx (i:=5) ye.nd (wE zo <| yv T.q12 G12 B (za (kv 0) (za (kv 1) zc))))) (ze (wS zJ <| y2 (wT zr <| zB zkV zuv (kb 2) (JE.bo zE) (zC _)) (ze (wS yD <| xx (i:=5) ye.nd (wE zo <| yv T.q8 G8 B (za (kv 0) (za (kv 1) zc))))) (ze (wS yD <| zpi (i:=5) (zaZ (ix:=5) ye.nd rfl rfl (N:=lD) (cix:=[none,some 0,some 1]) rfl (by walk_at "c") (wI yx <| zO rfl T.b_range (zh (JE.bo (wE zo <| yv T.q1 G1 B (za (kv 0) (za zE zc)))) zm)) (λ_ _ _ _=>(wG zt <| zf (i:=0) (show (lD:List Str).Nodup by decide +kernel))) (λ_ _ _ _=>yw) (λ_ _ _ _=>(wE zo <| yv T.q6 G6 B (za (kv 1) (za (kv 2) zc))))))))))))
   (zb (wS zJ <| y2 (wT zr <| zB x8 zc0 (kb 3) (JE.bo zE) (zC _)) (ze (zr4 (i:=5) T.q13 G13 B (kv 0) (kv 1) ye.nd rfl (Or.inl rfl))) zR)
   (ze (zL (yu z0 uq (by rfl) T.b_tuple bg (zh (JE.bo (wE zo <| yv T.q2 G2 B (za (kv 0) (za (wE zbp <| zis (kb 5) yS (wO yj <| yT (JE.bo zE))) zc)))) zm))))))))),λws n R hF=>?_⟩
 obtain⟨p,rm,rfl,D,hn,I,hp,r⟩:=hF;left;refine dc D λkind k0 k1=>?_;left;refine dc D λsp s0 s1=>?_;left;refine zdj.i I ?_;left;have hsz:=xR rm λn hn=>by have:=I.box n hn;lia
 rw[ab,hsz];refine' zmR (λ(bk:List Wi) (U:Nat)=>ya rm bk/\bk.length<=1000/\U<=n+1100) _ (λyf=>?_) ?_;rotate_left
 ·refine xZ (λh0=>?_) (λh0=>?_)
  ·left;refine zdL.i D I hp λbk m q Y Z=>?_;left;exact yf bk m ⟨q,by lia,by lia⟩
  left;refine xZ (λh1=>?_) (λh1=>?_)
  ·left;refine xZ (λac=>?_) (λac=>?_)
   ·left;refine zg8.i D I ac λbk m q Y Z=>?_;left;exact yf bk m ⟨q,by lia,by lia⟩
   ·left;refine xZ (λh4=>?_) (λh4=>absurd (by lia) h4);left;refine ziP.i D I λbk m q Y Z=>?_;left;exact yf bk m ⟨q,by lia,by lia⟩
  left;refine xZ (λh4=>?_) (λh4=>?_)
  ·left;refine ziP.i D I λbk m q Y Z=>?_;left;exact yf bk m ⟨q,by lia,by lia⟩
  ·left;refine dc D λt t0 t1=>?_;left;refine⟨⟨by lia,by lia⟩,?_⟩;rw[yZ];refine ze0 (List.range t.toNat) (λk:Nat=>W.d (.int (k:Int))) rfl (by rw[ax];exact ar (by lia:_<=14) (by decide)) (λi J n' acc=>n'<=n+3+30 * i/\i<=t.toNat/\∃ (v:Option W) (bk:List Wi),J=[v,some (.pen p),some (.d (stD rm))]/\acc=bk.map zQ/\ya rm bk/\bk.length=i) ⟨by lia,aJ _,none,[],rfl,rfl,by intro x L;simp at L,rfl⟩ ?_ ?_
   ·rintro i k J n' acc hk ⟨ad,hi,v,bk,rfl,rfl,q,O⟩ C hC;have ag:=(ae.mp hk).1;rw[ax] at ag;left;refine zib.i D I λx m L Z=>?_;exact hC ⟨by lia,ag,_,bk++[x],rfl,by rw[az];rfl,q.app (λy hy=>by rw[aB.mp hy];exact L),by rw[ai,O];rfl⟩
   ·rintro J n' acc ⟨ad,hi,v,bk,rfl,rfl,q,O⟩;rw[ax] at O ad;left;exact yf bk n' ⟨q,by lia,by lia⟩
 rintro bk U ⟨q,Y,as⟩;refine' zmR (λ(bk:List Wi) (U:Nat)=>ya rm bk/\bk.length<=2001/\U<=n+1150) _ (λyf=>?_) ?_;rotate_left
 ·left;refine xZ (λh0=>?_) (λh0=>?_)
  ·left;refine zdM.i D I q (by lia) λav m a0 a1 Z=>?_;left;exact yf av m ⟨a0,a1,by lia⟩
  ·left;exact yf bk U ⟨q,by lia,by lia⟩
 rintro bk U ⟨q,Y,as⟩;left;rw[xE,show (80:Int)=((80:Nat):Int) from rfl,L3.zbY];have al:ya rm (bk.take 80):=λx L=>q x (bR L);have a2:(bk.take 80).length<=80:=by rw[aQ];lia
 generalize bk.take 80=b2 at al a2;left;refine tc D (λl a3=>?_) (by rw[ab];lia) (by rw[ab];lia);rw[ab];obtain⟨b3,rfl,an⟩:=za8 a3;have a5:=an.length_eq;left;exact r b3 _ (λx L=>al x (an.mem_iff.mp L)) (by lia) (by lia)
def zgK (T:Txt K mg t):FnOk P w K mg base CX0 1 t.f15 t.d15 lR (zdJ K):=by
 refine T.q15.F.okQ uN (λvs H Q E h=>?_) (λb2 A bb s H vs Q E hr h=>?_)
 ·obtain⟨ca,xs,cs,rfl,_⟩:=h;rfl
 ·obtain⟨ca,xs,cs,rfl,a0,hL,bd,a1,k⟩:=h;have Z:=zhc bd a1
  refine⟨_,(yd (ug (i:=1) uN.nd rfl (Or.inl rfl) (zk7 (zK (zev yB) yB)))
   (yd (zom aI rfl (zew (qv 0)) (zcH (i:=2) uN.nd rfl (Or.inr rfl)) (uL (zhW (ix:=1) uN.nd rfl rfl (N:=lI) (cix:=[none,none,some 2]) rfl (by walk_at "c") (zew (qv 1)) (λ_ _ _ _=>(zcH (i:=0) (show (lI:List Str).Nodup by decide +kernel) rfl (Or.inl rfl))) (λ_ _ _ _=>zeA) (λ_ _ _ _=>(zhV K rfl (qv 2))) (λ_ _ _ _=>(zcH (i:=1) (show (lI:List Str).Nodup by decide +kernel) rfl (Or.inl rfl))) (λ_ _ _ _=>zeA) (λ_ _ _ _=>(xc (zmV K rfl) (qv 0) (zev (zK (qv 1) yB)))))))
   (uL (zbb (qv 1))))),?_⟩
  refine⟨(by show 0<=sizeLine;decide),λe0 H1 _ g1 S1=>⟨(by show 1<=sizeLine;decide),λr0 H2 n2 g2 S2=>?_⟩⟩;have S02:xm H H2:=λb o e=>S2 _ _ (S1 _ _ e)
  have bk:H r0=none:=by
   cases e:H r0 with
   | none=>rfl
   | some o=>rw[S1 _ _ e] at n2;cases n2
  refine⟨_,rfl,ca,rfl,⟨xs,.of (S02 _ _ a0)⟩,zms (K:=K) (xs:=xs) (λi σ H3=>∃ (ra:Addr) (ys:List V) (v2:Option V),σ=[some (.ref ca),some (.ref ra),v2]/\H ra=none/\H3 ra=some (.lst ys)/\IsL H3 ((yQ (cs.take i)).map stD) ys/\xm H H3)
   ⟨r0,_,none,rfl,bk,g2,⟨_,_,rfl,⟨e0,_,rfl,S2 _ _ g1,rfl⟩,rfl⟩,S02⟩ (λi σ H3 _ ⟨_,_,_,_,_,_,_,S⟩=>.of (S _ _ a0)) ?_ ?_⟩
  ·rintro i x σ H3 hi ⟨ra,ys,v2,rfl,a2,Y,O,S3⟩;have bl:=(ae.mp hi).1;have U:i<cs.length:=by rw[<- hL.1];exact bl
   obtain⟨wa,a3,a4⟩:=hL.2 i cs[i] (aj U);rw[hi] at a3;cases a3;have ac:=a1 cs[i] (cg U);have al:cs.take (i+1)=cs.take i++[cs[i]]:=zl (aj U);have bo:=Z i;have an:=Z (i+1);rw[al,xf] at an;have ap:=O.length;rw[ab] at ap
   have ad:∀D∈yQ (cs.take i),D.length<=8:=λD hr=>by rw[zdO _ _ hr,aQ];lia
   generalize cs[i]=ws at a4 ac al an;generalize as:yQ (cs.take i)=rows at O bo an ap ad;have ag:=S3 _ _ a4;refine⟨_,rfl,ra,rfl,⟨_,.of Y⟩,λacc J=>?_⟩;refine zih (xs:=ys) J (λj I H'=>(∃v0 v1,I=[v0,v1,some (.ref wa)])/\(∃zs,H' acc=some (.lst zs)/\IsL H' ((xV (rows.take j) ws).map stD) zs)/\xm H3 H') (λH' z1 z2=>⟨⟨_,_,rfl⟩,⟨[],z1,rfl⟩,z2⟩) (λ_ _ _ _ ⟨_,_,S⟩=>.of (S _ _ Y)) ?_ ?_
   ·rintro j y I H4 hy ⟨⟨v0,v1,rfl⟩,⟨zs,B,q⟩,S4⟩;obtain⟨d,hd,bs⟩:=(O.stay (zv.same S4)).get hy;rw[aw] at hd;obtain⟨D,av,rfl⟩:=aE.mp hd;obtain⟨rwa,rv,rfl,a5,bx⟩:=bs;obtain rfl:=bx.of_ints;have b3:=(ae.mp av).1;have b5:=ad D (au av);show zi7 _ zby _ _ _ _ _ _ _ _ _;refine zoc ?_;refine⟨_,rfl,wa,rfl,⟨_,.of (S4 _ _ ag)⟩,?_⟩;refine zio (xs:=ws.map V.int) (λm I H'=>(∃v1,I=[some (.ref rwa),v1,some (.ref wa)])/\(∃zs,H' acc=some (.lst zs)/\IsL H' ((xV (rows.take j) ws++(ws.take m).map λw=>D++[w]).map stD) zs)/\xm H3 H'/\H' rwa=some (.tup (D.map V.int))) ⟨⟨_,rfl⟩,⟨zs,B,by simpa using q⟩,S4,a5⟩ (λ_ _ _ _ ⟨_,_,S,_⟩=>.of (S _ _ ag)) ?_ ?_
    ·rintro m u I H5 hu ⟨⟨v1,rfl⟩,⟨zs,B,q⟩,S5,L⟩;rw[aw] at hu;obtain⟨wv,a7,rfl⟩:=aE.mp hu;have b6:=(ae.mp a7).1;refine znN ⟨_,rfl,_,rfl,(by show 1<=sizeLine;decide),λt1 H6 _ g6 S6=>?_⟩;refine⟨rwa,t1,_,_,rfl,rfl,S6 _ _ L,g6,cj (zcW (by rw[ab];show D.length+1<=1000;lia)),λt2 H7 g7 S7=>?_⟩;have S57:xm H5 H7:=λb o e=>S7 _ _ (S6 _ _ e);have b0:=q.length;rw[ab,ai,uu,ab,aQ,aQ] at b0;have cc:=uu rows ws;have b1:(min j rows.length) * ws.length<=65536 * 4:=eC (by lia) ac;refine⟨zs,S57 _ _ B,aW (show zs.length<=500000 by lia) (by decide),⟨_,rfl⟩,⟨_,zk,?_⟩,znp J λb o e=>S57 _ _ (S5 _ _ e),?_⟩
     ·refine IsL.stayT (ziU.app (S57 _ _ B)) (ue _) ?_;rw[zl a7,az (l₁:=ws.take m),<- bK,az];refine (q.stay (zv.same S57)).append (IsL.one ⟨t2,_,rfl,g7,?_⟩);rw[az];exact IsL.ints.append (IsL.ints (ns:=[wv]))
     ·rw[zi (zkI (S57 _ _ L) (S57 _ _ B) (by intro z;cases z))];exact S57 _ _ L
    ·rintro I H5 ⟨⟨v1,rfl⟩,⟨zs,B,q⟩,S5,L⟩;rw[ab,ba] at q;refine⟨⟨_,_,rfl⟩,⟨zs,B,?_⟩,S5⟩;rw[zl av,zb8];exact q
   ·rintro I H4 ⟨⟨v0,v1,rfl⟩,⟨zs,B,q⟩,S4⟩;rw[ap,ba] at q;refine⟨acc,zs,_,rfl,?_,B,?_,λb o e=>S4 _ _ (S3 _ _ e)⟩
    ·cases e:H acc with
     | none=>rfl
     | some o=>rw[S3 _ _ e] at J;cases J
    ·rw[al,xf,as];exact q
  ·rintro σ H3 ⟨ra,ys,v2,rfl,a2,Y,O,S3⟩;rw[hL.1,ba] at O;exact⟨_,rfl,k ra ys H3 a2 Y O S3⟩
def zfC (T:Txt K mg t):FnOk P w K mg base CX0 1 t.f15 t.d15 lR (spV 1 true zdh):=FnOk.lift (FnOk.mono (zgK T) (by decide)) zed
def zl3  : FV:=λPn q n R=>∃ (rm:List Int),q=[.d (stD rm)]/\(RoomOk rm)/\(R (.d (zaq (yQ (rm.map zj)))) n)
def zl3.i{rm:List Int}(q:RoomOk rm)(h:R (.d (zaq (yQ (rm.map zj)))) n)  : zl3 Pn [.d (stD rm)] n R:=⟨rm,rfl,q,h⟩
def zen (T:Txt K mg t):FnOk P w K mg base CX0 2 t.f16 t.d16 ["room"] (spV 1 true zl3):=by
 have G15:=zfC (P:=P) (w:=w) (base:=base) T;refine Fun.okW (k:=1) (fr:=true) [] 0 T.q16.F zfR rfl (by decide) rfl λI A B s H E Pn J=>⟨_,(ze (zL (wE zo <| yv T.q15 G15 J (za (xn (N:=["worths"]) (cix:=[none]) rfl (by walk_at "c") (wI um <| zav K rfl (kv 0)) (λ_ _ _ _=>(wG zt <| zf (i:=0) (show (["worths"]:List Str).Nodup by decide +kernel))) (λ_ _ _ _=>yw) (λ_ _ _ _=>(wE uG <| zaX T.b_list T.b_range (zh (kb 0) zm)))) zc)))),λws n R L=>?_⟩;obtain⟨rm,rfl,q,r⟩:=L;left;refine zas rm (λi=>W.d (.int i)) (by rw[am];rfl) (λρ=>∃a,ρ=[a]) (λm=>lsD (zj m)) (ar q.few (by decide)) ⟨_,rfl⟩ ?_ ?_
 ·rintro m D O ⟨a,rfl⟩ C U;have hb:=q.box m D;left;refine⟨⟨by lia,by lia⟩,?_⟩;have Y:lsD (zj m)=Dt.lst (zf7 m.toNat):=by unfold lsD zj zf7;rw[am];rfl
  rw[<- Y];exact U ⟨_,rfl⟩
 ·left;refine⟨rm.map zj,by rw[am];rfl,by rw[ab];exact q.few,λc Z=>?_,r⟩;obtain⟨m,D,rfl⟩:=aC.mp Z;have:=q.box m D;rw[zW];lia
def zlX  : FV:=λPn q n R=>∃ (st:List Int) (b x:Int),q=[.d (stD st),.d (.int b),.d (.int x)]/\(0<=b)/\(st.length<=1000)/\(R (.d (stD (chg st b x))) n)
def zlX.i{st:List Int}{b x:Int}(q:0<=b)(B:st.length<=1000)(h:R (.d (stD (chg st b x))) n)  : zlX Pn [.d (stD st),.d (.int b),.d (.int x)] n R:=⟨st,b,x,rfl,q,B,h⟩
def zgL (T:Txt K mg t):FnOk P w K mg base CX0 1 t.f17 t.d17 lx (spV 3 false zlX):=by refine Fun.okW (k:=0) (fr:=false) [] 0 T.q17.F ziE rfl (by decide) rfl λD A q s H E Pn L=>⟨_,(ze (zL (uP yE xD (JE.bo (uP yE xD (JE.bo (wE uo <| zc9 (kb 0) yS (wO yj <| yT (kb 1)))) (JE.bo (yH (za (kv 2) zc))))) (JE.bo (wE uo <| zc9 (kb 0) (wO yj <| yT (JE.bo (uP xi zcZ (kb 1) (JE.bo zE)))) yS))))),λO n R I=>?_⟩;obtain⟨st,b,x,rfl,J,B,r⟩:=I;left;refine⟨zdS B,?_⟩;left;refine⟨zdT B,?_⟩;rw[zge J B];exact r
def zlZ  : FV:=λPn B n R=>∃ (st:List Int) (g:List (Int×Int)),B=[.d (stD st),.d (zeQ g)]/\(∀q∈g,0<=q.1/\q.1<st.length)/\(R (.d (.bl (yY st g))) n)
def zlZ.i{st:List Int}{g:List (Int×Int)}(B:∀q∈g,0<=q.1/\q.1<st.length)(h:R (.d (.bl (yY st g))) n)  : zlZ Pn [.d (stD st),.d (zeQ g)] n R:=⟨st,g,rfl,B,h⟩
def zkP (T:Txt K mg t):FnOk P w K mg base CX0 1 t.f18 t.d18 lN (spV 2 false zlZ):=by
 refine Fun.okW (k:=0) (fr:=false) [] 2 T.q18.F zeC rfl (by decide) rfl λY A I s H E Pn hr=>⟨_,(zb (yp aI rfl (wI um <| zav K rfl (kv 1)) (wG yV <| yX (n:=2) K rfl rfl (wH zA <| zn (wG zt <| zf (i:=2) zeC.nd) (wH zA <| zn (wG zt <| zf (i:=3) zeC.nd) (wH yU yg)))) (ze (wS zJ <| y2 (wT zr <| zB zix zrb (JE.bo (zau xl uO (kb 0) (kb 2) (λ_ _=>rfl))) (kb 3) (zC _)) (ze (zL zq7)) zR)))
   (ze (zL zq7))),λws n R Z=>?_⟩
 obtain⟨st,g,rfl,hg,r⟩:=Z;left;refine zY g (λq=>.d (yn q)) (by rw[am];rfl) (λi ρ m=>m=n/\(∃J L,ρ=[some (.d (stD st)),some (.d (zeQ g)),J,L])/\yY st (g.take i)=true) ⟨rfl,⟨_,_,rfl⟩,rfl⟩ ?_ ?_
 ·rintro i q ρ m O ⟨rfl,⟨J,L,rfl⟩,D⟩ C B E hC _ hE;have U:=hg q (au O);left;refine onA U.1 U.2 ?_;left;refine zkR (λh=>?_) (λh=>?_)
  ·left;refine hE ?_
   have e:yY st g=false:=by unfold yY;exact List.all_eq_false.mpr ⟨q,au O,λz=>h (bC z)⟩
   rw[e] at r;exact r
  ·left;refine hC ⟨rfl,⟨_,_,rfl⟩,?_⟩;unfold yY at D ⊢;rw[zl O,List.all_append,D];simp[h]
 ·rintro ρ m ⟨rfl,⟨J,L,rfl⟩,D⟩;rw[ba] at D;rw[D] at r;left;exact r
def zt8  : FV:=λPn q n R=>∃ (rm:List Int) (bk:List Wi) (box:Int) (st:List Int),q=[.d (stD rm),.d (yK bk),.d (.int box),.d (stD st)]/\(RoomOk rm)/\(ya rm bk)/\(st.length=rm.length)/\(R (.d (.lst ((lpE bk box st).map yn))) n)
def zt8.i{rm:List Int}{box:Int}{st:List Int}(B:RoomOk rm)(D:ya rm bk)(q:st.length=rm.length)(h:R (.d (.lst ((lpE bk box st).map yn))) n)  : zt8 Pn [.d (stD rm),.d (yK bk),.d (.int box),.d (stD st)] n R:=⟨rm,bk,box,st,rfl,B,D,q,h⟩
def zcC (T:Txt K mg t):FnOk P w K mg base CX0 2 t.f19 t.d19 lq (spV 4 true zt8):=by
 have G18:=zkP (P:=P) (w:=w) (base:=base) T;refine Fun.okW (k:=1) (fr:=true) [] 0 T.q19.F zdf rfl (by decide) rfl λac A B s H E Pn U=>⟨_,(ze (zL (zmD T.b_sorted (uF U) (N:=ld) (cix:=[none,none,none,none,some 2,some 3]) rfl (by walk_at "c") (wI um <| zav K rfl (kv 1)) (λ_ _ _ _=>(wG yV <| yX (n:=4) K rfl rfl (wH zA <| zn (wG zt <| zf (i:=0) (show (ld:List Str).Nodup by decide +kernel)) (wH zA <| zn (wG zt <| zf (i:=1) (show (ld:List Str).Nodup by decide +kernel)) (wH zA <| zn (wG zt <| zf (i:=2) (show (ld:List Str).Nodup by decide +kernel)) (wH zA <| zn (wG zt <| zf (i:=3) (show (ld:List Str).Nodup by decide +kernel)) (wH yU yg))))))) (λ_ _ _ _=>(xo (JW.t (wW u9 <| zbD (wT zr <| zB x8 zc0 (kb 1) (kb 4) (zC _)) (zax (.inl rfl) (wT zr <| zkf (JE.bo (wE zo <| yv T.q18 G18 U (za (kv 5) (za (kv 0) zc)))))))))) (λ_ _ _ _=>(yH (za (kv 3) (za (kv 2) zc))))))),λws n R hF=>?_⟩;obtain⟨rm,bk,box,st,rfl,Y,D,I,r⟩:=hF;left;refine zqL bk (λx=>W.d (zQ x)) (by rw[am];rfl) (λρ=>∃a b c d,ρ=[a,b,c,d,some (.d (.int box)),some (.d (stD st))]) (λx=>decide (x.b=box)&&yY st x.g) (λx=>[x.w,x.r]) ⟨_,_,_,_,rfl⟩ ?_ (λks h1 h2=>by have:=zbw D Y.box h1 h2;lia) ?_
 ·rintro x hx ad ⟨a,b,c,d,rfl⟩ C hY Z;have hW:=D x hx;left;refine xZ (λJ=>?_) (λJ=>Z (by rw[aX J];rfl) ⟨_,_,_,_,rfl⟩);left;refine zlZ.i (λq hq=>?_) ?_
  ·have:=hW.giv.ok q hq;rw[I];exact⟨this.1,this.2.1⟩
  left;refine zbX (λL=>?_) (λL=>Z (by rw[L,dz]) ⟨_,_,_,_,rfl⟩);exact⟨[x.w,x.r],rfl,hY (by rw[aY J,L];rfl) ⟨_,_,_,_,rfl⟩⟩
 ·intro ks h1 h2;refine⟨2,by have:=zbw D Y.box h1 λz O=>(h2 z).mp O;lia,by decide,λz O=>xQ z ((h2 z).mp O),λl' hp hu=>?_⟩;rw[show l'=lpF bk box st from zeG xQ hu λz=>(hp.mem_iff).trans (h2 z)];have:=r;rw[<- zsf] at this;exact this
def ziO  : FV:=λPn q n R=>∃ (rm:List Int) (bk:List Wi),q=[.d (stD rm),.d (yK bk)]/\(RoomOk rm)/\(ya rm bk)/\(bk.length<=1000)/\(R (.df (ziN rm bk)) n)
def ziO.i{rm:List Int}(q:RoomOk rm)(B:ya rm bk)(D:bk.length<=1000)(h:R (.df (ziN rm bk)) n)  : ziO Pn [.d (stD rm),.d (yK bk)] n R:=⟨rm,bk,rfl,q,B,D,h⟩
def xY (T:Txt K mg t):FnOk P w K mg base CX0 3 t.f20 t.d20 lc (spV 2 false ziO):=by
 have G16:=zen (P:=P) (w:=w) (base:=base) T;have G19:=zcC (P:=P) (w:=w) (base:=base) T
 refine Fun.okW (k:=2) (fr:=false) [] 1 T.q20.F ui rfl (by decide) rfl λZ A B s H E Pn I=>⟨_,(zb (wS zp <| zy (i:=2) ui.nd (zpd (z := "box") (N:=["box","book"]) (cix:=[none,some 1]) rfl (by walk_at "c") (wI yx <| zO rfl T.b_range (zh (JE.bo (zN yo x9 (by rfl) T.b_len aR (zh (kb 0) zm))) zm)) (λ_ _ _ _ _=>(wG zt <| zf (i:=0) (show (["box","book"]:List Str).Nodup by decide +kernel))) (λ_ _ _ _ _=>yw) (λ_ _ _ _ _=>(yu z0 uq (by rfl) T.b_tuple bg (zh (JE.bo (xn (N:=["wish","box"]) (cix:=[none,some 0]) rfl (by walk_at "c") (wI um <| zav K rfl (kv 1)) (λ_ _ _ _=>(wG zt <| zf (i:=0) (show (["wish","box"]:List Str).Nodup by decide +kernel))) (λ_ _ _ _=>(xo (wT zr <| zB x8 zc0 (JE.bo (zau xl uO (kb 0) (JE.bo zE) (λ_ _=>rfl))) (kb 1) (zC _)))) (λ_ _ _ _=>(kv 0)))) zm)))))
   (ze (zL (zvi (zj8 (uF I) (z := "standing") (N:=["standing","room","own"]) (cix:=[none,some 0,some 2]) rfl (by walk_at "c") (wI yi <| yh K rfl (wE zo <| yv T.q16 G16 I (za (kv 0) zc))) (λ_ _ _ _ _=>(wG zt <| zf (i:=0) (show (["standing","room","own"]:List Str).Nodup by decide +kernel))) (λ_ _ _ _ _=>yw) (λ_ _ _ _ _=>(kb 0)) (λ_ _ _ _ _=>(xn (N:=lM) (cix:=[none,some 1,some 0,some 2]) rfl (by walk_at "c") (wI yx <| zO rfl T.b_range (zh (JE.bo (zN yo x9 (by rfl) T.b_len aR (zh (kb 1) zm))) zm)) (λ_ _ _ _=>(wG zt <| zf (i:=0) (show (lM:List Str).Nodup by decide +kernel))) (λ_ _ _ _=>yw) (λ_ _ _ _=>(wE zo <| yv T.q19 G19 I (za (kv 1) (za (zau xk zbA (kb 3) (kb 0) (λ_ _=>rfl)) (za (kv 0) (za (kv 2) zc))))))))))))),λws n R hF=>?_⟩
 obtain⟨rm,bk,rfl,q,hB,hl,r⟩:=hF;left;have U:=q.few;rw[ab];refine⟨⟨by lia,by lia⟩,?_⟩;rw[yZ];refine zas (List.range rm.length) (λk:Nat=>W.d (.int (k:Int))) rfl (λρ=>∃a,ρ=[a,some (.d (yK bk))]) (λk:Nat=>yK (zra bk (k:Int))) (ar (by rw[ax];exact U) (by decide)) ⟨_,rfl⟩ ?_ ?_
 ·rintro k Y J ⟨a,rfl⟩ C hC;left;refine uC bk (λx=>W.d (zQ x)) (by rw[am];rfl) (λρ=>∃v,ρ=[v,some (.d (.int (k:Int)))]) (λx=>decide (x.b=(k:Int))) (λx=>zQ x) (ar hl (by decide)) ⟨_,rfl⟩ ?_ ?_
  ·rintro x hx L ⟨v,rfl⟩ D dY dN;left;exact xZ (λz=>dY (aY z) ⟨_,rfl⟩) (λz=>dN (aX z) ⟨_,rfl⟩)
  left;exact hC ⟨_,rfl⟩
 left;refine zl3.i q ?_;left;refine zmk (yQ (rm.map zj)) (by rw[am];rfl) (λρ=>∃a,ρ=[a,some (.d (stD rm)),some (.d (.lst ((List.range rm.length).map λk:Nat=>yK (zra bk (k:Int)))))]) (λ_=>true) (λst=>zut rm bk st) ?_ ?_ ⟨_,rfl⟩ ?_ ?_
 ·exact zrk rm
 ·exact ar (zoC q) (by decide)
 ·rintro st O J ⟨a,rfl⟩ C hY ac;have hS:=xS _ _ O;left;rw[ab];refine⟨⟨by lia,by lia⟩,?_⟩;rw[yZ];refine zas (List.range rm.length) (λk:Nat=>W.d (.int (k:Int))) rfl (λρ=>∃a,ρ=[a,some (.d (stD rm)),some (.d (stD st)),some (.d (.lst ((List.range rm.length).map λk:Nat=>yK (zra bk (k:Int)))))]) (λk:Nat=>lpD bk (k:Int) st) (ar (by rw[ax];exact U) (by decide)) ⟨_,rfl⟩ ?_ ?_
  ·rintro k Y L ⟨v,rfl⟩ D hD;left;refine znJ (aM.mp Y) ?_;left;refine zt8.i q (zvM hB) hS.len ?_;rw[zpr];exact hD ⟨_,rfl⟩
  ·exact⟨_,rfl,hY rfl ⟨_,rfl⟩⟩
 ·rw[c8.mpr λ_ _=>rfl];exact r
def zrd  : FV:=λPn q n R=>∃ (rm:List Int) (bk:List Wi),q=[.d (stD rm),.df (ziN rm bk)]/\(RoomOk rm)/\(ya rm bk)/\(R (.d (zaq (xK rm bk))) n)
def zrd.i{rm:List Int}(q:RoomOk rm)(B:ya rm bk)(h:R (.d (zaq (xK rm bk))) n)  : zrd Pn [.d (stD rm),.df (ziN rm bk)] n R:=⟨rm,bk,rfl,q,B,h⟩
def zbH (T:Txt K mg t):FnOk P w K mg base CX0 2 t.f21 t.d21 lA (spV 2 true zrd):=by
 have G17:=zgL (P:=P) (w:=w) (base:=base) T
 refine Fun.okW (k:=1) (fr:=true) [2] 6 T.q21.F y6 rfl (by decide) rfl λa4 A a0 s H E Pn hr=>⟨_,(zb (wS yD <| xx (i:=2) y6.nd (zr1 T.b_set))
   (zb (yp aI rfl (zr2 (kv 1)) (wG zt <| zf (i:=3) y6.nd) (ze (yp aI rfl (wI yx <| zO rfl T.b_range (zh (JE.bo (zN yo x9 (by rfl) T.b_len aR (zh (kb 0) zm))) zm)) (wG zt <| zf (i:=4) y6.nd) (zb (wS zp <| zy (i:=5) y6.nd (zgx (uF hr) (kb 1) (JE.bo (wE zo <| yv T.q17 G17 hr (za (kv 3) (za (kv 4) (za zE zc))))) (λ_ _=>rfl)))
   (ze (yp aI rfl (wI za2 <| zaY rfl T.b_enumerate (za (zgx (uF hr) (kb 1) (kb 3) (λ_ _=>rfl)) zc)) (wG yV <| yX (n:=2) K rfl rfl (wH zA <| zn (wG zt <| zf (i:=6) y6.nd) (wH zA <| zn (wG zt <| zf (i:=7) y6.nd) (wH yU yg)))) (ze (wS zJ <| y2 (wT zr <| zB (zfI hr.units) zlI (kb 7) (JE.bo (zau xk zbA (kb 5) (kb 6) (λ_ _=>rfl))) (zC _)) (ze (zpl 2 (uF hr) (yH (za (kv 6) (za (kv 4) zc))))) zR))))))))
   (ze (zL (zN (zhk rfl) zqZ (by rfl) T.b_sorted bZ (zh (kb 2) zm)))))),λws n R hF=>?_⟩
 obtain⟨rm,bk,rfl,hR,hB,r⟩:=hF;left;have h8:=hR.few;have ap:∀ {ks:List (List Int)},ks.Nodup->(∀z∈ks,z∈xK rm bk)->ks.length<=56:=λh1 h2=>ar (xA h1 h2) (zff hR);intro _;refine zY (yQ (rm.map zj)) (λst=>.d (stD st)) (by unfold ziN;rw[am];rfl) (λi ρ m=>m=n/\∃ (ks:List (List Int)) (v3 v4 v5 U Y:Option W),ρ=[some (.d (stD rm)),some (.df (ziN rm bk)),some (.ss P w ks),v3,v4,v5,U,Y]/\ks.Nodup/\(∀z∈ks,z∈xK rm bk)/\∀st∈(yQ (rm.map zj)).take i,∀o b:Nat,o<rm.length->b<rm.length->zhn bk b o st=true->[(b:Int),(o:Int)]∈ks) ⟨rfl,[],_,_,_,_,_,rfl,.nil,by simp,by simp⟩ ?_ ?_
 ·rintro i st ρ m ad ⟨rfl,ks,v3,v4,v5,U,Y,rfl,L,I,q⟩ C B X hC _ _;have al:=au ad;have an:=xS _ _ al;have a3:=an.len;left;rw[ab];refine⟨⟨by lia,by lia⟩,zce (λj ρ m'=>m'=m/\j<=rm.length/\∃ (ks:List (List Int)) (v4 v5 U Y:Option W),ρ=[some (.d (stD rm)),some (.df (ziN rm bk)),some (.ss P w ks),some (.d (stD st)),v4,v5,U,Y]/\ks.Nodup/\(∀z∈ks,z∈xK rm bk)/\(∀st∈(yQ (rm.map zj)).take i,∀o b:Nat,o<rm.length->b<rm.length->zhn bk b o st=true->[(b:Int),(o:Int)]∈ks)/\∀o b:Nat,o<j->b<rm.length->zhn bk b o st=true->[(b:Int),(o:Int)]∈ks) ⟨rfl,aJ _,ks,_,_,_,_,rfl,L,I,q,by lia⟩ ?_ ?_⟩
  ·rintro j ρ m' hj ⟨rfl,a1,ks,v4,v5,U,Y,rfl,L,I,q,D⟩ C' B' X' a2 _ _;have hj:j<rm.length:=by lia
   have a5:=yk hR.box (b:=(j:Int)) (by lia) (by lia);have as:StOk rm (chg st (j:Int) 0):=zao an (by lia) (by lia) (by decide) (by lia);left;refine zlX.i (by lia) (by lia) ?_;left;refine⟨_,rfl,xM (zb4 as) ?_⟩;left;refine⟨_,rfl,xM (zb4 an) ?_⟩;left;refine zY (List.range rm.length) (λk:Nat=>W.d (.tup [.int (k:Int),lpD bk (k:Int) st])) (zjv _) (λk ρ m2=>m2=m'/\∃ (ks:List (List Int)) (U Y:Option W),ρ=[some (.d (stD rm)),some (.df (ziN rm bk)),some (.ss P w ks),some (.d (stD st)),some (.d (.int (j:Int))),some (.d (zut rm bk (chg st (j:Int) 0))),U,Y]/\ks.Nodup/\(∀z∈ks,z∈xK rm bk)/\(∀st∈(yQ (rm.map zj)).take i,∀o b:Nat,o<rm.length->b<rm.length->zhn bk b o st=true->[(b:Int),(o:Int)]∈ks)/\(∀o b:Nat,o<j->b<rm.length->zhn bk b o st=true->[(b:Int),(o:Int)]∈ks)/\∀b:Nat,b<k->zhn bk b j st=true->[(b:Int),(j:Int)]∈ks) ⟨rfl,ks,_,_,rfl,L,I,q,D,by lia⟩ ?_ ?_
   ·rintro k k' ρ m2 hk ⟨rfl,ks,U,Y,rfl,L,I,q,D,Z⟩ C2 B2 X2 hD _ _;have ag:=(ae.mp hk).1;rw[List.getElem?_range (by rwa[ax] at ag)] at hk;cases hk;rw[ax] at ag;have hz:=ap L I;left;refine znJ ag ?_;left;refine⟨zn8,zn8,λr hr=>?_⟩;rw[zu2 hr];left;refine zbX (λO=>?_) (λO=>?_)
    ·left;refine⟨ks,rfl,?_⟩;left;refine⟨[(k:Int),(j:Int)],rfl,by lia,λav hm hl hn=>?_⟩;left;have ac:∀z∈ks,z∈av:=λz hz=>(hm z).mpr (.inr hz);refine hD ⟨rfl,av,_,_,rfl,hn,λz hz=>?_,λs hs o b ho J h=>ac _ (q s hs o b ho J h),λo b ho J h=>ac _ (D o b ho J h),λb J h=>?_⟩
     ·rcases (hm z).mp hz with rfl | z1
      ·exact (zfg hR hB).mpr ⟨k,j,ag,hj,⟨st,al,O⟩,rfl⟩
      ·exact I z z1
     ·by_cases e:b=k
      ·subst e;exact (hm _).mpr (.inl rfl)
      ·exact ac _ (Z b (by lia) h)
    ·left;refine hD ⟨rfl,ks,_,_,rfl,L,I,q,D,λb J h=>?_⟩;by_cases e:b=k
     ·subst e;rw[O] at h;cases h
     ·exact Z b (by lia) h
   ·rintro ρ m2 ⟨rfl,ks,U,Y,rfl,L,I,q,D,Z⟩;rw[ax] at Z;left;refine a2 ⟨rfl,hj,ks,_,_,_,_,rfl,L,I,q,λo b ho J O=>?_⟩;by_cases e:o=j
    ·subst e;exact Z b J O
    ·exact D o b (by lia) J O
  ·rintro ρ m' ⟨rfl,a1,ks,v4,v5,U,Y,rfl,L,I,q,D⟩;left;refine hC ⟨rfl,ks,_,_,_,_,_,rfl,L,I,λs hs o b ho J O=>?_⟩;rw[zl ad] at hs;rcases aG.mp hs with z | z
   ·exact q s z o b ho J O
   ·rw[aB.mp z] at O;exact D o b ho J O
 ·rintro ρ m ⟨rfl,ks,v3,v4,v5,U,Y,rfl,L,I,q⟩;have hz:=ap L I;left;refine⟨ks,2,rfl,by lia,by decide,λz hz=>zcl (I z hz),λl hp hu=>?_⟩;rw[zjW hu λz=>⟨λh=>I z (hp.mem_iff.mp h),λh=>hp.mem_iff.mpr ?_⟩]
  ·exact r
  ·obtain⟨b,o,J,ho,⟨st,ad,O⟩,rfl⟩:=(zfg hR hB).mp h;exact q st (by rw[ba];exact ad) o b ho J O
def znF  : FV:=λPn q n R=>∃ (rm:List Int) (bk:List Wi),q=[.d (stD rm),.d (yK bk)]/\(RoomOk rm)/\(ya rm bk)/\(bk.length<=1000)/\(R (.d (zaq (xK rm bk))) n)
def znF.i{rm:List Int}(q:RoomOk rm)(B:ya rm bk)(D:bk.length<=1000)(h:R (.d (zaq (xK rm bk))) n)  : znF Pn [.d (stD rm),.d (yK bk)] n R:=⟨rm,bk,rfl,q,B,D,h⟩
def zfD (T:Txt K mg t):FnOk P w K mg base CX0 4 t.f22 t.d22 lc (spV 2 true znF):=by have G20:=xY (P:=P) (w:=w) (base:=base) T;have G21:=zbH (P:=P) (w:=w) (base:=base) T;refine Fun.okW (k:=3) (fr:=true) [] 0 T.q22.F znq rfl (by decide) rfl λJ A q s H E Pn B=>⟨_,(ze (zL (wE zo <| yv T.q21 G21 B (za (kv 0) (za (wE zo <| yv T.q20 G20 B (za (kv 0) (za (kv 1) zc))) zc))))),λU n R L=>?_⟩;obtain⟨rm,bk,rfl,D,I,O,r⟩:=L;left;refine ziO.i D I O ?_;left;exact zrd.i D I r
def zre  : FV:=λPn q n R=>∃ (E:List (Int×Int)) (ks lf:List Int),q=[.kf (ldK ks (zbi E)),.d (lsD lf)]/\(lf.Nodup)/\(∀h∈lf,h∈ks)/\(lf.length<=100)/\(E.length<=1000)/\(R (.dk (ldK (onF E lf) (inF E lf))) n)
def zre.i{E:List (Int×Int)}{ks lf:List Int}(q:lf.Nodup)(B:∀h∈lf,h∈ks)(D:lf.length<=100)(F:E.length<=1000)(h:R (.dk (ldK (onF E lf) (inF E lf))) n)  : zre Pn [.kf (ldK ks (zbi E)),.d (lsD lf)] n R:=⟨E,ks,lf,rfl,q,B,D,F,h⟩
def zbW (T:Txt K mg t):FnOk P w K mg base CX0 1 t.f23 t.d23 lQ (spV 2 true zre):=by
 refine Fun.okW (k:=0) (fr:=true) [] 1 T.q23.F zag rfl (by decide) rfl λcdv A outer s H E Pn hr=>⟨_,(zb (wS zp <| zy (i:=2) zag.nd (zhA (uF hr) (N:=["here","leads","left"]) (cix:=[none,some 0,some 1]) rfl (by walk_at "c") (wI yi <| yh K rfl (kv 1)) (λ_ _ _ _=>(wG zt <| zf (i:=0) (show (["here","leads","left"]:List Str).Nodup by decide +kernel))) (λ_ _ _ _=>yw) (λ_ _ _ _=>(kb 0)) (λ_ _ _ _=>(xn (N:=["there","left"]) (cix:=[none,some 2]) rfl (by walk_at "c") (wI yi <| yh K rfl (zkb (uF hr) (kb 1) (kb 0) (λ_ _=>rfl))) (λ_ _ _ _=>(wG zt <| zf (i:=0) (show (["there","left"]:List Str).Nodup by decide +kernel))) (λ_ _ _ _=>(xo (wT zr <| zB zfH ztR (kb 0) (kb 1) (by with_unfolding_all rfl)))) (λ_ _ _ _=>(kv 0))))))
   (ze (zL (zhA (uF hr) (N:=["here","told"]) (cix:=[none,some 2]) rfl (by walk_at "c") (wI yi <| yh K rfl (kv 1)) (λ_ _ _ _=>(wG zt <| zf (i:=0) (show (["here","told"]:List Str).Nodup by decide +kernel))) (λ_ _ _ _=>(xo (wT zgE <| zea (JE.bo (wE zee <| zj9 (uF hr) (kb 1) (kb 0) (λ_ _=>rfl)))))) (λ_ _ _ _=>(kb 0)) (λ_ _ _ _=>(wE zee <| zj9 (uF hr) (kb 1) (kb 0) (λ_ _=>rfl))))))),λws n R hF=>?_⟩
 obtain⟨E,ks,lf,rfl,hN,hs,hl,hE,r⟩:=hF;left;refine zdY lf (by rw[am];rfl) (λρ=>∃a,ρ=[a,some (.kf (ldK ks (zbi E))),some (.d (lsD lf))]) (λ_=>true) (λh=>lsD (inF E lf h)) hN (ar hl (by decide)) ⟨_,rfl⟩ ?_ ?_
 ·rintro h hh ρ' ⟨a,rfl⟩ C hY hN';left;refine xM (zak (hs h hh)) ?_;left;have hsf:=zh5 E h;refine uC (zbi E h) (λb=>W.d (.int b)) (by rw[am];rfl) (λρ=>∃v,ρ=[v,some (.d (lsD lf))]) (λb=>lf.contains b) (λb=>.int b) (ar (by lia:_<=1000) (by decide)) ⟨_,rfl⟩ ?_ ?_
  ·rintro b hb ρ2 ⟨v,rfl⟩ D dY dN;left;refine⟨lf,rfl,?_⟩;left;exact zbX (λz=>dY z ⟨_,rfl⟩) (λz=>dN z ⟨_,rfl⟩)
  ·exact hY rfl ⟨_,rfl⟩
 ·rw[c8.mpr λ_ _=>rfl];left;refine zdY lf (by rw[am];rfl) (λρ=>∃a,ρ=[a,some (.dk (ldK lf (inF E lf)))]) (λh=>!(inF E lf h).isEmpty) (λh=>lsD (inF E lf h)) hN (ar hl (by decide)) ⟨_,rfl⟩ ?_ ?_
  ·rintro h hh ρ' ⟨a,rfl⟩ C hY hN';left;refine xM (zak hh) ?_;left;have e1:(!((inF E lf h).map Dt.int).isEmpty) = !(inF E lf h).isEmpty:=by rw[List.isEmpty_map]
   rw[e1];refine zbX (λz=>?_) (λz=>hN' z ⟨_,rfl⟩);left;refine xM (zak hh) ?_;left;exact hY z ⟨_,rfl⟩
  ·exact r
def zrg  : FV:=λPn D n R=>∃ (E:List (Int×Int)) (m:Nat),D=[.kf (ldK (zj (m:Int)) (zbi E))]/\(∀q∈E,0<=q.1/\q.1<m/\0<=q.2/\q.2<m)/\(m<=100)/\(E.length<=1000)/\((¬ Cyc E->R (.d .non) n)/\∀B,IsRd E B->Cyc E->R (.d (lsD B)) n)
def zrg.i  {Pn:Option zq} {n:Nat} {R:W->Nat->Prop} {E:List (Int×Int)} {m:Nat} (F:∀q∈E,0<=q.1/\q.1<m/\0<=q.2/\q.2<m) (I:m<=100) (D:E.length<=1000) (h:(¬ Cyc E->R (.d .non) n)/\∀B,IsRd E B->Cyc E->R (.d (lsD B)) n)  : zrg Pn [.kf (ldK (zj (m:Int)) (zbi E))] n R:=⟨E,m,rfl,F,I,D,h⟩
def zbI (T:Txt K mg t):FnOk P w K mg base CX0 2 t.f24 t.d24 ["leads"] (spV 1 false zrg):=by
 have G23:=zbW (P:=P) (w:=w) (base:=base) T
 refine Fun.okW (k:=1) (fr:=false) [3] 4 T.q24.F yP rfl (by decide) rfl λbs A a4 s H E Pn hr=>⟨_,(zb (wS zp <| zy (i:=1) yP.nd (yu (zhj rfl) zqX (by rfl) T.b_list bD (zh (kb 0) zm)))
   (zb (wS zp <| zy (i:=2) yP.nd (wE zo <| yv T.q23 G23 hr (za (kv 0) (za (kv 1) zc))))
   (zb (zd9 aI (wT zr <| zB zkV zuv (JE.bo (zN zmf ztS (by rfl) T.b_len aR (zh (kb 2) zm))) (JE.bo (zN yo x9 (by rfl) T.b_len aR (zh (kb 1) zm))) (zC _)) (zb (wS zp <| zy (i:=1) yP.nd (yu (zhj rfl) zqW (by rfl) T.b_list bD (zh (kb 2) zm)))
   (ze (wS zp <| zy (i:=2) yP.nd (wE zo <| yv T.q23 G23 hr (za (kv 0) (za (kv 1) zc)))))))
   (zb (wS zJ <| y2 (wT zkx <| zn6 (wT zgE <| zea (kb 1))) (ze (zL zpg)) zR)
   (zb (wS yD <| xx (i:=3) yP.nd (xG zc))
   (zb (wS zp <| zy (i:=4) yP.nd (zau xk zbA (kb 1) (JE.bo zE) (λ_ _=>rfl)))
   (zb (zd9 aI (wT zr <| zB uf zb2 (kb 4) (kb 3) (by with_unfolding_all rfl)) (zb (wS ul <| zaw 3 (kv 4))
   (ze (wS zp <| zy (i:=4) yP.nd (zau xk zbA (JE.bo (wE zee <| zj9 (uF hr) (kb 2) (kb 4) (λ_ _=>rfl))) (JE.bo zE) (λ_ _=>rfl))))))
   (ze (zL (zrZ (wE zbp <| zis (kb 3) (wO yj <| yT (JE.bo (zpf K rfl (kb 3) (kb 4)))) yS))))))))))),λws n R hF=>?_⟩
 obtain⟨E,m,rfl,hE,hm,al,r⟩:=hF;left;obtain⟨rN,rS⟩:=r;refine⟨zj (m:Int),zec,?_⟩;left;have a5:(zj (m:Int)).length=m:=by rw[zW];lia
 refine zre.i (x4 _) (λh J=>J) (by lia) al ?_;left
 have an:∀ (D:Int->Prop),PF E D->∀a,D a->a∈zj (m:Int):=λD hD a L=>by obtain⟨b,_,h⟩:=hD a L;have:=hE _ h;exact xP.mpr ⟨this.1,this.2.1⟩
 refine zlP (λk ρ n'=>n'=n/\∃lf:List Int,k=lf.length/\ρ=[some (.kf (ldK (zj (m:Int)) (zbi E))),some (.d (lsD lf)),some (.dk (ldK (onF E lf) (inF E lf))),none,none]/\lf.Nodup/\(∀h∈lf,h∈zj (m:Int))/\lf.length<=m/\∀D,PF E D->∀a,D a->a∈lf) m ⟨rfl,zj (m:Int),a5.symm,rfl,x4 _,λh J=>J,by lia,an⟩ ?_;rintro k ρ n' ⟨rfl,lf,rfl,rfl,hN,hs,hl,ac⟩ C B X hC hB hX;left;rw[zpn,ab];refine xZ (λap=>?_) (λbx=>?_)
 ·have ap:(onF E lf).length<lf.length:=by lia
  have I:(onF E lf).Sublist lf:=ee;left;refine⟨onF E lf,zec,?_⟩;left;refine zre.i (hN.sublist I) (λh J=>hs h (I.subset J)) (by lia) al ?_;left;exact hC _ ap ⟨rfl,onF E lf,rfl,rfl,hN.sublist I,λh J=>hs h (I.subset J),by lia,λD hD a L=>zsw hD (ac D hD) a L⟩
 ·have O:=zpJ (E:=E) (lf:=lf) (by lia);have ad:onF E lf=lf:=dO ee (by lia);refine hB ?_;left;rw[ad]
  cases lf with
  | nil=>
   walk_at "cf";exact rN λ⟨D,a,hD,L⟩=>by have:=ac D hD a L;simp at this
  | cons x r0=>
   have as:Cyc E:=⟨λa=>a∈x::r0,x,λa L=>O a L,ak⟩;have hx:x∈x::r0:=ak;have h0:atI ((x::r0).map Dt.int) 0=some (.int x):=zbC (i:=0) rfl;with_reducible refine zcD ?_ ?_
   ·rfl
   generalize x::r0=lf at hN hs hl ac O as hx h0;left;refine xM h0 ?_;left;refine zlP (λk ρ n2=>n2=n'/\∃ (q:List Int) (h:Int),k=lf.length - q.length/\ρ=[some (.kf (ldK (zj (m:Int)) (zbi E))),some (.d (lsD lf)),some (.dk (ldK lf (inF E lf))),some (.d (lsD q)),some (.d (.int h))]/\q.Nodup/\(∀a∈q,a∈lf)/\h∈lf/\∀i,i<q.length->((q++[h]).getD i 0,(q++[h]).getD (i+1) 0)∈E) lf.length ⟨rfl,[],x,rfl,rfl,.nil,by simp,hx,λi hi=>by simp at hi⟩ ?_;rintro k ρ n2 ⟨rfl,q,h,rfl,rfl,ag,av,J,a0⟩ C' B' X' a7 bb b0;have b1:=xA ag av;left;refine⟨q,rfl,?_⟩;left;refine zoe (λhn=>?_) (λhi=>?_)
   ·have a1:h∉q:=λz=>by rw[bW.mpr z] at hn;cases hn
    have a2:(q++[h]).Nodup:=by rw[dv];exact⟨ag,by simp,λa L c hc e=>a1 (by rw[<- aB.mp hc,<- e];exact L)⟩
    have U:∀a∈q++[h],a∈lf:=λa L=>(aG.mp L).elim (av a) λz=>by rw[aB.mp z];exact J
    have Y:=xA a2 U;rw[ai] at Y;simp at Y;obtain⟨b,hb,bd⟩:=O h J;have a3:=zeh.mpr ⟨bd,hb⟩;left;refine⟨by rw[ab];exact aW (by lia:_<=100) (by decide),?_⟩;left;refine xM (zak J) ?_;left
    cases e:inF E lf h with
    | nil=>rw[e] at a3;simp at a3
    | cons c cs=>
     have hc:=zeh.mp (show c∈inF E lf h by rw[e];exact ak);refine xM (zbC (i:=0) rfl) ?_;left;refine a7 (lf.length - (q++[h]).length) (by rw[ai];simp;lia) ⟨rfl,q++[h],c,rfl,?_,a2,U,hc.2,λi hi=>?_⟩
     ·rw[show lsD (q++[h])=Dt.lst (q.map Dt.int++[Dt.int h]) by unfold lsD;rw[az];rfl]
     ·rw[ai] at hi;simp at hi;by_cases bk:i<q.length
      ·have:=a0 i bk;have q1:(q++[h]++[c]).getD i 0=(q++[h]).getD i 0:=uv (by rw[ai];simp;lia);have q2:(q++[h]++[c]).getD (i+1) 0=(q++[h]).getD (i+1) 0:=uv (by rw[ai];simp;lia);rw[q1,q2];exact this
      ·have bl:i=q.length:=by lia
       subst bl;have q1:(q++[h]++[c]).getD q.length 0=(q++[h]).getD q.length 0:=uv (by rw[ai];simp);have q2:(q++[h]++[c]).getD (q++[h]).length 0=c:=zcf;rw[ai] at q2;rw[q1,zcf,show q.length+1=q.length+[h].length from rfl,q2];exact hc.1
   ·refine bb ?_;left;have Z:=bW.mp hi;refine⟨q,rfl,Z,?_⟩;left;rw[xE,ze3];exact rS _ (rdOf ag Z a0) as
def zub  : FV:=λPn D n R=>∃ (E:List (Int×Int)) (m:Nat),D=[.d (.int (m:Int)),.d (.lst (E.map yn))]/\(∀q∈E,0<=q.1/\q.1<m/\0<=q.2/\q.2<m)/\(m<=100)/\(E.length<=1000)/\((¬ Cyc E->R (.d .non) n)/\∀B,IsRd E B->Cyc E->R (.d (lsD B)) n)
def zub.i  {Pn:Option zq} {n:Nat} {R:W->Nat->Prop} {E:List (Int×Int)} {m:Nat} (F:∀q∈E,0<=q.1/\q.1<m/\0<=q.2/\q.2<m) (I:m<=100) (D:E.length<=1000) (h:(¬ Cyc E->R (.d .non) n)/\∀B,IsRd E B->Cyc E->R (.d (lsD B)) n)  : zub Pn [.d (.int (m:Int)),.d (.lst (E.map yn))] n R:=⟨E,m,rfl,F,I,D,h⟩
def zfE (T:Txt K mg t):FnOk P w K mg base CX0 3 t.f25 t.d25 lr (spV 2 false zub):=by
 have G24:=zbI (P:=P) (w:=w) (base:=base) T;refine Fun.okW (k:=2) (fr:=false) [] 0 T.q25.F zgY rfl (by decide) rfl λL A I s H E Pn J=>⟨_,(ze (zL (wE zo <| yv T.q24 G24 J (za (zn4 (zfl (uF J) (z := "here") (N:=["here","pairs"]) (cix:=[none,some 1]) rfl (by walk_at "c") (wI yx <| zO rfl T.b_range (zh (kb 0) zm)) (λ_ _ _ _ _=>(wG zt <| zf (i:=0) (show (["here","pairs"]:List Str).Nodup by decide +kernel))) (λ_ _ _ _ _=>yw) (λ_ _ _ _ _=>(kb 0)) (λ_ _ _ _ _=>(xn (N:=lG) (cix:=[none,none,some 0]) rfl (by walk_at "c") (wI yi <| yh K rfl (kv 1)) (λ_ _ _ _=>(wG yV <| yX (n:=2) K rfl rfl (wH zA <| zn (wG zt <| zf (i:=0) (show (lG:List Str).Nodup by decide +kernel)) (wH zA <| zn (wG zt <| zf (i:=1) (show (lG:List Str).Nodup by decide +kernel)) (wH yU yg))))) (λ_ _ _ _=>(xo (wT zr <| zB x8 zc0 (kb 0) (kb 2) (zC _)))) (λ_ _ _ _=>(kv 1)))))) zc)))),λws n R O=>?_⟩;obtain⟨E,m,rfl,U,Y,B,r⟩:=O;left;refine⟨⟨by lia,by lia⟩,?_⟩;rw[yZ,aL];have Z:((List.range m).map λk:Nat=>W.d (.int (k:Int)))=(zj (m:Int)).map λi=>W.d (.int i):=by unfold zj;rw[am,aL];rfl
 rw[Z];have ac:(zj (m:Int)).length=m:=by rw[zW];lia
 refine zdY (zj (m:Int)) rfl (λρ=>∃a,ρ=[a,some (.d (.lst (E.map yn)))]) (λ_=>true) (λh=>lsD (zbi E h)) (x4 _) (ar (by lia:_<=100) (by decide)) ⟨_,rfl⟩ ?_ ?_
 ·rintro h hh ad ⟨a,rfl⟩ C hY ag;left;refine uC E (λq=>W.d (yn q)) (by rw[am];rfl) (λρ=>∃u v,ρ=[u,v,some (.d (.int h))]) (λq=>decide (q.1=h)) (λq=>.int q.2) (ar B (by decide)) ⟨_,_,rfl⟩ ?_ ?_
  ·rintro q hq al ⟨u,v,rfl⟩ D dY dN;left;exact xZ (λz=>dY (aY z) ⟨_,_,rfl⟩) (λz=>dN (aX z) ⟨_,_,rfl⟩)
  ·rw[show (E.filter λq=>decide (q.1=h)).map (λq=>Dt.int q.2)=(zbi E h).map Dt.int by unfold zbi;rw[am];rfl];exact hY rfl ⟨_,rfl⟩
 ·rw[c8.mpr λ_ _=>rfl];left;exact zrg.i U Y B r
def zg5 (E:List (Int×Int))(m:Nat):List Int:=(zj (m:Int)).filter λw=>!(E.map (·.1)).contains w
def zuc  : FV:=λPn q n R=>∃ (E:List (Int×Int)) (m:Nat),q=[.d (.int (m:Int)),.d (.lst (E.map yn))]/\(m<=100)/\(E.length<=1000)/\(R (.d (lsD (zg5 E m))) n)
def zuc.i{Pn:Option zq}{R:W->Nat->Prop}{E:List (Int×Int)}(B:m<=100)(q:E.length<=1000)(h:R (.d (lsD (zg5 E m))) n)  : zuc Pn [.d (.int (m:Int)),.d (.lst (E.map yn))] n R:=⟨E,m,rfl,B,q,h⟩
def zgN (T:Txt K mg t):FnOk P w K mg base CX0 1 t.f26 t.d26 lr (spV 2 true zuc):=by
 refine Fun.okW (k:=0) (fr:=true) [] 1 T.q26.F zdG rfl (by decide) rfl λcdv A outer s H E Pn hr=>⟨_,(zb (wS zp <| zy (i:=2) zdG.nd (xn (N:=lP) (cix:=[none,none]) rfl (by walk_at "c") (wI yi <| yh K rfl (kv 1)) (λ_ _ _ _=>(wG yV <| yX (n:=2) K rfl rfl (wH zA <| zn (wG zt <| zf (i:=0) (show (lP:List Str).Nodup by decide +kernel)) (wH zA <| zn (wG zt <| zf (i:=1) (show (lP:List Str).Nodup by decide +kernel)) (wH yU yg))))) (λ_ _ _ _=>yw) (λ_ _ _ _=>(kv 0))))
   (ze (zL (xn (N:=["worth","bettered"]) (cix:=[none,some 2]) rfl (by walk_at "c") (wI yx <| zO rfl T.b_range (zh (kb 0) zm)) (λ_ _ _ _=>(wG zt <| zf (i:=0) (show (["worth","bettered"]:List Str).Nodup by decide +kernel))) (λ_ _ _ _=>(xo (wT zr <| zB uf zb2 (kb 0) (kb 1) (by with_unfolding_all rfl)))) (λ_ _ _ _=>(kv 0)))))),λws n R hF=>?_⟩
 obtain⟨E,m,rfl,hm,hEl,r⟩:=hF;left;refine zas E (λq=>W.d (yn q)) (by rw[am];rfl) (λρ=>∃u v,ρ=[u,v]) (λq=>.int q.1) (ar hEl (by decide)) ⟨_,_,rfl⟩ ?_ ?_
 ·rintro q hq ρ2 ⟨u,v,rfl⟩ D dY;left;exact dY ⟨_,_,rfl⟩
 have e1:(E.map λq=>Dt.int q.1)=(E.map (·.1)).map Dt.int:=by rw[am];rfl
 rw[e1];left;refine⟨⟨by lia,by lia⟩,?_⟩;rw[yZ,aL];have e0:((List.range m).map λk:Nat=>W.d (.int (k:Int)))=(zj (m:Int)).map λi=>W.d (.int i):=by unfold zj;rw[am,aL];rfl
 rw[e0];have hml:(zj (m:Int)).length=m:=by rw[zW];lia
 refine uC (zj (m:Int)) (λi=>W.d (.int i)) rfl (λρ=>∃u,ρ=[u,some (.d (.lst ((E.map (·.1)).map Dt.int)))]) (λw=>!(E.map (·.1)).contains w) (λw=>.int w) (ar (by lia:_<=100) (by decide)) ⟨_,rfl⟩ ?_ ?_
 ·rintro w hw ρ2 ⟨u,rfl⟩ D dY dN;left;refine⟨_,rfl,?_⟩;left;exact zbX (λz=>dY z ⟨_,rfl⟩) (λz=>dN z ⟨_,rfl⟩)
 ·exact r
def zjK (E:List (Int×Int))(m:Nat)(q:List Int):List Int:=(zj (m:Int)).filter λb=>!q.contains b&&(zbi E b).all λo=>q.contains o
def zlU (E:List (Int×Int))(m:Nat):Nat->List Int->Option (List Int)
 | 0,q=>some q
 | k+1,q=>match zjK E m q with
  | []=>none
  | b::_=>zlU E m k (q++[b])
def zwb {E:List (Int×Int)}{m:Nat}{B:List Int}(J:∀q∈E,0<=q.1/\q.1<m/\0<=q.2/\q.2<m)(hl:B.length<m)(h:zjK E m B=[]):Cyc E:=by
 have L:∃a,a∈zj (m:Int)/\a∉B:=by
  by_cases D:∀a∈zj (m:Int),a∈B
  ·have:=xA (x4 _) D;rw[zW] at this;lia
  ·by_cases h2:∃a,a∈zj (m:Int)/\a∉B
   ·exact h2
   ·exact absurd (λa F=>by by_cases z:a∈B;exact z;exact absurd ⟨a,F,z⟩ h2) D
 obtain⟨a,F,O⟩:=L;refine⟨λa=>a∈zj (m:Int)/\a∉B,a,λa ⟨h1,h2⟩=>?_,F,O⟩;have:a∉zjK E m B:=by rw[h];simp
 by_cases D:∃b,b∉B/\(a,b)∈E
 ·obtain⟨b,U,I⟩:=D;have:=J _ I;exact⟨b,⟨xP.mpr ⟨this.2.2.1,this.2.2.2⟩,U⟩,I⟩
 ·refine absurd (a9.mpr ⟨h1,?_⟩) this;have Y:B.contains a=false:=by cases e:B.contains a;rfl;exact absurd (bW.mp e) h2
  rw[Y,Bool.not_false,Bool.true_and,bc];intro o Z;rw[bW];by_cases z:o∈B
  ·exact z
  ·exact absurd ⟨o,z,zhG.mp Z⟩ D
def zf8  : FV:=λPn F n R=>∃ (rm:List Int) (E:List (Int×Int)),F=[.d (stD rm),.d (.lst (E.map yn))]/\(∀q∈E,0<=q.1/\q.1<rm.length/\0<=q.2/\q.2<rm.length)/\(rm.length<=8)/\(E.length<=1000)/\((∀B,B.length<=8->zlU E rm.length rm.length []=some B->R (.d (.tup [.str "order",lsD B])) n)/\(∀D,zlU E rm.length rm.length []=none->IsRd E D->R (.d (.tup [.str "ring",lsD D])) n))
def zf8.i{rm:List Int}{E:List (Int×Int)}(I:∀q∈E,0<=q.1/\q.1<rm.length/\0<=q.2/\q.2<rm.length)(J:rm.length<=8)(D:E.length<=1000)(h:(∀B,B.length<=8->zlU E rm.length rm.length []=some B->R (.d (.tup [.str "order",lsD B])) n)/\(∀F,zlU E rm.length rm.length []=none->IsRd E F->R (.d (.tup [.str "ring",lsD F])) n))  : zf8 Pn [.d (stD rm),.d (.lst (E.map yn))] n R:=⟨rm,E,rfl,I,J,D,h⟩
def uQ (T:Txt K mg t):FnOk P w K mg base CX0 3 t.f27 t.d27 lA (spV 2 false zf8):=by
 have G24:=zbI (P:=P) (w:=w) (base:=base) T
 refine Fun.okW (k:=2) (fr:=false) [3] 3 T.q27.F xj rfl (by decide) rfl λal A Z s H E Pn L=>⟨_,(zb (wS zp <| zy (i:=2) xj.nd (zn4 (zfl (uF L) (z := "box") (N:=["box","pairs"]) (cix:=[none,some 1]) rfl (by walk_at "c") (wI yx <| zO rfl T.b_range (zh (JE.bo (zN yo x9 (by rfl) T.b_len aR (zh (kb 0) zm))) zm)) (λ_ _ _ _ _=>(wG zt <| zf (i:=0) (show (["box","pairs"]:List Str).Nodup by decide +kernel))) (λ_ _ _ _ _=>yw) (λ_ _ _ _ _=>(kb 0)) (λ_ _ _ _ _=>(xn (N:=lO) (cix:=[none,none,some 0]) rfl (by walk_at "c") (wI yi <| yh K rfl (kv 1)) (λ_ _ _ _=>(wG yV <| yX (n:=2) K rfl rfl (wH zA <| zn (wG zt <| zf (i:=0) (show (lO:List Str).Nodup by decide +kernel)) (wH zA <| zn (wG zt <| zf (i:=1) (show (lO:List Str).Nodup by decide +kernel)) (wH yU yg))))) (λ_ _ _ _=>(xo (wT zr <| zB x8 zc0 (kb 0) (kb 2) (zC _)))) (λ_ _ _ _=>(kv 1)))))))
   (zb (wS yD <| xx (i:=3) xj.nd (xG zc))
   (zb (zd9 aI (wT zr <| zB zkV zuv (JE.bo (zN yo x9 (by rfl) T.b_len aR (zh (kb 3) zm))) (JE.bo (zN yo x9 (by rfl) T.b_len aR (zh (kb 0) zm))) (zC _)) (zb (wS zp <| zcr (i:=4) (zaZ (ix:=4) xj.nd rfl rfl (N:=["box","row","ahead"]) (cix:=[none,some 3,some 2]) rfl (by walk_at "c") (zvk (kv 2)) (λ_ _ _ _=>(wG zt <| zf (i:=0) (show (["box","row","ahead"]:List Str).Nodup by decide +kernel))) (λ_ _ _ _=>(xo (JW.t (wW u9 <| zbD (wT zr <| zB uf zb2 (kb 0) (kb 1) (by with_unfolding_all rfl)) (zax (.inl rfl) (wT zr <| zkf (JE.bo (zN (znO rfl) ztP (by rfl) T.b_all PyProof.Rows.boot_all (zh (JE.bo (xn (N:=["other","row"]) (cix:=[none,some 1]) rfl (by walk_at "c") (wI yi <| yh K rfl (zkb (uF L) (kb 2) (kb 0) (λ_ _=>rfl))) (λ_ _ _ _=>(wG zt <| zf (i:=0) (show (["other","row"]:List Str).Nodup by decide +kernel))) (λ_ _ _ _=>yw) (λ_ _ _ _=>(zrY zfH ztR (kb 0) (kb 1) (by with_unfolding_all rfl))))) zm))))))))) (λ_ _ _ _=>(kv 0))))
   (zb (wS zJ <| y2 (wT zkx <| zn6 (wT zgE <| zea (kb 4))) (ze (zL (yH (za zfm (za (wE zo <| yv T.q24 G24 L (za (kv 2) zc)) zc))))) zR)
   (ze (wS ul <| zaw 3 (zau xk zbA (kb 4) (JE.bo zE) (λ_ _=>rfl)))))))
   (ze (zpk 3 zfm))))),λws n R hF=>?_⟩
 obtain⟨rm,E,rfl,hE,h8,O,r⟩:=hF;left;obtain⟨rO,rR⟩:=r;rw[ab];refine⟨⟨by lia,by lia⟩,?_⟩;generalize em:rm.length=m at *;rw[yZ,aL];have e0:((List.range m).map λk:Nat=>W.d (.int (k:Int)))=(zj (m:Int)).map λi=>W.d (.int i):=by unfold zj;rw[am,aL];rfl
 rw[e0];have an:(zj (m:Int)).length=m:=by rw[zW];lia
 refine zdY (zj (m:Int)) rfl (λρ=>∃a,ρ=[a,some (.d (.lst (E.map yn)))]) (λ_=>true) (λh=>lsD (zbi E h)) (x4 _) (ar (by lia:_<=100) (by decide)) ⟨_,rfl⟩ ?_ ?_
 ·rintro h hh ap ⟨a,rfl⟩ C hY as;left;refine uC E (λq=>W.d (yn q)) (by rw[am];rfl) (λρ=>∃u v,ρ=[u,v,some (.d (.int h))]) (λq=>decide (q.1=h)) (λq=>.int q.2) (ar O (by decide)) ⟨_,_,rfl⟩ ?_ ?_
  ·rintro q hq ac ⟨u,v,rfl⟩ D dY Y;left;exact xZ (λz=>dY (aY z) ⟨_,_,rfl⟩) (λz=>Y (aX z) ⟨_,_,rfl⟩)
  ·rw[show (E.filter λq=>decide (q.1=h)).map (λq=>Dt.int q.2)=(zbi E h).map Dt.int by unfold zbi;rw[am];rfl];exact hY rfl ⟨_,rfl⟩
 rw[c8.mpr λ_ _=>rfl];left;refine zlP (λk ρ n'=>n'=n/\∃ (I:List Int) (v4:Option W),k=m - I.length/\ρ=[some (.d (stD rm)),some (.d (.lst (E.map yn))),some (.kf (ldK (zj (m:Int)) (zbi E))),some (.d (lsD I)),v4]/\I.length<=m/\zlU E m (m - I.length) I=zlU E m m []) m ⟨rfl,[],none,rfl,rfl,aJ _,rfl⟩ ?_;rintro k ρ n' ⟨rfl,I,v4,rfl,rfl,av,J⟩ C B X hC hB hX;left;rw[ab,ab,em];refine xZ (λU=>?_) (λa0=>?_)
 ·have U:I.length<m:=by lia
  left;refine⟨zj (m:Int),zec,?_⟩;refine uC (zj (m:Int)) (λb=>W.d (.int b)) rfl (λρ=>∃u,ρ=[u,some (.d (lsD I)),some (.kf (ldK (zj (m:Int)) (zbi E)))]) (λb=>!I.contains b&&(zbi E b).all λo=>I.contains o) (λb=>.int b) (ar (by lia:_<=100) (by decide)) ⟨_,rfl⟩ ?_ ?_
  ·rintro b hb ac ⟨u,rfl⟩ D dY Y;have a1:=zh5 E b;left;refine⟨I,rfl,?_⟩;left;refine zoe (λhn=>?_) (λhn=>?_)
   ·left;refine xM (zak hb) ?_;left;refine zas (zbi E b) (λo=>W.d (.int o)) (by rw[am];rfl) (λρ=>∃v,ρ=[v,some (.d (lsD I))]) (λo=>.bl (I.contains o)) (ar (by lia:_<=1000) (by decide)) ⟨_,rfl⟩ ?_ ?_
    ·rintro o ho a2 ⟨v,rfl⟩ F hF;left;refine⟨I,rfl,?_⟩;left;exact hF ⟨_,rfl⟩
    left;refine⟨(zbi E b).map λo=>I.contains o,by rw[am];rfl,?_⟩;rw[show ((zbi E b).map λo=>I.contains o).all id=(zbi E b).all λo=>I.contains o by rw[List.all_map];rfl];left;refine zbX (λz=>?_) (λz=>?_)
    ·left;exact dY (by rw[z,hn];rfl) ⟨_,rfl⟩
    ·exact Y (by rw[z,dz]) ⟨_,rfl⟩
   ·left;exact Y (by rw[hn];rfl) ⟨_,rfl⟩
  have e9:((zj (m:Int)).filter λb=>!I.contains b&&(zbi E b).all λo=>I.contains o)=zjK E m I:=rfl;rw[e9];left;have hk:m - I.length=(m - (I.length+1))+1:=by lia
  cases ef:zjK E m I with
  | nil=>
   have ad:=zwb hE U ef;with_reducible refine zgO ?_ ?_
   ·rfl
   left;refine zrg.i hE (by lia) O ⟨λz=>absurd ad z,λrd L _=>?_⟩;left;refine hX (rR rd ?_ L);rw[<- J,hk];unfold zlU;rw[ef]
  | cons b r=>
   with_reducible refine zcD ?_ ?_
   ·rfl
   left;have h0:atI ((b::r).map Dt.int) 0=some (.int b):=zbC (i:=0) rfl;refine xM h0 ?_;left;refine⟨aW (by rw[ab];lia:_<=8) (by decide),?_⟩;have e2:I.map Dt.int++[Dt.int b]=(I++[b]).map Dt.int:=by rw[az];rfl
   rw[e2];refine hC (m - (I++[b]).length) (by rw[ai];simp;lia) ⟨rfl,I++[b],_,rfl,rfl,by rw[ai];simp;lia,?_⟩;rw[ai,List.length_singleton,<- J,hk,zlU,ef]
 ·have ag:I.length=m:=by lia
  refine hB ?_;left;refine rO I (by lia) ?_;rw[<- J,ag,eS];rfl
def zc8 (rm:List Int)(bk:List Wi):List (Int×Int):=(xK rm bk).map λr=>(r.getD 0 0,r.getD 1 0)
def zjU {rm:List Int}{bk:List Wi}:(xK rm bk).map stD=(zc8 rm bk).map yn:=by
 unfold zc8;rw[am];refine bJ λr q=>?_;have:=zcl q
 match r,this with
 | [a,b],_=>rfl
def zhv{rm:List Int}:∀q∈zc8 rm bk,0<=q.1/\q.1<rm.length/\0<=q.2/\q.2<rm.length:=λq B=>by obtain⟨r,D,rfl⟩:=aC.mp B;obtain⟨b,o,h1,h2,_,rfl⟩:=x5.mp D;simp;lia
def zfe {rm:List Int}{bk:List Wi}(q:RoomOk rm):(zc8 rm bk).length<=1000:=by unfold zc8;rw[ab];have:=zff (bk:=bk) q;lia
def ziy (rm:List Int)(bk:List Wi):Option (List Int):=zlU (zc8 rm bk) rm.length rm.length []
def zl1  : FV:=λPn D n R=>∃ (rm:List Int) (bk:List Wi),D=[.d (stD rm),.d (yK bk)]/\(RoomOk rm)/\(ya rm bk)/\(bk.length<=1000)/\((∀q,q.length<=8->ziy rm bk=some q->R (.d (.tup [.str "order",lsD q])) n)/\(∀B,ziy rm bk=none->IsRd (zc8 rm bk) B->R (.d (.tup [.str "ring",lsD B])) n))
def zl1.i{rm:List Int}(D:RoomOk rm)(F:ya rm bk)(I:bk.length<=1000)(h:(∀q,q.length<=8->ziy rm bk=some q->R (.d (.tup [.str "order",lsD q])) n)/\(∀B,ziy rm bk=none->IsRd (zc8 rm bk) B->R (.d (.tup [.str "ring",lsD B])) n))  : zl1 Pn [.d (stD rm),.d (yK bk)] n R:=⟨rm,bk,rfl,D,F,I,h⟩
def zkQ (T:Txt K mg t):FnOk P w K mg base CX0 5 t.f28 t.d28 lc (spV 2 false zl1):=by have G22:=zfD (P:=P) (w:=w) (base:=base) T;have G27:=uQ (P:=P) (w:=w) (base:=base) T;refine Fun.okW (k:=4) (fr:=false) [] 0 T.q28.F znr rfl (by decide) rfl λI A q s H E Pn D=>⟨_,(ze (zL (wE zo <| yv T.q27 G27 D (za (kv 0) (za (wE zo <| yv T.q22 G22 D (za (kv 0) (za (kv 1) zc))) zc))))),λU n R J=>?_⟩;obtain⟨rm,bk,rfl,B,L,O,r⟩:=J;left;refine znF.i B L O ?_;left;show zf8 Pn [.d (stD rm),.d (.lst ((xK rm bk).map stD))] n R;rw[zjU];exact zf8.i zhv B.few (zfe B) r
structure Rw where
 st:List Int
 b:Int
 m:Nat
 E:List (Int×Int)
@[reducible] def rwD (r:Rw):Dt:=.tup [.tup [stD r.st,.int r.b],.int (r.m:Int),.lst (r.E.map yn)]
structure RwOk (r:Rw):Prop where
 ok:∀q∈r.E,0<=q.1/\q.1<r.m/\0<=q.2/\q.2<r.m
 m:r.m<=100
 few:r.E.length<=1000
noncomputable def ze9 (q:List Rw):Option Rw:=q.find? λr=>@decide (Cyc r.E) (Classical.propDecidable _)
def zhq (q:List Rw):Option Rw:=q.find? λr=>decide ((zg5 r.E r.m).length≠1)
def zcY (q:List Rw):Dt:=match zhq q with
 | some r=>.tup [.str "tops",stD r.st,.int r.b,lsD (zg5 r.E r.m)]
 | none=>.non
def zuA (q:List Rw)(d:Dt):Prop:=(∃r B,ze9 q=some r/\IsRd r.E B/\d = .tup [.str "round",stD r.st,.int r.b,lsD B])\/(ze9 q=none/\d=zcY q)
def zgm {α:Type}{p:α->Bool}:∀ {l:List α} {i:Nat} {a:α},(∀x∈l.take i,p x=false)->l[i]?=some a->p a=true->l.find? p=some a
 | x::l,0,a,_,h,q=>by simp at h;subst h;simp[q]
 | x::l,i+1,a,B,h,q=>by rw[bq,B x (by simp)];exact zgm (i:=i) (λy D=>B y (by simp[D])) (by simpa using h) q
def zf0{α:Type}{P:α->Prop}{l:List α}{a:α}(h:∀x∈l.take i,P x)(e:l[i]?=some a)(B:P a):∀x∈l.take (i+1),P x:=λx q=>by
 rw[zl e] at q;rcases aG.mp q with z | z
 ·exact h x z
 ·rw[aB.mp z];exact B
def zjG(h:∀x∈q.take i,¬ Cyc x.E)(e:q[i]?=some a)(B:Cyc a.E):ze9 q=some a:=zgm (λx D=>@aX _ (Classical.propDecidable _) (h x D)) e (@aY _ (Classical.propDecidable _) B)
def zjH(h:∀x∈q.take q.length,¬ Cyc x.E):ze9 q=none:=by rw[ba] at h;exact dl.mpr λx B=>by simpa using h x B
def zt7  : FV:=λPn B n R=>∃ (q:List Rw),B=[.d (.lst (q.map rwD))]/\(∀r∈q,RwOk r)/\(∀d,zuA q d->R (.d d) n)
def zt7.i(B:∀r∈q,RwOk r)(h:∀d,zuA q d->R (.d d) n)  : zt7 Pn [.d (.lst (q.map rwD))] n R:=⟨q,rfl,B,h⟩
def zbu (T:Txt K mg t):FnOk P w K mg base CX0 4 t.f29 t.d29 ["rows"] (spV 1 false zt7):=by
 have G25:=zfE (P:=P) (w:=w) (base:=base) T;have G26:=zgN (P:=P) (w:=w) (base:=base) T
 refine Fun.okW (k:=3) (fr:=false) [] 4 T.q29.F zI rfl (by decide) rfl λal A ad s H E Pn hr=>⟨_,(zb (yp aI rfl (wI yi <| yh K rfl (kv 0)) (wG yV <| yX (n:=3) K rfl rfl (wH zA <| zn (wG zt <| zf (i:=1) zI.nd) (wH zA <| zn (wG zt <| zf (i:=2) zI.nd) (wH zA <| zn (wG zt <| zf (i:=3) zI.nd) (wH yU yg))))) (zb (wS zp <| zy (i:=4) zI.nd (wE zo <| yv T.q25 G25 hr (za (kv 2) (za (kv 3) zc))))
   (ze (wS zJ <| y2 (wT zr <| zke (kb 4)) (ze (zL (uP yE xD (JE.bo (uP yE xD (JE.bo (yH (za zfm zc))) (kb 1))) (JE.bo (yH (za (kv 4) zc)))))) zR))))
   (zb (yp aI rfl (wI yi <| yh K rfl (kv 0)) (wG yV <| yX (n:=3) K rfl rfl (wH zA <| zn (wG zt <| zf (i:=1) zI.nd) (wH zA <| zn (wG zt <| zf (i:=2) zI.nd) (wH zA <| zn (wG zt <| zf (i:=3) zI.nd) (wH yU yg))))) (zb (wS zp <| zy (i:=4) zI.nd (wE zo <| yv T.q26 G26 hr (za (kv 2) (za (kv 3) zc))))
   (ze (wS zJ <| y2 (wT zr <| zB zix zrb (JE.bo (zN yo x9 (by rfl) T.b_len aR (zh (kb 4) zm))) (JE.bo zE) (zC _)) (ze (zL (uP yE xD (JE.bo (uP yE xD (JE.bo (yH (za zfm zc))) (kb 1))) (JE.bo (yH (za (kv 4) zc)))))) zR))))
   (ze (zL zpg)))),λws n R hF=>?_⟩
 obtain⟨q,rfl,hr,r⟩:=hF;left;refine zY q (λr=>W.d (rwD r)) (by rw[am];rfl) (λi ρ m=>m=n/\(∀x∈q.take i,¬ Cyc x.E)/\∃L O U Y,ρ=[some (.d (.lst (q.map rwD))),L,O,U,Y]) ⟨rfl,by simp,_,_,_,_,rfl⟩ ?_ ?_
 ·rintro i x ρ m I ⟨rfl,J,L,O,U,Y,rfl⟩ C B X hC _ hX;have Z:=hr x (au I);left;refine zub.i Z.ok Z.m Z.few ⟨λhn=>?_,λrd h1 h2=>?_⟩
  ·left;with_reducible refine zgO ?_ ?_
   ·rfl
   left;exact hC ⟨rfl,zf0 J I hn,_,_,_,_,rfl⟩
  ·left;with_reducible refine zcD ?_ ?_
   ·rfl
   left;refine⟨show 3<=lim by decide,?_⟩;left;refine⟨show 4<=lim by decide,?_⟩;exact hX (r _ (.inl ⟨x,rd,zjG J I h2,h1,rfl⟩))
 ·rintro ρ m ⟨rfl,J,L,O,U,Y,rfl⟩;have ac:=zjH J;left;refine zY q (λr=>W.d (rwD r)) (by rw[am];rfl) (λi ρ m'=>m'=m/\(∀x∈q.take i,decide ((zg5 x.E x.m).length≠1)=false)/\∃L O U Y,ρ=[some (.d (.lst (q.map rwD))),L,O,U,Y]) ⟨rfl,by simp,_,_,_,_,rfl⟩ ?_ ?_
  ·rintro i x ρ m' I ⟨rfl,D,L,O,U,Y,rfl⟩ C B X hC _ hX;have Z:=hr x (au I);left;refine zuc.i Z.m Z.few ?_;left;rw[ab];refine zkR (λag=>?_) (λhe=>?_)
   ·left;refine⟨show 3<=lim by decide,?_⟩;left;refine⟨show 4<=lim by decide,?_⟩;refine hX (r _ (.inr ⟨ac,?_⟩));unfold zcY zhq;rw[zgm D I (aY λz=>ag (by lia))];rfl
   ·left;exact hC ⟨rfl,zf0 D I (aX λz=>z (by lia)),_,_,_,_,rfl⟩
  ·rintro ρ m' ⟨rfl,D,L,O,U,Y,rfl⟩;rw[ba] at D;left;refine r _ (.inr ⟨ac,?_⟩);unfold zcY zhq;rw[dl.mpr λx I=>by rw[D x I];decide]
def uy (rm:List Int)(bk:List Wi):List Rw:=(yQ (rm.map zj)).flatMap λst=>(List.range rm.length).map λb:Nat=>⟨st,(b:Int),(z9 rm (b:Int)).toNat,lpE bk (b:Int) st⟩
def zlm{rm:List Int}(B:RoomOk rm)(D:ya rm bk):∀r∈uy rm bk,RwOk r:=λr I=>by
 obtain⟨st,_,h⟩:=cH.mp I;obtain⟨b,F,rfl⟩:=aC.mp h;have F:=aM.mp F;have L:=yk B.box (b:=(b:Int)) (by lia) (by lia);refine⟨λq J=>?_,?_,?_⟩
 ·have:=zsg D q J;simp only;lia
 ·simp only;lia
 ·have:=zpq (box:=(b:Int)) (st:=st) B D;simp only;lia
def zhr {α q:Type}{f:α->List q}{k:Nat}:∀ {l:List α},(∀a∈l,(f a).length=k)->(l.flatMap f).length=l.length * k
 | [],_=>by simp
 | a::l,h=>by rw[dy,ai,h a ak,zhr λb B=>h b (ao _ B),a8,eU,Nat.add_comm]
def znn{rm:List Int}:((yQ (rm.map zj)).flatMap λst=>(List.range rm.length).map λb:Nat=>rwD ⟨st,(b:Int),(z9 rm (b:Int)).toNat,lpE bk (b:Int) st⟩)=(uy rm bk).map rwD:=by unfold uy;rw[List.map_flatMap];refine congrArg (λf=>List.flatMap f _) (funext λst=>?_);rw[am];rfl
def zl5 (rm:List Int)(bk:List Wi)(d:Dt):Prop:=(∃q,ziy rm bk=none/\IsRd (zc8 rm bk) q/\d = .tup [.str "hangs",lsD q])\/(ziy rm bk≠none/\zuA (uy rm bk) d)
def zt9  : FV:=λPn q n R=>∃ (rm:List Int) (bk:List Wi),q=[.d (stD rm),.d (yK bk)]/\(RoomOk rm)/\(ya rm bk)/\(bk.length<=1000)/\((yQ (rm.map zj)).length<=256)/\(∀d e,zl5 rm bk d->R (.d (.tup [d,e])) n)
def zt9.i{rm:List Int}(q:RoomOk rm)(B:ya rm bk)(D:bk.length<=1000)(F:(yQ (rm.map zj)).length<=256)(h:∀d e,zl5 rm bk d->R (.d (.tup [d,e])) n)  : zt9 Pn [.d (stD rm),.d (yK bk)] n R:=⟨rm,bk,rfl,q,B,D,F,h⟩
def za5 (T:Txt K mg t):FnOk P w K mg base CX0 5 t.f30 t.d30 lc (spV 2 false zt9):=by
 have G20:=xY (P:=P) (w:=w) (base:=base) T;have G21:=zbH (P:=P) (w:=w) (base:=base) T;have G27:=uQ (P:=P) (w:=w) (base:=base) T;have G29:=zbu (P:=P) (w:=w) (base:=base) T
 refine Fun.okW (k:=4) (fr:=false) [] 4 T.q30.F ym rfl (by decide) rfl λZ A I s H E Pn D=>⟨_,(zb (wS zp <| zy (i:=2) ym.nd (wE zo <| yv T.q20 G20 D (za (kv 0) (za (kv 1) zc))))
   (zb (zfn (wE zo <| yv T.q27 G27 D (za (kv 0) (za (wE zo <| yv T.q21 G21 D (za (kv 0) (za (kv 2) zc))) zc))) (wG yV <| yX (n:=2) K rfl rfl (wH zA <| zn (wG zt <| zf (i:=3) ym.nd) (wH zA <| zn (wG zt <| zf (i:=4) ym.nd) (wH yU yg)))))
   (zb (wS zJ <| y2 (wT zr <| zB x8 zc0 (kb 3) (JE.bo zfm) (zC _)) (ze (zL (yH (za (yH (za zfm (za (kv 4) zc))) (za zpg zc))))) zR)
   (zb (wS zp <| zcr (i:=5) (zkc (ix:=5) ym.nd rfl rfl (N:=lj) (cix:=[none,none,none,some 0,some 2]) rfl (by walk_at "c") (zr2 (kv 2)) (λ_ _ _ _=>(wG zt <| zf (i:=0) (show (lj:List Str).Nodup by decide +kernel))) (λ_ _ _ _=>yw) (λ_ _ _ _=>(wI za2 <| zaY rfl T.b_enumerate (za (zgx (uF D) (kb 4) (kb 0) (λ_ _=>rfl)) zc))) (λ_ _ _ _=>(wG yV <| yX (n:=2) K rfl rfl (wH zA <| zn (wG zt <| zf (i:=1) (show (lj:List Str).Nodup by decide +kernel)) (wH zA <| zn (wG zt <| zf (i:=2) (show (lj:List Str).Nodup by decide +kernel)) (wH yU yg))))) (λ_ _ _ _=>yw) (λ_ _ _ _=>(yH (za (yH (za (kv 0) (za (kv 1) zc))) (za (zau xl uO (kb 3) (kb 1) (λ_ _=>rfl)) (za (kv 2) zc)))))))
   (ze (zL (yH (za (wE zo <| yv T.q29 G29 D (za (kv 5) zc)) (za (kv 4) zc))))))))),λws n R hF=>?_⟩
 obtain⟨rm,bk,rfl,q,J,hl,hq,r⟩:=hF;left;refine ziO.i q J hl ?_;left;refine zrd.i q J ?_;left;show zf8 Pn [.d (stD rm),.d (.lst ((xK rm bk).map stD))] n _;rw[zjU];refine zf8.i zhv q.few (zfe q) ⟨λac ad L=>?_,λrd L O=>?_⟩
 ·left;with_reducible refine zgO ?_ ?_
  ·decide
  left;intro _;have h8:=q.few;refine zoH (yQ (rm.map zj)) (λst=>W.d (stD st)) (by unfold ziN;rw[am];rfl) (List.range rm.length) (λst (k:Nat)=>W.d (.tup [.int (k:Int),lpD bk (k:Int) st])) (λρ=>∃a b c,ρ=[a,b,c,some (.d (stD rm)),some (.df (ziN rm bk))]) (λst ρ=>∃b c,ρ=[some (.d (stD st)),b,c,some (.d (stD rm)),some (.df (ziN rm bk))]) (λst (k:Nat)=>rwD ⟨st,(k:Int),(z9 rm (k:Int)).toNat,lpE bk (k:Int) st⟩) ?_ ⟨_,_,_,rfl⟩ ?_ ?_ ?_ ?_
  ·rw[zhr (k:=rm.length) λa _=>by rw[ab,ax]];exact ar (eC hq h8) (by decide)
  ·rintro st B ρ ⟨a,b,c,rfl⟩ C U;left;refine⟨st,rfl,xM (zb4 (xS _ _ B)) ?_⟩;left;rw[zjv];exact U ⟨_,_,rfl⟩
  ·rintro st B k Y ρ ⟨b,c,rfl⟩ C U;have Y:=aM.mp Y;have hm:=yk q.box (b:=(k:Int)) (by lia) (by lia);left;refine onA (by lia) (by lia) ?_;left
   have e7:rwD ⟨st,(k:Int),(z9 rm (k:Int)).toNat,lpE bk (k:Int) st⟩ = .tup [.tup [stD st,.int (k:Int)],.int (z9 rm (k:Int)),lpD bk (k:Int) st]:=by unfold rwD;rw[show (((z9 rm (k:Int)).toNat:Nat):Int)=z9 rm (k:Int) by lia]
   rw[<- e7];exact U ⟨_,_,rfl⟩
  ·rintro st B ρ ⟨b,c,rfl⟩;exact⟨_,_,_,rfl⟩
  ·left;rw[znn];refine zt7.i (zlm q J) λd hd=>?_;left;exact r _ _ (.inr ⟨(λz=>by rw[ziy,L] at z;cases z),hd⟩)
 ·left;with_reducible refine zcD ?_ ?_
  ·decide
  left;exact r _ _ (.inl ⟨rd,L,O,rfl⟩)
def ziR  : FV:=λPn q n R=>∃ (rm:List Int) (bk:List Wi),q=[.d (stD rm),.d (yK bk)]/\(RoomOk rm)/\(ya rm bk)/\(bk.length<=1000)/\((yQ (rm.map zj)).length<=256)/\(∀d,zl5 rm bk d->R (.d d) n)
def ziR.i{rm:List Int}(q:RoomOk rm)(B:ya rm bk)(D:bk.length<=1000)(F:(yQ (rm.map zj)).length<=256)(h:∀d,zl5 rm bk d->R (.d d) n)  : ziR Pn [.d (stD rm),.d (yK bk)] n R:=⟨rm,bk,rfl,q,B,D,F,h⟩
def zgM (T:Txt K mg t):FnOk P w K mg base CX0 6 t.f31 t.d31 lc (spV 2 false ziR):=by have G30:=za5 (P:=P) (w:=w) (base:=base) T;refine Fun.okW (k:=5) (fr:=false) [] 0 T.q31.F ziF rfl (by decide) rfl λB A q s H E Pn D=>⟨_,(ze (zL (zau xl uO (JE.bo (wE zo <| yv T.q30 G30 D (za (kv 0) (za (kv 1) zc)))) (JE.bo zE) (λ_ _=>rfl)))),λY n R I=>?_⟩;obtain⟨rm,bk,rfl,J,L,O,U,r⟩:=I;left;refine zt9.i J L O U λd e h=>?_;left;exact xM rfl (r d h)
def zha  : FV:=λPn B n R=>∃ (rm:List Int) (bk:List Wi) (q:Dt) (st:List Int),B=[.d q,.d (stD st)]/\(BkD bk q)/\(RoomOk rm)/\(ya rm bk)/\(st.length=rm.length)/\(R (.d (zaq (zl8 bk st []))) n)
def zha.i{rm:List Int}{st:List Int}(B:BkD bk q)(F:RoomOk rm)(I:ya rm bk)(D:st.length=rm.length)(h:R (.d (zaq (zl8 bk st []))) n)  : zha Pn [.d q,.d (stD st)] n R:=⟨rm,bk,q,st,rfl,B,F,I,D,h⟩
def zdc (T:Txt K mg t):FnOk P w K mg base CX0 1 t.f32 t.d32 ly (spV 2 true zha):=by
 refine Fun.okW (k:=0) (fr:=true) [2] 6 T.q32.F yy rfl (by decide) rfl λa0 A an s H E Pn hr=>⟨_,(zb (wS yD <| xx (i:=2) yy.nd (xG zc))
   (zb (yp aI rfl (wI zpx <| zr3 K rfl (kv 0)) (wG yV <| yX (n:=4) K rfl rfl (wH zA <| zn (wG zt <| zf (i:=3) yy.nd) (wH zA <| zn (wG zt <| zf (i:=4) yy.nd) (wH zA <| zn (wG zt <| zf (i:=5) yy.nd) (wH zA <| zn (wG zt <| zf (i:=6) yy.nd) (wH yU yg)))))) (ze (wS zJ <| y2 (JW.t (wW u9 <| zbD (wT zr <| zB x8 zc0 (JE.bo (zau xl uO (kb 1) (kb 4) (λ_ _=>rfl))) (kb 6) (zC _)) (zax (.inl rfl) (wT zr <| zkf (JE.bo (zN (znO rfl) ztP (by rfl) T.b_all PyProof.Rows.boot_all (zh (JE.bo (xn (N:=lu) (cix:=[none,none,some 1]) rfl (by walk_at "c") (wI um <| zav K rfl (kv 3)) (λ_ _ _ _=>(wG yV <| yX (n:=2) K rfl rfl (wH zA <| zn (wG zt <| zf (i:=0) (show (lu:List Str).Nodup by decide +kernel)) (wH zA <| zn (wG zt <| zf (i:=1) (show (lu:List Str).Nodup by decide +kernel)) (wH yU yg))))) (λ_ _ _ _=>yw) (λ_ _ _ _=>(zrY x8 zc0 (JE.bo (zau xl uO (kb 2) (kb 0) (λ_ _=>rfl))) (kb 1) (zC _))))) zm))))))) (zb (wS zp <| zy (i:=7) yy.nd (uP yE xD (JE.bo (uP yE xD (JE.bo (wE uo <| zc9 (kb 1) yS (wO yj <| yT (kb 4)))) (JE.bo (yH (za (kv 5) zc))))) (JE.bo (wE uo <| zc9 (kb 1) (wO yj <| yT (JE.bo (uP xi zcZ (kb 4) (JE.bo zE)))) yS))))
   (ze (wS zJ <| y2 (wT zr <| zB (zkW hr.units) zwh (kb 7) (kb 2) (by with_unfolding_all rfl)) (ze (wS ul <| zaw 2 (kv 7))) zR))) zR)))
   (ze (zL (zN zjd zlJ (by rfl) T.b_sorted bZ (zh (kb 2) zm)))))),λws n R hF=>?_⟩
 obtain⟨rm,bk,bd,st,rfl,ap,hR,hB,J,r⟩:=hF;left;have h8:=hR.few;refine zsx ap ?_;refine zY bk (λx=>W.d (zQ x)) (by rw[am];rfl) (λi ρ m=>m=n/\∃ (l:List (List Int)) (O U Y Z v7:Option W),ρ=[some (.d bd),some (.d (stD st)),some (.d (.lst (l.map stD))),O,U,Y,Z,v7]/\l.Nodup/\(∀z,z∈l↔z∈u6 (bk.take i) st [])) ⟨rfl,[],_,_,_,_,_,rfl,.nil,by simp[u6]⟩ ?_ ?_
 ·rintro i x ρ m hx ⟨rfl,l,O,U,Y,Z,v7,rfl,L,I⟩ C B E hC _ _;have hW:=hB x (au hx);have b0:=hW.b0;have b1:=hW.b1
  have as:∀q∈x.g,0<=q.1/\q.1<st.length:=λq hq=>by have:=hW.giv.ok q hq;rw[J];exact⟨this.1,this.2.1⟩
  have ac:zaK st x=false->∀O U Y Z v7,C [some (.d bd),some (.d (stD st)),some (.d (.lst (l.map stD))),O,U,Y,Z,v7] m:=λhg O U Y Z v7=>by refine hC ⟨rfl,l,_,_,_,_,_,rfl,L,λz=>?_⟩;rw[I z,zl hx,zdq,hg];simp
  left;refine onA b0 (by lia) ?_;left;refine xZ (λhw=>?_) (λhw=>⟨ac (by unfold zaK;rw[aX hw];rfl) _ _ _ _ _⟩);left;refine zas x.g (λq=>.d (yn q)) (by rw[am];rfl) (λρ=>∃a b,ρ=[a,b,some (.d (stD st))]) (λq=>.bl (decide (z9 st q.1=q.2))) (ar (zjM hW.giv h8) (by decide)) ⟨_,_,rfl⟩ ?_ ?_
  ·rintro q hq a1 ⟨a,b,rfl⟩ D hD;have hb:=as q hq;left;refine onA hb.1 hb.2 ?_;left;exact hD ⟨_,_,rfl⟩
  left;refine⟨x.g.map λq=>decide (z9 st q.1=q.2),by rw[am];rfl,?_⟩;rw[show (x.g.map λq=>decide (z9 st q.1=q.2)).all id=yY st x.g by unfold yY;rw[List.all_map];rfl];left;refine zbX (λhk=>?_) (λhk=>⟨ac (by unfold zaK;rw[hk,dz]) _ _ _ _ _⟩);have hg:zaK st x=true:=by unfold zaK;rw[aY hw,hk];rfl
  left;refine⟨zdS (by lia),?_⟩;left;refine⟨zdT (by lia),?_⟩;rw[zge b0 (by lia)];left;refine⟨zcd,zgz l,λb hb=>?_⟩;left
  have ad:∀z,z∈u6 (bk.take (i+1)) st []↔z∈u6 (bk.take i) st []\/z=chg st x.b x.r:=λz=>by rw[zl hx,zdq,hg];simp
  have ag:l.length<=32:=zaT (λy hy=>hB y (bR hy)) h8 hR.box L λz hz=>(I z).mp hz
  cases b with
  | true=>
   have av:=zkD.mp (hb.mp rfl);walk_at "cf";refine hC ⟨rfl,l,_,_,_,_,_,rfl,L,λz=>?_⟩;rw[ad z,I z];constructor
   ·exact .inl
   ·rintro (z1 | rfl)
    ·exact z1
    ·exact (I _).mp av
  | false=>
   have al:chg st x.b x.r∉l:=λz=>by have:=hb.mpr (zkD.mpr z);cases this
   walk_at "ct";refine⟨by rw[ab];exact aW ag (by decide),hC ⟨rfl,l++[chg st x.b x.r],_,_,_,_,_,by rw[az];rfl,?_,λz=>?_⟩⟩
   ·rw[dv];exact⟨L,by simp,λa ha c hc e=>al (by rw[<- aB.mp hc,<- e];exact ha)⟩
   ·rw[aG,aB,ad z,I z]
 ·rintro ρ m ⟨rfl,l,O,U,Y,Z,v7,rfl,L,I⟩;rw[ba] at I;left;refine⟨l,rm.length,rfl,?_,hR.pos,λz hz=>zaU hB J z ((I z).mp hz),L,λl' hp hu=>?_⟩
  ·have:=zaT hB h8 hR.box L λz hz=>(I z).mp hz;lia
  ·rw[show l'=zl8 bk st [] from zeG (zaU hB J) hu λz=>hp.mem_iff.trans (I z)];exact r
def Eqv (rm:List Int)(bk q:List Wi):Prop:=∀st,StOk rm st->∀t,t∈u6 bk st []↔t∈u6 q st []
def Eqv.symm{rm:List Int}(h:Eqv rm bk q):Eqv rm q bk:=λst B t=>(h st B t).symm
def Eqv.trans{rm:List Int}(h:Eqv rm a b)(k:Eqv rm b c):Eqv rm a c:=λst q t=>(h st q t).trans (k st q t)
def zjA{rm:List Int}(h:∀x,x∈bk↔x∈q):Eqv rm bk q:=λst _ t=>by rw[yW,yW];exact⟨λ⟨x,h1,h2⟩=>⟨x,(h x).mp h1,h2⟩,λ⟨x,h1,h2⟩=>⟨x,(h x).mpr h1,h2⟩⟩
def zfo {st:List Int}{g:List (Int×Int)}{b w:Int}(D:0<=b)(F:b<st.length)(I:∀q∈g,0<=q.1)(J:∀q∈g,q.1≠b):yY (chg st b w) g=yY st g:=by
 have e:∀q∈g,decide (z9 (chg st b w) q.1=q.2)=decide (z9 st q.1=q.2):=λq B=>by rw[xU D F (I q B),if_neg (J q B)]
 unfold yY;rw[bV,bc,bc];exact⟨λh q B=>by rw[<- e q B];exact h q B,λh q B=>by rw[e q B];exact h q B⟩
def zn9{rm:List Int}{st:List Int}{b w r:Int}(U:ya rm bk)(Y:StOk rm st)(B:0<=b)(b1:b<rm.length):[w,r]∈zaB bk b st↔(0<=w/\w<z9 rm b)/\w≠r/\chg (chg st b w) b r∈u6 bk (chg st b w) []:=by
 have Z:=Y.len;have J:∀ {v:Int},z9 (chg st b v) b=v:=λ{v}=>by rw[xU B (by lia) B,if_pos rfl]
 rw[xq,yW];constructor
 ·rintro⟨x,D,rfl,F,e⟩;have o:=U x D;injection e with e1 e;injection e with e2;subst e1 e2;refine⟨⟨o.w0,o.w1⟩,Ne.symm o.ne,x,D,?_,by simp,rfl⟩;unfold zaK;rw[J,zfo B (by lia) (λq L=>(o.giv.ok q L).1) o.apart,F];simp
 ·rintro⟨_,O,x,D,I,_,e⟩;have o:=U x D;have ac:(chg st b w).length=rm.length:=by rw[zaG B (by lia)];exact Z
  have hb:x.b=b:=by
   by_cases z:x.b=b
   ·exact z
   ·have h1:z9 (chg (chg st b w) b r) b=z9 (chg (chg st b w) x.b x.r) b:=by rw[e]
    rw[xU B (by lia) B,if_pos rfl,xU o.b0 (by have:=o.b1;lia) B,if_neg (Ne.symm z),J] at h1;exact absurd h1.symm O
  subst hb;unfold zaK at I;rw[a6,J] at I;have hw:=bC I.1;have h1:z9 (chg (chg st x.b w) x.b r) x.b=z9 (chg (chg st x.b w) x.b x.r) x.b:=by rw[e]
  rw[xU B (by lia) B,if_pos rfl,xU B (by lia) B,if_pos rfl] at h1;have F:=I.2;rw[zfo B (by lia) (λq L=>(o.giv.ok q L).1) o.apart] at F;exact⟨x,D,rfl,F,by rw[hw,h1]⟩
def zkr{rm:List Int}(h:Eqv rm bk q)(U:ya rm bk)(F:ya rm q){st:List Int}{b:Int}(I:StOk rm st)(J:0<=b)(L:b<rm.length):lpE bk b st=lpE q b st:=by
 unfold lpE lpF;rw[zcX (m:=2) xQ λz=>?_]
 have D:∀ {bk:List Wi},z∈zaB bk b st->∃w r,z=[w,r]:=λB=>by obtain⟨x,_,_,_,e⟩:=xq.mp B;exact⟨_,_,e⟩
 have key:∀w r,[w,r]∈zaB bk b st↔[w,r]∈zaB q b st:=λw r=>by rw[zn9 U I J L,zn9 F I J L];refine and_congr_right λO=>and_congr_right λ_=>h _ (zao I J L O.1 O.2) _
 constructor
 ·intro B;obtain⟨w,r,rfl⟩:=D B;exact (key w r).mp B
 ·intro B;obtain⟨w,r,rfl⟩:=D B;exact (key w r).mpr B
def zfd {rm:List Int}{bk q:List Wi}(h:Eqv rm bk q)(F:ya rm bk)(B:ya rm q)(J:RoomOk rm){b o:Nat}(L:b<rm.length)(O:o<rm.length):zbn rm bk b o=zbn rm q b o:=by
 have U:=yk J.box (b:=(o:Int)) (by lia) (by lia)
 have e:∀st∈yQ (rm.map zj),zhn bk b o st=zhn q b o st:=λst D=>by have I:=xS _ _ D;unfold zhn;rw[zkr h F B I (by lia) (by lia),zkr h F B (zao I (b:=(o:Int)) (by lia) (by lia) (Int.le_refl 0) (by lia)) (by lia) (by lia)]
 unfold zbn zmZ;congr 1;rw[bV,cY,cY];exact⟨λ⟨st,h1,h2⟩=>⟨st,h1,by rw[<- e st h1];exact h2⟩,λ⟨st,h1,h2⟩=>⟨st,h1,by rw[e st h1];exact h2⟩⟩
def zjV {rm:List Int}{bk q:List Wi}(h:Eqv rm bk q)(D:ya rm bk)(B:ya rm q)(F:RoomOk rm):xK rm bk=xK rm q:=by refine zjW (zeN _ _ _) λz=>?_;unfold xK;rw[x5,x5];exact⟨λ⟨b,o,h1,h2,h3,h4⟩=>⟨b,o,h1,h2,by rw[<- zfd h D B F h1 h2];exact h3,h4⟩,λ⟨b,o,h1,h2,h3,h4⟩=>⟨b,o,h1,h2,by rw[zfd h D B F h1 h2];exact h3,h4⟩⟩
def zdp {α q:Type}{f g:α->List q}:∀ {l:List α},(∀a∈l,f a=g a)->l.flatMap f=l.flatMap g
 | [],_=>rfl
 | a::l,h=>by rw[dy,dy,h a ak,zdp λb B=>h b (ao _ B)]
def zno{rm:List Int}(h:Eqv rm bk q)(I:ya rm bk)(B:ya rm q):uy rm bk=uy rm q:=
 zdp λst D=>bJ λb F=>by have F:=aM.mp F;rw[zkr h I B (xS _ _ D) (by lia) (by lia)]
noncomputable def zie (rm:List Int)(bk:List Wi):Dt:=match ziy rm bk with
 | none=>.tup [.str "hangs"]
 | some _=>match ze9 (uy rm bk) with
  | some r=>.tup [.str "round",stD r.st,.int r.b]
  | none=>zcY (uy rm bk)
noncomputable def zbz (rm:List Int)(bk:List Wi):Dt:=.tup [zaq (xK rm bk),.str (match ziy rm bk with | none => "ring" | some _ => "order"),lsD ((ziy rm bk).getD []),zie rm bk]
def zny{rm:List Int}(h:Eqv rm bk q)(D:ya rm bk)(B:ya rm q)(F:RoomOk rm):zbz rm bk=zbz rm q:=by unfold zbz zie ziy zc8;rw[zjV h D B F,zno h D B]
def zmo{rm:List Int}{o:Int}(o0:0<=o)(o1:o<rm.length)(h1:∀y∈s,y.b=x.b/\y.r=x.r/\y.w=x.w/\(∀q∈x.g,q∈y.g))(h2:∀v,0<=v->v<z9 rm o->∃y∈s,∀q∈y.g,q∈x.g\/q=(o,v)):Eqv rm (a++x::c) (a++c++s):=λst hS t=>by
 rw[yW,yW]
 have J:∀ {y:Wi},zaK st y=true↔z9 st y.b=y.w/\∀q∈y.g,z9 st q.1=q.2:=λ{y}=>by unfold zaK yY;rw[a6,bc,decide_eq_true_iff];exact and_congr_right λ_=>⟨λh q D=>bC (h q D),λh q D=>aY (h q D)⟩
 constructor
 ·rintro⟨y,L,B,_,rfl⟩;by_cases z:y∈a++c
  ·exact⟨y,be _ z,B,by simp,rfl⟩
  ·have e:y=x:=by
    simp only[aG,aK] at L z;rcases L with q | q | q
    ·exact absurd (.inl q) z
    ·exact q
    ·exact absurd (.inr q) z
   subst e;have Y:=hS.box o o0 o1;obtain⟨Z,F,hk⟩:=h2 (z9 st o) Y.1 Y.2;obtain⟨I,O,U,_⟩:=h1 Z F;refine⟨Z,aV _ F,?_,by simp,by rw[I,O]⟩;have B:=J.mp B;refine J.mpr ⟨by rw[I,U];exact B.1,λq D=>?_⟩;rcases hk q D with z | rfl
   ·exact B.2 q z
   ·rfl
 ·rintro⟨y,L,B,_,rfl⟩;rcases aG.mp L with z | z
  ·exact⟨y,by simp only[aG,aK] at z ⊢;exact z.elim .inl λq=>.inr (.inr q),B,by simp,rfl⟩
  ·obtain⟨I,O,U,e4⟩:=h1 y z;have B:=J.mp B;exact⟨x,by simp,J.mpr ⟨by rw[<- I,<- U];exact B.1,λq D=>B.2 q (e4 q D)⟩,by simp,by rw[I,O]⟩
def zde (rm:List Int)(bk:List Wi):List Wi:=(yQ (rm.map zj)).flatMap λst=>(zl8 bk st []).map λt=>zc7 st t (zlT st t)
def zaS{rm:List Int}{st u:List Int}(O:ya rm bk)(J:StOk rm st)(U:u∈u6 bk st []):StOk rm u/\st≠u/\∃k:Nat,k<rm.length/\zlT st u=k/\u=chg st (k:Int) (u.getD k 0):=by
 obtain⟨y,Y,F,_,rfl⟩:=yW.mp U;have o:=O y Y;have hl:=J.len;have B:=o.b0;have Z:=o.b1;obtain⟨k,L⟩:∃k:Nat,y.b=(k:Int):=⟨y.b.toNat,by lia⟩;unfold zaK at F;rw[a6] at F;have hw:=bC F.1;have I:z9 (chg st y.b y.r) y.b=y.r:=by rw[xU B (by lia) B,if_pos rfl]
 have D:st≠chg st y.b y.r:=λz=>o.ne (by rw[<- hw,<- I,<- z]);refine⟨zao J B Z o.r0 o.r1,D,k,by lia,?_,?_⟩
 ·obtain⟨j,yf,hj,ac,q⟩:=zcc (by rw[zaG B (by lia)]) D;unfold zlT;rw[hj];show j=k;rw[<- zP,<- zP,xU B (by lia) (by lia)] at q;by_cases z:(j:Int)=y.b
  ·lia
  ·rw[if_neg z] at q;exact absurd rfl q
 ·rw[L] at I;rw[L,<- zP,I]
def zjL{rm:List Int}{s st u:List Int}(D:StOk rm s)(F:StOk rm st)(Y:k<rm.length):zaK s (zc7 st u k)=true↔s=st:=by
 have h1:=D.len;have h2:=F.len;unfold zaK yY zc7;simp only[a6,decide_eq_true_iff,bc];constructor
 ·rintro⟨I,J⟩;refine cW (by lia) λi L B=>?_
  have O:s.getD i 0=st.getD i 0:=by
   by_cases z:i=k
   ·subst z;rw[<- zP];exact I
   ·have:=J ((i:Int),st.getD i 0) (aC.mpr ⟨i,a9.mpr ⟨aM.mpr B,by simp[z]⟩,rfl⟩);rw[<- zP];exact this
  simpa [L,B] using O
 ·rintro rfl;refine⟨zP _ _,λq U=>?_⟩;obtain⟨i,_,rfl⟩:=aC.mp U;exact zP _ _
def zd0{rm:List Int}(Y:ya rm bk):Eqv rm bk (zde rm bk):=λs q t=>by
 constructor
 ·intro B;obtain⟨hT,F,k,I,J,L⟩:=zaS Y q B;refine yW.mpr ⟨zc7 s t k,cH.mpr ⟨s,zeH q,aC.mpr ⟨t,yC.mpr B,by rw[J]⟩⟩,(zjL q q I).mpr rfl,by simp,L⟩
 ·intro B;obtain⟨x,O,Z,_,rfl⟩:=yW.mp B;obtain⟨st,U,O⟩:=cH.mp O;obtain⟨u,D,rfl⟩:=aC.mp O;have hS:=xS _ _ U;have D:=yC.mp D;obtain⟨hT,F,k,I,J,L⟩:=zaS Y hS D;rw[J] at Z ⊢;have:=(zjL q hS I).mp Z;subst this;show chg s (k:Int) (u.getD k 0)∈_;rw[<- L];exact D
def zhZ{rm:List Int}(O:ya rm bk):ya rm (zde rm bk):=λx q=>by
 obtain⟨st,B,q⟩:=cH.mp q;obtain⟨u,U,rfl⟩:=aC.mp q;have D:=xS _ _ B;obtain⟨L,F,k,hk,e1,e2⟩:=zaS O D (yC.mp U);obtain⟨j,yf,Y,I,J⟩:=zcc (D.len.trans L.len.symm) F;have Z:zlT st u=j:=by unfold zlT;rw[Y];rfl
 rw[Z];exact zht D L I J
def zbo (k:Nat):∀ns:List Int,(Dt.toWs (ns.map .int)).all (PySem.W.kqdOk (k+1))=true
 | []=>rfl
 | n::ns=>by simp only[aA,Dt.toWs,cl,zbo k ns,cO];rfl
def zn7:∀sts:List (List Int),(Dt.toWs (sts.map stD)).all (PySem.W.kqdOk 6)=true
 | []=>rfl
 | n::ns=>by simp only[aA,Dt.toWs,cl,zn7 ns,cO];exact zbo 4 n
def zsd (rm:List Int)(bk:List Wi):PySem.W.kqdOk 7 (zie rm bk).toW=true:=by
 unfold zie zcY;split
 ·decide +kernel
 ·split
  ·rename_i r _;show (PySem.W.kqdOk 6 (Dt.str "round").toW&&((Dt.toWs (r.st.map .int)).all (PySem.W.kqdOk 5)&&true))=true;rw[zbo 4,show PySem.W.kqdOk 6 (Dt.str "round").toW=true by decide +kernel];rfl
  ·split
   ·rename_i r _;show (PySem.W.kqdOk 6 (Dt.str "tops").toW&&((Dt.toWs (r.st.map .int)).all (PySem.W.kqdOk 5)&&(true&&((Dt.toWs ((zg5 r.E r.m).map .int)).all (PySem.W.kqdOk 5)&&true))))=true;rw[zbo 4,zbo 4,show PySem.W.kqdOk 6 (Dt.str "tops").toW=true by decide +kernel];rfl
   ·rfl
def zqU (rm:List Int)(bk:List Wi):(zbz rm bk).eqOk:=by
 unfold Dt.eqOk zbz;show ((Dt.toWs ((xK rm bk).map stD)).all (PySem.W.kqdOk 6)&&(PySem.W.kqdOk 7 (Dt.str _).toW&&((Dt.toWs (((ziy rm bk).getD []).map .int)).all (PySem.W.kqdOk 6)&&(PySem.W.kqdOk 7 (zie rm bk).toW&&true))))=true;rw[zn7,zbo 5,zsd]
 cases ziy rm bk with
 | none=>rw[show PySem.W.kqdOk 7 (Dt.str "ring").toW=true by decide +kernel];rfl
 | some _=>rw[show PySem.W.kqdOk 7 (Dt.str "order").toW=true by decide +kernel];rfl
def znC(h:zQ x=zQ y):x=y:=by
 unfold zQ at h;simp only[Dt.tup.injEq,dU,Dt.int.injEq,and_true] at h;obtain⟨h1,h2,q,B⟩:=h;have:=zet h1;cases x;cases y
 simp_all
def zhg:∀ {a b:List Wi},a.map zQ=b.map zQ->a=b
 | [],[],_=>rfl
 | [],_::_,h=>by cases h
 | _::_,[],h=>by cases h
 | x::a,y::b,h=>by rw[aA,aA,dU] at h;rw[znC h.1,zhg h.2]
def zjI {α q:Type}{f:α->List q}{k:Nat}:∀ {l:List α},(∀a∈l,(f a).length<=k)->(l.flatMap f).length<=l.length * k
 | [],_=>by simp
 | a::l,h=>by have h1:=h a ak;have h2:=zjI (f:=f) λb (B:b∈l)=>h b (ao _ B);rw[dy,ai,a8,eU];lia
def zln {rm:List Int}{bk:List Wi}(B:RoomOk rm)(D:ya rm bk)(I:(yQ (rm.map zj)).length<=24):(zde rm bk).length<=768:=by
 have h1:(zde rm bk).length<=(yQ (rm.map zj)).length * 32:=zjI λst q=>by rw[ab];exact zaT D B.few B.box (zq0 (zan (zaU D (xS _ _ q).len))) λz F=>yC.mp F
 lia
def zl2  : FV:=λPn B n R=>∃ (p:Addr) (rm:List Int) (bk:List Wi),B=[.pen p,.d (stD rm),.d (yK bk)]/\(IsP Pn p)/\(n+100<=1000000)/\(RoomOk rm)/\(ya rm bk)/\(bk.length<=500)/\(∀q m,ya rm q->Eqv rm bk q->q.length<=bk.length+4->m<=n+2->R (.d (yK q)) m)
def zl2.i{rm:List Int}(B:IsP Pn p)(D:RoomOk rm)(F:ya rm bk)(I:bk.length<=500)(h:∀q m,ya rm q->Eqv rm bk q->q.length<=bk.length+4->m<=n+2->R (.d (yK q)) m)(J:n+100<=1000000:=by lia):zl2 Pn [.pen p,.d (stD rm),.d (yK bk)] n R:=⟨p,rm,bk,rfl,B,J,D,F,I,h⟩
def zcA (T:Txt K mg t):FnOk P w K mg base CX0 2 t.f33 t.d33 lb (spV 3 false zl2):=by
 have G1:=zU (P:=P) (w:=w) (base:=base) T
 refine Fun.okW (k:=1) (fr:=false) [11] 10 T.q33.F zG rfl (by decide) rfl λcdv A outer s H E Pn hr=>⟨_,(zb (wS zJ <| y2 (wT zr <| zB (zhO hr.units) znz (kb 2) (JE.bo (yH zc)) (zC _)) (ze (zL (kv 2))) zR)
   (zb (wS zp <| zy (i:=3) zG.nd (wE zo <| yv T.q1 G1 hr (za (kv 0) (za (zN yo x9 (by rfl) T.b_len aR (zh (kb 2) zm)) zc))))
   (zb (zfn (zau xl uO (kb 2) (kb 3) (λ_ _=>rfl)) (wG yV <| yX (n:=4) K rfl rfl (wH zA <| zn (wG zt <| zf (i:=4) zG.nd) (wH zA <| zn (wG zt <| zf (i:=5) zG.nd) (wH zA <| zn (wG zt <| zf (i:=6) zG.nd) (wH zA <| zn (wG zt <| zf (i:=7) zG.nd) (wH yU yg)))))))
   (zb (wS zp <| zy (i:=8) zG.nd (uP zgP zlG (JE.bo (xn (N:=lH) (cix:=[none,none]) rfl (by walk_at "c") (wI um <| zav K rfl (kv 4)) (λ_ _ _ _=>(wG yV <| yX (n:=2) K rfl rfl (wH zA <| zn (wG zt <| zf (i:=0) (show (lH:List Str).Nodup by decide +kernel)) (wH zA <| zn (wG zt <| zf (i:=1) (show (lH:List Str).Nodup by decide +kernel)) (wH yU yg))))) (λ_ _ _ _=>yw) (λ_ _ _ _=>(kv 0)))) (JE.bo (xG (za (kv 5) zc)))))
   (zb (wS zp <| zcr (i:=9) (zaZ (ix:=9) zG.nd rfl rfl (N:=["_law_one","_law_looks"]) (cix:=[none,some 8]) rfl (by walk_at "c") (wI yx <| zO rfl T.b_range (zh (JE.bo (zN yo x9 (by rfl) T.b_len aR (zh (kb 1) zm))) zm)) (λ_ _ _ _=>(wG zt <| zf (i:=0) (show (["_law_one","_law_looks"]:List Str).Nodup by decide +kernel))) (λ_ _ _ _=>(xo (wT zr <| zB uf zb2 (kb 0) (kb 1) (by with_unfolding_all rfl)))) (λ_ _ _ _=>(kv 0))))
   (zb (wS zJ <| y2 (wT zr <| zB (zhO hr.units) znz (kb 9) (JE.bo (xG zc)) (zC _)) (ze (zL (kv 2))) zR)
   (zb (wS zp <| zy (i:=10) zG.nd (zau xk zbA (kb 9) (JE.bo (wE zo <| yv T.q1 G1 hr (za (kv 0) (za (zN yo x9 (by rfl) T.b_len aR (zh (kb 9) zm)) zc)))) (λ_ _=>rfl)))
   (zb (wS yD <| xx (i:=11) zG.nd (xG zc))
   (zb (yp aI rfl (wI yx <| zO rfl T.b_range (zh (JE.bo (zau xl uO (kb 1) (kb 10) (λ_ _=>rfl))) zm)) (wG zt <| zf (i:=12) zG.nd) (ze (wS ul <| zaw 11 (yH (za (yu z0 uq (by rfl) T.b_tuple bg (zh (JE.bo (zN zjd zlJ (by rfl) T.b_sorted bZ (zh (JE.bo (uP zgP zlG (JE.bo (yu uD zlH (by rfl) T.b_list bD (zh (kb 4) zm))) (JE.bo (xG (za (yH (za (kv 10) (za (kv 12) zc))) zc))))) zm))) zm)) (za (kv 5) (za (kv 6) (za (kv 7) zc))))))))
   (ze (zL (uP yE xD (JE.bo (uP yE xD (JE.bo (wE uo <| zc9 (kb 2) yS (wO yj <| yT (kb 3)))) (JE.bo (wE uo <| zc9 (kb 2) (wO yj <| yT (JE.bo (uP xi zcZ (kb 3) (JE.bo zE)))) yS)))) (JE.bo (yu z0 uq (by rfl) T.b_tuple bg (zh (kb 11) zm))))))))))))))),λws n R hF=>?_⟩
 obtain⟨p,rm,bk,rfl,hP,hn,hR,hB,hl,r⟩:=hF;left;have h8:=hR.few;refine⟨(zaJ (rm:=rm) λd hd=>by obtain⟨x,hx,rfl⟩:=aC.mp hd;exact⟨x,rfl,hB x hx⟩).1,zcd (ns:=[]),λe he=>?_⟩;left;refine zbX (λh0=>?_) (λh0=>?_)
 ·left;exact r bk _ hB (λ_ _ _=>Iff.rfl) (by lia) (by lia)
 have hne:bk≠[]:=λz=>by have:=he.mpr (by rw[z];rfl);rw[h0] at this;cases this
 have hpos:=c7.mpr hne;left;rw[ab];refine dc hP λat_ a0 a1=>?_;left;obtain⟨i,rfl⟩:∃i:Nat,at_=(i:Int):=⟨at_.toNat,by lia⟩;have hi:i<bk.length:=by lia
 have hx:=aj hi;have hsp:bk=bk.take i++bk[i]::bk.drop (i+1):=by rw[List.getElem_cons_drop,cL]
 generalize bk[i]=x at hx hsp;have hW:=hB x (au hx);refine onG hx ?_;left;have hgl:=zd2 hW.giv;refine zas x.g (λq=>.d (yn q)) (by rw[am];rfl) (λρ=>∃a b,ρ=[a,b]) (λq=>.int q.1) (ar (by lia:_<=8) (by decide)) ⟨_,_,rfl⟩ ?_ ?_
 ·rintro q hq ρ' ⟨a,b,rfl⟩ D hD;left;exact hD ⟨_,_,rfl⟩
 left;refine⟨by rw[ab];exact ar (by simp;lia:_<=100) (by decide),?_⟩;have elk:(x.g.map λq=>Dt.int q.1)++[Dt.int x.b]=(x.g.map (·.1)++[x.b]).map Dt.int:=by rw[az,am];rfl
 rw[elk];generalize hlk:x.g.map (·.1)++[x.b]=lk;left;rw[ab];refine⟨⟨by lia,by lia⟩,?_⟩;rw[yZ];refine uC (List.range rm.length) (λk:Nat=>W.d (.int (k:Int))) rfl (λρ=>∃v,ρ=[v,some (.d (lsD lk))]) (λk:Nat=>!lk.contains (k:Int)) (λk:Nat=>.int (k:Int)) (ar (by rw[ax];exact h8) (by decide)) ⟨_,rfl⟩ ?_ ?_
 ·rintro k hk ρ' ⟨v,rfl⟩ D dY dN;left;refine⟨lk,rfl,?_⟩;left;exact zbX (λz=>dY z ⟨_,rfl⟩) (λz=>dN z ⟨_,rfl⟩)
 generalize hfr:(List.range rm.length).filter (λk:Nat=>!lk.contains (k:Int))=fr
 have hfm:∀k∈fr,k<rm.length/\(k:Int)∉lk:=λk hk=>by rw[<- hfr,a9,aM] at hk;refine⟨hk.1,λz=>?_⟩;have:=hk.2;rw[bW.mpr z] at this;cases this
 have hfl:fr.length<=8:=by rw[<- hfr];have:=List.length_filter_le (λk:Nat=>!lk.contains (k:Int)) (List.range rm.length);rw[ax] at this;lia
 left
 have hfe:(Dt.lst (fr.map λk:Nat=>Dt.int (k:Int))).eqOk:=by have:=zil (ns:=fr.map λk:Nat=>(k:Int));rwa[am] at this
 refine⟨hfe,zgz [],λe' he'=>?_⟩;left;refine zbX (λh0=>?_) (λh0=>?_)
 ·left;exact r bk _ hB (λ_ _ _=>Iff.rfl) (by lia) (by lia)
 have hne:fr≠[]:=λz=>by have:=he'.mpr (by rw[z];rfl);rw[h0] at this;cases this
 have hpos:=c7.mpr hne;left;rw[ab];refine dc hP λk k0 k1=>?_;left;refine zpI k0 (by rw[ab];exact k1) λy hy=>?_;obtain⟨o,ho,rfl⟩:=aC.mp hy;obtain⟨ho1,ho2⟩:=hfm o ho;have hmo:=yk hR.box (b:=(o:Int)) (by lia) (by lia);have hap:∀q∈x.g,q.1≠(o:Int):=λq hq e=>ho2 (by rw[<- hlk,<- e];exact be _ (aC.mpr ⟨q,hq,rfl⟩));have hob:(o:Int)≠x.b:=λe=>ho2 (by rw[<- hlk,e];simp);left;refine onA (by lia) (by lia) ?_;left;refine⟨⟨by lia,by lia⟩,zce (λj ρ m'=>m'=n+1+1/\j<=(z9 rm (o:Int)).toNat/\∃ (s:List Wi) (v12:Option W),ρ=[some (.pen p),some (.d (stD rm)),some (.d (yK bk)),some (.d (.int (i:Int))),some (.d (.tup (x.g.map yn))),some (.d (.int x.b)),some (.d (.int x.r)),some (.d (.int x.w)),some (.d (lsD lk)),some (.d (.lst (fr.map λk:Nat=>Dt.int (k:Int)))),some (.d (.int (o:Int))),some (.d (.lst (s.map zQ))),v12]/\ya rm s/\s.length=j/\(∀y∈s,y.b=x.b/\y.r=x.r/\y.w=x.w/\∀q∈x.g,q∈y.g)/\∀v:Int,0<=v->v<j->∃y∈s,∀q∈y.g,q∈x.g\/q=((o:Int),v)) ⟨rfl,aJ _,[],_,rfl,λ_ h=>by simp at h,rfl,λ_ h=>by simp at h,λv h1 h2=>by lia⟩ ?_ ?_⟩
 ·rintro j ρ m' hj ⟨rfl,hjl,s,v12,rfl,hBs,hsl,hs1,hs2⟩ C B X hC _ _;left;refine⟨by rw[ab];exact ar (by simp;lia:_<=100) (by decide),?_⟩;left;refine⟨(x.g++[((o:Int),(j:Int))]).map (λq=>[q.1,q.2]),2,?_,?_,by decide,?_,?_,λl hp hu=>?_⟩
  ·rw[am,az];rfl
  ·rw[ab,ai];simp;lia
  ·rintro z hz;obtain⟨q,_,rfl⟩:=aC.mp hz;rfl
  ·exact zrQ hW.giv hap
  left;have hj2:(j:Int)<z9 rm (o:Int):=by lia
  obtain⟨g',eg,hG',hm'⟩:=zmu hW.giv hap (by lia) (by lia) (by lia) hj2 hp hu
  have hin:∀q∈x.g,q∈g':=λq hq=>by
   have h1:stD [q.1,q.2]∈l.map stD:=aC.mpr ⟨[q.1,q.2],hp.mem_iff.mpr (aC.mpr ⟨q,be _ hq,rfl⟩),rfl⟩;rw[eg] at h1;obtain⟨q',h2,h3⟩:=aC.mp h1
   have:q'=q:=by have:=zet (l:=[q']) (l':=[q]) (by show [yn q']=[yn q];rw[h3];rfl);exact (dM this).1
   subst this;exact h2
  rw[eg];refine⟨by rw[ab,hsl];exact aW (by lia:_<=4) (by decide),hC ⟨rfl,by lia,s++[⟨g',x.b,x.r,x.w⟩],some (.d (.int (j:Int))),by rw[az];rfl,λy hy=>?_,by rw[ai,hsl];rfl,λy hy=>?_,λv v0 v1=>?_⟩⟩
  ·rcases aG.mp hy with z | z
   ·exact hBs y z
   ·rw[aB.mp z];refine⟨hG',hW.b0,hW.b1,λq hq=>?_,hW.r0,hW.r1,hW.w0,hW.w1,hW.ne⟩;rcases hm' q hq with z | rfl
    ·exact hW.apart q z
    ·exact hob
  ·rcases aG.mp hy with z | z
   ·exact hs1 y z
   ·rw[aB.mp z];exact⟨rfl,rfl,rfl,hin⟩
  ·by_cases z:v<j
   ·obtain⟨y,h1,h2⟩:=hs2 v v0 z;exact⟨y,be _ h1,h2⟩
   ·have e:v=(j:Int):=by lia
    subst e;exact⟨_,aV _ (aB.mpr rfl),hm'⟩
 ·rintro ρ m' ⟨rfl,hjl,s,v12,rfl,hBs,hsl,hs1,hs2⟩;left;have e1:ua (bk.map zQ) none (some (i:Int))=(bk.take i).map zQ:=by rw[xE,L3.zbY]
  have e2:ua (bk.map zQ) (some ((i:Int)+1)) none=(bk.drop (i+1)).map zQ:=by rw[xE,show (i:Int)+1=((i+1:Nat):Int) by lia,L3.ze3]
  rw[e1,e2,<- az];have hl2:(bk.take i++bk.drop (i+1)).length<=bk.length:=by rw[ai,aQ,cV];lia
  refine⟨by rw[<- ai,<- az,ab];exact ar (by lia:_<=500) (by decide),?_⟩;left;refine⟨by rw[ab,ab];exact ar (by lia:_<=600) (by decide),?_⟩;rw[<- az];have hq:=zmo (rm:=rm) (a:=bk.take i) (c:=bk.drop (i+1)) (x:=x) (o:=(o:Int)) (s:=s) (by lia) (by lia) hs1 λv v0 v1=>hs2 v v0 (by lia);rw[<- hsp] at hq;refine r _ _ (λy hy=>?_) hq (by rw[ai];lia) (by lia);rcases aG.mp hy with z | z
  ·rcases aG.mp z with z | z
   ·exact hB y (bR z)
   ·exact hB y (List.mem_of_mem_drop z)
  ·exact hBs y z
def zeS  : FV:=λPn q n R=>∃ (rm:List Int) (bk:List Wi),q=[.d (stD rm),.d (yK bk)]/\(RoomOk rm)/\(ya rm bk)/\((yQ (rm.map zj)).length<=24)/\(R (.d (yK (zde rm bk))) n)
def zeS.i{rm:List Int}(q:RoomOk rm)(B:ya rm bk)(D:(yQ (rm.map zj)).length<=24)(h:R (.d (yK (zde rm bk))) n)  : zeS Pn [.d (stD rm),.d (yK bk)] n R:=⟨rm,bk,rfl,q,B,D,h⟩
def zel (T:Txt K mg t):FnOk P w K mg base CX0 2 t.f34 t.d34 li (spV 2 false zeS):=by
 have G4:=xh (P:=P) (w:=w) (base:=base) T;have G32:=zdc (P:=P) (w:=w) (base:=base) T;have G9:=uI (P:=P) (w:=w) (base:=base) T
 refine Fun.okW (k:=1) (fr:=false) [2] 3 T.q34.F uh rfl (by decide) rfl λan A Y s H E Pn Z=>⟨_,(zb (wS yD <| xx (i:=2) uh.nd (xG zc))
   (zb (yp aI rfl (wI yi <| yh K rfl (wE zo <| yv T.q4 G4 Z (za (kv 0) zc))) (wG zt <| zf (i:=3) uh.nd) (ze (yp aI rfl (wI yi <| yh K rfl (wE zo <| yv T.q32 G32 Z (za (kv 1) (za (kv 3) zc)))) (wG zt <| zf (i:=4) uh.nd) (ze (wS ul <| zaw 2 (wE zo <| yv T.q9 G9 Z (za (kv 3) (za (kv 4) zc))))))))
   (ze (zL (yu z0 uq (by rfl) T.b_tuple bg (zh (kb 2) zm)))))),λws n R hF=>?_⟩
 obtain⟨rm,bk,rfl,O,U,hq,r⟩:=hF;left;have h8:=O.few;have ac:∀st,StOk rm st->(zl8 bk st []).length<=32:=λst L=>zaT U h8 O.box (zq0 (zan (zaU U L.len))) λz hz=>yC.mp hz;refine zdj.i O ?_;left;refine zY (yQ (rm.map zj)) (λst=>W.d (stD st)) (by rw[am];rfl) (λi ρ m=>m=n/\i<=24/\∃ (l:List Wi) (v3 I:Option W),ρ=[some (.d (stD rm)),some (.d (yK bk)),some (.d (.lst (l.map zQ))),v3,I]/\l.length<=32 * i/\l=((yQ (rm.map zj)).take i).flatMap λst=>(zl8 bk st []).map λt=>zc7 st t (zlT st t)) ⟨rfl,aJ _,[],_,_,rfl,ah _,rfl⟩ ?_ ?_
 ·rintro i st ρ m J ⟨rfl,hi,l,v3,I,rfl,ad,D⟩ C B X hC _ _;have ap:=(ae.mp J).1;have L:=xS _ _ (au J);have hf:=ac st L;left;refine zha.i (.inl rfl) O U L.len ?_;left;refine zY (zl8 bk st []) (λt=>W.d (stD t)) (by rw[am];rfl) (λj ρ m'=>m'=m/\j<=32/\∃ (l':List Wi) (I:Option W),ρ=[some (.d (stD rm)),some (.d (yK bk)),some (.d (.lst (l'.map zQ))),some (.d (stD st)),I]/\l'=l++((zl8 bk st []).take j).map λt=>zc7 st t (zlT st t)) ⟨rfl,aJ _,l,_,rfl,by simp⟩ ?_ ?_
  ·rintro j u ρ m' hu ⟨rfl,hj,l',I,rfl,q⟩ C' B' X' ag _ _;have as:=(ae.mp hu).1;obtain⟨hT,al,_⟩:=zaS U L (yC.mp (au hu));have av:l'.length<=32 * i+32:=by rw[q,ai,ab,aQ];lia
   left;refine zdi.i O L hT al λx hx e=>?_;left;refine⟨by rw[ab];exact aW (by lia:_<=1000) (by decide),ag ⟨rfl,by lia,l'++[x],_,by rw[az];rfl,?_⟩⟩;rw[q,zl hu,az,e,bK];rfl
  ·rintro ρ m' ⟨rfl,hj,l',I,rfl,q⟩;rw[ba] at q;refine hC ⟨rfl,by lia,l',_,_,rfl,by rw[q,ai,ab];lia,?_⟩;rw[q,D,zl J,eh];simp
 ·rintro ρ m ⟨rfl,hi,l,v3,I,rfl,ad,D⟩;rw[ba] at D;subst D;left;exact r
def zbB  : FV:=λPn q n R=>∃ (rm:List Int) (bk:List Wi),q=[.d (stD rm),.d (yK bk)]/\(RoomOk rm)/\(ya rm bk)/\(bk.length<=1000)/\((yQ (rm.map zj)).length<=24)/\(R (.d (zbz rm bk)) n)
def zbB.i{rm:List Int}(q:RoomOk rm)(B:ya rm bk)(D:bk.length<=1000)(F:(yQ (rm.map zj)).length<=24)(h:R (.d (zbz rm bk)) n)  : zbB Pn [.d (stD rm),.d (yK bk)] n R:=⟨rm,bk,rfl,q,B,D,F,h⟩
def zem (T:Txt K mg t):FnOk P w K mg base CX0 7 t.f35 t.d35 li (spV 2 false zbB):=by
 have G22:=zfD (P:=P) (w:=w) (base:=base) T;have G28:=zkQ (P:=P) (w:=w) (base:=base) T;have G31:=zgM (P:=P) (w:=w) (base:=base) T
 refine Fun.okW (k:=6) (fr:=false) [] 3 T.q35.F y9 rfl (by decide) rfl λac A O s H E Pn U=>⟨_,(zb (zfn (wE zo <| yv T.q28 G28 U (za (kv 0) (za (kv 1) zc))) (wG yV <| yX (n:=2) K rfl rfl (wH zA <| zn (wG zt <| zf (i:=2) y9.nd) (wH zA <| zn (wG zt <| zf (i:=3) y9.nd) (wH yU yg)))))
   (zb (wS zJ <| y2 (wT zr <| zB x8 zc0 (kb 2) (JE.bo zfm) (zC _)) (ze (wS zp <| zy (i:=3) y9.nd (xG zc))) zR)
   (zb (wS zp <| zy (i:=4) y9.nd (wE zo <| yv T.q31 G31 U (za (kv 0) (za (kv 1) zc))))
   (zb (wS zJ <| y2 (JW.t (wW u9 <| zbD (wT zr <| zke (kb 4)) (zax (.inl rfl) (wT zr <| zB zix zrb (JE.bo (zau xl uO (kb 4) (JE.bo zE) (λ_ _=>rfl))) (JE.bo zfm) (zC _))))) (ze (wS zp <| zy (i:=4) y9.nd (wE uo <| zc9 (kb 4) yS (wO yj <| yT (JE.bo (j_un ztW zwi (JE.bo zE))))))) zR)
   (ze (zL (yH (za (wE zo <| yv T.q22 G22 U (za (kv 0) (za (kv 1) zc))) (za (kv 2) (za (kv 3) (za (kv 4) zc))))))))))),λws n R hF=>?_⟩
 obtain⟨rm,bk,rfl,B,D,I,hq,r⟩:=hF;left;refine zl1.i B D I ⟨λad ag q=>?_,λZ q al=>?_⟩
 ·left;with_reducible refine zgO ?_ ?_
  ·decide
  left;refine ziR.i B D I (by lia) λd Y=>?_;rcases Y with ⟨Z,z,_⟩ | ⟨_,⟨r',Z,h1,h2,rfl⟩ | ⟨h1,rfl⟩⟩
  ·rw[q] at z;cases z
  ·left;with_reducible refine zcD ?_ ?_
   ·rfl
   left;refine xM rfl ?_;left;with_reducible refine zcD ?_ ?_
   ·decide
   left;refine znF.i B D I ?_;left;have J:zie rm bk = .tup [.str "round",stD r'.st,.int r'.b]:=by unfold zie;rw[q,h1]
   unfold zbz at r;rw[q,J] at r;exact r
  ·cases hT:zhq (uy rm bk) with
   | none=>
    have L:zcY (uy rm bk) = .non:=by unfold zcY;rw[hT]
    rw[L];left;with_reducible refine zgO ?_ ?_
    ·rfl
    left;refine znF.i B D I ?_;left;have J:zie rm bk=zcY (uy rm bk):=by unfold zie;rw[q,h1]
    unfold zbz at r;rw[q,J,L] at r;exact r
   | some x=>
    have L:zcY (uy rm bk) = .tup [.str "tops",stD x.st,.int x.b,lsD (zg5 x.E x.m)]:=by unfold zcY;rw[hT]
    rw[L];left;with_reducible refine zcD ?_ ?_
    ·rfl
    left;refine xM rfl ?_;left;with_reducible refine zgO ?_ ?_
    ·decide
    left;refine znF.i B D I ?_;left;have J:zie rm bk=zcY (uy rm bk):=by unfold zie;rw[q,h1]
    unfold zbz at r;rw[q,J,L] at r;exact r
 ·left;with_reducible refine zcD ?_ ?_
  ·decide
  left;refine ziR.i B D I (by lia) λd Y=>?_;rcases Y with ⟨rd',_,h1,rfl⟩ | ⟨z,_⟩
  ·left;with_reducible refine zcD ?_ ?_
   ·rfl
   left;refine xM rfl ?_;left;with_reducible refine zcD ?_ ?_
   ·decide
   left;refine znF.i B D I ?_;left;have J:zie rm bk = .tup [.str "hangs"]:=by unfold zie;rw[q]
   unfold zbz at r;rw[q,J] at r;exact r
  ·exact absurd q z
def zst (T:Txt K mg t):FnOk P w K mg base CX0 8 t.f36 t.d36 lm (zlx K):=by
 have G0:FnOk P w K mg base CX0 1 t.f0 t.d0 lm (znv K):=zgJ T;have G1:=zU (P:=P) (w:=w) (base:=base) T;have G2:=xL (P:=P) (w:=w) (base:=base) T;have G3:=zek (P:=P) (w:=w) (base:=base) T;have G6:=uJ (P:=P) (w:=w) (base:=base) T;have G14:=zej (P:=P) (w:=w) (base:=base) T;have G33:=zcA (P:=P) (w:=w) (base:=base) T;have G34:=zel (P:=P) (w:=w) (base:=base) T;have G35:=zem (P:=P) (w:=w) (base:=base) T
 refine zvE (k:=7) (r:=8) [] T.q36.F zaF rfl rfl (by decide) λb2 A a4 s H E Pn I=>⟨_,_,_,rfl,(ug (i:=1) zaF.nd rfl (Or.inr rfl) (znc T.q0 G0 I (zK (qv 0) yB))),(zb (yp aI rfl (wI yx <| zO rfl T.b_range (zh (JE.bo zE) zm)) (wG zt <| zf (i:=2) zaF.nd) (zb (wS zp <| zy (i:=3) zaF.nd (wE zo <| yv T.q3 G3 I (za (kv 1) (za (zau xk zbA (JE.bo (xG (za zE (za zE (za zE (za zE zc)))))) (JE.bo (wE zo <| yv T.q1 G1 I (za (kv 1) (za zE zc)))) (λ_ _=>rfl)) zc))))
   (zb (wS zp <| zy (i:=4) zaF.nd (wE zo <| yv T.q14 G14 I (za (kv 1) (za (kv 3) zc))))
   (zb (wS zp <| zy (i:=5) zaF.nd (wE zo <| yv T.q35 G35 I (za (kv 3) (za (kv 4) zc))))
   (zb (wS zp <| zcr (i:=6) (zaZ (ix:=6) zaF.nd rfl rfl (N:=lK) (cix:=[none,some 1]) rfl (by walk_at "c") (wI um <| zav K rfl (kv 4)) (λ_ _ _ _=>(wG zt <| zf (i:=0) (show (lK:List Str).Nodup by decide +kernel))) (λ_ _ _ _=>(xo (wT zr <| zB x8 zc0 (JE.bo (wE zo <| yv T.q1 G1 I (za (kv 1) (za zE zc)))) (JE.bo zE) (zC _)))) (λ_ _ _ _=>(kv 0))))
   (zb (wS zp <| zy (i:=7) zaF.nd (yu z0 uq (by rfl) T.b_tuple bg (zh (JE.bo (wE zo <| yv T.q2 G2 I (za (kv 1) (za (uP zgP zlG (JE.bo (yu uD zlH (by rfl) T.b_list bD (zh (kb 4) zm))) (kb 6)) zc)))) zm)))
   (zb (wS zJ <| y2 (JW.t (wW zob <| zr6 (wT zr <| zB (zfI I.units) zlI (JE.bo (wE zo <| yv T.q35 G35 I (za (kv 3) (za (kv 7) zc)))) (kb 5) (zC _)) (zax (.inr rfl) (wT zr <| zB (zfI I.units) zlI (JE.bo (wE zo <| yv T.q35 G35 I (za (kv 3) (za (wE zo <| yv T.q33 G33 I (za (kv 1) (za (kv 3) (za (kv 7) zc)))) zc)))) (kb 5) (zC _))))) (ze (zL zq7)) zR)
   (zb (wS zp <| zy (i:=8) zaF.nd (wE zo <| yv T.q34 G34 I (za (kv 3) (za (kv 4) zc))))
   (zb (wS zJ <| y2 (wT zr <| zB (zfI I.units) zlI (JE.bo (wE zo <| yv T.q35 G35 I (za (kv 3) (za (yu z0 uq (by rfl) T.b_tuple bg (zh (JE.bo (wE zo <| yv T.q2 G2 I (za (kv 1) (za (yu uD zlH (by rfl) T.b_list bD (zh (kb 8) zm)) zc)))) zm)) zc)))) (kb 5) (zC _)) (ze (zL zq7)) zR)
   (zb (wS zp <| zy (i:=9) zaF.nd (wE zo <| yv T.q6 G6 I (za (kv 1) (za (kv 3) zc))))
   (ze (wS zJ <| y2 (JW.t (wW u9 <| zbD (wT zr <| zB (zhO I.units) znz (JE.bo (wE zo <| yv T.q34 G34 I (za (kv 3) (za (uP yE xD (kb 4) (JE.bo (yH (za (kv 9) zc)))) zc)))) (kb 8) (zC _)) (zax (.inl rfl) (wT zr <| zB (zfI I.units) zlI (JE.bo (wE zo <| yv T.q35 G35 I (za (kv 3) (za (uP yE xD (kb 4) (JE.bo (yH (za (kv 9) zc)))) zc)))) (kb 5) (zC _))))) (ze (zL zq7)) zR))))))))))))
   (ze (zL zq7))),λp c ns a5=>?_⟩
 subst a5;have hP:IsP (some (p,c,ns)) p:=⟨c,ns,rfl⟩;refine ztm ?_;left;refine⟨⟨by decide,by decide⟩,zce (λi ρ n=>n<=10000 * i/\∃v2 v3 v4 v5 v6 v7 v8 v9,ρ=[none,some (.pen p),v2,v3,v4,v5,v6,v7,v8,v9]) ⟨ah _,none,none,none,none,none,none,none,none,rfl⟩ ?_ ?_⟩
 ·rintro i ρ n hi ⟨hn,v2,v3,v4,v5,v6,v7,v8,v9,rfl⟩ C B E hC _ _;have hi:i<2:=hi;left;refine dc hP λmo m0 m1=>?_;left;refine zpI m0 m1 λx U=>?_
  obtain⟨J,rfl,q1,q2⟩:∃J,x = .int J/\4<=J/\J<=24:=by
   simp at U;rcases U with rfl | rfl | rfl | rfl
   all_goals exact⟨_,rfl,by lia,by lia⟩
  left;refine zl0.i hP q1 (by lia) λrm m L hp hm=>?_;have h8:=L.few
  have hq:(yQ (rm.map zj)).length<=24:=by
   have:=xR rm λn hn=>by have:=L.box n hn;lia
   lia
  left;refine zg7.i hP L (by lia) λbk m2 Z hl ca=>?_;left;refine zbB.i L Z (by lia) hq ?_;left;have ac:=zqU rm bk;have O:∀ {ag:List Wi},ya rm ag->Eqv rm bk ag->zbz rm ag=zbz rm bk:=λh1 h2=>(zny h2 Z h1 L).symm;refine ze0 bk (λx=>W.d (zQ x)) (by rw[am];rfl) (ar (by lia:_<=80) (by decide)) (λj al n' acc=>n'<=m2+j/\j<=80/\∃ (v:Option W) (d:List Wi),al=[v,some (.pen p)]/\acc=d.map zQ/\(∀x∈d,x∈bk)/\d.length<=j) ⟨by lia,aJ _,_,[],rfl,rfl,by simp,ah _⟩ ?_ ?_
  ·rintro j x al n' acc U ⟨a7,hj,v,d,rfl,rfl,hd,bb⟩ D hD;have cc:=(ae.mp U).1;left;refine dc hP λk k0 k1=>?_;left;refine xZ (λz=>?_) (λz=>?_)
   ·left;refine hD ⟨by lia,by lia,_,d++[x],rfl,by rw[az];rfl,λy hy=>?_,by rw[ai];simp;lia⟩;rcases aG.mp hy with q | q
    ·exact hd y q
    ·rw[aB.mp q];exact au U
   ·exact hD ⟨by lia,by lia,_,d,rfl,rfl,hd,by lia⟩
  rintro al n' acc ⟨a7,hj,v,d,rfl,rfl,hd,bb⟩;left;refine⟨by rw[ab,ab];exact ar (by lia:_<=200) (by decide),?_⟩;rw[<- az];refine tc hP (λl bd=>?_) (by rw[ab,ai];lia) (by rw[ab,ai];lia);rw[ab,ai];obtain⟨b3,rfl,ad⟩:=za8 bd;have bl:=ad.length_eq;rw[ai] at bl
  have an:ya rm b3:=λx U=>by
   rcases aG.mp (ad.mem_iff.mp U) with z | z
   ·exact Z x z
   ·exact Z x (hd x z)
  have as:Eqv rm bk b3:=zjA λx=>⟨λh=>ad.mem_iff.mpr (be _ h),λh=>(aG.mp (ad.mem_iff.mp h)).elim id (hd x)⟩;generalize cd:n'+(bk.length+d.length)=n4;left;refine zbB.i L an (by lia) hq ?_;left;rw[O an as];refine zhM ac ?_;left;walk_at "cf";refine zl2.i hP L an (by lia) λb5 m5 av bs ch cn=>?_;left;refine zbB.i L av (by lia) hq ?_;left;rw[O av (as.trans bs)];refine zhM ac ?_;left;walk_at "cf";have co:(zde rm bk).length<=768:=zln L Z hq;have a0:=zhZ Z;refine zeS.i L Z hq ?_;left;refine tc hP (λl a1=>?_) (by rw[ab];lia) (by rw[ab];lia);rw[ab];obtain⟨b6,rfl,ap⟩:=za8 a1;have a1:=ap.length_eq;have a2:ya rm b6:=λx U=>a0 x (ap.mem_iff.mp U);have bx:Eqv rm bk b6:=(zd0 Z).trans (zjA λx=>ap.mem_iff.symm);generalize cp:m5+(zde rm bk).length=n6;left;refine zbB.i L a2 (by lia) hq ?_;left;rw[O a2 bx];refine zhM ac ?_;left;walk_at "cf";refine zib.i hP L λx m7 U cs=>?_;left;refine⟨by rw[ab];exact ar (by simp;lia:_<=100) (by decide),?_⟩;have e7:bk.map zQ++[zQ x]=(bk++[x]).map zQ:=by rw[az];rfl
  rw[e7];have Y:ya rm (bk++[x]):=Z.app λy hy=>by rw[aB.mp hy];exact U
  refine zeS.i L Y hq ?_;left;have a3:∀ {l:List Wi},ya rm l->(yK l).eqOk:=λh=>(zaJ (rm:=rm) λd hd=>by obtain⟨x,U,rfl⟩:=aC.mp hd;exact⟨x,rfl,h x U⟩).1;refine⟨a3 (zhZ Y),a3 a0,λe he=>?_⟩;left;refine zbX (λh0=>?_) (λh0=>?_)
  ·have b0:zde rm (bk++[x])=zde rm bk:=zhg (Dt.tup.inj (he.mp h0));have b1:Eqv rm bk (bk++[x]):=(zd0 Z).trans (by have:=(zd0 Y).symm;rwa[b0] at this);left;refine⟨by rw[ab];exact ar (by simp;lia:_<=100) (by decide),?_⟩;rw[e7];refine zbB.i L Y (by rw[ai];simp;lia) hq ?_;left;rw[O Y b1];refine zhM ac ?_;left;walk_at "cf";exact hC ⟨by lia,_,_,_,_,_,_,_,_,rfl⟩
  ·left;exact hC ⟨by lia,_,_,_,_,_,_,_,_,rfl⟩
 ·rintro ρ n ⟨hn,v2,v3,v4,v5,v6,v7,v8,v9,rfl⟩;left
end
def Dm {K:PySem.W.Frag}{h:Heap}{mg:Str->Option Value}{x:Str}{st:Stmt}{ps:List Str}{f:Addr}{I kV dc B q ct:Value}{J D:Option Addr}{L:Array (Option Value)}(X:K.In h)(G:h.Ns mainGlobals mg)(a:PySem.W.nsIn K mainGlobals x=some (some (.ref f)))(l:K.lookup f=some ⟨I,J,.func (PySem.W.fnOf x x (zaI st) (yt st) (zg st) .none kV dc B D q ct),L⟩)(c:PySem.W.codeIn K q x=true)(k:PySem.W.keepIn K (.ref f)=true)(b:∀ (kV dc B:Value) (D:Option Addr) (q ct:Value) (F:List Value),F.length=ps.length->bindArgs (PySem.W.fnOf x x (zaI st) (yt st) (zg st) .none kV dc B D q ct) ⟨F,[]⟩=pure (ps.zip F)):Dfn K mg x st ps f (PySem.W.fnOf x x (zaI st) (yt st) (zg st) .none kV dc B D q ct):=⟨zn0 l c k,(zn0 l c k).binds b,PySem.W.mg_of X G a⟩
def fin {l:PySem.W.OpenLaw}{w:World}{K:PySem.W.Frag}{mg:Str->Option Value}{fa:Addr}{t:Ad}(q:mg "law" = some (.ref fa))(T:Txt K mg t)(b:∀ (s:Shared) (v:Value),BindsTo s t.d36 ⟨[v],[]⟩ [("_law_script",v)]):∃fd:FuncData,(∀ (s:Shared) (v:Value),BindsTo s fd ⟨[v],[]⟩ [("_law_script",v)])/\∀base:Heap,K.In base->base.Ns mainGlobals mg->FnOk l.prog w K mg base CX0 8 fa fd lm (zlx K):=by have e:=q.symm.trans T.q36.m;cases e;exact⟨_,b,λbase _ _=>zst T⟩
def walk {l:PySem.W.OpenLaw}{q:Program}{B:List Str}{XP:(Str->Option Value)->Heap->Prop}{YP:World->Heap->Prop}{d:DefRec}{K:Params->PySem.W.Frag}(I:l.most=some 63)(D:d.params.defaults=[])
  (J:∀ (w:World) (h:Heap),YP w h->(K w.params).In h)
  (F:∀ (w:World) (mg:Str->Option Value) (fa:Addr) (h:Heap),(K w.params).In h->h.Ns mainGlobals mg->mg d.name=some (.ref fa)->
   ∃fd:FuncData,(∀ (s:Shared) (u:Value),BindsTo s fd ⟨[u],[]⟩ [("_law_script",u)])/\∀base:Heap,(K w.params).In base->base.Ns mainGlobals mg->FnOk l.prog w (K w.params) mg base CX0 8 fa fd lm (zlx (K w.params))) :
  PySem.W.WalkO q B XP YP l.row.toRowW d [] (λf vs=>PySem.call f vs):=
 L2.zq4 (n:=63) (k:=8) (x := "_law_script") (CX:=λ_=>CX0) (sp:=λw=>zlx (K w.params)) I (by decide) D ⟨rfl,by decide,by decide⟩ J F (λ_ _ a ns L _ O=>⟨a,ns,rfl,O,L,λ_=>rfl⟩) λ_ _ _ _ _ z=>z
end Law
open PySem PySem.W PyProof.Rows
local macro_rules | `(tactic| walk_at "D")=>`(tactic| (dsimp only;refine' Law.Dm (by assumption) (by assumption) ?a ?l ?c ?k ?b;(case a=>k_is);(case l=>k_is);(case c=>k_is);(case k=>k_is);(case b=>(intro _ _ _ _ _ _ us hl;first | (obtain⟨_,e⟩:=L2.us_1 hl;subst e;rfl) | (obtain⟨_,_,e⟩:=L2.us_2 hl;subst e;rfl) | (obtain⟨_,_,_,e⟩:=L2.us_3 hl;subst e;rfl) | (obtain⟨_,_,_,_,e⟩:=L2.us_4 hl;subst e;rfl)))))
local macro_rules | `(tactic| walk_at "Z")=>`(tactic| (refine' PySem.W.mg_none_of (by assumption) (by assumption) ?z;(case z=>k_is)))
theorem PySem.W.Fast.te9266396586957881150:True:=.intro
set_option maxRecDepth 100000 in
set_option maxHeartbeats 0 in
theorem PySem.Challenge.cw_allelse_k33_hanging_by_betterings_alone_holds : PySem.Challenge.rw_allelse_k33_hanging_by_betterings_alone.Holds := by
 w_on;refine holds_law (by decide +kernel) λ_=>?_;k_head;(case hw=>w_witness2)
 k_fill
 refine Law.walk (l:=PySem.Challenge.rw_allelse_k33_hanging_by_betterings_alone) rfl rfl (λw h Y=>PySem.W.kIn_of Y) ?F
 case F=>
  intro w mg fa h KX G B;refine' Law.fin (t:=⟨_,_,_,_,_,_,_,_,_,_,_,_,_,_,_,_,_,_,_,_,_,_,_,_,_,_,_,_,_,_,_,_,_,_,_,_,_,_,_,_,_,_,_,_,_,_,_,_,_,_,_,_,_,_,_,_,_,_,_,_,_,_,_,_,_,_,_,_,_,_,_,_,_,_⟩) B ⟨?D0,?D1,?D2,?D3,?D4,?D5,?D6,?D7,?D8,?D9,?D10,?D11,?D12,?D13,?D14,?D15,?D16,?D17,?D18,?D19,?D20,?D21,?D22,?D23,?D24,?D25,?D26,?D27,?D28,?D29,?D30,?D31,?D32,?D33,?D34,?D35,?D36,?z_list,?z_sorted,?z_set,?z_tuple,?z_range,?z_enumerate,?z_len,?z_abs,?z_all,?q⟩ λs v=>?b
  (case D0 | D1 | D2 | D3 | D4 | D5 | D6 | D7 | D8 | D9 | D10 | D11 | D12 | D13 | D14 | D15 | D16 | D17 | D18 | D19 | D20 | D21 | D22 | D23 | D24 | D25 | D26 | D27 | D28 | D29 | D30 | D31 | D32 | D33 | D34 | D35 | D36=>walk_at "D")
  (case z_list | z_sorted | z_set | z_tuple | z_range | z_enumerate | z_len | z_abs | z_all | q=>walk_at "Z")
  (case b=>exact .of_eq rfl)


import PyProof.Rows.All
import Wide.All
import OpenK.AllK
import Wide.FinOn
import Lean
import PyProof.EqAt
import PyProof.EqKinds
import PyProof.TupleCall
import PySem.Challenge.RW_allelse_k13_whole_betterings_hang_togeth
set_option Elab.async false
set_option linter.all false
set_option maxRecDepth 100000
/-! THE HAND LAYER, for ints, bools, texts, own classes, DICTS (int and text keys), calls, loops. Paste it whole ahead of your own text; what your proof does not reach may be deleted. -/
namespace L2
open PySem PySem.Spec PyProof.Rows

/-- a key: an int or a str -/
abbrev Key := Sum Int Str
def keyIs : Key → Value → Bool
  | .inl k, v => Value.isInt k v
  | .inr x, v => Value.isStrOf x v
def keyH (w : World) : Key → Int
  | .inl k => hashInt k
  | .inr x => hashStr w x
theorem keyIs_shape : ∀ {k : Key} {v : Value}, keyIs k v = true → (∃ i t, k = Sum.inl i ∧ v = Value.int i t) ∨ (∃ x t, k = Sum.inr x ∧ v = Value.str x t)
  | .inl i, v, h => by
    obtain ⟨t, e⟩ := Value.isInt_shape (k := i) (v := v) h
    exact .inl ⟨i, t, rfl, e⟩
  | .inr x, v, h => by
    obtain ⟨t, e⟩ := Value.isStrOf_shape (x := x) (v := v) h
    exact .inr ⟨x, t, rfl, e⟩
theorem keyIs_int (i : Int) (t : Tok) : keyIs (.inl i) (.int i t) = true := by simp [keyIs, Value.isInt]
theorem keyIs_str (x : Str) (t : Tok) : keyIs (.inr x) (.str x t) = true := by simp [keyIs, Value.isStrOf]
theorem key_ll (a b : Int) : decide ((Sum.inl a : Key) = Sum.inl b) = (a == b) := by
  by_cases e : a = b
  · subst e; simp
  · have h : ¬ (Sum.inl a : Key) = Sum.inl b := fun q => e (Sum.inl.inj q)
    rw [decide_eq_false h]
    exact (beq_eq_false_iff_ne.mpr e).symm
theorem key_rr (a b : Str) : decide ((Sum.inr a : Key) = Sum.inr b) = decide (a = b) := by
  by_cases e : a = b
  · subst e; simp
  · have h : ¬ (Sum.inr a : Key) = Sum.inr b := fun q => e (Sum.inr.inj q)
    rw [decide_eq_false h, decide_eq_false e]
theorem key_lr (a : Int) (b : Str) : decide ((Sum.inl a : Key) = Sum.inr b) = false := decide_eq_false (fun q => nomatch q)
theorem key_rl (a : Str) (b : Int) : decide ((Sum.inr a : Key) = Sum.inl b) = false := decide_eq_false (fun q => nomatch q)

def mixKind (prog : Program) (w : World) : PySem.KeyKind prog w Key where
  is := keyIs
  hash := keyH w
  inj := fun v a b ha hb => by
    rcases keyIs_shape ha with ⟨i, t, rfl, rfl⟩ | ⟨x, t, rfl, rfl⟩
    · rcases keyIs_shape hb with ⟨j, u, rfl, e⟩ | ⟨y, u, rfl, e⟩
      · injection e with e1 _; rw [e1]
      · exact nomatch e
    · rcases keyIs_shape hb with ⟨j, u, rfl, e⟩ | ⟨y, u, rfl, e⟩
      · exact nomatch e
      · injection e with e1 _; rw [e1]
  byValue := fun k v h => by
    rcases keyIs_shape h with ⟨i, t, rfl, rfl⟩ | ⟨x, t, rfl, rfl⟩ <;> rfl
  pyHash := fun hv h => by
    rcases keyIs_shape hv with ⟨i, t, rfl, rfl⟩ | ⟨x, t, rfl, rfl⟩
    · exact wpAny_pyHash_int h
    · exact wpAny_pyHash_str h
  eqBool := fun hu hv h => by
    rcases keyIs_shape hu with ⟨i, t, rfl, rfl⟩ | ⟨x, t, rfl, rfl⟩
    · rcases keyIs_shape hv with ⟨j, u, rfl, rfl⟩ | ⟨y, u, rfl, rfl⟩
      · rw [key_ll] at h; exact wpAny_eqBool_int h
      · rw [key_lr] at h; exact SeqAt.EqAt.int_str i t y u _ _ _ _ h
    · rcases keyIs_shape hv with ⟨j, u, rfl, rfl⟩ | ⟨y, u, rfl, rfl⟩
      · rw [key_rl] at h; exact SeqAt.EqAt.str_int x t j u _ _ _ _ h
      · rw [key_rr] at h; exact wpAny_eqBool_str h
  «strs» := fun k x t v h => by
    rcases keyIs_shape h with ⟨i, u, rfl, e⟩ | ⟨y, u, rfl, e⟩
    · exact nomatch e
    · injection e with e1 _
      subst e1
      cases v <;> rfl

theorem mixKind_int (prog : Program) (w : World) (i : Int) (t : Tok) : (mixKind prog w).is (.inl i) (.int i t) = true := keyIs_int i t
theorem mixKind_str (prog : Program) (w : World) (x : Str) (t : Tok) : (mixKind prog w).is (.inr x) (.str x t) = true := keyIs_str x t
end L2

namespace L2
open PySem PySem.Spec PyProof.Rows

/-- a value, without the heap -/
inductive V where
  | non | bl (b : Bool) | int (i : Int) | str (x : Str) | byt (b : Array UInt8) | flt (b : UInt64) | ref (a : Addr) | ty (n : String)
  deriving DecidableEq

def RelV : V → Value → Prop
  | .non, u => u = Value.none
  | .bl b, u => u = Value.bool b
  | .int i, u => ∃ t, u = Value.int i t
  | .str x, u => ∃ t, u = Value.str x t
  | .byt b, u => ∃ t, u = Value.bytes b t
  | .flt b, u => ∃ t, u = Value.float b t
  | .ref a, u => u = Value.ref a
  | .ty n, u => u = Value.type n

abbrev Vals : List V → List Value → Prop := Paired RelV
theorem Vals.length {xs : List V} {us : List Value} (r : Vals xs us) : xs.length = us.length := Paired.length r
theorem Vals.get : ∀ {xs : List V} {us : List Value} {i : Nat} {x : V}, Vals xs us → xs[i]? = some x → ∃ u, us[i]? = some u ∧ RelV x u
  | _, _, _, _, .nil, e => by simp at e
  | _, _, 0, _, .cons r _, e => by simp at e; subst e; exact ⟨_, rfl, r⟩
  | _, _, i + 1, x, .cons _ t, e => by
    obtain ⟨u, h1, h2⟩ := Vals.get (i := i) (x := x) t (by simpa using e)
    exact ⟨u, by simpa using h1, h2⟩
theorem Vals.set {x : V} {u : Value} (r : RelV x u) : ∀ {xs : List V} {us : List Value} (i : Nat), Vals xs us → Vals (xs.set i x) (us.set i u)
  | _, _, _, .nil => .nil
  | _, _, 0, .cons _ t => .cons r t
  | _, _, i + 1, .cons q t => .cons q (Vals.set r i t)
theorem Vals.append : ∀ {xs ys : List V} {us ws : List Value}, Vals xs us → Vals ys ws → Vals (xs ++ ys) (us ++ ws)
  | _, _, _, _, .nil, s => s
  | _, _, _, _, .cons r t, s => .cons r (Vals.append t s)
theorem Vals.take : ∀ {xs : List V} {us : List Value} (n : Nat), Vals xs us → Vals (xs.take n) (us.take n)
  | _, _, 0, _ => .nil
  | _, _, _ + 1, .nil => .nil
  | _, _, n + 1, .cons r t => .cons r (Vals.take n t)
theorem Vals.drop : ∀ {xs : List V} {us : List Value} (n : Nat), Vals xs us → Vals (xs.drop n) (us.drop n)
  | _, _, 0, r => r
  | _, _, _ + 1, .nil => .nil
  | _, _, n + 1, .cons _ t => Vals.drop n t
theorem Vals.none_of : ∀ {xs : List V} {us : List Value} {i : Nat}, Vals xs us → xs[i]? = none → us[i]? = none := fun {xs us i} r e => by
  have h1 := r.length
  have h2 : xs.length ≤ i := List.getElem?_eq_none_iff.mp e
  exact List.getElem?_eq_none_iff.mpr (by omega)

def RelO : Option V → Option Value → Prop
  | some v, some u => RelV v u
  | none, none => True
  | _, _ => False
def KV {κ : Type} : List (κ × V) → List (κ × Value) → Prop := Paired fun (p : κ × V) (q : κ × Value) => p.1 = q.1 ∧ RelV p.2 q.2

/-- a key of a dict (00_mix): an int or a text -/
def kV : Key → V
  | .inl i => .int i
  | .inr x => .str x

/-- what stands at a tracked address -/
inductive HO where
  /-- a list -/
  | lst (xs : List V)
  /-- a tuple (never changes) -/
  | tup (xs : List V)
  /-- a dict whose keys are ints and texts; one whose keys are tuples of ints and texts (the empty one is both) -/
  | dK (kvs : List (Key × V)) | dT (kvs : List (List Key × V))
  /-- a set of ints: its members, its size -/
  | set (S : Int → Bool) (n : Nat)
  /-- an instance of the class at C, its dict at dx, its attributes -/
  | ins (C dx : Addr) (fs : List (Str × V))
  /-- the dict of the instance at x -/
  | own (x : Addr)
  /-- the dict of an exception -/
  | xd (fs : List (Str × V))
  /-- a bound method, f of x -/
  | met (f x : Addr)
  /-- a range object lo, lo + 1, .. below hi -/
  | rng (lo hi : Int)
  /-- a thing that is known to the object (the script; a dict while a loop walks it): read, never written while it is so -/
  | frz (o : Obj) (u : HO)
  /-- a code object's table -/
  | tbl (ps : Array Value)
  /-- any other thing, by what is true of its one object (a def of one's own: SetO a S n := HO.ext fun h => ..) -/
  | ext (φ : Heap → Prop)

abbrev Hp := Addr → Option HO
def upd (H : Hp) (a : Addr) (o : HO) : Hp := fun b => if b = a then some o else H b
theorem upd_same {H : Hp} {a : Addr} {o : HO} : upd H a o a = some o := by unfold upd; rw [if_pos rfl]
theorem upd_ne {H : Hp} {a b : Addr} {o : HO} (h : b ≠ a) : upd H a o b = H b := by unfold upd; rw [if_neg h]
/-- two objects of different content stand apart -/
theorem ne_of {H : Hp} {a b : Addr} {o u : HO} (h : H a = some o) (h' : H b = some u) (d : o ≠ u) : a ≠ b := by
  intro e; subst e; rw [h] at h'; exact d (Option.some.inj h')
theorem ne_of_none {H : Hp} {a b : Addr} {o : HO} (h : H a = some o) (h' : H b = none) : a ≠ b := by
  intro e; subst e; rw [h] at h'; cases h'

section
variable (P : Program) (w : World)
def ObjOk (H : Hp) (h : Heap) (a : Addr) : HO → Prop
  | .lst xs => xs.length ≤ sizeLine ∧ ∃ (its : List Value) (n : Nat), Vals xs its ∧ h.get? a = some { cls := .type "list", data := .seq its.toArray n }
  | .tup xs => xs.length ≤ sizeLine ∧ ∃ its : List Value, Vals xs its ∧ IsTup h a its.toArray
  | .dK kvs => kvs.length ≤ sizeLine ∧ (a == sysModules) = false ∧ ∃ vs, KV kvs vs ∧ h.DictOf (mixKind P w) a vs
  | .dT kvs => kvs.length ≤ sizeLine ∧ (a == sysModules) = false ∧ ∃ xs : List (List Key × Addr × Value),
      Paired (fun (p : List Key × V) (q : List Key × Addr × Value) => p.1 = q.1 ∧ H q.2.1 = some (.tup (p.1.map kV)) ∧ RelV p.2 q.2.2) kvs xs ∧
      ∃ o es ep, h.get? a = some o ∧ o.ExactDict ∧ o.data = .dict es ep ∧ es.toList = xs.map (entryOfKey (tupleKind (mixKind P w))) ∧ (xs.map (·.1)).Nodup
  | .set S n => h.SetOf (intKind P w) a S n
  | .ins C dx fs => H dx = some (.own a) ∧ fs.length ≤ 1000 ∧ dx ≠ a ∧ h.get? a = some (PySem.W.instObj C dx) ∧
      ∃ mA, h.Ns1 dx mA ∧ (∀ f, RelO (fs.lookup f) (mA f)) ∧ PySem.Within mA (fs.map (·.1))
  | .own _ => ∃ o, h.get? a = some o
  | .xd fs => ∃ mA, h.Ns1 a mA ∧ ∀ f, RelO (fs.lookup f) (mA f)
  | .rng lo hi => ∃ t u v, h.get? a = some { cls := .type "range", data := .fields #[.int lo t, .int hi u, .int 1 v] }
  | .frz o u => h.get? a = some o ∧ ObjOk H h a u
  | .tbl ps => h.get? a = some { cls := .none, data := .fields ps }
  | .met f x => h.get? a = some (PySem.W.methodObj (.ref f) (.ref x))
  | .ext φ => φ h ∧ (∃ o, h.get? a = some o) ∧ ∀ h1 h2 : Heap, φ h1 → (∀ o, h1.get? a = some o → h2.get? a = some o) → φ h2
/-- the abstract heap is held -/
def HOk (H : Hp) (h : Heap) : Prop := ∀ a o, H a = some o → ObjOk P w H h a o
end

section
variable {P : Program} {w : World} {H H' : Hp} {h h' : Heap} {a : Addr} {o : HO}
theorem ObjOk.lt (x : ObjOk P w H h a o) : a < h.objs.size := by
  cases o with
  | lst xs => obtain ⟨_, _, _, _, e⟩ := x; exact Heap.lt_size e
  | tup xs => obtain ⟨_, _, _, p⟩ := x; exact p.lt
  | dK kvs => obtain ⟨_, _, _, _, o, _, _, e, _⟩ := x; exact Heap.lt_size e
  | dT kvs => obtain ⟨_, _, _, _, o, _, _, e, _⟩ := x; exact Heap.lt_size e
  | set S n => obtain ⟨o, _, _, _, e, _⟩ := x; exact Heap.lt_size e
  | ins C dx fs => obtain ⟨_, _, _, e, _⟩ := x; exact Heap.lt_size e
  | own y => obtain ⟨_, e⟩ := x; exact Heap.lt_size e
  | xd fs => obtain ⟨_, ⟨_, _, _, e, _⟩, _⟩ := x; exact Heap.lt_size e
  | rng lo hi => obtain ⟨_, _, _, e⟩ := x; exact Heap.lt_size e
  | frz ob u => obtain ⟨e, _⟩ := x; exact Heap.lt_size e
  | tbl ps => exact Heap.lt_size (show h.get? a = some _ from x)
  | met f y => exact Heap.lt_size (show h.get? a = some _ from x)
  | ext φ => obtain ⟨_, ⟨_, e⟩, _⟩ := x; exact Heap.lt_size e
theorem Paired.mapP {α β : Type} {F G : α → β → Prop} : ∀ {l₁ : List α} {l₂ : List β}, Paired F l₁ l₂ → (∀ a b, F a b → G a b) → Paired G l₁ l₂
  | _, _, .nil, _ => .nil
  | _, _, .cons r t, f => .cons (f _ _ r) (Paired.mapP t f)
/-- what an object's description leans on: its own object, its own dict, the tuples -/
theorem ObjOk.stay (x : ObjOk P w H h a o) (k : ∀ b u, (b = a ∨ H b = some (.own a)) → h.get? b = some u → h'.get? b = some u)
    (ho : ∀ b, H b = some (.own a) → H' b = some (.own a)) (ht : ∀ b xs, H b = some (.tup xs) → H' b = some (.tup xs)) : ObjOk P w H' h' a o := by
  induction o with
  | lst xs => obtain ⟨z, its, n, r, e⟩ := x; exact ⟨z, its, n, r, k _ _ (.inl rfl) e⟩
  | tup xs => obtain ⟨z, its, r, ob, e, c⟩ := x; exact ⟨z, its, r, ob, k _ _ (.inl rfl) e, c⟩
  | dK kvs => obtain ⟨z, y, vs, r, ob, es, ep, e, c⟩ := x; exact ⟨z, y, vs, r, ob, es, ep, k _ _ (.inl rfl) e, c⟩
  | dT kvs =>
    obtain ⟨z, y, xs, r, ob, es, ep, e, c⟩ := x
    exact ⟨z, y, xs, Paired.mapP r fun p q z => ⟨z.1, ht _ _ z.2.1, z.2.2⟩, ob, es, ep, k _ _ (.inl rfl) e, c⟩
  | set S n => obtain ⟨ob, es, ep, t, e, c⟩ := x; exact ⟨ob, es, ep, t, k _ _ (.inl rfl) e, c⟩
  | ins C dx fs =>
    obtain ⟨d, z, ne, e, mA, ⟨od, es, ep, e2, c⟩, r⟩ := x
    exact ⟨ho _ d, z, ne, k _ _ (.inl rfl) e, mA, ⟨od, es, ep, k _ _ (.inr d) e2, c⟩, r⟩
  | own y => obtain ⟨ob, e⟩ := x; exact ⟨ob, k _ _ (.inl rfl) e⟩
  | xd fs => obtain ⟨mA, ⟨od, es, ep, e, c⟩, r⟩ := x; exact ⟨mA, ⟨od, es, ep, k _ _ (.inl rfl) e, c⟩, r⟩
  | rng lo hi => obtain ⟨t, u, v, e⟩ := x; exact ⟨t, u, v, k _ _ (.inl rfl) e⟩
  | frz ob u ih => obtain ⟨e, q⟩ := x; exact ⟨k _ _ (.inl rfl) e, ih q⟩
  | tbl ps =>
    have e : h.get? a = some { cls := .none, data := .fields ps } := x
    show h'.get? a = some { cls := .none, data := .fields ps }
    exact k a _ (.inl rfl) e
  | met f y =>
    have e : h.get? a = some (PySem.W.methodObj (.ref f) (.ref y)) := x
    show h'.get? a = some (PySem.W.methodObj (.ref f) (.ref y))
    exact k a _ (.inl rfl) e
  | ext φ => obtain ⟨p, ⟨o, e⟩, st⟩ := x; exact ⟨st _ _ p fun o q => k _ _ (.inl rfl) q, ⟨o, k _ _ (.inl rfl) e⟩, st⟩
theorem HOk.lt (x : HOk P w H h) (e : H a = some o) : a < h.objs.size := (x a o e).lt
theorem HOk.fresh (x : HOk P w H h) (e : h.objs.size ≤ a) : H a = none := by
  cases q : H a with
  | none => rfl
  | some u => exact absurd (Nat.lt_of_lt_of_le (x.lt q) e) (Nat.lt_irrefl _)
/-- every object of the heap is kept -/
theorem HOk.kept (x : HOk P w H h) (k : ∀ b u, h.get? b = some u → h'.get? b = some u) : HOk P w H h' := fun a o e =>
  (x a o e).stay (fun b u _ q => k b u q) (fun _ q => q) fun _ _ q => q
/-- a new object is laid and tracked -/
theorem HOk.laid (x : HOk P w H h) (k : ∀ b u, h.get? b = some u → h'.get? b = some u) (hp : h.objs.size ≤ a) (new : ObjOk P w (upd H a o) h' a o) : HOk P w (upd H a o) h' := fun b u e => by
  have hn := x.fresh hp
  by_cases hb : b = a
  · subst hb; rw [upd_same] at e; cases e; exact new
  · rw [upd_ne hb] at e
    exact (x b u e).stay (fun c v _ q => k c v q) (fun c q => by rw [upd_ne (ne_of_none q hn)]; exact q) fun c xs q => by rw [upd_ne (ne_of_none q hn)]; exact q
end

/-- what may be read as u: it is u, or a known u -/
def Rd (H : Hp) (a : Addr) (u : HO) : Prop := H a = some u ∨ ∃ o, H a = some (.frz o u)
theorem Rd.of {H : Hp} {a : Addr} {u : HO} (h : H a = some u) : Rd H a u := .inl h
theorem Rd.ok {P : Program} {w : World} {H : Hp} {h : Heap} {a : Addr} {u : HO} (r : Rd H a u) (x : HOk P w H h) : ObjOk P w H h a u := by
  rcases r with r | ⟨o, r⟩
  · exact x a u r
  · obtain ⟨_, q⟩ := x a _ r
    exact q
/-- what may be written -/
def Mut : Option HO → Prop
  | some (.lst _) => True
  | some (.dK _) => True
  | some (.dT _) => True
  | some (.set _ _) => True
  | some (.ins _ _ _) => True
  | some (.ext _) => True
  | _ => False
section
variable {P : Program} {w : World} {H : Hp} {h h' : Heap} {x e : Addr} {o' : HO}
/-- the object at e is changed: x itself, or the dict of the instance x -/
theorem HOk.write (ok : HOk P w H h) (mu : Mut (H x)) (he : e = x ∨ H e = some (.own x)) (k : ∀ b u, b ≠ e → h.get? b = some u → h'.get? b = some u) (heo : ∃ u, h'.get? e = some u)
    (new : ObjOk P w (upd H x o') h' x o') : HOk P w (upd H x o') h' := fun b u q => by
  have nown : ∀ c y, H c = some (.own y) → c ≠ x := fun c y r z => by subst z; rw [r] at mu; exact mu
  have ntup : ∀ c xs, H c = some (.tup xs) → c ≠ x := fun c xs r z => by subst z; rw [r] at mu; exact mu
  by_cases hb : b = x
  · subst hb; rw [upd_same] at q; cases q; exact new
  · rw [upd_ne hb] at q
    by_cases hbe : b = e
    · have q' : H b = some (.own x) := by
        rcases he with z | z
        · exact absurd (hbe.trans z) hb
        · rw [hbe]; exact z
      rw [q] at q'; cases q'
      obtain ⟨v, hv⟩ := heo
      exact ⟨v, by rw [hbe]; exact hv⟩
    · refine (ok b u q).stay (fun c v hc r => k c v ?_ r) (fun c r => by rw [upd_ne (nown c b r)]; exact r) fun c xs r => by rw [upd_ne (ntup c xs r)]; exact r
      rcases hc with rfl | hc
      · exact hbe
      · rintro rfl
        rcases he with z | z
        · exact nown c b hc z
        · rw [hc] at z; cases z; exact hb rfl
end

/-! ### kept unless tracked; of the frames at fs (the callers') the slots may change (an exception that passes writes there); of the records at ex (iterators) nothing is said -/
structure Un (fs ex : List Addr) (H H' : Hp) (h h' : Heap) : Prop where
  keep : ∀ b o, h.get? b = some o → H b = none → b ∉ fs → b ∉ ex → h'.get? b = some o
  slot : ∀ b o, h.get? b = some o → H b = none → b ∈ fs → b ∉ ex → ∃ sl, h'.get? b = some { o with slots := sl }
  free : ∀ b o, h.get? b = some o → H b = none → b ∉ ex → H' b = none
  there : ∀ b o, h.get? b = some o → b ∉ ex → ∃ o', h'.get? b = some o'
  tups : ∀ b xs, H b = some (.tup xs) → H' b = some (.tup xs)
  frzs : ∀ b o u, H b = some (.frz o u) → H' b = some (.frz o u)
  tbls : ∀ b ps, H b = some (.tbl ps) → ∃ more, H' b = some (.tbl (ps ++ more))
section
variable {fs fs' ex ex' : List Addr} {H H1 H2 : Hp} {h h1 h2 h' : Heap} {a x e : Addr} {o : HO}
theorem Un.any (u : Un fs ex H H1 h h1) {b : Addr} {ob : Obj} (q : h.get? b = some ob) (n : H b = none) (hx : b ∉ ex) : ∃ sl, h1.get? b = some { ob with slots := sl } := by
  by_cases hb : b ∈ fs
  · exact u.slot b ob q n hb hx
  · exact ⟨ob.slots, u.keep b ob q n hb hx⟩
theorem Un.trans (a : Un fs ex H H1 h h1) (b : Un fs ex H1 H2 h1 h2) : Un fs ex H H2 h h2 where
  keep := fun c ob q n hc hx => b.keep c ob (a.keep c ob q n hc hx) (a.free c ob q n hx) hc hx
  slot := fun c ob q n hc hx => by
    obtain ⟨sl, e1⟩ := a.slot c ob q n hc hx
    obtain ⟨sl', e2⟩ := b.slot c _ e1 (a.free c ob q n hx) hc hx
    exact ⟨sl', e2⟩
  free := fun c ob q n hx => by
    obtain ⟨o', e1⟩ := a.there c ob q hx
    exact b.free c o' e1 (a.free c ob q n hx) hx
  there := fun c ob q hx => by
    obtain ⟨o', e1⟩ := a.there c ob q hx
    exact b.there c o' e1 hx
  tups := fun c xs q => b.tups c xs (a.tups c xs q)
  frzs := fun c ob xs q => b.frzs c ob xs (a.frzs c ob xs q)
  tbls := fun c ps q => by
    obtain ⟨m1, e1⟩ := a.tbls c ps q
    obtain ⟨m2, e2⟩ := b.tbls c _ e1
    exact ⟨m1 ++ m2, by rw [e2, Array.append_assoc]⟩
theorem Un.kept (k : ∀ b u, h.get? b = some u → h'.get? b = some u) : Un fs ex H H h h' :=
  ⟨fun b ob q _ _ _ => k b ob q, fun b ob q _ _ _ => ⟨ob.slots, k b ob q⟩, fun _ _ _ n _ => n, fun b ob q _ => ⟨ob, k b ob q⟩, fun _ _ q => q, fun _ _ _ q => q, fun _ ps q => ⟨#[], by rw [q]; simp⟩⟩
theorem Un.refl : Un fs ex H H h h := Un.kept fun _ _ q => q
theorem Un.laid (k : ∀ b u, h.get? b = some u → h'.get? b = some u) (hp : h.objs.size ≤ a) (hn : H a = none) : Un fs ex H (upd H a o) h h' where
  keep := fun b u q _ _ _ => k b u q
  slot := fun b u q _ _ _ => ⟨u.slots, k b u q⟩
  free := fun b u q n _ => by rw [upd_ne (Nat.ne_of_lt (Nat.lt_of_lt_of_le (Heap.lt_size q) hp))]; exact n
  there := fun b u q _ => ⟨u, k b u q⟩
  tups := fun b xs q => by rw [upd_ne (ne_of_none q hn)]; exact q
  frzs := fun b u xs q => by rw [upd_ne (ne_of_none q hn)]; exact q
  tbls := fun b ps q => ⟨#[], by rw [upd_ne (ne_of_none q hn), q]; simp⟩
theorem Un.write (mu : Mut (H x)) (he : e = x ∨ H e = some (.own x)) (k : ∀ b u, b ≠ e → h.get? b = some u → h'.get? b = some u) (heo : ∃ u, h'.get? e = some u) : Un fs ex H (upd H x o) h h' := by
  have hx : ∀ b, H b = none → b ≠ x := fun b n z => by subst z; rw [n] at mu; exact mu
  have hb : ∀ b, H b = none → b ≠ e := fun b n z => by
    subst z
    rcases he with r | r
    · exact hx b n r
    · rw [n] at r; cases r
  have hm : ∀ b u, H b = some u → ¬ Mut (some u) → b ≠ x := fun b u q nm z => by subst z; rw [q] at mu; exact nm mu
  refine ⟨fun b u q n _ _ => k b u (hb b n) q, fun b u q n _ _ => ⟨u.slots, k b u (hb b n) q⟩, fun b u q n _ => by rw [upd_ne (hx b n)]; exact n, fun b u q _ => ?_,
    fun b xs q => by rw [upd_ne (hm b _ q fun z => z)]; exact q, fun b u xs q => by rw [upd_ne (hm b _ q fun z => z)]; exact q, fun b ps q => ⟨#[], by rw [upd_ne (hm b _ q fun z => z), q]; simp⟩⟩
  by_cases hbe : b = e
  · subst hbe; exact heo
  · exact ⟨u, k b u hbe q⟩
theorem Un.mono (u : Un fs ex H H1 h h1) (hs : ∀ b ∈ fs, b ∈ fs') (hx : ∀ b ∈ ex, b ∈ ex') : Un fs' ex' H H1 h h1 :=
  ⟨fun b ob q n hb he => u.keep b ob q n (fun z => hb (hs b z)) fun z => he (hx b z), fun _ _ q n _ he => u.any q n fun z => he (hx _ z), fun b ob q n he => u.free b ob q n fun z => he (hx b z), fun b ob q he => u.there b ob q fun z => he (hx b z), u.tups, u.frzs, u.tbls⟩
end

/-! ### the heap without what is tracked -/
def trk (h : Heap) (H : Hp) : List Addr := (List.range h.objs.size).filter fun a => (H a).isSome
def hidT (h : Heap) (H : Hp) : Heap := PySem.W.hideAll h (trk h H)
theorem hidT_size (h : Heap) (H : Hp) : (hidT h H).objs.size = h.objs.size := PySem.W.hideAll_size _ _
theorem hidT_get {h : Heap} {H : Hp} {b : Addr} {o : Obj} (e : h.get? b = some o) (n : H b = none) : (hidT h H).get? b = some o :=
  PySem.W.hideAll_get _ e fun hm => by
    have q : (H b).isSome = true := (List.mem_filter.mp hm).2
    rw [n] at q; simp at q
theorem of_hidT {h : Heap} {H : Hp} {b : Addr} {o : Obj} (e : (hidT h H).get? b = some o) : h.get? b = some o ∧ H b = none := by
  have e' : h.get? b = some o := PySem.W.of_hideAll (trk h H) e
  refine ⟨e', ?_⟩
  cases q : H b with
  | none => rfl
  | some x =>
    have hm : b ∈ trk h H := List.mem_filter.mpr ⟨List.mem_range.mpr (Heap.lt_size e'), by simp [q]⟩
    have z : (hidT h H).get? b = none := PySem.W.hideAll_none (trk h H) hm
    rw [z] at e; cases e

/-! ### OpenK's ledger, filled with every new object but one -/
def allNews (g h : Heap) (L : Addr) : List (Addr × Obj) := (List.range h.objs.size).filterMap fun a => if a = L ∨ (g.get? a).isSome = true then none else (h.get? a).map fun o => (a, o)
def rest (g h : Heap) (L d : Addr) : List (Addr × Obj) := (allNews g h L).filter fun p => decide (p.1 ≠ d)
end L2

namespace L2
open PySem PySem.Spec PyProof.Rows

/-- the module's facts, over the base: the heap at the law's entry without what is tracked there -/
structure Mod (K : PySem.W.Frag) (mg : Str → Option Value) (base : Heap) : Prop where
  kin : K.In base
  glob : base.Ns mainGlobals mg
  blt : ∃ mb, base.Ns builtinsNs mb ∧ ∀ x : Str, x ≠ "__name__" → mb x = bootBuiltins x
  nolimit : base.NoLimit

/-- the context: a def's body (or a comprehension's block) running. base: fixed through the whole law; s₀, H₀: the entry; outer: the frames whose slots others may change (a def's callers); stack: all frames that run;
   ex: iterators that were made ahead of the entry and are walked here (a comprehension's); fn: the names whose cells were made at the entry (a def: all; a comprehension's block: its own); calm: not within an except suite; pn: pins that every state bears; xe: what is wanted of an exception that leaves the code -/
structure Cx where
  prog : Program
  w : World
  K : PySem.W.Frag
  mg : Str → Option Value
  base : Heap
  A : Around
  N : List Str
  s₀ : Shared
  H₀ : Hp
  env : Env
  outer : List Env
  stack : List Env
  ex : List Addr
  fn : Str → Bool
  calm : Bool
  pn : List (Addr × Obj)
  xe : Value → Shared → Prop
/-- the callers' frames -/
def frs (l : List Env) : List Addr := l.filterMap (·.frame)
abbrev Cx.fs (X : Cx) : List Addr := frs X.outer

def Vis (sc : Scope) (x : Str) : Prop := sc.names.lookup x = some .local ∨ sc.names.lookup x = some .cell ∨ sc.names.lookup x = some .free
def Loc (sc : Scope) (x : Str) : Prop := sc.names.lookup x = some .local ∨ sc.names.lookup x = some .cell
def Look (env : Env) (h : Heap) (m : Str → Option Value) (x : Str) (u : Value) : Prop :=
  (env.kindOf x = some .local ∧ m x = some u) ∨ ((env.kindOf x = some .cell ∨ env.kindOf x = some .free) ∧ ∃ c, env.cells.lookup x = some c ∧ h.IsCell c (some u))

structure Cx.Ok (X : Cx) : Prop where
  mod : Mod X.K X.mg X.base
  kind : X.env.scope.kind = .function
  glob : X.env.globals = mainGlobals
  blt : X.env.builtins = builtinsNs
  above : X.s₀.heap.objs.size ≤ X.env.locals
  inj : ∀ x y c, X.env.cells.lookup x = some c → X.env.cells.lookup y = some c → x = y
  has : ∀ x, (X.env.kindOf x = some .cell ∨ X.env.kindOf x = some .free) → ∃ c, X.env.cells.lookup x = some c
  cab : ∀ x c, X.fn x = true → X.env.cells.lookup x = some c → X.s₀.heap.objs.size ≤ c
  hd : X.calm = true → X.A.handled = none
  frames : X.A.frames = some X.stack
  stk : X.stack = X.outer ∨ (X.stack = X.env :: X.outer ∧ X.env.frame = some X.env.locals)
  exf : ∀ b ∈ X.ex, b ≠ X.env.locals ∧ ∀ x c, X.env.cells.lookup x = some c → c ≠ b
  bs : ∀ b o, X.base.get? b = some o → X.s₀.heap.get? b = some o ∧ X.H₀ b = none
  bsz : X.base.objs.size ≤ X.s₀.heap.objs.size
  noex : ∀ b o, X.base.get? b = some o → b ∉ X.ex
  exfs : ∀ b ∈ X.ex, b ∉ X.fs
  funs : X.s₀.heap.FunFrames X.base X.outer
  frf : ∀ b ∈ X.fs, X.H₀ b = none

structure Inv (X : Cx) (pins : List (Addr × Obj)) (σ : List (Option V)) (H : Hp) (s : Shared) : Prop where
  ok : X.Ok
  os : s.os = X.s₀.os
  bare : AllBare s.gens
  base : Un X.fs X.ex X.H₀ H X.s₀.heap s.heap
  loc : ∃ m, s.heap.Ns X.env.locals m ∧ ∀ (i : Nat) (x : Str) (v : V), X.N[i]? = some x → σ[i]? = some (some v) → Vis X.env.scope x → ∃ u, RelV v u ∧ Look X.env s.heap m x u
  cell : ∀ x c, X.env.cells.lookup x = some c → ∃ v, s.heap.IsCell c v
  free : H X.env.locals = none
  freeC : ∀ x c, X.env.cells.lookup x = some c → H c = none
  pin : ∀ p ∈ X.pn ++ pins, s.heap.get? p.1 = some p.2 ∧ H p.1 = none ∧ p.1 ≠ X.env.locals ∧ p.1 ∉ X.fs ∧ ∀ v, p.2.data ≠ .cell v
  hok : HOk X.prog X.w H s.heap
  len : σ.length = X.N.length

section
variable {X : Cx} {pins : List (Addr × Obj)} {σ : List (Option V)} {H H' : Hp} {s : Shared} {h' : Heap}

theorem Cx.Ok.nofr (ok : X.Ok) {b : Addr} {o : Obj} (e : X.base.get? b = some o) : b ∉ X.fs := fun hb => by
  have := (ok.funs.mem hb).1
  rw [e] at this; cases this
theorem Inv.bs (I : Inv X pins σ H s) : ∀ b o, X.base.get? b = some o → s.heap.get? b = some o ∧ H b = none := fun b o e =>
  ⟨I.base.keep b o (I.ok.bs b o e).1 (I.ok.bs b o e).2 (I.ok.nofr e) (I.ok.noex b o e), I.base.free b o (I.ok.bs b o e).1 (I.ok.bs b o e).2 (I.ok.noex b o e)⟩
theorem Inv.bk (I : Inv X pins σ H s) : ∀ b o, X.base.get? b = some o → s.heap.get? b = some o := fun b o e => (I.bs b o e).1
theorem Inv.mod (I : Inv X pins σ H s) : Mod X.K X.mg X.base := I.ok.mod
theorem Inv.kIn (I : Inv X pins σ H s) : X.K.In s.heap := I.ok.mod.kin.keeps I.bk
theorem Inv.nolimit (I : Inv X pins σ H s) : s.heap.NoLimit := I.ok.mod.nolimit.keeps I.bk
theorem Inv.lt (I : Inv X pins σ H s) : X.env.locals < s.heap.objs.size := let ⟨_, hn, _⟩ := I.loc; hn.lt
theorem Inv.sz (I : Inv X pins σ H s) : X.s₀.heap.objs.size ≤ s.heap.objs.size := Nat.le_trans I.ok.above (Nat.le_of_lt I.lt)
theorem Inv.nofs (I : Inv X pins σ H s) {a : Addr} (h : s.heap.objs.size ≤ a) : a ∉ X.fs := fun hb => by
  obtain ⟨_, o, ho, _⟩ := I.ok.funs.mem hb
  exact absurd (Nat.lt_of_lt_of_le (Heap.lt_size ho) (Nat.le_trans I.sz h)) (Nat.lt_irrefl _)
theorem Inv.cne (I : Inv X pins σ H s) : ∀ x c, X.env.cells.lookup x = some c → c ≠ X.env.locals := fun x c e z => by
  obtain ⟨v, o, ho, hd⟩ := I.cell x c e
  obtain ⟨m, ⟨o', es, ep, ho', hd', _⟩, _⟩ := I.loc
  rw [z, ho'] at ho; cases ho; rw [hd'] at hd; cases hd
theorem Inv.funs (I : Inv X pins σ H s) : s.heap.FunFrames X.base X.outer := by
  have all : ∀ (l : List Env), (∀ b ∈ frs l, b ∈ X.fs) → X.s₀.heap.FunFrames X.base l → s.heap.FunFrames X.base l := by
    intro l
    induction l with
    | nil => intro _ _; trivial
    | cons env r ih =>
      intro hs hl
      obtain ⟨hk, ⟨L, o, hf, hn, ho, hd⟩, hr⟩ := hl
      have hL : L ∈ X.fs := hs L (by unfold frs; rw [List.filterMap_cons, hf]; exact List.mem_cons_self)
      obtain ⟨sl, e⟩ := I.base.slot L o ho (I.ok.frf L hL) hL fun z => I.ok.exfs L z hL
      exact ⟨hk, ⟨L, _, hf, hn, e, hd⟩, ih (fun b hb => hs b (by unfold frs; rw [List.filterMap_cons, hf]; exact List.mem_cons_of_mem _ hb)) hr⟩
  exact all X.outer (fun _ hb => hb) I.ok.funs

/-- the frames that run, for a call -/
theorem Inv.stack (I : Inv X pins σ H s) : s.heap.FunFrames X.base X.stack := by
  rcases I.ok.stk with e | ⟨e, hf⟩
  · rw [e]; exact I.funs
  · rw [e]
    obtain ⟨m, hn, _⟩ := I.loc
    refine .cons (by rw [I.ok.kind]; decide) hf hn ?_ I.funs
    exact Heap.get?_none_of_le (Nat.le_trans I.ok.bsz I.ok.above)
theorem Inv.stkSub (I : Inv X pins σ H s) : ∀ b ∈ frs X.stack, b ∈ X.env.locals :: X.fs := fun b hb => by
  rcases I.ok.stk with e | ⟨e, hf⟩
  · rw [e] at hb; exact List.mem_cons_of_mem _ hb
  · rw [e] at hb
    unfold frs at hb
    rw [List.filterMap_cons, hf] at hb
    exact hb
theorem Inv.stkFree (I : Inv X pins σ H s) : ∀ b ∈ frs X.stack, H b = none := fun b hb => by
  rcases List.mem_cons.mp (I.stkSub b hb) with e | hb
  · rw [e]; exact I.free
  · obtain ⟨_, o, ho, _⟩ := I.ok.funs.mem hb
    exact I.base.free b o ho (I.ok.frf b hb) fun z => I.ok.exfs b z hb

/-- THE STEP: the untracked objects but the frame and the records at ch are kept (the callers' frames up to slots), the frame's map is kept, the new abstract heap is held -/
theorem Inv.step {g' : Array GenState} {t' : Nat} {d' : Drawn} {ch : List Addr} (I : Inv X pins σ H s)
    (hch : ∀ b ∈ ch, (b ∈ X.ex ∨ X.s₀.heap.objs.size ≤ b) ∧ b ≠ X.env.locals ∧ (∀ x c, X.env.cells.lookup x = some c → c ≠ b) ∧ ∀ p ∈ X.pn ++ pins, p.1 ≠ b)
    (keep : ∀ b o, b ≠ X.env.locals → b ∉ X.fs → b ∉ ch → s.heap.get? b = some o → H b = none → h'.get? b = some o)
    (slot : ∀ b o, b ≠ X.env.locals → b ∈ X.fs → b ∉ ch → s.heap.get? b = some o → H b = none → ∃ sl, h'.get? b = some { o with slots := sl }) (free : ∀ b o, b ∉ ch → s.heap.get? b = some o → H b = none → H' b = none)
    (there : ∀ b o, b ∉ ch → s.heap.get? b = some o → ∃ o', h'.get? b = some o')
    (tups : ∀ b xs, H b = some (.tup xs) → H' b = some (.tup xs)) (frzs : ∀ b o u, H b = some (.frz o u) → H' b = some (.frz o u)) (tbls : ∀ b ps, H b = some (.tbl ps) → ∃ more, H' b = some (.tbl (ps ++ more)))
    (ns : ∀ m, s.heap.Ns X.env.locals m → h'.Ns X.env.locals m) (hok : HOk X.prog X.w H' h') (hg : AllBare g') :
    Inv X pins σ H' { s with heap := h', gens := g', drawn := d', toks := t' } := by
  have neL : ∀ b o, X.s₀.heap.get? b = some o → b ≠ X.env.locals := fun b o e => Nat.ne_of_lt (Nat.lt_of_lt_of_le (Heap.lt_size e) I.ok.above)
  have neC : ∀ b o, X.s₀.heap.get? b = some o → b ∉ X.ex → b ∉ ch := fun b o e hx hb => by
    rcases (hch b hb).1 with z | z
    · exact hx z
    · exact absurd (Nat.lt_of_lt_of_le (Heap.lt_size e) z) (Nat.lt_irrefl _)
  have cellK : ∀ x c, X.env.cells.lookup x = some c → ∀ v, s.heap.IsCell c v → h'.IsCell c v := fun x c e v ⟨o, ho, hd⟩ => by
    have nch : c ∉ ch := fun z => (hch c z).2.2.1 x c e rfl
    by_cases hc : c ∈ X.fs
    · obtain ⟨sl, q⟩ := slot c o (I.cne x c e) hc nch ho (I.freeC x c e)
      exact ⟨_, q, hd⟩
    · exact ⟨o, keep c o (I.cne x c e) hc nch ho (I.freeC x c e), hd⟩
  refine ⟨I.ok, I.os, hg, ⟨fun b o e n hb hx => ?_, fun b o e n hb hx => ?_, fun b o e n hx => ?_, fun b o e hx => ?_, fun b xs e => tups b xs (I.base.tups b xs e), fun b o xs e => frzs b o xs (I.base.frzs b o xs e), fun b ps e => ?_⟩, ?_, fun x c e => ?_, ?_, fun x c e => ?_, fun p hp => ?_, hok, I.len⟩
  · exact keep b o (neL b o e) hb (neC b o e hx) (I.base.keep b o e n hb hx) (I.base.free b o e n hx)
  · obtain ⟨sl, e1⟩ := I.base.slot b o e n hb hx
    obtain ⟨sl', e2⟩ := slot b _ (neL b o e) hb (neC b o e hx) e1 (I.base.free b o e n hx)
    exact ⟨sl', e2⟩
  · obtain ⟨o', e1⟩ := I.base.there b o e hx
    exact free b o' (neC b o e hx) e1 (I.base.free b o e n hx)
  · obtain ⟨o', e1⟩ := I.base.there b o e hx
    exact there b o' (neC b o e hx) e1
  · obtain ⟨m1, e1⟩ := I.base.tbls b ps e
    obtain ⟨m2, e2⟩ := tbls b _ e1
    exact ⟨m1 ++ m2, by rw [e2, Array.append_assoc]⟩
  · obtain ⟨m, hn, hl⟩ := I.loc
    refine ⟨m, ns m hn, fun i x v e1 e2 e3 => ?_⟩
    obtain ⟨u, r, l⟩ := hl i x v e1 e2 e3
    refine ⟨u, r, ?_⟩
    rcases l with l | ⟨k, c, e, z⟩
    · exact .inl l
    · exact .inr ⟨k, c, e, cellK x c e _ z⟩
  · obtain ⟨v, z⟩ := I.cell x c e
    exact ⟨v, cellK x c e v z⟩
  · obtain ⟨m, ⟨o, _, _, ho, _⟩, _⟩ := I.loc
    exact free _ o (fun z => (hch _ z).2.1 rfl) ho I.free
  · obtain ⟨v, o, ho, hd⟩ := I.cell x c e
    exact free c o (fun z => (hch c z).2.2.1 x c e rfl) ho (I.freeC x c e)
  · obtain ⟨e, n, ne, nf, d⟩ := I.pin p hp
    have nch : p.1 ∉ ch := fun z => (hch p.1 z).2.2.2 p hp rfl
    exact ⟨keep p.1 p.2 ne nf nch e n, free p.1 p.2 nch e n, ne, nf, d⟩
/-- .. where the frame's own object is kept too -/
theorem Inv.un {t' : Nat} (I : Inv X pins σ H s) (u : Un X.fs [] H H' s.heap h') (hok : HOk X.prog X.w H' h') : Inv X pins σ H' { s with heap := h', toks := t' } := by
  obtain ⟨m, ⟨o, es, ep, ho, r⟩, _⟩ := id I.loc
  obtain ⟨sl, hL⟩ := u.any ho I.free (by simp)
  exact I.step (g' := s.gens) (d' := s.drawn) (ch := []) (fun _ z => nomatch z) (fun b o _ hb _ e n => u.keep b o e n hb (by simp)) (fun b o _ hb _ e n => u.slot b o e n hb (by simp)) (fun b o _ e n => u.free b o e n (by simp)) (fun b o _ e => u.there b o e (by simp)) u.tups u.frzs u.tbls (fun m' hm => by
    obtain ⟨o', es', ep', ho', r'⟩ := hm
    rw [ho] at ho'; cases ho'
    exact ⟨_, es', ep', hL, r'⟩) hok I.bare
/-- behind a call (or a comprehension's block): the slots of this frame may have changed too, the records at ch may have turned -/
theorem Inv.call {g' : Array GenState} {t' : Nat} {d' : Drawn} {ch : List Addr} (I : Inv X pins σ H s) (u : Un (frs X.stack) ch H H' s.heap h') (hok : HOk X.prog X.w H' h') (hg : AllBare g')
    (hch : ∀ b ∈ ch, (b ∈ X.ex ∨ X.s₀.heap.objs.size ≤ b) ∧ b ≠ X.env.locals ∧ (∀ x c, X.env.cells.lookup x = some c → c ≠ b) ∧ ∀ p ∈ X.pn ++ pins, p.1 ≠ b) :
    Inv X pins σ H' { s with heap := h', gens := g', drawn := d', toks := t' } := by
  obtain ⟨m, ⟨o, es, ep, ho, r⟩, _⟩ := id I.loc
  obtain ⟨sl, hL⟩ := u.any ho I.free fun z => (hch _ z).2.1 rfl
  exact I.step (ch := ch) hch (fun b o hL hb hc e n => u.keep b o e n (fun z => (List.mem_cons.mp (I.stkSub b z)).elim hL hb) hc) (fun b o _ _ hc e n => u.any e n hc) (fun b o hc e n => u.free b o e n hc) (fun b o hc e => u.there b o e hc) u.tups u.frzs u.tbls (fun m' hm => by
    obtain ⟨o', es', ep', ho', r'⟩ := hm
    rw [ho] at ho'; cases ho'
    exact ⟨_, es', ep', hL, r'⟩) hok hg
/-- an untracked record of ours (an iterator) has turned -/
theorem Inv.turned {t' : Nat} {it : Addr} (I : Inv X pins σ H s) (k : ∀ b o, b ≠ it → s.heap.get? b = some o → h'.get? b = some o) (hn : H it = none) (hL : it ≠ X.env.locals)
    (h1 : it ∈ X.ex ∨ X.s₀.heap.objs.size ≤ it) (h2 : ∀ x c, X.env.cells.lookup x = some c → c ≠ it) (h3 : ∀ p ∈ X.pn ++ pins, p.1 ≠ it) : Inv X pins σ H { s with heap := h', toks := t' } := by
  have nit : ∀ b u, H b = some u → b ≠ it := fun b u e z => by rw [z, hn] at e; cases e
  refine I.step (g' := s.gens) (d' := s.drawn) (ch := [it]) (fun b hb => ?_) (fun b o _ _ hc e _ => k b o (fun z => hc (by simp [z])) e) (fun b o _ _ hc e _ => ⟨o.slots, k b o (fun z => hc (by simp [z])) e⟩) (fun _ _ _ _ n => n)
    (fun b o hc e => ⟨o, k b o (fun z => hc (by simp [z])) e⟩) (fun _ _ e => e) (fun _ _ _ e => e) (fun b ps e => ⟨#[], by rw [e]; simp⟩) (fun m hm => ?_) (fun b u e => ?_) I.bare
  · have e : b = it := by simpa using hb
    subst e
    exact ⟨h1, hL, h2, h3⟩
  · obtain ⟨o, es, ep, ho, r⟩ := hm
    exact ⟨o, es, ep, k _ o (Ne.symm hL) ho, r⟩
  · refine (I.hok b u e).stay (fun c v hc q => k c v ?_ q) (fun _ q => q) fun _ _ q => q
    rcases hc with z | z
    · rw [z]; exact nit b u e
    · exact nit c _ z
theorem Inv.tok (I : Inv X pins σ H s) (t : Nat) : Inv X pins σ H { s with toks := t } := I.un (h' := s.heap) (t' := t) Un.refl I.hok
/-- all objects kept -/
theorem Inv.kept {t' : Nat} (I : Inv X pins σ H s) (k : ∀ b u, s.heap.get? b = some u → h'.get? b = some u) : Inv X pins σ H { s with heap := h', toks := t' } := I.un (Un.kept k) (I.hok.kept k)
/-- a new object laid and tracked -/
theorem Inv.laid {a : Addr} {o : HO} {t' : Nat} (I : Inv X pins σ H s) (k : ∀ b u, s.heap.get? b = some u → h'.get? b = some u) (hp : s.heap.objs.size ≤ a) (new : ObjOk X.prog X.w (upd H a o) h' a o) :
    Inv X pins σ (upd H a o) { s with heap := h', toks := t' } := I.un (Un.laid k hp (I.hok.fresh hp)) (I.hok.laid k hp new)
/-- an object written -/
theorem Inv.write {x e : Addr} {o : HO} {t' : Nat} (I : Inv X pins σ H s) (mu : Mut (H x)) (he : e = x ∨ H e = some (.own x)) (k : ∀ b u, b ≠ e → s.heap.get? b = some u → h'.get? b = some u) (heo : ∃ u, h'.get? e = some u)
    (new : ObjOk X.prog X.w (upd H x o) h' x o) : Inv X pins σ (upd H x o) { s with heap := h', toks := t' } := I.un (Un.write mu he k heo) (I.hok.write mu he k heo new)
/-- forgetting slots, pins -/
theorem Inv.weak {σ' : List (Option V)} (I : Inv X pins σ H s) (hl : σ'.length = σ.length) (w : ∀ (i : Nat) v, σ'[i]? = some (some v) → σ[i]? = some (some v)) : Inv X pins σ' H s :=
  ⟨I.ok, I.os, I.bare, I.base, let ⟨m, hn, hl'⟩ := I.loc; ⟨m, hn, fun i x v e1 e2 e3 => hl' i x v e1 (w i v e2) e3⟩, I.cell, I.free, I.freeC, I.pin, I.hok, hl.trans I.len⟩
theorem Inv.pins_of {pins' : List (Addr × Obj)} (I : Inv X pins σ H s) (h : ∀ p ∈ pins', s.heap.get? p.1 = some p.2 ∧ H p.1 = none ∧ p.1 ≠ X.env.locals ∧ p.1 ∉ X.fs ∧ ∀ v, p.2.data ≠ .cell v) : Inv X pins' σ H s :=
  ⟨I.ok, I.os, I.bare, I.base, I.loc, I.cell, I.free, I.freeC, fun p hp => (List.mem_append.mp hp).elim (fun z => I.pin p (List.mem_append_left _ z)) (h p), I.hok, I.len⟩

theorem nodup_ix {N : List Str} (hN : N.Nodup) {i j : Nat} {x : Str} (a : N[i]? = some x) (b : N[j]? = some x) : i = j := by
  obtain ⟨h1, e1⟩ := List.getElem?_eq_some_iff.mp a
  obtain ⟨h2, e2⟩ := List.getElem?_eq_some_iff.mp b
  exact (List.getElem_inj hN).mp (e1.trans e2.symm)

/-- a name is stored; what changed -/
theorem store_ok2 {M : Model} {A : Around} {E : Value → Shared → Prop} {i : Nat} {x : Str} {v : V} {u : Value} {Q : Unit → Shared → Prop} (I : Inv X pins σ H s) (hN : X.N.Nodup) (hi : X.N[i]? = some x) (hx : Loc X.env.scope x) (r : RelV v u)
    (h : ∀ s', Inv X pins (σ.set i (some v)) H s' → (∃ a, Heap.SameBut a s.heap s'.heap ∧ (a = X.env.locals ∨ X.env.cells.lookup x = some a)) → Q () s') (hf : X.fn x = true ∨ X.env.scope.names.lookup x = some .local := by first | exact .inl rfl | exact .inr rfl | assumption) : wpAny M A (storeName X.env x u) Q E s := by
  obtain ⟨m, hn, hl⟩ := id I.loc
  have hcls : (X.env.scope.kind == .class || (X.env.scope.kind == .module && X.env.locals != X.env.globals)) = false := by rw [I.ok.kind]; rfl
  have hiσ : i < σ.length := by rw [I.len]; exact (List.getElem?_eq_some_iff.mp hi).1
  have cne := I.cne
  have tracked : ∀ {a : Addr} {h' : Heap}, (∃ o, s.heap.get? a = some o ∧ H a = none) → Heap.SameBut a s.heap h' → HOk X.prog X.w H h' := fun {a h'} ha hs b ob e => by
    obtain ⟨_, _, hfree⟩ := ha
    refine (I.hok b ob e).stay (fun c w' hc q => (hs.2 c ?_).trans q) (fun _ q => q) fun _ _ q => q
    rintro rfl
    rcases hc with rfl | hc
    · rw [hfree] at e; cases e
    · rw [hfree] at hc; cases hc
  rcases hx with hk | hk
  · refine wpAny_storeName_local hk hn (fun h' hn' hs => ?_) hcls
    obtain ⟨oL, _, _, hoL, _⟩ := id hn
    refine h _ ⟨I.ok, I.os, I.bare, ⟨fun b o e n hb hx => ?_, fun b o e n hb hx => ?_, I.base.free, fun b o e hx => ?_, I.base.tups, I.base.frzs, I.base.tbls⟩, ⟨_, hn', fun j y v' e1 e2 e3 => ?_⟩, fun y c e => ?_, I.free, I.freeC, fun p hp => ?_, tracked ⟨oL, hoL, I.free⟩ hs, by simpa using I.len⟩ ⟨_, hs, .inl rfl⟩
    · exact (hs.2 b (Nat.ne_of_lt (Nat.lt_of_lt_of_le (Heap.lt_size e) I.ok.above))).trans (I.base.keep b o e n hb hx)
    · obtain ⟨sl, e1⟩ := I.base.slot b o e n hb hx
      exact ⟨sl, (hs.2 b (Nat.ne_of_lt (Nat.lt_of_lt_of_le (Heap.lt_size e) I.ok.above))).trans e1⟩
    · obtain ⟨o', e1⟩ := I.base.there b o e hx
      exact ⟨o', (hs.2 b (Nat.ne_of_lt (Nat.lt_of_lt_of_le (Heap.lt_size e) I.ok.above))).trans e1⟩
    · by_cases hj : j = i
      · subst hj
        rw [hi] at e1; cases e1
        rw [List.getElem?_set_self hiσ] at e2
        cases e2
        exact ⟨u, r, .inl ⟨hk, by simp⟩⟩
      · rw [List.getElem?_set_ne (Ne.symm hj)] at e2
        obtain ⟨u', r', q⟩ := hl j y v' e1 e2 e3
        refine ⟨u', r', ?_⟩
        rcases q with ⟨k, e⟩ | ⟨k, c, e, z⟩
        · refine .inl ⟨k, ?_⟩
          have : y ≠ x := fun e => hj (nodup_ix hN e1 (e ▸ hi))
          simp [this, e]
        · exact .inr ⟨k, c, e, z.sameBut hs (cne y c e)⟩
    · obtain ⟨w', z⟩ := I.cell y c e
      exact ⟨w', z.sameBut hs (cne y c e)⟩
    · obtain ⟨e, n, ne, nf, d⟩ := I.pin p hp
      exact ⟨(hs.2 p.1 ne).trans e, n, ne, nf, d⟩
  · have hfn : X.fn x = true := by
      rcases hf with z | z
      · exact z
      · rw [z] at hk; cases hk
    obtain ⟨c, hc⟩ := I.ok.has x (.inl hk)
    obtain ⟨w', z⟩ := I.cell x c hc
    refine wpAny_storeName_cell I.ok.kind hk hc z (fun h' hc' hs => ?_)
    obtain ⟨oc, hoc, hocd⟩ := id z
    refine h { s with heap := h' } ⟨I.ok, I.os, I.bare, ⟨fun b o e n hb hx => ?_, fun b o e n hb hx => ?_, I.base.free, fun b o e hx => ?_, I.base.tups, I.base.frzs, I.base.tbls⟩, ⟨m, hn.sameBut hs (Ne.symm (cne x c hc)), fun j y v' e1 e2 e3 => ?_⟩, fun y c' e => ?_, I.free, I.freeC, fun p hp => ?_, tracked ⟨oc, hoc, I.freeC x c hc⟩ hs, by simpa using I.len⟩ ⟨c, hs, .inr hc⟩
    · exact (hs.2 b (Nat.ne_of_lt (Nat.lt_of_lt_of_le (Heap.lt_size e) (I.ok.cab x c hfn hc)))).trans (I.base.keep b o e n hb hx)
    · obtain ⟨sl, e1⟩ := I.base.slot b o e n hb hx
      exact ⟨sl, (hs.2 b (Nat.ne_of_lt (Nat.lt_of_lt_of_le (Heap.lt_size e) (I.ok.cab x c hfn hc)))).trans e1⟩
    · obtain ⟨o', e1⟩ := I.base.there b o e hx
      exact ⟨o', (hs.2 b (Nat.ne_of_lt (Nat.lt_of_lt_of_le (Heap.lt_size e) (I.ok.cab x c hfn hc)))).trans e1⟩
    · by_cases hj : j = i
      · subst hj
        rw [hi] at e1; cases e1
        rw [List.getElem?_set_self hiσ] at e2
        cases e2
        exact ⟨u, r, .inr ⟨.inl hk, c, hc, hc'⟩⟩
      · rw [List.getElem?_set_ne (Ne.symm hj)] at e2
        obtain ⟨u', r', q⟩ := hl j y v' e1 e2 e3
        refine ⟨u', r', ?_⟩
        rcases q with q | ⟨k, c', e, z'⟩
        · exact .inl q
        · refine .inr ⟨k, c', e, z'.sameBut hs ?_⟩
          rintro rfl
          exact hj (nodup_ix hN e1 (I.ok.inj _ _ _ e hc ▸ hi))
    · by_cases hcc : c' = c
      · subst hcc; exact ⟨_, hc'⟩
      · obtain ⟨w2, z2⟩ := I.cell y c' e
        exact ⟨w2, z2.sameBut hs hcc⟩
    · obtain ⟨e, n, ne, nf, d⟩ := I.pin p hp
      refine ⟨(hs.2 p.1 ?_).trans e, n, ne, nf, d⟩
      intro q
      rw [q, hoc] at e
      have q' : oc = p.2 := Option.some.inj e
      exact d w' (by rw [← q']; exact hocd)
theorem store_ok {M : Model} {A : Around} {E : Value → Shared → Prop} {i : Nat} {x : Str} {v : V} {u : Value} {Q : Unit → Shared → Prop} (I : Inv X pins σ H s) (hN : X.N.Nodup) (hi : X.N[i]? = some x) (hx : Loc X.env.scope x) (r : RelV v u)
    (h : ∀ s', Inv X pins (σ.set i (some v)) H s' → Q () s') (hf : X.fn x = true ∨ X.env.scope.names.lookup x = some .local := by first | exact .inl rfl | exact .inr rfl | assumption) : wpAny M A (storeName X.env x u) Q E s :=
  store_ok2 I hN hi hx r (fun s' I' _ => h s' I') hf
/-- behind a call or a block, the state as it is -/
theorem Inv.call' {s' : Shared} {ch : List Addr} (I : Inv X pins σ H s) (ho : s'.os = s.os) (u : Un (frs X.stack) ch H H' s.heap s'.heap) (hok : HOk X.prog X.w H' s'.heap) (hg : AllBare s'.gens)
    (hch : ∀ b ∈ ch, (b ∈ X.ex ∨ X.s₀.heap.objs.size ≤ b) ∧ b ≠ X.env.locals ∧ (∀ x c, X.env.cells.lookup x = some c → c ≠ b) ∧ ∀ p ∈ X.pn ++ pins, p.1 ≠ b) : Inv X pins σ H' s' := by
  obtain ⟨h', g', d', t', o'⟩ := s'
  have e : o' = s.os := ho
  subst e
  exact I.call (g' := g') (t' := t') (d' := d') u hok hg hch
end

/-! ### the judgements -/
/-- an exception: its class, its own dict's address (where it has one), the abstract heap behind it -/
abbrev XK := Value → Option Addr → Hp → Prop
abbrev St := List (Option V)
abbrev VK := V → Hp → Prop
/-- an expression's reading; a test's; an argument list's -/
abbrev TE := St → Hp → VK → Prop
abbrev TT := St → Hp → (Bool → Hp → Prop) → Prop
abbrev TA := St → Hp → (List V → Hp → Prop) → Prop
/-- what is wanted behind a statement -/
structure Ends where
  nx : St → Hp → Prop
  rt : VK
  bk : St → Hp → Prop := fun _ _ => False
  ct : St → Hp → Prop := fun _ _ => False
abbrev TS := Ends → St → Hp → Prop

def EP (X : Cx) (pins : List (Addr × Obj)) (σ : St) (Q : VK) (u : Value) (s' : Shared) : Prop := ∃ v H', Inv X pins σ H' s' ∧ RelV v u ∧ Q v H'
def TP (X : Cx) (pins : List (Addr × Obj)) (σ : St) (Q : Bool → Hp → Prop) (b : Bool) (s' : Shared) : Prop := ∃ H', Inv X pins σ H' s' ∧ Q b H'
def AP (X : Cx) (pins : List (Addr × Obj)) (σ : St) (Q : List V → Hp → Prop) (us : List Value) (s' : Shared) : Prop := ∃ vs H', Inv X pins σ H' s' ∧ Vals vs us ∧ Q vs H'
def SP (X : Cx) (pins : List (Addr × Obj)) (D : Ends) (f : Flow) (s' : Shared) : Prop :=
  match f with
  | .next => ∃ σ' H', Inv X pins σ' H' s' ∧ D.nx σ' H'
  | .brk => ∃ σ' H', Inv X pins σ' H' s' ∧ D.bk σ' H'
  | .cont => ∃ σ' H', Inv X pins σ' H' s' ∧ D.ct σ' H'
  | .ret u => ∃ v σ' H', Inv X pins σ' H' s' ∧ RelV v u ∧ D.rt v H'

def PE (X : Cx) (e : Expr) (t : TE) : Prop :=
  ∀ (pins : List (Addr × Obj)) (s : Shared) (σ : St) (H : Hp) (Q : VK), Inv X pins σ H s → t σ H Q → wpAny (model X.prog X.w) X.A (eval e X.env) (EP X pins σ Q) X.xe s
def PT (X : Cx) (e : Expr) (t : TT) : Prop :=
  ∀ (pins : List (Addr × Obj)) (s : Shared) (σ : St) (H : Hp) (Q : Bool → Hp → Prop), Inv X pins σ H s → t σ H Q → wpAny (model X.prog X.w) X.A (isTrue e X.env (eval e X.env)) (TP X pins σ Q) X.xe s
/-- a test whatever its 'whole' is (and, or) -/
def PW (X : Cx) (e : Expr) (t : TT) : Prop :=
  ∀ (whole : Sem Value) (pins : List (Addr × Obj)) (s : Shared) (σ : St) (H : Hp) (Q : Bool → Hp → Prop), Inv X pins σ H s → t σ H Q → wpAny (model X.prog X.w) X.A (isTrue e X.env whole) (TP X pins σ Q) X.xe s
theorem PW.pt {X : Cx} {e : Expr} {t : TT} (h : PW X e t) : PT X e t := h _
/-- an argument list (no star), from the left -/
def PA (X : Cx) (es : List Expr) (t : TA) : Prop :=
  ∀ (pos : Pos) (pins : List (Addr × Obj)) (s : Shared) (σ : St) (H : Hp) (Q : List V → Hp → Prop), Inv X pins σ H s → t σ H Q → wpAny (model X.prog X.w) X.A (spliced (backTo pos (starEach es X.env))) (AP X pins σ Q) X.xe s
def PS (X : Cx) (st : Stmt) (t : TS) : Prop :=
  ∀ (pins : List (Addr × Obj)) (s : Shared) (σ : St) (H : Hp) (D : Ends), Inv X pins σ H s → t D σ H → wpAny (model X.prog X.w) X.A (exec st X.env) (SP X pins D) X.xe s
def PSs (X : Cx) (st : List Stmt) (t : TS) : Prop :=
  ∀ (pins : List (Addr × Obj)) (s : Shared) (σ : St) (H : Hp) (D : Ends), Inv X pins σ H s → t D σ H → wpAny (model X.prog X.w) X.A (execs st X.env) (SP X pins D) X.xe s
/-- weaken the end -/
theorem thn {α : Type} {t : Sem α} {Q Q' : α → Shared → Prop} {M : Model} {A : Around} {E : Value → Shared → Prop} {s : Shared} (h : wpAny M A t Q E s) (hQ : ∀ a s, Q a s → Q' a s) : wpAny M A t Q' E s := wpAny_mono h hQ fun _ _ x => x
end L2

namespace L2
open PySem PySem.Spec PyProof.Rows
section
variable {X : Cx}

/-! ### names and constants -/
def tVar (i : Nat) : TE := fun σ H Q => ∃ v, σ[i]? = some (some v) ∧ Q v H
def tC (v : V) : TE := fun _ H Q => Q v H
theorem pe_var {i : Nat} {x : Str} {pos : Pos} (hN : X.N[i]? = some x) (hv : Vis X.env.scope x) (hd : (x == ("__debug__" : Str)) = false := by decide) (hcd : (x == ("__classdict__" : Str)) = false := by decide) : PE X (.Name x pos) (tVar i) := by
  intro pins s σ H Q I h
  obtain ⟨v, e, h⟩ := h
  obtain ⟨m, hn, hl⟩ := I.loc
  obtain ⟨u, r, l⟩ := hl i x v hN e hv
  have fin : EP X pins σ Q u s := ⟨v, H, I, r, h⟩
  rcases l with ⟨hk, hm⟩ | ⟨hk, c, hc, hcell⟩
  · exact wpAny_Name (wpAny_loadName_local I.ok.kind hk hn hm fin) hd
  · rcases hk with hk | hk
    · exact wpAny_Name (wpAny_loadName_cell I.ok.kind hk hc hcell fin) hd
    · exact wpAny_Name (wpAny_loadName_free I.ok.kind hk hc hcell fin hcd) hd
theorem pe_int {i j pos} : PE X (.Constant (.int i) j pos) (tC (.int i)) := fun _ _ _ H _ I h => wpAny_Constant_int ⟨.int i, H, I.tok _, ⟨_, rfl⟩, h⟩
theorem pe_bl {b j pos} : PE X (.Constant (.bool b) j pos) (tC (.bl b)) := fun _ _ _ H _ I h => Constant_bool ⟨.bl b, H, I, rfl, h⟩
theorem pe_non {j pos} : PE X (.Constant .none j pos) (tC .non) := fun _ _ _ H _ I h => Constant_none ⟨.non, H, I, rfl, h⟩
theorem pe_str {x j pos} : PE X (.Constant (.str x) j pos) (tC (.str x)) := fun _ _ _ H _ I h => Calls.Constant_str ⟨.str x, H, I.tok _, ⟨_, rfl⟩, h⟩

/-- a global name of the def -/
def Gl (X : Cx) (x : Str) : Prop := X.env.kindOf x = some .globalImplicit
theorem ld_glob {E : Value → Shared → Prop} {pins : List (Addr × Obj)} {s : Shared} {σ : St} {H : Hp} {x : Str} {u : Value} {pos : Pos} {Q : Value → Shared → Prop} (I : Inv X pins σ H s) (hg : Gl X x) (hm : X.mg x = some u) (h : Q u s)
    (hd : (x == ("__debug__" : Str)) = false := by decide) : wpAny (model X.prog X.w) X.A (eval (.Name x pos) X.env) Q E s :=
  Calls.Name_function_global I.ok.kind hg (Calls.loadGlobal_global (by rw [I.ok.glob]; exact I.mod.glob.keeps I.bk) hm h) hd
theorem ld_blt {E : Value → Shared → Prop} {pins : List (Addr × Obj)} {s : Shared} {σ : St} {H : Hp} {x : Str} {u : Value} {pos : Pos} {Q : Value → Shared → Prop} (I : Inv X pins σ H s) (hg : Gl X x) (hm : X.mg x = none) (hv : bootBuiltins x = some u) (h : Q u s)
    (hn : x ≠ "__name__" := by decide) (hd : (x == ("__debug__" : Str)) = false := by decide) : wpAny (model X.prog X.w) X.A (eval (.Name x pos) X.env) Q E s := by
  obtain ⟨mb, h1, h2⟩ := I.mod.blt
  exact Calls.Name_function_global I.ok.kind hg (Calls.loadGlobal_builtin (by rw [I.ok.glob]; exact I.mod.glob.keeps I.bk) hm (by rw [I.ok.blt]; exact h1.keeps I.bk) ((h2 x hn).trans hv) h) hd
/-- a module's constant, a class, a function, as a value -/
theorem pe_glob {x : Str} {v : V} {u : Value} {pos : Pos} (hg : Gl X x) (hm : X.mg x = some u) (r : RelV v u) (hd : (x == ("__debug__" : Str)) = false := by decide) : PE X (.Name x pos) (tC v) :=
  fun _ _ _ H _ I h => ld_glob I hg hm ⟨v, H, I, r, h⟩ hd
theorem pe_bltn {x : Str} {v : V} {u : Value} {pos : Pos} (hg : Gl X x) (hm : X.mg x = none) (hv : bootBuiltins x = some u) (r : RelV v u) (hn : x ≠ "__name__" := by decide) (hd : (x == ("__debug__" : Str)) = false := by decide) : PE X (.Name x pos) (tC v) :=
  fun _ _ _ H _ I h => ld_blt I hg hm hv ⟨v, H, I, r, h⟩ hn hd

/-! ### arithmetic -/
variable {a b : Expr} {ta tb : TE} {pos : Pos}
/-! ### comparisons -/
def PC (X : Cx) (op : CmpOp) (a b : Expr) (t : TE) : Prop :=
  ∀ (pins : List (Addr × Obj)) (s : Shared) (σ : St) (H : Hp) (Q : VK), Inv X pins σ H s → t σ H Q →
    wpAny (model X.prog X.w) X.A (eval a X.env) (fun v s₁ => wpAny (model X.prog X.w) X.A (eval b X.env) (fun u s₂ => wpAny (model X.prog X.w) X.A (compareOp op v u) (EP X pins σ Q) X.xe s₂) X.xe s₁) X.xe s
theorem nobehind (b : Expr) {op : CmpOp} (h : op ≠ .In) (h2 : op ≠ .NotIn) : behindInMarks op b = false := by
  have e1 : (op == CmpOp.In) = false := by cases op <;> first | rfl | exact absurd rfl h
  have e2 : (op == CmpOp.NotIn) = false := by cases op <;> first | rfl | exact absurd rfl h2
  cases b <;> simp [behindInMarks, e1, e2]
/-- is None -/
def tIsN (ta : TE) : TE := fun σ H Q => ta σ H fun x H1 => Q (.bl (decide (x = .non))) H1
def tNotN (ta : TE) : TE := fun σ H Q => ta σ H fun x H1 => Q (.bl (!decide (x = .non))) H1
theorem RelV.none_iff {x : V} {v : Value} (r : RelV x v) : (v == Value.none) = decide (x = .non) := by
  cases x with
  | non => cases r; rfl
  | bl _ => cases r; rfl
  | int _ => obtain ⟨t, rfl⟩ := r; rfl
  | str _ => obtain ⟨t, rfl⟩ := r; rfl
  | byt _ => obtain ⟨t, rfl⟩ := r; rfl
  | flt _ => obtain ⟨t, rfl⟩ := r; rfl
  | ref _ => cases r; rfl
  | ty _ => cases r; rfl
theorem pc_isN {j pos'} (ha : PE X a ta) : PC X .Is a (.Constant .none j pos') (tIsN ta) := by
  intro pins s σ H Q I h
  refine thn (ha pins s σ H _ I h) fun v s1 ⟨x, H1, I1, r1, q1⟩ => ?_
  exact Constant_none (is_none_gen ⟨.bl _, H1, I1, by rw [r1.none_iff]; rfl, q1⟩)
theorem pc_notN {j pos'} (ha : PE X a ta) : PC X .IsNot a (.Constant .none j pos') (tNotN ta) := by
  intro pins s σ H Q I h
  refine thn (ha pins s σ H _ I h) fun v s1 ⟨x, H1, I1, r1, q1⟩ => ?_
  exact Constant_none (isnot_none_gen ⟨.bl _, H1, I1, by rw [r1.none_iff]; rfl, q1⟩)
/-- a comparison as a value, as a test -/
def tB (t : TE) : TT := fun σ H Q => t σ H fun x H1 => ∃ c, x = .bl c ∧ Q c H1
theorem pe_cmp {op : CmpOp} {t : TE} (h : PC X op a b t) (h1 : behindInMarks op b = false := by first | exact nobehind _ (by decide) (by decide) | rfl) : PE X (.Compare a [op] [b] pos) t := fun pins s σ H Q I hw => wpAny_Compare1 (h pins s σ H Q I hw) h1
theorem pt_cmp {op : CmpOp} {t : TE} (h : PC X op a b t) (h1 : behindInMarks op b = false := by first | exact nobehind _ (by decide) (by decide) | rfl) : PT X (.Compare a [op] [b] pos) (tB t) := by
  intro pins s σ H Q I hw
  refine wpAny_isTrue_Compare1 (thn (h pins s σ H _ I hw) fun v s1 h1 => thn h1 fun u s2 h2 => thn h2 fun c s3 ⟨x, H1, I1, r1, q1⟩ => ?_) h1
  obtain ⟨d, rfl, q⟩ := q1
  cases r1
  exact wpAny_truthy_bool ⟨H1, I1, q⟩
/-- an expression whose value is a bool, as a test -/
theorem pt_val {e : Expr} {t : TE} (h : PE X e t) (he : ∀ whole, isTrue e X.env whole = (do let v ← whole; standAt e.pos; holding [v] (truthy v)) := by intro _; rfl) : PT X e (tB t) := by
  intro pins s σ H Q I hw
  refine isTrue_plain (thn (h pins s σ H _ I hw) fun v s1 ⟨x, H1, I1, r1, q1⟩ => ?_) (he _)
  obtain ⟨d, rfl, q⟩ := q1
  cases r1
  exact wpAny_truthy_bool ⟨H1, I1, q⟩

/-! ### and, or, not -/
variable {tA tB' : TT} {rest : List Expr}
def tAnd (t u : TT) : TT := fun σ H Q => t σ H fun c H1 => if c = true then u σ H1 Q else Q false H1
def tOr (t u : TT) : TT := fun σ H Q => t σ H fun c H1 => if c = true then Q true H1 else u σ H1 Q
def tNot (t : TT) : TT := fun σ H Q => t σ H fun c H1 => Q (!c) H1
theorem pw_and1 (ha : PT X a tA) : PW X (.BoolOp .And [a] pos) tA := by
  intro wh pins s σ H Q I h
  refine isTrue_and (thn (ha pins s σ H Q I h) fun c s1 e => ?_)
  cases c with
  | true => exact isTrue_and_nil e
  | false => exact e
theorem pw_or1 (ha : PT X a tA) : PW X (.BoolOp .Or [a] pos) tA := by
  intro wh pins s σ H Q I h
  refine isTrue_or (thn (ha pins s σ H Q I h) fun c s1 e => ?_)
  cases c with
  | false => exact isTrue_or_nil e
  | true => exact e
theorem pw_and (ha : PT X a tA) (hb : PW X (.BoolOp .And (b :: rest) pos) tB') : PW X (.BoolOp .And (a :: b :: rest) pos) (tAnd tA tB') := by
  intro wh pins s σ H Q I h
  refine isTrue_and (thn (ha pins s σ H _ I h) fun c s1 ⟨H1, I1, q1⟩ => ?_)
  cases c with
  | true => exact hb wh pins s1 σ H1 Q I1 q1
  | false => exact ⟨H1, I1, q1⟩
theorem pw_or (ha : PT X a tA) (hb : PW X (.BoolOp .Or (b :: rest) pos) tB') : PW X (.BoolOp .Or (a :: b :: rest) pos) (tOr tA tB') := by
  intro wh pins s σ H Q I h
  refine isTrue_or (thn (ha pins s σ H _ I h) fun c s1 ⟨H1, I1, q1⟩ => ?_)
  cases c with
  | true => exact ⟨H1, I1, q1⟩
  | false => exact hb wh pins s1 σ H1 Q I1 q1
theorem pt_not (ha : PT X a tA) : PT X (.UnaryOp .Not a pos) (tNot tA) := by
  intro pins s σ H Q I h
  exact isTrue_not (ha pins s σ H (fun c H1 => Q (!c) H1) I h)
/-- .. as values (bools) -/
def tAndV (ta tb : TE) : TE := fun σ H Q => ta σ H fun x H1 => ∃ c, x = .bl c ∧ if c = true then tb σ H1 Q else Q (.bl false) H1
def tOrV (ta tb : TE) : TE := fun σ H Q => ta σ H fun x H1 => ∃ c, x = .bl c ∧ if c = true then Q (.bl true) H1 else tb σ H1 Q
def tNotV (ta : TE) : TE := fun σ H Q => ta σ H fun x H1 => ∃ c, x = .bl c ∧ Q (.bl (!c)) H1
theorem pe_one {op} {t : TE} (h : PE X a t) : PE X (.BoolOp op [a] pos) t := fun pins s σ H Q I hw => BoolOp_one (h pins s σ H Q I hw)
theorem pe_and (ha : PE X a ta) (hb : PE X (.BoolOp .And (b :: rest) pos) tb) : PE X (.BoolOp .And (a :: b :: rest) pos) (tAndV ta tb) := by
  intro pins s σ H Q I h
  refine BoolOp_and (thn (ha pins s σ H _ I h) fun v s1 ⟨x, H1, I1, r1, q1⟩ => ?_)
  obtain ⟨c, rfl, q1⟩ := q1
  cases r1
  refine wpAny_truthy_bool ?_
  cases c with
  | true => exact hb pins s1 σ H1 Q I1 q1
  | false => exact ⟨.bl false, H1, I1, rfl, q1⟩
theorem pe_or (ha : PE X a ta) (hb : PE X (.BoolOp .Or (b :: rest) pos) tb) : PE X (.BoolOp .Or (a :: b :: rest) pos) (tOrV ta tb) := by
  intro pins s σ H Q I h
  refine BoolOp_or (thn (ha pins s σ H _ I h) fun v s1 ⟨x, H1, I1, r1, q1⟩ => ?_)
  obtain ⟨c, rfl, q1⟩ := q1
  cases r1
  refine wpAny_truthy_bool ?_
  cases c with
  | false => exact hb pins s1 σ H1 Q I1 q1
  | true => exact ⟨.bl true, H1, I1, rfl, q1⟩
theorem pe_not (ha : PE X a ta) : PE X (.UnaryOp .Not a pos) (tNotV ta) := by
  intro pins s σ H Q I h
  refine UnaryOp_ (thn (ha pins s σ H _ I h) fun v s1 ⟨x, H1, I1, r1, q1⟩ => ?_)
  obtain ⟨c, rfl, q1⟩ := q1
  cases r1
  exact not_of (wpAny_truthy_bool ⟨.bl (!c), H1, I1, rfl, q1⟩)
/-- a if t else b -/
def tIf (t : TT) (ta tb : TE) : TE := fun σ H Q => t σ H fun c H1 => if c = true then ta σ H1 Q else tb σ H1 Q
theorem pe_ifExp {c : Expr} (hc : PT X c tA) (ha : PE X a ta) (hb : PE X b tb) : PE X (.IfExp c a b pos) (tIf tA ta tb) := by
  intro pins s σ H Q I h
  refine wpAny_IfExp (thn (hc pins s σ H _ I h) fun d s1 ⟨H1, I1, q1⟩ => ?_)
  cases d with
  | true => exact ha pins s1 σ H1 Q I1 q1
  | false => exact hb pins s1 σ H1 Q I1 q1
end
end L2

namespace L2
open PySem PySem.Spec PyProof.Rows

/-! ### a list, a tuple that is read: tracked, frozen, or an object of the module -/
def SqL (K : PySem.W.Frag) (H : Hp) (a : Addr) (xs : List V) : Prop :=
  Rd H a (.lst xs) ∨
    ∃ (o : Obj) (its : Array Value) (n : Nat), K.lookup a = some o ∧ o.cls = .type "list" ∧ o.dict = none ∧ o.data = .seq its n ∧ its.size ≤ sizeLine ∧ Vals xs its.toList
def SqT (K : PySem.W.Frag) (H : Hp) (a : Addr) (xs : List V) : Prop :=
  Rd H a (.tup xs) ∨
    ∃ (o : Obj) (its : Array Value) (n : Nat), K.lookup a = some o ∧ o.cls = .type "tuple" ∧ o.data = .seq its n ∧ its.size ≤ sizeLine ∧ Vals xs its.toList
def absV : Value → Option V
  | .none => some .non
  | .bool b => some (.bl b)
  | .int i _ => some (.int i)
  | .str x _ => some (.str x)
  | .bytes b _ => some (.byt b)
  | .float b _ => some (.flt b)
  | .ref a => some (.ref a)
  | .type n => some (.ty n)
  | _ => none
theorem RelV.abs {x : V} {u : Value} (r : RelV x u) : absV u = some x := by
  cases x with
  | non => cases r; rfl
  | bl _ => cases r; rfl
  | int _ => obtain ⟨t, rfl⟩ := r; rfl
  | str _ => obtain ⟨t, rfl⟩ := r; rfl
  | byt _ => obtain ⟨t, rfl⟩ := r; rfl
  | flt _ => obtain ⟨t, rfl⟩ := r; rfl
  | ref _ => cases r; rfl
  | ty _ => cases r; rfl
theorem RelV.inj {x y : V} {u : Value} (r : RelV x u) (q : RelV y u) : x = y := Option.some.inj (r.abs.symm.trans q.abs)
theorem Vals.inj : ∀ {xs ys : List V} {us : List Value}, Vals xs us → Vals ys us → xs = ys
  | _, _, _, .nil, .nil => rfl
  | _, _, _, .cons r t, .cons r' t' => by rw [r.inj r', Vals.inj t t']
section
variable {X : Cx} {pins : List (Addr × Obj)} {σ : St} {H : Hp} {s : Shared} {a : Addr} {xs ys : List V}
theorem SqL.of {K : PySem.W.Frag} (h : H a = some (.lst xs)) : SqL K H a xs := .inl (.inl h)
theorem SqT.of {K : PySem.W.Frag} (h : H a = some (.tup xs)) : SqT K H a xs := .inl (.inl h)
theorem Inv.list (I : Inv X pins σ H s) (h : SqL X.K H a xs) : ∃ its : List Value, Vals xs its ∧ PlainL s.heap a its.toArray ∧ xs.length ≤ sizeLine := by
  rcases h with h | ⟨o, its, n, hk, hc, hd, hs, hz, r⟩
  · obtain ⟨z, its, n, r, e⟩ := h.ok I.hok
    exact ⟨its, r, ⟨_, n, e, rfl, rfl, rfl⟩, z⟩
  · refine ⟨its.toList, r, ⟨o, n, I.kIn a o hk, hc, hd, by simpa using hs⟩, ?_⟩
    have e := r.length
    simp only [Array.length_toList] at e
    omega
theorem Inv.tuple (I : Inv X pins σ H s) (h : SqT X.K H a xs) : ∃ its : List Value, Vals xs its ∧ IsTup s.heap a its.toArray ∧ xs.length ≤ sizeLine := by
  rcases h with h | ⟨o, its, n, hk, hc, hs, hz, r⟩
  · obtain ⟨z, its, r, p⟩ := h.ok I.hok
    exact ⟨its, r, p, z⟩
  · refine ⟨its.toList, r, ⟨o, I.kIn a o hk, hc, n, by simpa using hs⟩, ?_⟩
    have e := r.length
    simp only [Array.length_toList] at e
    omega
theorem Inv.list_inj (I : Inv X pins σ H s) (h : SqL X.K H a xs) (h' : SqL X.K H a ys) : xs = ys := by
  obtain ⟨its, r, ⟨o, n, e, _, _, d⟩, _⟩ := I.list h
  obtain ⟨its', r', ⟨o', n', e', _, _, d'⟩, _⟩ := I.list h'
  rw [e] at e'; cases e'
  rw [d] at d'
  injection d' with d1 _
  have : its = its' := by simpa using congrArg Array.toList d1
  subst this
  exact r.inj r'
theorem Inv.tuple_inj (I : Inv X pins σ H s) (h : SqT X.K H a xs) (h' : SqT X.K H a ys) : xs = ys := by
  obtain ⟨its, r, ⟨o, e, _, n, d⟩, _⟩ := I.tuple h
  obtain ⟨its', r', ⟨o', e', _, n', d'⟩, _⟩ := I.tuple h'
  rw [e] at e'; cases e'
  rw [d] at d'
  injection d' with d1 _
  have : its = its' := by simpa using congrArg Array.toList d1
  subst this
  exact r.inj r'
end

/-! ### another wish about exceptions -/
abbrev Cx.wish (X : Cx) (E : Value → Shared → Prop) : Cx := { X with xe := E }
/-- no exception leaves -/
abbrev Cx.nox (X : Cx) : Cx := X.wish fun _ _ => False
theorem Cx.Ok.wish {X : Cx} (ok : X.Ok) (E : Value → Shared → Prop) : (X.wish E).Ok :=
  ⟨ok.mod, ok.kind, ok.glob, ok.blt, ok.above, ok.inj, ok.has, ok.cab, ok.hd, ok.frames, ok.stk, ok.exf, ok.bs, ok.bsz, ok.noex, ok.exfs, ok.funs, ok.frf⟩
theorem Cx.Ok.unwish {X : Cx} {E : Value → Shared → Prop} (ok : (X.wish E).Ok) : X.Ok :=
  ⟨ok.mod, ok.kind, ok.glob, ok.blt, ok.above, ok.inj, ok.has, ok.cab, ok.hd, ok.frames, ok.stk, ok.exf, ok.bs, ok.bsz, ok.noex, ok.exfs, ok.funs, ok.frf⟩
section
variable {X : Cx} {pins : List (Addr × Obj)} {σ : St} {H : Hp} {s : Shared} {E : Value → Shared → Prop}
theorem Inv.wish (I : Inv X pins σ H s) (E : Value → Shared → Prop) : Inv (X.wish E) pins σ H s := ⟨I.ok.wish E, I.os, I.bare, I.base, I.loc, I.cell, I.free, I.freeC, I.pin, I.hok, I.len⟩
theorem Inv.unwish (I : Inv (X.wish E) pins σ H s) : Inv X pins σ H s := ⟨I.ok.unwish, I.os, I.bare, I.base, I.loc, I.cell, I.free, I.freeC, I.pin, I.hok, I.len⟩
theorem SP.unwish {D : Ends} {f : Flow} {s' : Shared} (h : SP (X.wish E) pins D f s') : SP X pins D f s' := by
  cases f with
  | next => obtain ⟨σ', H', I, q⟩ := h; exact ⟨σ', H', I.unwish, q⟩
  | brk => obtain ⟨σ', H', I, q⟩ := h; exact ⟨σ', H', I.unwish, q⟩
  | cont => obtain ⟨σ', H', I, q⟩ := h; exact ⟨σ', H', I.unwish, q⟩
  | ret u => obtain ⟨v, σ', H', I, r, q⟩ := h; exact ⟨v, σ', H', I.unwish, r, q⟩
theorem PE.nox {e : Expr} {t : TE} (h : PE X.nox e t) : PE X e t := fun pins s σ H Q I hw =>
  wpAny_mono (h pins s σ H Q (I.wish _) hw) (fun _ _ ⟨v, H', I', r, q⟩ => ⟨v, H', I'.unwish, r, q⟩) fun _ _ z => False.elim z
theorem PT.nox {e : Expr} {t : TT} (h : PT X.nox e t) : PT X e t := fun pins s σ H Q I hw =>
  wpAny_mono (h pins s σ H Q (I.wish _) hw) (fun _ _ ⟨H', I', q⟩ => ⟨H', I'.unwish, q⟩) fun _ _ z => False.elim z
theorem PSs.nox {st : List Stmt} {t : TS} (h : PSs X.nox st t) : PSs X st t := fun pins s σ H D I hw =>
  wpAny_mono (h pins s σ H D (I.wish _) hw) (fun _ _ q => q.unwish) fun _ _ z => False.elim z
end

/-! ### blocks and small statements -/
section
variable {X : Cx} {st : Stmt} {rest : List Stmt} {t u : TS} {e : Expr} {te : TE} {pos : Pos}
def tNext : TS := fun D σ H => D.nx σ H
def tSeq (t u : TS) : TS := fun D σ H => t { D with nx := u D } σ H
theorem pss_nil : PSs X [] tNext := fun _ _ σ H _ I h => wpAny_execs_nil ⟨σ, H, I, h⟩
theorem pss_cons (h1 : PS X st t) (h2 : PSs X rest u) : PSs X (st :: rest) (tSeq t u) := by
  intro pins s σ H D I h
  refine wpAny_execs_cons (thn (h1 pins s σ H { D with nx := u D } I h) fun f s1 q => ?_)
  cases f with
  | next =>
    obtain ⟨σ', H', I', q⟩ := q
    exact h2 pins s1 σ' H' D I' q
  | ret v => exact q
  | brk => exact q
  | cont => exact q
theorem pss_one (h1 : PS X st t) : PSs X [st] t := by
  intro pins s σ H D I h
  refine wpAny_execs_cons (thn (h1 pins s σ H D I h) fun f s1 q => ?_)
  cases f with
  | next => exact wpAny_execs_nil q
  | ret v => exact q
  | brk => exact q
  | cont => exact q
def tCont : TS := fun D σ H => D.ct σ H
theorem ps_continue : PS X (.Continue pos) tCont := fun _ _ σ H _ I h => wpAny_Continue ⟨σ, H, I, h⟩
/-- in a def's body nothing is shown -/
theorem Inv.quiet {pins : List (Addr × Obj)} {σ : St} {H : Hp} {s : Shared} (I : Inv X pins σ H s) : interactive X.env = false := by simp [interactive, I.ok.kind]
/-- an expression whose value is dropped -/
def tDrop (te : TE) : TS := fun D σ H => te σ H fun _ H1 => D.nx σ H1
theorem ps_expr (he : PE X e te) (hs : swapsWith e none pos.line X.env = pure false := by rfl) : PS X (.Expr e pos) (tDrop te) := by
  intro pins s σ H D I h
  exact wpAny_Expr_any (thn (he pins s σ H _ I h) fun v s1 ⟨x, H1, I1, r1, q1⟩ => ⟨σ, H1, I1, q1⟩) I.quiet hs
def tRet (te : TE) : TS := fun D σ H => te σ H D.rt
theorem ps_ret (he : PE X e te) : PS X (.Return (some e) pos) (tRet te) := by
  intro pins s σ H D I h
  exact wpAny_Return_some (thn (he pins s σ H _ I h) fun v s1 ⟨x, H1, I1, r1, q1⟩ => ⟨x, σ, H1, I1, r1, q1⟩)
def tIfS (c : TT) (t u : TS) : TS := fun D σ H => c σ H fun b H1 => if b = true then t D σ H1 else u D σ H1
theorem ps_if {c : Expr} {a b : List Stmt} {tc : TT} (hc : PT X c tc) (ha : PSs X a t) (hb : PSs X b u) : PS X (.If c a b pos) (tIfS tc t u) := by
  intro pins s σ H D I h
  refine wpAny_If (thn (hc pins s σ H _ I h) fun d s1 ⟨H1, I1, q1⟩ => ?_)
  cases d with
  | true => exact ha pins s1 σ H1 D I1 q1
  | false => exact hb pins s1 σ H1 D I1 q1
end

/-! ### targets -/
abbrev TG := V → St → Hp → (St → Hp → Prop) → Prop
abbrev TGs := List V → St → Hp → (St → Hp → Prop) → Prop
def PG (X : Cx) (target : Expr) (t : TG) : Prop :=
  ∀ (pins : List (Addr × Obj)) (s : Shared) (σ : St) (H : Hp) (v : V) (u : Value) (Q : St → Hp → Prop), Inv X pins σ H s → RelV v u → t v σ H Q →
    wpAny (model X.prog X.w) X.A (assign target X.env u) (fun _ s' => ∃ σ' H', Inv X pins σ' H' s' ∧ Q σ' H') X.xe s
/-- several targets, one after another -/
def PGs (X : Cx) (ts : List Expr) (t : TGs) : Prop :=
  ∀ (pins : List (Addr × Obj)) (s : Shared) (σ : St) (H : Hp) (vs : List V) (us : List Value) (Q : St → Hp → Prop), Inv X pins σ H s → Vals vs us → t vs σ H Q →
    wpAny (model X.prog X.w) X.A (assignInOrder ((assignEach ts X.env).map (·.2)) us) (fun _ s' => ∃ σ' H', Inv X pins σ' H' s' ∧ Q σ' H') X.xe s
section
variable {X : Cx} {pos : Pos}
def gName (i : Nat) : TG := fun v σ H Q => Q (σ.set i (some v)) H
theorem pg_name {i : Nat} {x : Str} (hN : X.N.Nodup) (hi : X.N[i]? = some x) (hx : Loc X.env.scope x) (hf : X.fn x = true ∨ X.env.scope.names.lookup x = some .local := by first | exact .inl rfl | exact .inr rfl | assumption) : PG X (.Name x pos) (gName i) := by
  intro pins s σ H v u Q I r h
  exact wpAny_assign_Name (store_ok I hN hi hx r (fun s' I' => ⟨_, H, I', h⟩) hf)
def gNil : TGs := fun vs σ H Q => vs = [] ∧ Q σ H
def gCons (t : TG) (u : TGs) : TGs := fun vs σ H Q => ∃ v r, vs = v :: r ∧ t v σ H fun σ' H' => u r σ' H' Q
theorem pgs_nil : PGs X [] gNil := by
  intro pins s σ H vs us Q I r h
  obtain ⟨e, h⟩ := h
  subst e
  cases r
  exact assignInOrder_nil ⟨σ, H, I, h⟩
theorem pgs_cons {e : Expr} {es : List Expr} {t : TG} {u : TGs} (h1 : PG X e t) (h2 : PGs X es u)
    (hs : (assignEach (e :: es) X.env).map (·.2) = assign e X.env :: (assignEach es X.env).map (·.2) := by rfl) : PGs X (e :: es) (gCons t u) := by
  intro pins s σ H vs us Q I r h
  obtain ⟨v, vr, e1, h⟩ := h
  subst e1
  cases r with
  | cons r rr =>
    rw [hs]
    refine assignInOrder_cons (thn (h1 pins s σ H _ _ _ I r h) fun _ s1 ⟨σ1, H1, I1, q1⟩ => ?_)
    exact h2 pins s1 σ1 H1 _ _ Q I1 rr q1
/-- (a, b, ..) = a tuple of that length -/
def gTup (K : PySem.W.Frag) (n : Nat) (t : TGs) : TG := fun v σ H Q => ∃ a xs, v = .ref a ∧ SqT K H a xs ∧ xs.length = n ∧ t xs σ H Q
theorem pg_tup {es : List Expr} {k : Nat} {t : TGs} {n : Nat} (hc : X.calm = true) (h : PGs X es t)
    (hn : (assignEach es X.env).length = n := by rfl) (hst : (assignEach es X.env).findIdx? (·.1) = none := by rfl) : PG X (.Tuple es k pos) (gTup X.K n t) := by
  intro pins s σ H v u Q I r hw
  obtain ⟨a, xs, e1, hq, hl, hw⟩ := hw
  subst e1
  cases r
  obtain ⟨its, rv, ht, hz⟩ := I.tuple hq
  refine assign_Tuple_tuple (I.ok.hd hc) ht (by simp [hn, ← hl, rv.length]) hst fun h' hx => ?_
  have I1 : Inv X pins σ H { s with heap := h' } := I.kept (t' := s.toks) fun b o e => hx b o (Nat.ne_of_lt (Heap.lt_size e)) e
  exact h pins _ σ H xs _ Q I1 (by simpa using rv) hw
/-- target = value -/
def tAsg (te : TE) (g : TG) : TS := fun D σ H => te σ H fun x H1 => g x σ H1 D.nx
theorem ps_asg {tg e : Expr} {te : TE} {g : TG} (he : PE X e te) (hg : PG X tg g) (hs : swapsWithSole [tg] e pos.line X.env = pure false := by rfl) (hw : swappedStores [tg] e X.env = pure none := by rfl)
    (h1 : (assignEach [tg] X.env).map (·.2) = [assign tg X.env] := by rfl) : PS X (.Assign [tg] e pos) (tAsg te g) := by
  intro pins s σ H D I h
  refine wpAny_Assign_stores (thn (he pins s σ H _ I h) fun v s1 ⟨x, H1, I1, r1, q1⟩ => ?_) hs hw
  rw [h1]
  exact thn (hg pins s1 σ H1 x v _ I1 r1 q1) fun _ s2 q => q
/-- name = value -/
theorem ps_set {i : Nat} {x : Str} {e : Expr} {te : TE} {pos' : Pos} (hN : X.N.Nodup) (hi : X.N[i]? = some x) (hx : Loc X.env.scope x) (he : PE X e te) (hs : swapsWith e (some (.Name x pos')) pos.line X.env = pure false := by rfl) (hf : X.fn x = true ∨ X.env.scope.names.lookup x = some .local := by first | exact .inl rfl | exact .inr rfl | assumption) :
    PS X (.Assign [.Name x pos'] e pos) (tAsg te (gName i)) := by
  intro pins s σ H D I h
  refine wpAny_Assign_Name (thn (he pins s σ H _ I h) fun v s1 ⟨y, H1, I1, r1, q1⟩ => ?_) hs
  exact store_ok I1 hN hi hx r1 (fun s2 I2 => ⟨_, H1, I2, q1⟩) hf
end

/-! ### while -/
section
variable {X : Cx} {pos : Pos}
end

/-! ### what a loop or a comprehension walks -/
/-- at turn i: it yields x (the heap may grow), or it stops -/
structure It where
  go : Nat → Hp → Prop
  yld : Nat → Hp → V → Hp → Prop
  stop : Nat → Hp → Prop
/-- the iterator's own objects may turn: they are not the frame's, not pinned, younger than the entry (or a comprehension's own) -/
def FpOk (X : Cx) (pins : List (Addr × Obj)) (H : Hp) (b : Addr) : Prop :=
  H b = none ∧ b ≠ X.env.locals ∧ b ∉ X.fs ∧ (b ∈ X.ex ∨ X.s₀.heap.objs.size ≤ b) ∧ (∀ x c, X.env.cells.lookup x = some c → c ≠ b) ∧ ∀ p ∈ X.pn ++ pins, p.1 ≠ b
theorem Inv.fpOk {X : Cx} {pins : List (Addr × Obj)} {σ : St} {H H' : Hp} {s : Shared} {b : Addr} (I : Inv X pins σ H s) (hb : s.heap.objs.size ≤ b) (hn : H' b = none) : FpOk X pins H' b := by
  refine ⟨hn, Nat.ne_of_gt (Nat.lt_of_lt_of_le I.lt hb), I.nofs hb, .inr (Nat.le_trans I.sz hb), fun x c e z => ?_, fun p hp z => ?_⟩
  · obtain ⟨v, q⟩ := I.cell x c e
    exact absurd (Nat.lt_of_lt_of_le q.lt (by rw [z]; exact hb)) (Nat.lt_irrefl _)
  · exact absurd (Nat.lt_of_lt_of_le (Heap.lt_size (I.pin p hp).1) (by rw [z]; exact hb)) (Nat.lt_irrefl _)
structure Turn (P : Program) (w : World) (K : PySem.W.Frag) (tg : Expr) (J : It) (fp : List Addr) (it : Addr) (tn : Nat → Heap → Prop) : Prop where
  mem : it ∈ fp
  obj : ∀ i h, tn i h → ∀ b ∈ fp, ∃ o, h.get? b = some o ∧ ∀ v, o.data ≠ .cell v
  keep : ∀ i h h', tn i h → (∀ b ∈ fp, ∀ o, h.get? b = some o → h'.get? b = some o) → tn i h'
  item : ∀ (X : Cx), X.prog = P → X.w = w → X.K = K → X.calm = true → ∀ (i : Nat) (pins : List (Addr × Obj)) (s : Shared) (σ : St) (H : Hp) (E : Value → Shared → Prop), Inv X pins σ H s → (∀ b ∈ fp, FpOk X pins H b) → tn i s.heap → J.go i H →
    wpAny (model P w) X.A (pyNext (.ref it)) (fun r s1 => ∃ u, r = some u ∧
      wpAny (model P w) X.A (letOwnedTupleGo tg (.ref it) u) (fun _ s2 => ∃ x H', Inv X pins σ H' s2 ∧ RelV x u ∧ J.yld i H x H' ∧ tn (i + 1) s2.heap ∧ ∀ b ∈ fp, H' b = none) E s1) E s
  done : ∀ (X : Cx), X.prog = P → X.w = w → X.K = K → X.calm = true → ∀ (i : Nat) (pins : List (Addr × Obj)) (s : Shared) (σ : St) (H : Hp) (E : Value → Shared → Prop), Inv X pins σ H s → (∀ b ∈ fp, FpOk X pins H b) → tn i s.heap → J.stop i H →
    wpAny (model P w) X.A (pyNext (.ref it)) (fun r s1 => r = none ∧ Inv X pins σ H s1) E s
  self : ∀ (A : Around) (i : Nat) (s : Shared) (Q : Value → Shared → Prop) (E : Value → Shared → Prop), tn i s.heap → Q (.ref it) s → wpAny (model P w) A (pyIter (.ref it)) Q E s
abbrev TI := St → Hp → (It → Hp → Prop) → Prop
/-- an iterator has come -/
def PIE (X : Cx) (pins : List (Addr × Obj)) (σ : St) (tg : Expr) (R : It → Hp → Prop) (itv : Value) (s2 : Shared) : Prop :=
  ∃ (it : Addr) (fp : List Addr) (tn : Nat → Heap → Prop) (J : It) (H' : Hp), itv = .ref it ∧ Inv X pins σ H' s2 ∧ Turn X.prog X.w X.K tg J fp it tn ∧ tn 0 s2.heap ∧ (∀ b ∈ fp, FpOk X pins H' b) ∧ R J H'
def PI (X : Cx) (tg iter : Expr) (wi : TI) : Prop :=
  ∀ (pins : List (Addr × Obj)) (s : Shared) (σ : St) (H : Hp) (R : It → Hp → Prop), Inv X pins σ H s → wi σ H R →
    wpAny (model X.prog X.w) X.A (eval iter X.env) (fun v s1 => wpAny (model X.prog X.w) X.A (pyIter v) (PIE X pins σ tg R) X.xe s1) X.xe s

/-- the step ahead of the store is nothing for an iterator that keeps no tuple -/
theorem go_of {M : Model} {A : Around} {E : Value → Shared → Prop} {s : Shared} {tg : Expr} {it : Addr} {u : Value} {o : Obj} {n : String} {vs : Array Value} {Q : Unit → Shared → Prop} (ho : s.heap.get? it = some o) (hc : o.cls = .type n) (hd : o.data = .fields vs)
    (hn : ["enumerate", "zip", "dict_itemiterator", "dict_reverseitemiterator", "odict_iterator", "itertools.zip_longest", "itertools.pairwise"].contains n = false) (hQ : Q () s) : wpAny M A (letOwnedTupleGo tg (.ref it) u) Q E s := by
  unfold letOwnedTupleGo
  cases tg <;> first
    | exact wpAny_pure hQ
    | (cases u <;> first
        | exact wpAny_pure hQ
        | (refine wpAny_bind (wpAny_load ho ?_)
           rw [hc, hd]
           show wpAny M A (if (["enumerate", "zip", "dict_itemiterator", "dict_reverseitemiterator", "odict_iterator", "itertools.zip_longest", "itertools.pairwise"].contains n && vs[0]? == some (rawInt _)) = true then _ else _) Q E s
           rw [if_neg (by intro h; rw [hn, Bool.false_and] at h; cases h)]
           exact wpAny_pure hQ))

/-- the list at a, as it stands at each turn (a loop may append to it) -/
def Itl (K : PySem.W.Frag) (a : Addr) : It :=
  ⟨fun i H => ∃ xs x, SqL K H a xs ∧ xs[i]? = some x, fun i H x H' => H' = H ∧ ∀ xs, SqL K H a xs → xs[i]? = some x, fun i H => ∃ xs, SqL K H a xs ∧ xs.length ≤ i⟩
def Itt (K : PySem.W.Frag) (a : Addr) : It :=
  ⟨fun i H => ∃ xs x, SqT K H a xs ∧ xs[i]? = some x, fun i H x H' => H' = H ∧ ∀ xs, SqT K H a xs → xs[i]? = some x, fun i H => ∃ xs, SqT K H a xs ∧ xs.length ≤ i⟩
/-- lo, lo + 1, .. (n of them) -/
def Itr (lo : Int) (n : Nat) : It := ⟨fun i _ => i < n, fun i H x H' => H' = H ∧ x = .int (lo + i), fun i _ => n ≤ i⟩
theorem turn_list {P : Program} {w : World} {K : PySem.W.Frag} {tg : Expr} (a it : Addr) : Turn P w K tg (Itl K a) [it] it (fun i h => h.IsListIter it a i) where
  mem := by simp
  obj := fun i h st b hb => by
    have e : b = it := by simpa using hb
    subst e
    obtain ⟨o, e, c, d⟩ := st
    exact ⟨o, e, fun v z => by rw [d] at z; cases z⟩
  keep := fun i h h' st k => st.at fun o e => k it (by simp) o e
  item := by
    intro X hP hw hK hc i pins s σ H E I hf st hg
    subst hP hw hK
    obtain ⟨xs, x, hq, hx⟩ := hg
    obtain ⟨its, rv, p, hz⟩ := I.list hq
    obtain ⟨u, hu, ru⟩ := rv.get hx
    obtain ⟨f0, f1, f2, f3, f4, f5⟩ := hf it (by simp)
    refine wpAny_pyNext_list_item st p.isList (x := u) (by simpa using hu) fun h' st' sb => ?_
    have I1 : Inv X pins σ H { s with heap := h' } := I.turned (t' := s.toks) (fun b o hb e => (sb.2 b hb).trans e) f0 f1 f3 f4 f5
    obtain ⟨o, e, c, d⟩ := id st'
    exact ⟨u, rfl, go_of (s := { s with heap := h' }) e c d (by decide) ⟨x, H, I1, ru, ⟨rfl, fun ys hy => by rw [I.list_inj hy hq]; exact hx⟩, st', fun b hb => (hf b hb).1⟩⟩
  done := by
    intro X hP hw hK hc i pins s σ H E I hf st hg
    subst hP hw hK
    obtain ⟨xs, hq, hx⟩ := hg
    obtain ⟨its, rv, p, hz⟩ := I.list hq
    obtain ⟨f0, f1, f2, f3, f4, f5⟩ := hf it (by simp)
    have hl := rv.length
    exact wpAny_pyNext_list_end (I.ok.hd hc) st p.isList (by simp; omega) fun h' eb => ⟨rfl, I.turned (t' := s.toks) (fun b o hb e => eb b o hb e) f0 f1 f3 f4 f5⟩
  self := fun _ _ _ _ _ st h => wpAny_pyIter_listiter st h
theorem turn_tuple {P : Program} {w : World} {K : PySem.W.Frag} {tg : Expr} (a it : Addr) : Turn P w K tg (Itt K a) [it] it (fun i h => h.IsTupleIter it a i) where
  mem := by simp
  obj := fun i h st b hb => by
    have e : b = it := by simpa using hb
    subst e
    obtain ⟨o, e, c, d⟩ := st
    exact ⟨o, e, fun v z => by rw [d] at z; cases z⟩
  keep := fun i h h' st k => st.at fun o e => k it (by simp) o e
  item := by
    intro X hP hw hK hc i pins s σ H E I hf st hg
    subst hP hw hK
    obtain ⟨xs, x, hq, hx⟩ := hg
    obtain ⟨its, rv, p, hz⟩ := I.tuple hq
    obtain ⟨u, hu, ru⟩ := rv.get hx
    obtain ⟨f0, f1, f2, f3, f4, f5⟩ := hf it (by simp)
    refine wpAny_pyNext_tuple_item st (show s.heap.IsTuple a its.toArray from p) (x := u) (by simpa using hu) fun h' st' sb => ?_
    have I1 : Inv X pins σ H { s with heap := h' } := I.turned (t' := s.toks) (fun b o hb e => (sb.2 b hb).trans e) f0 f1 f3 f4 f5
    obtain ⟨o, e, c, d⟩ := id st'
    exact ⟨u, rfl, go_of (s := { s with heap := h' }) e c d (by decide) ⟨x, H, I1, ru, ⟨rfl, fun ys hy => by rw [I.tuple_inj hy hq]; exact hx⟩, st', fun b hb => (hf b hb).1⟩⟩
  done := by
    intro X hP hw hK hc i pins s σ H E I hf st hg
    subst hP hw hK
    obtain ⟨xs, hq, hx⟩ := hg
    obtain ⟨its, rv, p, hz⟩ := I.tuple hq
    obtain ⟨f0, f1, f2, f3, f4, f5⟩ := hf it (by simp)
    have hl := rv.length
    exact wpAny_pyNext_tuple_end (I.ok.hd hc) st (show s.heap.IsTuple a its.toArray from p) (by simp; omega) fun h' eb => ⟨rfl, I.turned (t' := s.toks) (fun b o hb e => eb b o hb e) f0 f1 f3 f4 f5⟩
  self := fun _ _ _ _ _ st h => wpAny_pyIter_tupleiter st h
theorem turn_range {P : Program} {w : World} {K : PySem.W.Frag} {tg : Expr} (it : Addr) (lo : Int) (n : Nat) : Turn P w K tg (Itr lo n) [it] it (fun i h => IsRangeIter h it (lo + (i : Nat) * 1) ((n : Int) - (i : Nat)) 1) where
  mem := by simp
  obj := fun i h st b hb => by
    have e : b = it := by simpa using hb
    subst e
    exact ⟨_, st, fun v z => by
      have z' : Data.fields _ = Data.cell v := z
      cases z'⟩
  keep := fun i h h' st k => k it (by simp) _ st
  item := by
    intro X hP hw hK hc i pins s σ H E I hf st hg
    subst hP hw hK
    obtain ⟨f0, f1, f2, f3, f4, f5⟩ := hf it (by simp)
    have W := Walks.range (prog := X.prog) (w := X.w) (I.ok.hd hc) it lo 1 n
    refine W.item i s _ _ hg st fun v h' tk hv st' kk => ?_
    obtain ⟨t, rfl⟩ := hv
    have I1 : Inv X pins σ H { s with heap := h', toks := tk } := I.turned (fun b o hb e => kk b o (by simpa using hb) e) f0 f1 f3 f4 f5
    refine ⟨_, rfl, go_of (s := { s with heap := h', toks := tk }) (n := "range_iterator") st' rfl rfl (by decide) ⟨.int (lo + i), H, I1, ⟨t, ?_⟩, ⟨rfl, rfl⟩, st', fun b hb => (hf b hb).1⟩⟩
    rw [Int.mul_one]
  done := by
    intro X hP hw hK hc i pins s σ H E I hf st hg
    subst hP hw hK
    obtain ⟨f0, f1, f2, f3, f4, f5⟩ := hf it (by simp)
    exact wpAny_pyNext_range_end (I.ok.hd hc) st (by have : n ≤ i := hg; omega) fun h' eb => ⟨rfl, I.turned (t' := s.toks) (fun b o hb e => eb b o hb e) f0 f1 f3 f4 f5⟩
  self := fun _ _ _ _ _ st h => wpAny_pyIter_rangeiter st h
end L2

namespace L2
open PySem PySem.Spec PyProof.Rows
section
variable {X : Cx} {tg : Expr}
def iList (K : PySem.W.Frag) (tl : TE) : TI := fun σ H R => tl σ H fun x H1 => ∃ a, x = .ref a ∧ (∃ xs, SqL K H1 a xs) ∧ R (Itl K a) H1
def iTup (K : PySem.W.Frag) (tl : TE) : TI := fun σ H R => tl σ H fun x H1 => ∃ a, x = .ref a ∧ (∃ xs, SqT K H1 a xs) ∧ R (Itt K a) H1
theorem pi_list {l : Expr} {tl : TE} (hl : PE X l tl) : PI X tg l (iList X.K tl) := by
  intro pins s σ H R I h
  refine thn (hl pins s σ H _ I h) fun v s1 ⟨x, H1, I1, r1, q1⟩ => ?_
  obtain ⟨a, e, ⟨xs, hq⟩, q⟩ := q1
  subst e
  cases r1
  obtain ⟨its, rv, p, hz⟩ := I1.list hq
  refine wpAny_pyIter_list p.isList ?_
  refine ⟨s1.heap.objs.size, [s1.heap.objs.size], _, _, H1, rfl, I1.kept (t' := s1.toks) fun b o e => Heap.get?_push_of_some _ e, turn_list a _, ⟨_, Heap.get?_push_size _ rfl, rfl, rfl⟩, fun b hb => ?_, q⟩
  have e : b = s1.heap.objs.size := by simpa using hb
  subst e
  exact I1.fpOk (Nat.le_refl _) (I1.hok.fresh (Nat.le_refl _))
theorem pi_tup {l : Expr} {tl : TE} (hl : PE X l tl) : PI X tg l (iTup X.K tl) := by
  intro pins s σ H R I h
  refine thn (hl pins s σ H _ I h) fun v s1 ⟨x, H1, I1, r1, q1⟩ => ?_
  obtain ⟨a, e, ⟨xs, hq⟩, q⟩ := q1
  subst e
  cases r1
  obtain ⟨its, rv, p, hz⟩ := I1.tuple hq
  refine wpAny_pyIter_tuple (show s1.heap.IsTuple a its.toArray from p) ?_
  refine ⟨s1.heap.objs.size, [s1.heap.objs.size], _, _, H1, rfl, I1.kept (t' := s1.toks) fun b o e => Heap.get?_push_of_some _ e, turn_tuple a _, ⟨_, Heap.get?_push_size _ rfl, rfl, rfl⟩, fun b hb => ?_, q⟩
  have e : b = s1.heap.objs.size := by simpa using hb
  subst e
  exact I1.fpOk (Nat.le_refl _) (I1.hok.fresh (Nat.le_refl _))
/-- a range object just made, walked -/
theorem range_it {pins : List (Addr × Obj)} {σ : St} {H : Hp} {s : Shared} {R : It → Hp → Prop} {E : Value → Shared → Prop} {lo hi : Int} {t u v : Tok} {tk : Nat} (I : Inv X pins σ H s) (h1 : -(2 ^ 62) ≤ lo) (h2 : lo < 2 ^ 62) (h3 : -(2 ^ 62) ≤ hi) (h4 : hi < 2 ^ 62)
    (q : R (Itr lo (hi - lo).toNat) H) : wpAny (model X.prog X.w) X.A (pyIter (.ref s.heap.objs.size)) (PIE X pins σ tg R) E { s with heap := s.heap.push { cls := .type "range", data := .fields #[.int lo t, .int hi u, .int 1 v] }, toks := tk } := by
  refine wpAny_pyIter_range (IsRange.new ..) (small_one h1 h2 h3 h4) ?_
  have I1 : Inv X pins σ H { s with heap := s.heap.push { cls := .type "range", data := .fields #[.int lo t, .int hi u, .int 1 v] }, toks := tk } := I.kept fun b o e => Heap.get?_push_of_some _ e
  refine ⟨(s.heap.push { cls := .type "range", data := .fields #[.int lo t, .int hi u, .int 1 v] }).objs.size, [(s.heap.push { cls := .type "range", data := .fields #[.int lo t, .int hi u, .int 1 v] }).objs.size], _, _, H, rfl,
    I1.kept (t' := tk) fun b o e => Heap.get?_push_of_some _ e, turn_range _ lo (hi - lo).toNat, ?_, fun b hb => ?_, q⟩
  · have e1 : lo + ((0 : Nat) : Int) * 1 = lo := by simp
    have e2 : (((hi - lo).toNat : Nat) : Int) - ((0 : Nat) : Int) = Builtin.Range.rangeSize lo hi 1 := by rw [rangeSize_one]; split <;> omega
    show IsRangeIter _ _ (lo + ((0 : Nat) : Int) * 1) ((((hi - lo).toNat : Nat) : Int) - ((0 : Nat) : Int)) 1
    rw [e1, e2]
    exact Heap.get?_push_size _ rfl
  · have e : b = (s.heap.push { cls := .type "range", data := .fields #[.int lo t, .int hi u, .int 1 v] }).objs.size := by simpa using hb
    subst e
    exact I1.fpOk (Nat.le_refl _) (I1.hok.fresh (Nat.le_refl _))
def iRng1 (ta : TA) : TI := fun σ H R => ta σ H fun vs H1 => ∃ j : Int, vs = [.int j] ∧ -(2 ^ 62) ≤ j ∧ j < 2 ^ 62 ∧ R (Itr 0 j.toNat) H1
theorem pi_range1 {a : Expr} {ta : TA} {p pos : Pos} (hg : Gl X "range") (hm : X.mg "range" = none) (ha : PA X [a] ta) (hs : starEach [a] X.env = [(false, eval a X.env)] := by rfl) : PI X tg (.Call (.Name "range" p) [a] [] pos) (iRng1 ta) := by
  intro pins s σ H R I h
  refine Call_ (ld_blt I hg hm boot_range (PyProof.Rows.callWith_type1 (thn (ha pos pins s σ H _ I h) fun us s1 ⟨vs, H1, I1, r1, q1⟩ => ?_) hs rfl))
  obtain ⟨j, e, q1, q2, q⟩ := q1
  subst e
  cases r1 with
  | cons r rr =>
    cases rr
    obtain ⟨t, rfl⟩ := r
    exact call_range_1 (range_it I1 (by omega) (by omega) q1 q2 (by simpa using q))
/-! ### for -/
/-- W: the invariant by the turn and a measure; N: what the body is to reach -/
def tFor (wi : TI) (g : TG) (tb : TS) : TS := fun D σ H => wi σ H fun J H1 => ∃ W : Nat → Nat → St → Hp → Prop, (∃ m, W 0 m σ H1) ∧ ∀ i m σ H, W i m σ H →
  (J.stop i H ∧ D.nx σ H) ∨ (J.go i H ∧ ∃ N : St → Hp → Prop, (∀ σ' H', N σ' H' → ∃ m', m' < m ∧ W (i + 1) m' σ' H') ∧ ∀ x H', J.yld i H x H' → g x σ H' fun σ2 H2 => tb { D with nx := N, ct := N, bk := D.nx } σ2 H2)
/-- the records at fp as they stand -/
def pinsAt (fp : List Addr) (h : Heap) : List (Addr × Obj) := fp.filterMap fun b => (h.get? b).map fun o => (b, o)
theorem mem_pinsAt {fp : List Addr} {h : Heap} {b : Addr} {o : Obj} (hb : b ∈ fp) (e : h.get? b = some o) : (b, o) ∈ pinsAt fp h := List.mem_filterMap.mpr ⟨b, hb, by rw [e]; rfl⟩
theorem of_pinsAt {fp : List Addr} {h : Heap} {p : Addr × Obj} (hp : p ∈ pinsAt fp h) : p.1 ∈ fp ∧ h.get? p.1 = some p.2 := by
  obtain ⟨b, hb, e⟩ := List.mem_filterMap.mp hp
  cases q : h.get? b with
  | none => rw [q] at e; cases e
  | some o =>
    rw [q] at e
    have e' : (b, o) = p := Option.some.inj e
    subst e'
    exact ⟨hb, q⟩
theorem Inv.pinned {pins : List (Addr × Obj)} {σ : St} {H : Hp} {s : Shared} {fp : List Addr} (I : Inv X pins σ H s) (hf : ∀ b ∈ fp, FpOk X pins H b) (ho : ∀ b ∈ fp, ∃ o, s.heap.get? b = some o ∧ ∀ v, o.data ≠ .cell v) : Inv X (pins ++ pinsAt fp s.heap) σ H s :=
  I.pins_of fun p hp => (List.mem_append.mp hp).elim (fun z => I.pin p (List.mem_append_right _ z)) fun z => by
    obtain ⟨hb, e⟩ := of_pinsAt z
    obtain ⟨f0, f1, f2, _⟩ := hf p.1 hb
    obtain ⟨o, e', d⟩ := ho p.1 hb
    rw [e] at e'; cases e'
    exact ⟨e, f0, f1, f2, d⟩
theorem Inv.unpinned {pins pl : List (Addr × Obj)} {σ : St} {H : Hp} {s : Shared} (I : Inv X (pins ++ pl) σ H s) : Inv X pins σ H s := I.pins_of fun p hp => I.pin p (List.mem_append_right _ (List.mem_append_left _ hp))
theorem ps_for {iter : Expr} {body : List Stmt} {wi : TI} {g : TG} {tb : TS} {pos : Pos} (hp : PassesOwn (model X.prog X.w) X.A X.env X.xe) (hc : X.calm = true) (hi : PI X tg iter wi) (hg : PG X tg g) (hb : PSs X body tb)
    (hs : ∀ x, foldedSetIterable iter X.env x = pure x := by intro _; rfl) : PS X (.For tg iter body [] pos) (tFor wi g tb) := by
  intro pins s σ H D I h
  refine wpAny_For (thn (hi pins s σ H _ I h) fun v s1 h1 => thn h1 fun itv s2 h2 => ?_) hs
  obtain ⟨it, fp, tn, J, H2, e, I2, T, st2, f2, W, ⟨m0, w0⟩, turn⟩ := h2
  subst e
  -- what stays true of the iterator's objects through the loop
  have stat : ∀ {H' : Hp}, (∀ b ∈ fp, H' b = none) → ∀ b ∈ fp, FpOk X pins H' b := fun hn b hb => ⟨hn b hb, (f2 b hb).2⟩
  refine codeAny_forLoop_any (fun n s' => ∃ i σ' H', Inv X pins σ' H' s' ∧ tn i s'.heap ∧ (∀ b ∈ fp, H' b = none) ∧ W i n σ' H') ?_ m0 ⟨0, σ, H2, I2, st2, fun b hb => (f2 b hb).1, w0⟩
  rintro n s3 ⟨i, σ3, H3, I3, st3, fr3, w3⟩
  rcases turn i n σ3 H3 w3 with ⟨stop, qn⟩ | ⟨go, N, hN, step⟩
  · refine wpAny_passesOwn hp (thn (T.done X rfl rfl rfl hc i pins s3 σ3 H3 X.xe I3 (stat fr3) st3 stop) fun r s4 ⟨hr, I4⟩ => ?_)
    subst hr
    exact wpAny_execs_nil ⟨σ3, H3, I4, qn⟩
  · refine wpAny_passesOwn hp (thn (T.item X rfl rfl rfl hc i pins s3 σ3 H3 X.xe I3 (stat fr3) st3 go) fun r s4 ⟨u, hr, h4⟩ => ?_)
    subst hr
    refine wpAny_passesOwn hp (thn h4 fun _ s5 ⟨x, H5, I5, r5, y5, st5, fr5⟩ => ?_)
    have I5' := I5.pinned (stat fr5) (T.obj _ _ st5)
    refine wpAny_passesOwn hp (thn (hg _ s5 σ3 H5 x u _ I5' r5 (step x H5 y5)) fun _ s6 ⟨σ6, H6, I6, q6⟩ => ?_)
    refine wpAny_passesOwn hp (thn (hb _ s6 σ6 H6 _ I6 q6) fun f s7 q7 => ?_)
    have again : ∀ {σ7 : St} {H7 : Hp}, Inv X (pins ++ pinsAt fp s5.heap) σ7 H7 s7 → N σ7 H7 → ∃ m, m < n ∧ ∃ i σ' H', Inv X pins σ' H' s7 ∧ tn i s7.heap ∧ (∀ b ∈ fp, H' b = none) ∧ W i m σ' H' := fun {σ7 H7} I7 n7 => by
      obtain ⟨m', hm, w7⟩ := hN σ7 H7 n7
      refine ⟨m', hm, i + 1, σ7, H7, I7.unpinned, T.keep _ _ _ st5 fun b hb o e => (I7.pin (b, o) (List.mem_append_right _ (List.mem_append_right _ (mem_pinsAt hb e)))).1, fun b hb => ?_, w7⟩
      obtain ⟨o, e, d⟩ := T.obj _ _ st5 b hb
      exact (I7.pin (b, o) (List.mem_append_right _ (List.mem_append_right _ (mem_pinsAt hb e)))).2.1
    cases f with
    | next => obtain ⟨σ7, H7, I7, n7⟩ := q7; exact again I7 n7
    | cont => obtain ⟨σ7, H7, I7, n7⟩ := q7; exact again I7 n7
    | brk => obtain ⟨σ7, H7, I7, q7⟩ := q7; exact ⟨σ7, H7, I7.unpinned, q7⟩
    | ret v => obtain ⟨x7, σ7, H7, I7, r7, q7⟩ := q7; exact ⟨x7, σ7, H7, I7.unpinned, r7, q7⟩
end

/-! ### the forms one uses -/
/-- over a list that the body leaves as it is -/
theorem for_list {K : PySem.W.Frag} {a : Addr} {xs : List V} {g : TG} {tb : TS} {D : Ends} {σ : St} {H : Hp} (Pv : Nat → St → Hp → Prop) (h0 : Pv 0 σ H) (hl : ∀ i σ H, i ≤ xs.length → Pv i σ H → SqL K H a xs)
    (hs : ∀ i x σ H, xs[i]? = some x → Pv i σ H → g x σ H fun σ2 H2 => tb { D with nx := Pv (i + 1), ct := Pv (i + 1), bk := D.nx } σ2 H2) (hd : ∀ σ H, Pv xs.length σ H → D.nx σ H) :
    ∃ W : Nat → Nat → St → Hp → Prop, (∃ m, W 0 m σ H) ∧ ∀ i m σ H, W i m σ H →
      ((Itl K a).stop i H ∧ D.nx σ H) ∨ ((Itl K a).go i H ∧ ∃ N : St → Hp → Prop, (∀ σ' H', N σ' H' → ∃ m', m' < m ∧ W (i + 1) m' σ' H') ∧ ∀ x H', (Itl K a).yld i H x H' → g x σ H' fun σ2 H2 => tb { D with nx := N, ct := N, bk := D.nx } σ2 H2) := by
  refine ⟨fun i m σ H => m = xs.length - i ∧ i ≤ xs.length ∧ Pv i σ H, ⟨xs.length, by simp, Nat.zero_le _, h0⟩, ?_⟩
  rintro i m σ H ⟨rfl, hi, p⟩
  have q := hl i σ H hi p
  by_cases hlt : i < xs.length
  · refine .inr ⟨⟨xs, xs[i], q, by simp [hlt]⟩, Pv (i + 1), fun σ' H' p' => ⟨xs.length - (i + 1), by omega, rfl, hlt, p'⟩, fun x H' y => ?_⟩
    obtain ⟨e, y⟩ := y
    subst e
    exact hs i x σ _ (y xs q) p
  · have e : i = xs.length := by omega
    subst e
    exact .inl ⟨⟨xs, q, Nat.le_refl _⟩, hd σ H p⟩
theorem for_tup {K : PySem.W.Frag} {a : Addr} {xs : List V} {g : TG} {tb : TS} {D : Ends} {σ : St} {H : Hp} (Pv : Nat → St → Hp → Prop) (h0 : Pv 0 σ H) (hl : ∀ i σ H, i ≤ xs.length → Pv i σ H → SqT K H a xs)
    (hs : ∀ i x σ H, xs[i]? = some x → Pv i σ H → g x σ H fun σ2 H2 => tb { D with nx := Pv (i + 1), ct := Pv (i + 1), bk := D.nx } σ2 H2) (hd : ∀ σ H, Pv xs.length σ H → D.nx σ H) :
    ∃ W : Nat → Nat → St → Hp → Prop, (∃ m, W 0 m σ H) ∧ ∀ i m σ H, W i m σ H →
      ((Itt K a).stop i H ∧ D.nx σ H) ∨ ((Itt K a).go i H ∧ ∃ N : St → Hp → Prop, (∀ σ' H', N σ' H' → ∃ m', m' < m ∧ W (i + 1) m' σ' H') ∧ ∀ x H', (Itt K a).yld i H x H' → g x σ H' fun σ2 H2 => tb { D with nx := N, ct := N, bk := D.nx } σ2 H2) := by
  refine ⟨fun i m σ H => m = xs.length - i ∧ i ≤ xs.length ∧ Pv i σ H, ⟨xs.length, by simp, Nat.zero_le _, h0⟩, ?_⟩
  rintro i m σ H ⟨rfl, hi, p⟩
  have q := hl i σ H hi p
  by_cases hlt : i < xs.length
  · refine .inr ⟨⟨xs, xs[i], q, by simp [hlt]⟩, Pv (i + 1), fun σ' H' p' => ⟨xs.length - (i + 1), by omega, rfl, hlt, p'⟩, fun x H' y => ?_⟩
    obtain ⟨e, y⟩ := y
    subst e
    exact hs i x σ _ (y xs q) p
  · have e : i = xs.length := by omega
    subst e
    exact .inl ⟨⟨xs, q, Nat.le_refl _⟩, hd σ H p⟩
theorem for_range {lo : Int} {n : Nat} {g : TG} {tb : TS} {D : Ends} {σ : St} {H : Hp} (Pv : Nat → St → Hp → Prop) (h0 : Pv 0 σ H)
    (hs : ∀ i σ H, i < n → Pv i σ H → g (.int (lo + i)) σ H fun σ2 H2 => tb { D with nx := Pv (i + 1), ct := Pv (i + 1), bk := D.nx } σ2 H2) (hd : ∀ σ H, Pv n σ H → D.nx σ H) :
    ∃ W : Nat → Nat → St → Hp → Prop, (∃ m, W 0 m σ H) ∧ ∀ i m σ H, W i m σ H →
      ((Itr lo n).stop i H ∧ D.nx σ H) ∨ ((Itr lo n).go i H ∧ ∃ N : St → Hp → Prop, (∀ σ' H', N σ' H' → ∃ m', m' < m ∧ W (i + 1) m' σ' H') ∧ ∀ x H', (Itr lo n).yld i H x H' → g x σ H' fun σ2 H2 => tb { D with nx := N, ct := N, bk := D.nx } σ2 H2) := by
  refine ⟨fun i m σ H => m = n - i ∧ i ≤ n ∧ Pv i σ H, ⟨n, by simp, Nat.zero_le _, h0⟩, ?_⟩
  rintro i m σ H ⟨rfl, hi, p⟩
  by_cases hlt : i < n
  · refine .inr ⟨hlt, Pv (i + 1), fun σ' H' p' => ⟨n - (i + 1), by omega, rfl, hlt, p'⟩, fun x H' y => ?_⟩
    obtain ⟨e, y⟩ := y
    subst e y
    exact hs i σ _ hlt p
  · have e : i = n := by omega
    subst e
    exact .inl ⟨Nat.le_refl _, hd σ H p⟩
end L2

namespace L2
open PySem PySem.Spec PyProof.Rows

abbrev R2 := V → V → Hp → VK → Prop
/-- a two-place operation on values: f is binaryOp op, inplaceOp op or compareOp op -/
def OpR (X : Cx) (f : Value → Value → Sem Value) (r : R2) : Prop :=
  ∀ (pins : List (Addr × Obj)) (s : Shared) (σ : St) (H : Hp) (x y : V) (v u : Value) (Q : VK), Inv X pins σ H s → RelV x v → RelV y u → r x y H Q →
    wpAny (model X.prog X.w) X.A (f v u) (EP X pins σ Q) X.xe s
/-- a one-place operation -/
def UnR (X : Cx) (f : Value → Sem Value) (r : V → Hp → VK → Prop) : Prop :=
  ∀ (pins : List (Addr × Obj)) (s : Shared) (σ : St) (H : Hp) (x : V) (v : Value) (Q : VK), Inv X pins σ H s → RelV x v → r x H Q →
    wpAny (model X.prog X.w) X.A (f v) (EP X pins σ Q) X.xe s
/-- a call of a value that is known (a builtin, a type) with values -/
def CallR (X : Cx) (f : Value) (r : List V → Hp → VK → Prop) : Prop :=
  ∀ (pins : List (Addr × Obj)) (s : Shared) (σ : St) (H : Hp) (xs : List V) (us : List Value) (Q : VK), Inv X pins σ H s → Vals xs us → r xs H Q →
    wpAny (model X.prog X.w) X.A (call f us) (EP X pins σ Q) X.xe s
def tOp (r : R2) (ta tb : TE) : TE := fun σ H Q => ta σ H fun x H1 => tb σ H1 fun y H2 => r x y H2 Q
def tUn (r : V → Hp → VK → Prop) (ta : TE) : TE := fun σ H Q => ta σ H fun x H1 => r x H1 Q
/-- ints in, under C, and a value out -/
def rI (C : Int → Int → Prop) (g : Int → Int → V) : R2 := fun x y H Q => ∃ i j, x = .int i ∧ y = .int j ∧ C i j ∧ Q (g i j) H
def rI0 (g : Int → Int → V) : R2 := fun x y H Q => ∃ i j, x = .int i ∧ y = .int j ∧ Q (g i j) H
def rU (g : Int → V) : V → Hp → VK → Prop := fun x H Q => ∃ i, x = .int i ∧ Q (g i) H

section
variable {X : Cx} {a b c : Expr} {ta tb tc : TE} {pos : Pos}

theorem binT (ha : PE X a ta) (hb : PE X b tb) {pins : List (Addr × Obj)} {s : Shared} {σ : St} {H : Hp} {R : V → V → Hp → Prop} (I : Inv X pins σ H s)
    (h : ta σ H fun x H1 => tb σ H1 fun y H2 => R x y H2) {Q : Value → Shared → Prop} {f : Value → Value → Sem Value}
    (hf : ∀ v u s2 x y H2, Inv X pins σ H2 s2 → RelV x v → RelV y u → R x y H2 → wpAny (model X.prog X.w) X.A (f v u) Q X.xe s2) :
    wpAny (model X.prog X.w) X.A (eval a X.env) (fun v s₁ => wpAny (model X.prog X.w) X.A (eval b X.env) (fun u s₂ => wpAny (model X.prog X.w) X.A (f v u) Q X.xe s₂) X.xe s₁) X.xe s := by
  refine thn (ha pins s σ H _ I h) fun v s1 ⟨x, H1, I1, r1, q1⟩ => ?_
  refine thn (hb pins s1 σ H1 _ I1 q1) fun u s2 ⟨y, H2, I2, r2, q2⟩ => ?_
  exact hf v u s2 x y H2 I2 r1 r2 q2

theorem pe_op {op : Operator} {r : R2} (ho : OpR X (binaryOp op) r) (ha : PE X a ta) (hb : PE X b tb) : PE X (.BinOp a op b pos) (tOp r ta tb) := by
  intro pins s σ H Q I h
  exact wpAny_BinOp (binT ha hb I h fun v u s2 x y H2 I2 rx ry q => ho pins s2 σ H2 x y v u Q I2 rx ry q)
theorem pe_un {op : UnaryOp} {r : V → Hp → VK → Prop} (ho : UnR X (unaryOp op) r) (ha : PE X a ta) : PE X (.UnaryOp op a pos) (tUn r ta) := by
  intro pins s σ H Q I h
  exact UnaryOp_ (thn (ha pins s σ H _ I h) fun v s1 ⟨x, H1, I1, r1, q1⟩ => ho pins s1 σ H1 x v Q I1 r1 q1)
/-! ### ints -/
theorem opI {f : Value → Value → Sem Value} {C : Int → Int → Prop} {g : Int → Int → Int}
    (rule : ∀ (i j : Int) (t u : Tok) (s : Shared) (Q : Value → Shared → Prop) (E : Value → Shared → Prop), C i j → Q (.int (g i j) s.toks) { s with toks := s.toks + 1 } → wpAny (model X.prog X.w) X.A (f (.int i t) (.int j u)) Q E s) :
    OpR X f (rI C fun i j => .int (g i j)) := by
  intro pins s σ H x y v u Q I rx ry h
  obtain ⟨i, j, rfl, rfl, hc, q⟩ := h
  obtain ⟨t, rfl⟩ := rx
  obtain ⟨t', rfl⟩ := ry
  exact rule i j t t' s _ _ hc ⟨.int (g i j), H, I.tok _, ⟨_, rfl⟩, q⟩
theorem opI0 {f : Value → Value → Sem Value} {g : Int → Int → Int}
    (rule : ∀ (i j : Int) (t u : Tok) (s : Shared) (Q : Value → Shared → Prop) (E : Value → Shared → Prop), Q (.int (g i j) s.toks) { s with toks := s.toks + 1 } → wpAny (model X.prog X.w) X.A (f (.int i t) (.int j u)) Q E s) :
    OpR X f (rI0 fun i j => .int (g i j)) := by
  intro pins s σ H x y v u Q I rx ry h
  obtain ⟨i, j, rfl, rfl, q⟩ := h
  obtain ⟨t, rfl⟩ := rx
  obtain ⟨t', rfl⟩ := ry
  exact rule i j t t' s _ _ ⟨.int (g i j), H, I.tok _, ⟨_, rfl⟩, q⟩
theorem opB0 {f : Value → Value → Sem Value} {g : Int → Int → Bool}
    (rule : ∀ (i j : Int) (t u : Tok) (s : Shared) (Q : Value → Shared → Prop) (E : Value → Shared → Prop), Q (.bool (g i j)) s → wpAny (model X.prog X.w) X.A (f (.int i t) (.int j u)) Q E s) :
    OpR X f (rI0 fun i j => .bl (g i j)) := by
  intro pins s σ H x y v u Q I rx ry h
  obtain ⟨i, j, rfl, rfl, q⟩ := h
  obtain ⟨t, rfl⟩ := rx
  obtain ⟨t', rfl⟩ := ry
  exact rule i j t t' s _ _ ⟨.bl (g i j), H, I, rfl, q⟩

def CDiv (i j : Int) : Prop := 0 < j ∧ j < 1073741824
def CPow (i j : Int) : Prop := 0 ≤ j ∧ j ≤ 1000000 ∧ i.natAbs < 2 ^ 64
def CMul (i j : Int) : Prop := (-(2 ^ 64) < i ∧ i < 2 ^ 64) ∨ (-(2 ^ 64) < j ∧ j < 2 ^ 64)
theorem CMul.ok {i j : Int} (h : CMul i j) : IntMulOk i j := by
  rcases h with ⟨h1, h2⟩ | ⟨h1, h2⟩
  · exact .of_left (intBits_le_64 h1 h2)
  · exact .of_right (intBits_le_64 h1 h2)
theorem op_add : OpR X (binaryOp .Add) (rI0 fun i j => .int (i + j)) := opI0 fun _ _ _ _ _ _ _ q => add_int q
theorem op_sub : OpR X (binaryOp .Sub) (rI0 fun i j => .int (i - j)) := opI0 fun _ _ _ _ _ _ _ q => sub_int q
theorem op_mul : OpR X (binaryOp .Mult) (rI CMul fun i j => .int (i * j)) := opI fun _ _ _ _ _ _ _ hc q => mul_int q hc.ok
/-- // by a positive divisor -/
theorem op_fdiv : OpR X (binaryOp .FloorDiv) (rI CDiv fun i j => .int (i / j)) := opI fun i j _ _ _ _ _ hc q => by
  have h1 : (0 : Int) < j := hc.1
  have h2 : j < 1073741824 := hc.2
  exact floordiv_int (by omega) (by rw [Int.fdiv_eq_ediv_of_nonneg i (by omega)]; exact q) (.inl (PyProof.noPylong_small (by omega)))
/-- % by a positive divisor of any size -/
theorem op_mod : OpR X (binaryOp .Mod) (rI (fun _ j => 0 < j) fun i j => .int (i % j)) := opI fun i j _ _ _ _ _ hc q => by
  have h1 : (0 : Int) < j := hc
  exact mod_int' (by omega) (by rw [Int.fmod_eq_emod_of_nonneg i (by omega)]; exact q)
theorem op_pow : OpR X (binaryOp .Pow) (rI CPow fun i j => .int (i ^ j.toNat)) := opI fun _ _ _ _ _ _ _ hc q => pow_int_small hc.1 hc.2.1 hc.2.2 q
theorem unI {f : Value → Sem Value} {g : Int → Int}
    (rule : ∀ (i : Int) (t : Tok) (s : Shared) (Q : Value → Shared → Prop) (E : Value → Shared → Prop), Q (.int (g i) s.toks) { s with toks := s.toks + 1 } → wpAny (model X.prog X.w) X.A (f (.int i t)) Q E s) :
    UnR X f (rU fun i => .int (g i)) := by
  intro pins s σ H x v Q I rx h
  obtain ⟨i, rfl, q⟩ := h
  obtain ⟨t, rfl⟩ := rx
  exact rule i t s _ _ ⟨.int (g i), H, I.tok _, ⟨_, rfl⟩, q⟩
theorem un_neg : UnR X (unaryOp .USub) (rU fun i => .int (-i)) := unI fun _ _ _ _ _ q => neg_int q
/-! ### bools among ints: n += (a < b) -/
end

/-! ### comparisons -/
/-- the scalars that == tells apart as data does -/
def scal : V → V → Bool
  | .non, .non => true | .non, .int _ => true | .int _, .non => true | .non, .bl _ => true | .bl _, .non => true | .non, .str _ => true | .str _, .non => true
  | .int _, .int _ => true | .bl _, .bl _ => true | .str _, .str _ => true | .byt _, .byt _ => true
  | .int _, .str _ => true | .str _, .int _ => true | .bl _, .str _ => true | .str _, .bl _ => true
  | _, _ => false
def rEq : R2 := fun x y H Q => scal x y = true ∧ Q (.bl (decide (x = y))) H
def rNe : R2 := fun x y H Q => scal x y = true ∧ Q (.bl (!decide (x = y))) H

theorem dec_int {i j : Int} : decide (V.int i = V.int j) = (i == j) := by
  rw [Bool.eq_iff_iff]
  simp
theorem dec_bl {i j : Bool} : decide (V.bl i = V.bl j) = (i == j) := by
  rw [Bool.eq_iff_iff]
  simp
theorem dec_str {i j : Str} : decide (V.str i = V.str j) = (i == j) := by
  rw [Bool.eq_iff_iff]
  simp
theorem dec_byt {i j : Array UInt8} : decide (V.byt i = V.byt j) = (i.toList == j.toList) := by
  rw [Bool.eq_iff_iff]
  cases i
  cases j
  simp

section
variable {X : Cx} {a b c : Expr} {ta tb tc : TE} {pos : Pos}
theorem fin_bl {pins : List (Addr × Obj)} {σ : St} {H : Hp} {s : Shared} {Q : VK} {k k' : Bool} (I : Inv X pins σ H s) (q : Q (.bl k) H) (e : k = k') : EP X pins σ Q (.bool k') s := by
  subst e
  exact ⟨.bl k, H, I, rfl, q⟩
theorem op_eq : OpR X (compareOp .Eq) rEq := by
  intro pins s σ H x y v u Q I rx ry h
  obtain ⟨hs, q⟩ := h
  cases x with
  | non =>
    cases rx
    cases y with
    | non => cases ry; exact PySem.EqNone.eq_none_none (fin_bl I q (by simp))
    | bl j => cases ry; exact PySem.EqNone.eq_none_bool (fin_bl I q (by simp))
    | int j => obtain ⟨t', rfl⟩ := ry; exact PySem.EqNone.eq_none_int (fin_bl I q (by simp))
    | str j => obtain ⟨t', rfl⟩ := ry; exact PySem.EqNone.eq_none_str (fin_bl I q (by simp))
    | _ => exact absurd (show false = true from hs) Bool.false_ne_true
  | bl i =>
    cases rx
    cases y with
    | non => cases ry; exact PySem.EqNone.eq_bool_none (fin_bl I q (by simp))
    | bl j => cases ry; exact eq_bool (fin_bl I q dec_bl)
    | str j => obtain ⟨t', rfl⟩ := ry; exact PySem.EqMixed.eq_bool_str (fin_bl I q (by simp))
    | _ => exact absurd (show false = true from hs) Bool.false_ne_true
  | int i =>
    obtain ⟨t, rfl⟩ := rx
    cases y with
    | non => cases ry; exact PySem.EqNone.eq_int_none (fin_bl I q (by simp))
    | int j => obtain ⟨t', rfl⟩ := ry; exact eq_int (fin_bl I q dec_int)
    | str j => obtain ⟨t', rfl⟩ := ry; exact PySem.EqMixed.eq_int_str (fin_bl I q (by simp))
    | _ => exact absurd (show false = true from hs) Bool.false_ne_true
  | str i =>
    obtain ⟨t, rfl⟩ := rx
    cases y with
    | non => cases ry; exact PySem.EqNone.eq_str_none (fin_bl I q (by simp))
    | bl j => cases ry; exact PySem.EqMixed.eq_str_bool (fin_bl I q (by simp))
    | int j => obtain ⟨t', rfl⟩ := ry; exact PySem.EqMixed.eq_str_int (fin_bl I q (by simp))
    | str j => obtain ⟨t', rfl⟩ := ry; exact eq_str (fin_bl I q dec_str)
    | _ => exact absurd (show false = true from hs) Bool.false_ne_true
  | byt i =>
    obtain ⟨t, rfl⟩ := rx
    cases y with
    | byt j => obtain ⟨t', rfl⟩ := ry; exact PySem.W.eq_bytes (fin_bl I q dec_byt)
    | _ => exact absurd (show false = true from hs) Bool.false_ne_true
  | _ => cases y <;> exact absurd (show false = true from hs) Bool.false_ne_true
theorem op_ne : OpR X (compareOp .NotEq) rNe := by
  intro pins s σ H x y v u Q I rx ry h
  obtain ⟨hs, q⟩ := h
  cases x with
  | non =>
    cases rx
    cases y with
    | non => cases ry; exact PySem.EqNone.ne_none_none (fin_bl I q (by simp))
    | bl j => cases ry; exact PySem.EqNone.ne_none_bool (fin_bl I q (by simp))
    | int j => obtain ⟨t', rfl⟩ := ry; exact PySem.EqNone.ne_none_int (fin_bl I q (by simp))
    | str j => obtain ⟨t', rfl⟩ := ry; exact PySem.EqNone.ne_none_str (fin_bl I q (by simp))
    | _ => exact absurd (show false = true from hs) Bool.false_ne_true
  | bl i =>
    cases rx
    cases y with
    | non => cases ry; exact PySem.EqNone.ne_bool_none (fin_bl I q (by simp))
    | bl j => cases ry; exact ne_bool (fin_bl I q (congrArg not dec_bl))
    | str j => obtain ⟨t', rfl⟩ := ry; exact PySem.EqMixed.ne_bool_str (fin_bl I q (by simp))
    | _ => exact absurd (show false = true from hs) Bool.false_ne_true
  | int i =>
    obtain ⟨t, rfl⟩ := rx
    cases y with
    | non => cases ry; exact PySem.EqNone.ne_int_none (fin_bl I q (by simp))
    | int j => obtain ⟨t', rfl⟩ := ry; exact ne_int (fin_bl I q (congrArg not dec_int))
    | str j => obtain ⟨t', rfl⟩ := ry; exact PySem.EqMixed.ne_int_str (fin_bl I q (by simp))
    | _ => exact absurd (show false = true from hs) Bool.false_ne_true
  | str i =>
    obtain ⟨t, rfl⟩ := rx
    cases y with
    | non => cases ry; exact PySem.EqNone.ne_str_none (fin_bl I q (by simp))
    | bl j => cases ry; exact PySem.EqMixed.ne_str_bool (fin_bl I q (by simp))
    | int j => obtain ⟨t', rfl⟩ := ry; exact PySem.EqMixed.ne_str_int (fin_bl I q (by simp))
    | str j => obtain ⟨t', rfl⟩ := ry; exact ne_str (fin_bl I q (congrArg not dec_str))
    | _ => exact absurd (show false = true from hs) Bool.false_ne_true
  | byt i =>
    obtain ⟨t, rfl⟩ := rx
    cases y with
    | byt j => obtain ⟨t', rfl⟩ := ry; exact PySem.W.ne_bytes (fin_bl I q (congrArg not dec_byt))
    | _ => exact absurd (show false = true from hs) Bool.false_ne_true
  | _ => cases y <;> exact absurd (show false = true from hs) Bool.false_ne_true

theorem op_lt : OpR X (compareOp .Lt) (rI0 fun i j => .bl (decide (i < j))) := opB0 fun _ _ _ _ _ _ _ q => lt_int q
theorem op_le : OpR X (compareOp .LtE) (rI0 fun i j => .bl (decide (i ≤ j))) := opB0 fun _ _ _ _ _ _ _ q => le_int q
theorem op_gt : OpR X (compareOp .Gt) (rI0 fun i j => .bl (decide (j < i))) := opB0 fun _ _ _ _ _ _ _ q => gt_int q
theorem op_ge : OpR X (compareOp .GtE) (rI0 fun i j => .bl (decide (j ≤ i))) := opB0 fun _ _ _ _ _ _ _ q => ge_int q
/-- two rules for one operation: by cases -/
theorem OpR.or {f : Value → Value → Sem Value} {r r' : R2} (h : OpR X f r) (h' : OpR X f r') : OpR X f (fun x y H Q => r x y H Q ∨ r' x y H Q) := by
  intro pins s σ H x y v u Q I rx ry q
  rcases q with q | q
  · exact h pins s σ H x y v u Q I rx ry q
  · exact h' pins s σ H x y v u Q I rx ry q

theorem nomark (b : Expr) {op : CmpOp} (h : op ≠ .In := by decide) (h2 : op ≠ .NotIn := by decide) : behindInMarks op b = false := by
  have e1 : (op == CmpOp.In) = false := by cases op <;> first | rfl | exact absurd rfl h
  have e2 : (op == CmpOp.NotIn) = false := by cases op <;> first | rfl | exact absurd rfl h2
  cases b <;> simp [behindInMarks, e1, e2]
/-- a comparison as a value; hm: nomark b, or (for in, not in) by with_unfolding_all rfl -/
theorem pe_cmpR {op : CmpOp} {r : R2} (ho : OpR X (compareOp op) r) (ha : PE X a ta) (hb : PE X b tb) (hm : behindInMarks op b = false) : PE X (.Compare a [op] [b] pos) (tOp r ta tb) := by
  intro pins s σ H Q I h
  exact wpAny_Compare1 (binT ha hb I h fun v u s2 x y H2 I2 rx ry q => ho pins s2 σ H2 x y v u Q I2 rx ry q) hm
/-- a reading of a value as a test -/
def tTest (t : TE) : TT := fun σ H Q => t σ H fun x H' => ∃ k, x = .bl k ∧ Q k H'
theorem pt_cmpR {op : CmpOp} {r : R2} (ho : OpR X (compareOp op) r) (ha : PE X a ta) (hb : PE X b tb) (hm : behindInMarks op b = false) : PT X (.Compare a [op] [b] pos) (tTest (tOp r ta tb)) := by
  intro pins s σ H Q I h
  refine wpAny_isTrue_Compare1 (thn (ha pins s σ H _ I h) fun v s1 ⟨x, H1, I1, r1, q1⟩ => thn (hb pins s1 σ H1 _ I1 q1) fun u s2 ⟨y, H2, I2, r2, q2⟩ =>
    thn (ho pins s2 σ H2 x y v u _ I2 r1 r2 q2) fun c s3 ⟨z, H3, I3, r3, k, e, q3⟩ => ?_) hm
  subst e
  cases r3
  exact wpAny_truthy_bool ⟨H3, I3, q3⟩
/-- a op1 b op2 c -/
def tChain (r r' : R2) (ta tb tc : TE) : TE := fun σ H Q => ta σ H fun x H1 => tb σ H1 fun y H2 => r x y H2 fun z H3 => ∃ k, z = .bl k ∧
  (if k = true then tc σ H3 fun w' H4 => r' y w' H4 Q else Q (.bl false) H3)
theorem pe_chain {op op' : CmpOp} {r r' : R2} (ho : OpR X (compareOp op) r) (ho' : OpR X (compareOp op') r') (ha : PE X a ta) (hb : PE X b tb) (hc : PE X c tc)
    (hm : lastMarks [op, op'] [b, c] = false := by with_unfolding_all rfl) : PE X (.Compare a [op, op'] [b, c] pos) (tChain r r' ta tb tc) := by
  intro pins s σ H Q I h
  refine Compare_chain (thn (ha pins s σ H _ I h) fun v s1 ⟨x, H1, I1, r1, q1⟩ => chain_link (thn (hb pins s1 σ H1 _ I1 q1) fun u s2 ⟨y, H2, I2, r2, q2⟩ =>
    thn (ho pins s2 σ H2 x y v u _ I2 r1 r2 q2) fun d s3 ⟨z, H3, I3, r3, k, e, q3⟩ => ?_)) hm
  subst e
  cases r3
  refine wpAny_truthy_bool ?_
  cases k with
  | false => exact ite_ff ⟨.bl false, H3, I3, rfl, q3⟩
  | true => exact ite_tt (chain_last (thn (hc pins s3 σ H3 _ I3 q3) fun w' s4 ⟨z', H4, I4, r4, q4⟩ => ho' pins s4 σ H4 y z' u w' Q I4 r2 r4 q4))
/-! ### truth -/
theorem line63 : (sizeLine : Nat) < 2 ^ 63 := by rw [sizeLine_eq]; decide
/-! ### strs and bytes -/
/-! ### scalar builtins, by CallR -/
theorem vals1 {x : V} {us : List Value} (r : Vals [x] us) : ∃ u, us = [u] ∧ RelV x u := by
  cases r with
  | cons r1 r2 => cases r2; exact ⟨_, rfl, r1⟩
theorem vals2 {x y : V} {us : List Value} (r : Vals [x, y] us) : ∃ u w', us = [u, w'] ∧ RelV x u ∧ RelV y w' := by
  cases r with
  | cons r1 r2 =>
    cases r2 with
    | cons r3 r4 => cases r4; exact ⟨_, _, rfl, r1, r3⟩
theorem call_abs : CallR X (.builtin "abs") (fun xs H Q => ∃ i, xs = [.int i] ∧ Q (.int (if i < 0 then -i else i)) H) := by
  intro pins s σ H xs us Q I r h
  obtain ⟨i, rfl, q⟩ := h
  obtain ⟨u, rfl, t, rfl⟩ := vals1 r
  exact call_abs_int fun u tk => ⟨.int (if i < 0 then -i else i), H, I.tok _, ⟨_, rfl⟩, q⟩
theorem call_min2 (hc : X.calm = true) : CallR X (.builtin "min") (fun xs H Q => ∃ i j, xs = [.int i, .int j] ∧ Q (.int (if j < i then j else i)) H) := by
  intro pins s σ H xs us Q I r h
  obtain ⟨i, j, rfl, q⟩ := h
  obtain ⟨u, w', rfl, ⟨t, rfl⟩, ⟨t', rfl⟩⟩ := vals2 r
  refine min_two_ints (I.ok.hd hc) fun h' tk k => ⟨_, H, I.kept k, ?_, q⟩
  by_cases hj : j < i
  · rw [if_pos hj, if_pos hj]; exact ⟨_, rfl⟩
  · rw [if_neg hj, if_neg hj]; exact ⟨_, rfl⟩
theorem call_int1 : CallR X (.type "int") (fun xs H Q => (∃ i, xs = [.int i] ∧ Q (.int i) H) ∨ ∃ k, xs = [.bl k] ∧ Q (.int (if k then 1 else 0)) H) := by
  intro pins s σ H xs us Q I r h
  rcases h with ⟨i, rfl, q⟩ | ⟨k, rfl, q⟩
  · obtain ⟨u, rfl, t, rfl⟩ := vals1 r
    exact call_int_int ⟨.int i, H, I, ⟨_, rfl⟩, q⟩
  · obtain ⟨u, rfl, r1⟩ := vals1 r
    cases r1
    exact call_int_bool ⟨.int (if k then 1 else 0), H, I.tok _, ⟨_, rfl⟩, q⟩
/-- len of a str, a bytes, a list, a tuple -/
def LenV (K : PySem.W.Frag) (x : V) (H : Hp) (n : Nat) : Prop :=
  match x with
  | .str y => y.length ≤ sizeLine ∧ n = y.length
  | .byt y => y.size ≤ sizeLine ∧ n = y.size
  | .ref p => (∃ xs, SqL K H p xs ∧ n = xs.length) ∨ ∃ xs, SqT K H p xs ∧ n = xs.length
  | _ => False
theorem call_len : CallR X (.builtin "len") (fun xs H Q => ∃ x n, xs = [x] ∧ LenV X.K x H n ∧ Q (.int n) H) := by
  intro pins s σ H xs us Q I r h
  obtain ⟨x, n, rfl, e, q⟩ := h
  obtain ⟨u, rfl, rx⟩ := vals1 r
  have hl := line63
  have hs : sizeLine = 16777216 := sizeLine_eq
  cases x with
  | str y =>
    obtain ⟨t, rfl⟩ := rx
    obtain ⟨hy, e'⟩ : y.length ≤ sizeLine ∧ n = y.length := e
    subst e'
    exact len_str (by omega) ⟨.int _, H, I.tok _, ⟨_, rfl⟩, q⟩
  | byt y =>
    obtain ⟨t, rfl⟩ := rx
    obtain ⟨hy, e'⟩ : y.size ≤ sizeLine ∧ n = y.size := e
    subst e'
    exact PySem.W.len_bytes (by omega) ⟨.int _, H, I.tok _, ⟨_, rfl⟩, q⟩
  | ref p =>
    cases rx
    have e' : (∃ xs, SqL X.K H p xs ∧ n = xs.length) ∨ ∃ xs, SqT X.K H p xs ∧ n = xs.length := e
    rcases e' with ⟨xs, hx, e'⟩ | ⟨xs, hx, e'⟩
    · subst e'
      obtain ⟨its, r', pl, hz⟩ := I.list hx
      have hlen := r'.length
      exact Calls.call_len_list pl.isList (by simp only [List.size_toArray]; omega) ⟨.int xs.length, H, I.tok _, ⟨_, by simp only [List.size_toArray]; rw [hlen]⟩, q⟩
    · subst e'
      obtain ⟨its, r', pl, hz⟩ := I.tuple hx
      have hlen := r'.length
      exact len_tuple pl (by simp only [List.size_toArray]; omega) ⟨.int xs.length, H, I.tok _, ⟨_, by simp only [List.size_toArray]; rw [hlen]⟩, q⟩
  | _ => exact (show False from e).elim
end
end L2

namespace L2
open PySem PySem.Spec PyProof.Rows

/-! ### an instance, its attributes a map -/
structure ObjM (h : Heap) (x dx C : Addr) (mA : Str → Option Value) : Prop where
  obj : h.get? x = some (PySem.W.instObj C dx)
  ns : h.Ns1 dx mA
  ne : dx ≠ x

theorem lookIn_ns {h : Heap} {dx : Addr} {mA : Str → Option Value} (n : h.Ns1 dx mA) : ∃ od, h.get? dx = some od ∧ ∀ name, PySem.W.lookIn name od = some (mA name) := by
  obtain ⟨o, es, ep, ho, hd, hk, _, hm⟩ := n
  refine ⟨o, ho, fun name => ?_⟩
  have e := hm name
  unfold nsFind findBy at e
  rw [← Array.find?_toList] at e
  unfold PySem.W.lookIn
  rw [hd]
  dsimp only
  split
  · rename_i y q
    rw [q] at e
    exact congrArg some e
  · rename_i q
    rw [q] at e
    have a : es.toList.any (·.refKey) = false := by
      rw [List.any_eq_false]
      intro y hy
      obtain ⟨z, t, hkey⟩ := hk y (Array.mem_toList_iff.mp hy)
      simp [DictEntry.refKey, hkey]
    have a' : ¬ es.toList.any (·.refKey) = true := by rw [a]; exact Bool.false_ne_true
    rw [if_neg a']
    exact congrArg some e

theorem ObjM.look {h : Heap} {x dx C : Addr} {mA : Str → Option Value} (I : ObjM h x dx C mA) : ∃ od, PySem.W.InstAt h x (PySem.W.instObj C dx) C (some od) ∧ ∀ name, PySem.W.lookIn name od = some (mA name) :=
  let ⟨od, ho, hl⟩ := lookIn_ns I.ns
  ⟨od, ⟨I.obj, rfl, rfl, ho⟩, hl⟩

section
variable {prog : Program} {w : World} {A : Around} {E : Value → Shared → Prop} {s : Shared} {K : PySem.W.Frag} {x dx C f : Addr} {mA : Str → Option Value} {name : Str} {v : Value}

end

/-! ### the attributes as a list of pairs -/
theorem RelO.some_of {v : V} {o : Option Value} (r : RelO (some v) o) : ∃ u, o = some u ∧ RelV v u := by
  cases o with
  | none => exact (show False from r).elim
  | some u => exact ⟨u, rfl, r⟩
theorem RelO.none_of {o : Option Value} (r : RelO none o) : o = none := by
  cases o with
  | none => rfl
  | some u => exact (show False from r).elim
section
variable {P : Program} {w : World} {H H' : Hp} {h h' : Heap} {a C dx : Addr} {fs fs' : List (Str × V)}
theorem ins_get (hok : HOk P w H h) (e : H a = some (.ins C dx fs)) : ∃ mA, ObjM h a dx C mA ∧ (∀ f, RelO (fs.lookup f) (mA f)) ∧ PySem.Within mA (fs.map (·.1)) ∧ fs.length ≤ 1000 ∧ H dx = some (.own a) := by
  obtain ⟨d, z, ne, ob, mA, n, r, q⟩ := (show ObjOk P w H h a (.ins C dx fs) from hok a _ e)
  exact ⟨mA, ⟨ob, n, ne⟩, r, q, z, d⟩
end

/-! ### what of the text a class must have -/
structure Cls (K : PySem.W.Frag) (C : Addr) : Prop where
  pg : PySem.W.plainGet K C Str.empty = true
  hd : PySem.W.hasDictIn K C = true
  po : PySem.W.plainOver K C = true
  sa : PySem.W.findIn K (.ref C) "__setattr__" = some (some (.builtin "object.__setattr__"))
theorem Cls.get {K : PySem.W.Frag} {C : Addr} (c : Cls K C) (f : Str) : PySem.W.plainGet K C f = true := c.pg
/-- a constant of the class -/
structure Con (K : PySem.W.Frag) (C : Addr) (f : Str) (v : V) (u : Value) : Prop where
  at_ : PySem.W.findIn K (.ref C) f = some (some u)
  rel : RelV v u
  get : PySem.W.specialIn K u "__get__" = some none
  cp : PySem.W.copiedNames.contains f = false
/-- a method: a plain def of the class or of one above it -/
structure Meth (K : PySem.W.Frag) (C : Addr) (m : Str) (f : Addr) : Prop where
  at_ : PySem.W.findIn K (.ref C) m = some (some (.ref f))
  fn : PySem.W.isFn K (.ref f) = true
  kp : PySem.W.keepIn K (.ref f) = true

section
variable {X : Cx} {pins : List (Addr × Obj)} {σ : St} {H : Hp} {s : Shared} {a C dx : Addr} {fs : List (Str × V)} {f : Str} {v : V} {A : Around} {E : Value → Shared → Prop}

/-- a new instance, tracked, without attributes -/
theorem Inv.made (I : Inv X pins σ H s) : Inv X pins σ (upd (upd H s.heap.objs.size (.own (s.heap.objs.size + 1))) (s.heap.objs.size + 1) (.ins C s.heap.objs.size []))
    { s with heap := (s.heap.push PySem.W.emptyDict).push (PySem.W.instObj C s.heap.objs.size) } := by
  have e1 : (s.heap.push PySem.W.emptyDict).get? s.heap.objs.size = some PySem.W.emptyDict := Heap.get?_push_size s.heap rfl
  have e2 : ((s.heap.push PySem.W.emptyDict).push (PySem.W.instObj C s.heap.objs.size)).get? (s.heap.objs.size + 1) = some (PySem.W.instObj C s.heap.objs.size) := by
    have := Heap.get?_push_size (s.heap.push PySem.W.emptyDict) (o := PySem.W.instObj C s.heap.objs.size) rfl
    rwa [Heap.size_push] at this
  have e3 : (s.heap.push PySem.W.emptyDict).Ns s.heap.objs.size (fun _ => none) := ⟨PySem.W.emptyDict, #[], _, e1, rfl, (fun e he => absurd he (by simp)), fun _ => rfl⟩
  have I1 := I.laid (a := s.heap.objs.size) (o := .own (s.heap.objs.size + 1)) (h' := s.heap.push PySem.W.emptyDict) (t' := s.toks) (fun b u q => Heap.get?_push_of_some _ q) (Nat.le_refl _) ⟨_, e1⟩
  refine I1.laid (a := s.heap.objs.size + 1) (o := .ins C s.heap.objs.size []) (t' := s.toks) (fun b u q => Heap.get?_push_of_some _ q) (Nat.le_of_eq (Heap.size_push _ _)) ?_
  have ne : s.heap.objs.size ≠ s.heap.objs.size + 1 := Nat.ne_of_lt (Nat.lt_succ_self _)
  refine ⟨by rw [upd_ne ne, upd_same], Nat.zero_le _, ne, e2, fun _ => none, (Heap.Ns1.of_empty e3).at fun o q => Heap.get?_push_of_some _ q, fun _ => True.intro, fun y hy => absurd rfl hy⟩

end

/-! ### readings and rules -/
section
variable {X : Cx} {o e value : Expr} {f : Str} {pos pos' tpos : Pos} {ta tv : TE}
end

/-! ### isinstance -/
section
variable {X : Cx} {pins : List (Addr × Obj)} {σ : St} {H : Hp} {s : Shared} {A : Around} {E : Value → Shared → Prop} {Q : Value → Shared → Prop} {c : Value} {b : Bool}
/-- the type of a value, as the fragment's deciders take it; for an instance its class -/
inductive TyOf (K : PySem.W.Frag) (H : Hp) : V → Value → Prop where
  | non : TyOf K H .non (.type "NoneType")
  | bl (x : Bool) : TyOf K H (.bl x) (.type "bool")
  | int (i : Int) : TyOf K H (.int i) (.type "int")
  | str (x : Str) : TyOf K H (.str x) (.type "str")
  | flt (x : UInt64) : TyOf K H (.flt x) (.type "float")
  | lst {a : Addr} {xs : List V} (e : H a = some (.lst xs)) : TyOf K H (.ref a) (.type "list")
  | frz {a : Addr} {o : Obj} {xs : List V} (e : H a = some (.frz o (.lst xs))) : TyOf K H (.ref a) (.type "list")
  | tup {a : Addr} {xs : List V} (e : H a = some (.tup xs)) : TyOf K H (.ref a) (.type "tuple")
  | dK {a : Addr} {kvs : List (Key × V)} (e : H a = some (.dK kvs)) : TyOf K H (.ref a) (.type "dict")
  | dT {a : Addr} {kvs : List (List Key × V)} (e : H a = some (.dT kvs)) : TyOf K H (.ref a) (.type "dict")
  | ins {a C dx : Addr} {fs : List (Str × V)} (e : H a = some (.ins C dx fs)) (cl : Cls K C) (ha : PySem.W.findIn K (.ref C) "__class__" = some (some (.builtin "object.__class__")))
      (hn : PySem.W.specialIn K (.builtin "object.__class__") "__get__" = some (some (.builtin "getset_descriptor.__get__"))) (htk : PySem.W.takesIn K (.builtin "object.__class__") = some true)
      (hm : PySem.W.mroIn K C (.type "object") = some true) : TyOf K H (.ref a) (.ref C)
/-- isinstance(x, c) for one class c, a built-in or an own one: kitOne's answer -/
theorem isinst_ok {x : V} {u t : Value} (I : Inv X pins σ H s) (rx : RelV x u) (ty : TyOf X.K H x t) (e : PySem.W.kitOne X.K t c = some b) (h : ∀ tk, Q (.bool b) { s with toks := tk }) :
    wpAny (model X.prog X.w) A (call (.builtin "isinstance") [u, c]) Q E s := by
  cases ty with
  | non => cases (show u = Value.none from rx); exact PySem.W.kia_one PySem.W.kitx_none I.kIn True.intro e (fun z => nomatch z) h
  | bl y => cases (show u = Value.bool y from rx); exact PySem.W.kia_one PySem.W.kitx_bool I.kIn True.intro e (fun z => nomatch z) h
  | int i => obtain ⟨t, q⟩ := (show ∃ t, u = Value.int i t from rx); cases q; exact PySem.W.kia_one PySem.W.kitx_int I.kIn True.intro e (fun z => nomatch z) h
  | str y => obtain ⟨t, q⟩ := (show ∃ t, u = Value.str y t from rx); cases q; exact PySem.W.kia_one PySem.W.kitx_str I.kIn True.intro e (fun z => nomatch z) h
  | flt y => obtain ⟨t, q⟩ := (show ∃ t, u = Value.float y t from rx); cases q; exact PySem.W.kia_one PySem.W.kitx_float I.kIn True.intro e (fun z => nomatch z) h
  | @lst a xs ea =>
    cases (show u = Value.ref a from rx)
    obtain ⟨_, _, n, _, h1⟩ := (show ObjOk X.prog X.w H s.heap a (.lst xs) from I.hok a _ ea)
    exact PySem.W.kia_one PySem.W.kitx_list I.kIn ⟨_, h1, rfl⟩ e (fun z => nomatch z) h
  | @frz a ob xs ea =>
    cases (show u = Value.ref a from rx)
    obtain ⟨_, _, _, n, _, h1⟩ := (show ObjOk X.prog X.w H s.heap a (.frz ob (.lst xs)) from I.hok a _ ea)
    exact PySem.W.kia_one PySem.W.kitx_list I.kIn ⟨_, h1, rfl⟩ e (fun z => nomatch z) h
  | @tup a xs ea =>
    cases (show u = Value.ref a from rx)
    obtain ⟨_, _, _, p⟩ := (show ObjOk X.prog X.w H s.heap a (.tup xs) from I.hok a _ ea)
    obtain ⟨o, h1, h2, _⟩ := p
    exact PySem.W.kia_one PySem.W.kitx_tuple I.kIn ⟨o, h1, h2⟩ e (fun z => nomatch z) h
  | @dK a kvs ea =>
    cases (show u = Value.ref a from rx)
    obtain ⟨_, _, vs, _, p⟩ := (show ObjOk X.prog X.w H s.heap a (.dK kvs) from I.hok a _ ea)
    obtain ⟨o, es, ep, h1, h2, _⟩ := p
    exact PySem.W.kia_one PySem.W.kitx_dict I.kIn ⟨o, h1, h2.1⟩ e (fun z => nomatch z) h
  | @dT a kvs ea =>
    cases (show u = Value.ref a from rx)
    obtain ⟨_, _, xs, _, o, es, ep, h1, h2, _⟩ := (show ObjOk X.prog X.w H s.heap a (.dT kvs) from I.hok a _ ea)
    exact PySem.W.kia_one PySem.W.kitx_dict I.kIn ⟨o, h1, h2.1⟩ e (fun z => nomatch z) h
  | @ins a C dx fs ea cl ha hn htk hm =>
    cases (show u = Value.ref a from rx)
    obtain ⟨mA, O, _⟩ := ins_get I.hok ea
    obtain ⟨od, J, _⟩ := O.look
    exact PySem.W.kia_one (PySem.W.kitx_own (cl.get _) cl.hd ha hn htk hm) I.kIn J e (fun z => nomatch z) h
end
end L2

namespace L2
open PySem PySem.Spec PyProof.Rows

/-! ### room -/
structure Room (k : Nat) (A : Around) : Prop where
  hd : A.handled = none
  dp : A.depth + 3 * k + 5 < recursionLimit
  un : A.units + 16 * k + 200 < cLine
theorem Room.mono {j k : Nat} {A : Around} (r : Room k A) (h : j ≤ k) : Room j A := ⟨r.hd, by have := r.dp; omega, by have := r.un; omega⟩
theorem Room.deeper {k : Nat} {A : Around} (r : Room (k + 1) A) (env : Env) : Room k (A.deeper env) :=
  ⟨r.hd, by have := r.dp; show A.depth + 1 + 3 * k + 5 < _; omega, by have := r.un; show A.units + 3 + 16 * k + 200 < _; omega⟩
theorem Room.in1 {k : Nat} {A : Around} (r : Room (k + 1) A) : Room k A.in1 :=
  ⟨r.hd, by have := r.dp; show A.depth + 3 * k + 5 < _; omega, by have := r.un; show A.units + 1 + 16 * k + 200 < _; omega⟩
theorem Room.depth {k : Nat} {A : Around} (r : Room k A) : A.depth < recursionLimit := by have := r.dp; omega
theorem Room.units {k : Nat} {A : Around} (r : Room k A) : A.units + 64 < cLine := by have := r.un; omega
/-! ### argument lists and displays -/
def tNil : TA := fun _ H Q => Q [] H
def tCons (ta : TE) (tr : TA) : TA := fun σ H Q => ta σ H fun x H1 => tr σ H1 fun xs H2 => Q (x :: xs) H2
section
variable {X : Cx} {e : Expr} {es : List Expr} {te : TE} {t : TA} {pos : Pos}
theorem pa_nil : PA X [] tNil := fun _ _ _ _ H Q I h => Calls.spliced_nil ⟨[], H, I, .nil, h⟩
theorem pa_cons (ha : PE X e te) (hr : PA X es t) (hs : starEach (e :: es) X.env = (false, eval e X.env) :: starEach es X.env := by rfl) : PA X (e :: es) (tCons te t) := by
  intro pos pins s σ H Q I h
  rw [hs]
  show wpAny _ _ (spliced ((false, eval e X.env) :: backTo pos (starEach es X.env))) _ _ s
  refine Calls.spliced_cons (thn (ha pins s σ H _ I h) fun u s1 ⟨x, H1, I1, r1, q1⟩ => ?_)
  exact thn (hr pos pins s1 σ H1 _ I1 q1) fun us s2 ⟨xs, H2, I2, r2, q2⟩ => ⟨x :: xs, H2, I2, .cons r1 r2, q2⟩

/-- a tuple, a list of written items -/
def tTup (t : TA) : TE := fun σ H Q => t σ H fun xs H1 => xs.length ≤ sizeLine ∧ ∀ p, H1 p = none → Q (.ref p) (upd H1 p (.tup xs))
def tLst (t : TA) : TE := fun σ H Q => t σ H fun xs H1 => xs.length ≤ sizeLine ∧ ∀ p, H1 p = none → Q (.ref p) (upd H1 p (.lst xs))
theorem pe_tup {x1} (h : PA X es t) : PE X (.Tuple es x1 pos) (tTup t) := by
  intro pins s σ H Q I hq
  refine wpAny_Tuple_spliced (thn (h pos pins s σ H _ I hq) fun us s1 ⟨xs, H1, I1, r, z, q⟩ => ⟨by rw [← r.length]; exact z, ?_⟩)
  have hf : H1 s1.heap.objs.size = none := I1.hok.fresh (Nat.le_refl _)
  refine ⟨.ref s1.heap.objs.size, upd H1 s1.heap.objs.size (.tup xs), I1.laid (t' := s1.toks) (fun b u e => Heap.get?_push_of_some _ e) (Nat.le_refl _) ?_, rfl, q _ hf⟩
  exact ⟨z, us, r, ⟨_, Heap.get?_push_size _ rfl, rfl, _, rfl⟩⟩
theorem pe_lst (h : PA X es t) : PE X (.List es pos) (tLst t) := by
  intro pins s σ H Q I hq
  refine wpAny_List_spliced (thn (h pos pins s σ H _ I hq) fun us s1 ⟨xs, H1, I1, r, z, q⟩ => ⟨by rw [← r.length]; exact z, ?_⟩)
  have hf : H1 s1.heap.objs.size = none := I1.hok.fresh (Nat.le_refl _)
  refine ⟨.ref s1.heap.objs.size, upd H1 s1.heap.objs.size (.lst xs), I1.laid (t' := s1.toks) (fun b u e => Heap.get?_push_of_some _ e) (Nat.le_refl _) ?_, rfl, q _ hf⟩
  exact ⟨z, us, 0, r, Heap.get?_push_size _ rfl⟩
end

/-! ### what a def promises -/
/-- a def's promise: the bound arguments in the parameters' order, the heap, the wanted end, the wanted exception -/
abbrev Sp := List V → Hp → VK → XK → Prop
/-- how an exception lies behind a call (file 08 gives it): the callers' frames, abstract heap and state ahead of the call, the wish, the exception, the state -/
abbrev CXT := List Env → Hp → Shared → XK → Value → Shared → Prop

/-- the state at a call -/
structure Env0 (P : Program) (w : World) (K : PySem.W.Frag) (mg : Str → Option Value) (base : Heap) (A : Around) (outer : List Env) (s : Shared) (H : Hp) : Prop where
  frames : A.frames = some outer
  mod : Mod K mg base
  bs : ∀ b o, base.get? b = some o → s.heap.get? b = some o ∧ H b = none
  bsz : base.objs.size ≤ s.heap.objs.size
  funs : s.heap.FunFrames base outer
  frf : ∀ b ∈ frs outer, H b = none
  hok : HOk P w H s.heap
  bare : AllBare s.gens
/-- a call's end -/
def CE (outer : List Env) (P : Program) (w : World) (H : Hp) (s : Shared) (Q : VK) (u : Value) (s' : Shared) : Prop :=
  ∃ v H', s'.os = s.os ∧ AllBare s'.gens ∧ Un (frs outer) [] H H' s.heap s'.heap ∧ HOk P w H' s'.heap ∧ RelV v u ∧ Q v H'
def CR (CX : CXT) (outer : List Env) (P : Program) (w : World) (H : Hp) (s : Shared) (Q : VK) (E : XK) (r : Result) (s' : Shared) : Prop :=
  match r with
  | .ok (.ret u) => CE outer P w H s Q u s'
  | .ok _ => False
  | .error e => CX outer H s E e s'
structure FnOk (P : Program) (w : World) (K : PySem.W.Frag) (mg : Str → Option Value) (base : Heap) (CX : CXT) (k : Nat) (f : Addr) (fd : FuncData) (ps : List Str) (sp : Sp) : Prop where
  len : ∀ vs H Q E, sp vs H Q E → vs.length = ps.length
  run : ∀ (A : Around) (outer : List Env) (s : Shared) (H : Hp) (args : Args) (us : List Value) (vs : List V) (Q : VK) (E : XK), Room k A → Env0 P w K mg base A outer s H → BindsTo s fd args (ps.zip us) → Vals vs us → sp vs H Q E →
    codeAny (model P w) A (.call (.ref f) args) (CR CX outer P w H s Q E) s
theorem FnOk.mono {P : Program} {w : World} {K : PySem.W.Frag} {mg : Str → Option Value} {base : Heap} {CX : CXT} {j k : Nat} {f : Addr} {fd : FuncData} {ps : List Str} {sp : Sp} (F : FnOk P w K mg base CX j f fd ps sp) (h : j ≤ k) :
    FnOk P w K mg base CX k f fd ps sp := ⟨F.len, fun A outer s H args us vs Q E hr => F.run A outer s H args us vs Q E (hr.mono h)⟩
/-- a weaker promise -/
theorem FnOk.imp {P : Program} {w : World} {K : PySem.W.Frag} {mg : Str → Option Value} {base : Heap} {CX : CXT} {k : Nat} {f : Addr} {fd : FuncData} {ps : List Str} {sp sp' : Sp} (F : FnOk P w K mg base CX k f fd ps sp)
    (h : ∀ vs H Q E, sp' vs H Q E → sp vs H Q E) : FnOk P w K mg base CX k f fd ps sp' :=
  ⟨fun vs H Q E q => F.len vs H Q E (h _ _ _ _ q), fun A outer s H args us vs Q E hr he hb hv hs => F.run A outer s H args us vs Q E hr he hb hv (h _ _ _ _ hs)⟩

theorem Env0.in1 {P : Program} {w : World} {K : PySem.W.Frag} {mg : Str → Option Value} {base : Heap} {A : Around} {outer : List Env} {s : Shared} {H : Hp} (e : Env0 P w K mg base A outer s H) :
    Env0 P w K mg base A.in1 outer s H := ⟨e.frames, e.mod, e.bs, e.bsz, e.funs, e.frf, e.hok, e.bare⟩

section
variable {X : Cx} {pins : List (Addr × Obj)} {σ : St} {H : Hp} {s s' : Shared}
/-- from a body: what a callee wants -/
theorem Inv.env0 (I : Inv X pins σ H s) : Env0 X.prog X.w X.K X.mg X.base X.A X.stack s H :=
  ⟨I.ok.frames, I.ok.mod, I.bs, Nat.le_trans I.ok.bsz I.sz, I.stack, I.stkFree, I.hok, I.bare⟩
/-- behind a call -/
theorem Inv.after {Q : VK} {u : Value} (I : Inv X pins σ H s) (h : CE X.stack X.prog X.w H s Q u s') : EP X pins σ Q u s' := by
  obtain ⟨v, H', os, bare, un, hok, r, q⟩ := h
  obtain ⟨hh, g, d, t, os'⟩ := s'
  obtain rfl : os' = s.os := os
  exact ⟨v, H', I.call (h' := hh) (g' := g) (d' := d) (t' := t) (ch := []) un hok bare (fun b z => absurd z (by simp)), r, q⟩
end

/-! ### calls -/
/-- f(..): the written arguments, then the defaults dvs; E: what is wanted of an exception -/
def tCall (sp : Sp) (dvs : List V) (E : XK) (t : TA) : TE := fun σ H Q => t σ H fun vs H1 => sp (vs ++ dvs) H1 Q E
/-- how the parameters are bound: us the positional arguments, kw the keywords' values by name, ds the defaults that fill up -/
def Binds (K : PySem.W.Frag) (fd : FuncData) (ps : List Str) (ds : List Value) : Prop :=
  ∀ (s : Shared) (us : List Value), K.In s.heap → (us ++ ds).length = ps.length → BindsTo s fd ⟨us, []⟩ (ps.zip (us ++ ds))
/-- every parameter is given -/
theorem Binds.all {K : PySem.W.Frag} {fd : FuncData} {ps : List Str} (h : ∀ us : List Value, us.length = ps.length → bindArgs fd ⟨us, []⟩ = pure (ps.zip us)) : Binds K fd ps [] := fun s us _ hl => by
  rw [List.append_nil] at hl ⊢
  exact .of_eq (h us hl)

/-- an exception of a callee reaches what this body wants of exceptions -/
def Passes (CX : CXT) (X : Cx) (E : XK) : Prop := ∀ (pins : List (Addr × Obj)) (σ : St) (H : Hp) (s : Shared) (e : Value) (s' : Shared), Inv X pins σ H s → CX X.stack H s E e s' → X.xe e s'

section
variable {X : Cx} {CX : CXT} {k : Nat} {f C : Addr} {fd : FuncData} {ps : List Str} {sp : Sp} {dvs : List V} {ds : List Value} {E : XK} {x m : Str} {p pos apos : Pos} {e o : Expr} {es : List Expr} {ta : TE} {t : TA}

/-- the callee runs -/
theorem run_fn {pins : List (Addr × Obj)} {σ : St} {H : Hp} {s : Shared} {Q : VK} {us : List Value} {vs : List V} (F : FnOk X.prog X.w X.K X.mg X.base CX k f fd ps sp) (hr : Room k X.A) (hb : Binds X.K fd ps ds) (hd : Vals dvs ds) (hx : Passes CX X E)
    (I : Inv X pins σ H s) (r : Vals vs us) (h : sp (vs ++ dvs) H Q E) : wpAny (model X.prog X.w) X.A (call (.ref f) us) (EP X pins σ Q) X.xe s := by
  have r2 : Vals (vs ++ dvs) (us ++ ds) := r.append hd
  have hl : (us ++ ds).length = ps.length := by rw [← r2.length]; exact F.len _ _ _ _ h
  refine wpAny_call (codeAny_mono (F.run X.A X.stack s H ⟨us, []⟩ (us ++ ds) (vs ++ dvs) Q E hr I.env0 (hb s us I.kIn hl) r2 h) fun r s' hq => ?_)
  cases r with
  | error e => exact hx pins σ H s e s' I hq
  | ok fl =>
    cases fl with
    | ret u => exact I.after hq
    | next => exact False.elim hq
    | brk => exact False.elim hq
    | cont => exact False.elim hq

theorem pe_call (F : FnOk X.prog X.w X.K X.mg X.base CX k f fd ps sp) (hr : Room k X.A) (hg : Gl X x) (hm : X.mg x = some (.ref f)) (hk : PySem.W.keepIn X.K (.ref f) = true) (hb : Binds X.K fd ps ds) (hd : Vals dvs ds) (hx : Passes CX X E)
    (ha : PA X (e :: es) t) (hdb : (x == ("__debug__" : Str)) = false := by decide) (he : starEach (e :: es) X.env = (false, eval e X.env) :: starEach es X.env := by rfl) (hpl : (backTo pos (starEach es X.env)).any (·.1) = false := by rfl) :
    PE X (.Call (.Name x p) (e :: es) [] pos) (tCall sp dvs E t) := by
  intro pins s σ H Q I h
  refine wpAny_Call_Name_kw (ld_glob I hg hm ?_ hdb)
  refine PySem.W.callWith_K (h₀ := X.base) I.ok.mod.kin hk (thn (ha pos pins s σ H _ I h) fun us s1 ⟨vs, H1, I1, r, q⟩ => ⟨I1.kIn, ?_⟩) he hpl
  exact run_fn F hr hb hd hx I1 r q
/-- what a class must have to be made -/
structure Mk (K : PySem.W.Frag) (C f : Addr) : Prop where
  makes : PySem.W.makesIn K C = true
  init : PySem.W.findIn K (.ref C) "__init__" = some (some (.ref f))
  fn : PySem.W.isFn K (.ref f) = true
  kp : PySem.W.keepIn K (.ref C) = true

end

/-! ### keywords -/
section
variable {X : Cx} {CX : CXT} {k : Nat} {f C : Addr} {fd : FuncData} {ps ks : List Str} {sp : Sp} {E : XK} {x m : Str} {p pos apos kpos : Pos} {e o : Expr} {es : List Expr} {kws : List Keyword} {te ta : TE} {t tk : TA} {nm : Option Str}
/-- how a call with keywords binds: g puts the positional values us and the keywords' values ws (names ks) in the parameters' order, defaults among them -/
structure KBinds (K : PySem.W.Frag) (fd : FuncData) (ps ks : List Str) (g : List Value → List Value → List Value) (gV : List V → List V → List V) : Prop where
  to : ∀ (s : Shared) (us ws : List Value), K.In s.heap → (g us ws).length = ps.length → BindsTo s fd ⟨us, ks.zip ws⟩ (ps.zip (g us ws))
  rel : ∀ {vs : List V} {us : List Value} {zs : List V} {ws : List Value}, Vals vs us → Vals zs ws → Vals (gV vs zs) (g us ws)
variable {g : List Value → List Value → List Value} {gV : List V → List V → List V}
end

/-! ### a def's body keeps its promise -/
/-- names: the parameters first -/
structure FnScope (N P : List Str) (sc : Scope) : Prop where
  kind : sc.kind = .function
  co : sc.isCoroutine = false
  gen : sc.isGenerator = false
  nd : N.Nodup
  pre : N.take P.length = P
  par : ∀ x ∈ P, sc.names.lookup x = some .local ∨ sc.names.lookup x = some .cell
  nofree : ∀ y ∈ sc.names, y.2 ≠ .free

theorem bindL_out {kindOf : Str → Option NameKind} {x : Str} : ∀ {binds : List (Str × Value)} {m : Str → Option Value}, (∀ v, (x, v) ∉ binds) → bindL kindOf binds m x = m x
  | [], _, _ => rfl
  | (n, v) :: r, m, h => by
    unfold bindL
    rw [bindL_out fun w hw => h w (List.mem_cons_of_mem _ hw)]
    split
    · have : x ≠ n := by rintro rfl; exact h v List.mem_cons_self
      simp [this]
    · rfl
theorem bindC_out {kindOf : Str → Option NameKind} {x : Str} : ∀ {binds : List (Str × Value)} {m : Str → Option Value}, (∀ v, (x, v) ∉ binds) → bindC kindOf binds m x = m x
  | [], _, _ => rfl
  | (n, v) :: r, m, h => by
    unfold bindC
    rw [bindC_out fun w hw => h w (List.mem_cons_of_mem _ hw)]
    split
    · rfl
    · have : x ≠ n := by rintro rfl; exact h v List.mem_cons_self
      simp [this]
theorem bindL_get {kindOf : Str → Option NameKind} {x : Str} {v : Value} : ∀ {P : List Str} {vs : List Value} {i : Nat} {m : Str → Option Value}, P.Nodup → P[i]? = some x → vs[i]? = some v → kindOf x = some .local →
    bindL kindOf (P.zip vs) m x = some v
  | [], _, _, _, _, h, _, _ => by simp at h
  | _ :: _, [], _, _, _, _, h, _ => by simp at h
  | p :: P, w :: vs, 0, m, nd, h1, h2, hk => by
    simp at h1 h2; subst h1; subst h2
    show bindL kindOf ((p, w) :: P.zip vs) m p = _
    unfold bindL
    rw [bindL_out fun v hv => (List.nodup_cons.mp nd).1 (List.of_mem_zip hv).1, if_pos hk]
    simp
  | p :: P, w :: vs, i + 1, m, nd, h1, h2, hk => by
    show bindL kindOf ((p, w) :: P.zip vs) m x = _
    unfold bindL
    exact bindL_get (i := i) (List.nodup_cons.mp nd).2 (by simpa using h1) (by simpa using h2) hk
theorem bindC_get {kindOf : Str → Option NameKind} {x : Str} {v : Value} : ∀ {P : List Str} {vs : List Value} {i : Nat} {m : Str → Option Value}, P.Nodup → P[i]? = some x → vs[i]? = some v → kindOf x ≠ some .local →
    bindC kindOf (P.zip vs) m x = some v
  | [], _, _, _, _, h, _, _ => by simp at h
  | _ :: _, [], _, _, _, _, h, _ => by simp at h
  | p :: P, w :: vs, 0, m, nd, h1, h2, hk => by
    simp at h1 h2; subst h1; subst h2
    show bindC kindOf ((p, w) :: P.zip vs) m p = _
    unfold bindC
    rw [bindC_out fun v hv => (List.nodup_cons.mp nd).1 (List.of_mem_zip hv).1, if_neg hk]
    simp
  | p :: P, w :: vs, i + 1, m, nd, h1, h2, hk => by
    show bindC kindOf ((p, w) :: P.zip vs) m x = _
    unfold bindC
    exact bindC_get (i := i) (List.nodup_cons.mp nd).2 (by simpa using h1) (by simpa using h2) hk

/-- the names' values at the entry -/
def start (N : List Str) (vs : List V) : St := vs.map some ++ List.replicate (N.length - vs.length) none

/-- the context of a def's body, at its entry; an exception leaves the frame, then lies as CX says -/
def cxOf (CX : CXT) (P : Program) (w : World) (K : PySem.W.Frag) (mg : Str → Option Value) (base : Heap) (N : List Str) (qual : Str) (scope : Scope) (f : Addr) (cd : Value) (A : Around) (outer : List Env) (s : Shared) (H : Hp) (E : XK) : Cx where
  prog := P
  w := w
  K := K
  mg := mg
  base := base
  A := A.deeper (envOfC qual scope s.heap.objs.size f cd)
  N := N
  s₀ := s
  H₀ := H
  env := envOfC qual scope s.heap.objs.size f cd
  outer := outer
  stack := envOfC qual scope s.heap.objs.size f cd :: outer
  ex := []
  calm := true
  fn := fun _ => true
  pn := []
  xe := fun e s' => wpAny (model P w) (A.deeper (envOfC qual scope s.heap.objs.size f cd)) (leaving (envOfC qual scope s.heap.objs.size f cd) e) (fun _ s'' => CX outer H s E e s'') (fun e' s'' => CX outer H s E e' s'') s'

theorem cell_has {sc : Scope} {n : Nat} {x : Str} (h : sc.names.lookup x = some .cell) : ∃ c, (cellsFrom n sc.names []).lookup x = some c := by
  have q := PySem.W.cellsFrom_some sc.names n [] (.inl h)
  exact Option.isSome_iff_exists.mp q

theorem inv_start {CX : CXT} {P : Program} {w : World} {K : PySem.W.Frag} {mg : Str → Option Value} {base : Heap} {N ps : List Str} {qual : Str} {scope : Scope} {f : Addr} {cd : Value} {A : Around} {outer : List Env} {s s1 : Shared} {H : Hp} {E : XK} {us : List Value} {vs : List V}
    (S : FnScope N ps scope) (hd : A.handled = none) (e0 : Env0 P w K mg base A outer s H) (hl : vs.length = ps.length) (r : Vals vs us)
    (x : InCallC s s.heap.objs.size (bindL (envOfC qual scope s.heap.objs.size f cd).kindOf (ps.zip us) fun _ => none) (cellsFrom (s.heap.objs.size + 1) scope.names []) (bindC (envOfC qual scope s.heap.objs.size f cd).kindOf (ps.zip us) fun _ => none) s1) :
    Inv (cxOf CX P w K mg base N qual scope f cd A outer s H E) [] (start N vs) H s1 := by
  have hpl : ps.length ≤ N.length := by have := congrArg List.length S.pre; rw [List.length_take] at this; omega
  obtain ⟨h1, tk, rfl, hk⟩ := x.done
  have noA : ∀ b : Addr, b ∉ (cxOf CX P w K mg base N qual scope f cd A outer s H E).ex := fun b z => absurd (show b ∈ ([] : List Addr) from z) (by simp)
  refine ⟨⟨e0.mod, S.kind, rfl, rfl, Nat.le_refl _, fun y z c h1 h2 => ?_, fun y hy => ?_, fun y c _ h => ?_, fun _ => hd, Around.frames_deeper e0.frames, .inr ⟨rfl, rfl⟩, fun b z => absurd z (noA b), e0.bs, e0.bsz, fun b _ _ => noA b, fun b z => absurd z (noA b), e0.funs, e0.frf⟩,
    rfl, e0.bare, Un.kept hk, ⟨_, x.toInCall.ns, fun i y v h1 h2 h3 => ?_⟩, fun y c h => ⟨_, x.cell y c h⟩, e0.hok.fresh (Nat.le_refl _), fun y c h => ?_, fun p hp => absurd (show p ∈ ([] : List (Addr × Obj)) from hp) (by simp), e0.hok.kept hk, ?_⟩
  · exact name_of_addr x.apart (PySem.mem_of_lookup h1) (PySem.mem_of_lookup h2)
  · have hy : scope.names.lookup y = some .cell ∨ scope.names.lookup y = some .free := hy
    rcases hy with hy | hy
    · exact cell_has hy
    · exact absurd rfl (S.nofree _ (PySem.mem_of_lookup hy))
  · exact Nat.le_of_lt (x.above y c (PySem.mem_of_lookup h))
  · have hi : i < vs.length := by
      unfold start at h2
      by_cases hi : i < vs.length
      · exact hi
      · rw [List.getElem?_append_right (by simpa using hi)] at h2
        rw [List.getElem?_replicate] at h2
        split at h2 <;> cases h2
    have ha : vs[i]? = some v := by
      unfold start at h2
      rw [List.getElem?_append_left (by simpa using hi), List.getElem?_map] at h2
      cases e : vs[i]? with
      | none => rw [e] at h2; cases h2
      | some a => rw [e] at h2; cases h2; rfl
    obtain ⟨u, hu, rv⟩ := r.get ha
    have hp : ps[i]? = some y := by
      rw [← S.pre, List.getElem?_take_of_lt (by omega)]; exact h1
    have ndP : ps.Nodup := by rw [← S.pre]; exact S.nd.sublist (List.take_sublist _ _)
    refine ⟨u, rv, ?_⟩
    rcases S.par y (List.mem_of_getElem? hp) with k | k
    · exact .inl ⟨k, bindL_get ndP hp hu k⟩
    · obtain ⟨c, e⟩ := cell_has (n := s.heap.objs.size + 1) k
      refine .inr ⟨.inl k, c, e, ?_⟩
      have q := x.cell y c e
      rw [bindC_get ndP hp hu (by show scope.names.lookup y ≠ _; rw [k]; decide)] at q
      exact q
  · exact e0.hok.fresh (Nat.le_of_lt (x.above y c (PySem.mem_of_lookup h)))
  · unfold start
    show _ = N.length
    rw [List.length_append, List.length_map, List.length_replicate]
    omega

/-- THE RULE: a def (or a method) of the text, by its body. The body's reading t is chosen for each entry; it is run at the parameters' values -/
theorem fn_of {CX : CXT} {P : Program} {w : World} {K : PySem.W.Frag} {mg : Str → Option Value} {base : Heap} {k : Nat} {f : Addr} {name qual : Str} {params : Arguments} {body : List Stmt} {scope : Scope} {dV kV doc pm cdv ct oc : Value} {an od : Option Addr}
    {osl : Array (Option Value)} {N ps : List Str} {sp : Sp} (lk : K.lookup f = some ⟨oc, od, .func (PySem.W.fnOf name qual params body scope dV kV doc pm an cdv ct), osl⟩) (hcd : PySem.W.codeIn K cdv qual = true) (S : FnScope N ps scope)
    (len : ∀ vs H Q E, sp vs H Q E → vs.length = ps.length)
    (hbody : ∀ (A : Around) (outer : List Env) (s : Shared) (H : Hp) (vs : List V) (Q : VK) (E : XK), Room k (A.deeper (envOfC qual scope s.heap.objs.size f cdv)) → sp vs H Q E →
      ∃ t, PSs (cxOf CX P w K mg base N qual scope f cdv A outer s H E) body t ∧ t { nx := fun _ H' => Q .non H', rt := Q } (start N vs) H) :
    FnOk P w K mg base CX (k + 1) f (PySem.W.fnOf name qual params body scope dV kV doc pm an cdv ct) ps sp := by
  refine ⟨len, fun A outer s H args us vs Q E hr e0 hb r hsp => ?_⟩
  have hl := len _ _ _ _ hsp
  have KX : K.In s.heap := e0.mod.kin.keeps fun b o e => (e0.bs b o e).1
  have lim : s.heap.NoLimit := e0.mod.nolimit.keeps fun b o e => (e0.bs b o e).1
  have hkind : ∀ y ∈ ps.zip us, scope.names.lookup y.1 = some .local ∨ (scope.names.lookup y.1 = some .cell ∧ ((cellsFrom (s.heap.objs.size + 1) scope.names []).lookup y.1).isSome = true) := fun ⟨n, v⟩ hy => by
    rcases S.par n (List.of_mem_zip hy).1 with q | q
    · exact .inl q
    · exact .inr ⟨q, PySem.W.cellsFrom_some _ _ _ (.inl q)⟩
  refine codeAny_call_function hr.depth (KX _ _ lk) rfl S.co S.gen rfl (PySem.W.codeRec_of KX hcd) (hb _ _ _ _ ?_)
  refine wpAny_newFunctionEnv_cells S.kind hkind fun env he s1 x => ?_
  subst he
  refine ⟨lim.keeps x.toInCall.keep, codeAny_func ?_⟩
  obtain ⟨t, ht, hq⟩ := hbody A outer s H vs Q E (hr.deeper _) hsp
  have I : Inv (cxOf CX P w K mg base N qual scope f cdv A outer s H E) [] (start N vs) H s1 := inv_start S hr.hd e0 hl r x
  refine wpAny_mono (ht [] s1 (start N vs) H _ I hq) (fun fl s' hs => ?_) fun e s' hs => hs
  have fin : ∀ {σ' : St} {H' : Hp} {v : V} {u : Value}, Inv (cxOf CX P w K mg base N qual scope f cdv A outer s H E) [] σ' H' s' → RelV v u → Q v H' → CE outer P w H s Q u s' :=
    fun {σ' H' v u} J rv q => ⟨v, H', J.os, J.bare, J.base, J.hok, rv, q⟩
  cases fl with
  | ret u =>
    obtain ⟨v, σ', H', J, rv, q⟩ := hs
    exact fin J rv q
  | next =>
    obtain ⟨σ', H', J, q⟩ := hs
    exact fin (v := V.non) (u := Value.none) J rfl q
  | brk =>
    obtain ⟨_, _, _, q⟩ := hs
    exact False.elim q
  | cont =>
    obtain ⟨_, _, _, q⟩ := hs
    exact False.elim q
end L2

namespace L2
open PySem PySem.Spec PyProof.Rows
section
variable {X : Cx} {x : Str} {p pos : Pos} {e : Expr} {es : List Expr} {t : TA} {id T : String} {r : List V → Hp → VK → Prop}

def tCB (r : List V → Hp → VK → Prop) (t : TA) : TE := fun σ H Q => t σ H fun vs H1 => r vs H1 Q
/-- f(e, ..), f a built-in function -/
theorem pe_callB (hc : CallR X (.builtin id) r) (hg : Gl X x) (hm : X.mg x = none) (hv : bootBuiltins x = some (.builtin id)) (ha : PA X (e :: es) t) (hn : x ≠ "__name__" := by decide) (hdb : (x == ("__debug__" : Str)) = false := by decide)
    (he : starEach (e :: es) X.env = (false, eval e X.env) :: starEach es X.env := by rfl) (hpl : (backTo pos (starEach es X.env)).any (·.1) = false := by rfl) : PE X (.Call (.Name x p) (e :: es) [] pos) (tCB r t) := by
  intro pins s σ H Q I h
  refine wpAny_Call_Name_kw (ld_blt I hg hm hv ?_ hn hdb)
  exact PyProof.Rows.callWith_builtin1 (thn (ha pos pins s σ H _ I h) fun us s1 ⟨vs, H1, I1, r1, q1⟩ => hc pins s1 σ H1 vs us Q I1 r1 q1) he hpl
/-- T(e, ..), T a built-in type -/
theorem pe_callTy (hc : CallR X (.type T) r) (hg : Gl X x) (hm : X.mg x = none) (hv : bootBuiltins x = some (.type T)) (ha : PA X (e :: es) t) (hn : x ≠ "__name__" := by decide) (hdb : (x == ("__debug__" : Str)) = false := by decide)
    (he : starEach (e :: es) X.env = (false, eval e X.env) :: starEach es X.env := by rfl) (hpl : (backTo pos (starEach es X.env)).any (·.1) = false := by rfl) : PE X (.Call (.Name x p) (e :: es) [] pos) (tCB r t) := by
  intro pins s σ H Q I h
  refine wpAny_Call_Name_kw (ld_blt I hg hm hv ?_ hn hdb)
  exact PyProof.Rows.callWith_type1 (thn (ha pos pins s σ H _ I h) fun us s1 ⟨vs, H1, I1, r1, q1⟩ => hc pins s1 σ H1 vs us Q I1 r1 q1) he hpl
end
end L2

namespace L2
open PySem PySem.Spec PyProof.Rows

/-! ### lists of pairs as tables -/
section
variable {κ : Type} [DecidableEq κ]
def valV (kvs : List (κ × V)) (k : κ) : Option V := (kvs.find? fun kv => decide (kv.1 = k)).map (·.2)
/-- in its place, or at the end -/
def putK (kvs : List (κ × V)) (k : κ) (v : V) : List (κ × V) :=
  if (kvs.any fun kv => decide (kv.1 = k)) = true then kvs.map (fun kv => if kv.1 = k then (kv.1, v) else kv) else kvs ++ [(k, v)]
def dropK (kvs : List (κ × V)) (k : κ) : List (κ × V) := kvs.filter fun kv => decide (kv.1 ≠ k)

theorem valV_pos {p : κ × V} {r : List (κ × V)} {k : κ} (e : p.1 = k) : valV (p :: r) k = some p.2 := by simp [valV, List.find?_cons, e]
theorem valV_neg {p : κ × V} {r : List (κ × V)} {k : κ} (e : ¬ p.1 = k) : valV (p :: r) k = valV r k := by simp [valV, List.find?_cons, e]
theorem valV_any (k : κ) : ∀ kvs : List (κ × V), (kvs.any fun kv => decide (kv.1 = k)) = (valV kvs k).isSome
  | [] => rfl
  | p :: r => by
    rw [List.any_cons]
    by_cases e : p.1 = k
    · simp only [valV_pos e, decide_eq_true e, Bool.true_or, Option.isSome_some]
    · rw [valV_neg e, decide_eq_false e, Bool.false_or]; exact valV_any k r
theorem length_putK (kvs : List (κ × V)) (k : κ) (v : V) : (putK kvs k v).length ≤ kvs.length + 1 := by
  unfold putK
  split
  · rw [List.length_map]; omega
  · rw [List.length_append, List.length_cons, List.length_nil]; omega
theorem RelO.isSome_eq {o : Option V} {u : Option Value} (r : RelO o u) : o.isSome = u.isSome := by
  cases o with
  | none => cases u with
    | none => rfl
    | some _ => exact (show False from r).elim
  | some _ => cases u with
    | none => exact (show False from r).elim
    | some _ => rfl
theorem RelO.getD {o : Option V} {u : Option Value} {d : V} {d' : Value} (r : RelO o u) (rd : RelV d d') : RelV (o.getD d) (u.getD d') := by
  cases o with
  | none => cases u with
    | none => exact rd
    | some _ => exact (show False from r).elim
  | some _ => cases u with
    | none => exact (show False from r).elim
    | some _ => exact r

/-- raw tables of the same keys -/
theorem KV.val {kvs : List (κ × V)} {vs : List (κ × Value)} (r : KV kvs vs) (k : κ) : RelO (valV kvs k) (valueAt vs k) := by
  unfold KV at r
  induction r with
  | nil => exact True.intro
  | @cons p q ps qs h t ih =>
    obtain ⟨h1, h2⟩ := h
    by_cases e : p.1 = k
    · have e' : q.1 = k := h1.symm.trans e
      have b : valueAt (q :: qs) k = some q.2 := by simp [valueAt, List.find?_cons, e']
      rw [valV_pos e, b]; exact h2
    · have e' : ¬ q.1 = k := fun z => e (h1.trans z)
      have b : valueAt (q :: qs) k = valueAt qs k := by simp [valueAt, List.find?_cons, e']
      rw [valV_neg e, b]; exact ih
theorem KV.any {kvs : List (κ × V)} {vs : List (κ × Value)} (r : KV kvs vs) (k : κ) : (kvs.any fun kv => decide (kv.1 = k)) = vs.any fun kv => decide (kv.1 = k) := by
  unfold KV at r
  induction r with
  | nil => rfl
  | cons h t ih => rw [List.any_cons, List.any_cons, ih, h.1]
theorem KV.repl {kvs : List (κ × V)} {vs : List (κ × Value)} (r : KV kvs vs) (k : κ) {y : V} {u : Value} (ry : RelV y u) :
    KV (kvs.map fun kv => if kv.1 = k then (kv.1, y) else kv) (vs.map fun kv => if kv.1 = k then (kv.1, u) else kv) := by
  unfold KV at r ⊢
  induction r with
  | nil => exact .nil
  | @cons p q ps qs h t ih =>
    rw [List.map_cons, List.map_cons]
    refine .cons ?_ ih
    obtain ⟨h1, h2⟩ := h
    by_cases e : p.1 = k
    · rw [if_pos e, if_pos (h1.symm.trans e)]; exact ⟨h1, ry⟩
    · rw [if_neg e, if_neg (fun z => e (h1.trans z))]; exact ⟨h1, h2⟩
theorem KV.put {kvs : List (κ × V)} {vs : List (κ × Value)} (r : KV kvs vs) (k : κ) {y : V} {u : Value} (ry : RelV y u) : KV (putK kvs k y) (stored vs k u) := by
  unfold putK stored
  rw [r.any k]
  by_cases e : (vs.any fun kv => decide (kv.1 = k)) = true
  · rw [if_pos e, if_pos e]; exact r.repl k ry
  · rw [if_neg e, if_neg e]; exact Paired.snoc r ⟨rfl, ry⟩
theorem KV.drop {kvs : List (κ × V)} {vs : List (κ × Value)} (r : KV kvs vs) (k : κ) : KV (dropK kvs k) (without vs k) := by
  unfold KV at r ⊢
  unfold dropK without
  induction r with
  | nil => exact .nil
  | @cons p q ps qs h t ih =>
    obtain ⟨h1, h2⟩ := h
    rw [List.filter_cons, List.filter_cons]
    by_cases e : p.1 = k
    · have a : ¬ decide (p.1 ≠ k) = true := by simp [e]
      have b : ¬ decide (q.1 ≠ k) = true := by simp [h1.symm.trans e]
      rw [if_neg a, if_neg b]; exact ih
    · have e' : ¬ q.1 = k := fun z => e (h1.trans z)
      have a : decide (p.1 ≠ k) = true := by simp [e]
      have b : decide (q.1 ≠ k) = true := by simp [e']
      rw [if_pos a, if_pos b]; exact .cons ⟨h1, h2⟩ ih
theorem KV.keys {kvs : List (κ × V)} {vs : List (κ × Value)} (r : KV kvs vs) : kvs.map (·.1) = vs.map (·.1) := by
  unfold KV at r
  induction r with
  | nil => rfl
  | cons h t ih => rw [List.map_cons, List.map_cons, ih, h.1]
theorem KV.length {kvs : List (κ × V)} {vs : List (κ × Value)} (r : KV kvs vs) : kvs.length = vs.length := Paired.length r
end


/-! ### a tracked dict, its keys ints and texts or tuples of these -/
theorem kV_is {P : Program} {w : World} {k : Key} {u : Value} (r : RelV (kV k) u) : (mixKind P w).is k u = true := by
  cases k with
  | inl i => obtain ⟨t, e⟩ := (show ∃ t, u = Value.int i t from r); subst e; exact mixKind_int P w i t
  | inr x => obtain ⟨t, e⟩ := (show ∃ t, u = Value.str x t from r); subst e; exact mixKind_str P w x t
theorem items_are {P : Program} {w : World} : ∀ {ks : List Key} {us : List Value}, Vals (ks.map kV) us → ItemsAre (mixKind P w) ks us
  | [], _, r => by rw [List.map_nil] at r; cases r; exact .nil
  | k :: ks, _, r => by
    rw [List.map_cons] at r
    cases r with
    | cons h t => exact .cons (kV_is h) (items_are t)

/-- raw entries of a dict with tuple keys -/
abbrev KT (H : Hp) : List (List Key × V) → List (List Key × Addr × Value) → Prop := Paired fun p q => p.1 = q.1 ∧ H q.2.1 = some (.tup (p.1.map kV)) ∧ RelV p.2 q.2.2
theorem KT.val {H : Hp} {kvs : List (List Key × V)} {xs : List (List Key × Addr × Value)} (r : KT H kvs xs) (k : List Key) : RelO (valV kvs k) ((atKey xs k).map (·.2)) := by
  induction r with
  | nil => exact True.intro
  | @cons p q ps qs h t ih =>
    obtain ⟨h1, _, h2⟩ := h
    by_cases e : p.1 = k
    · have e' : q.1 = k := h1.symm.trans e
      have b : atKey (q :: qs) k = some q.2 := by simp [atKey, List.find?_cons, e']
      rw [valV_pos e, b]; exact h2
    · have e' : ¬ q.1 = k := fun z => e (h1.trans z)
      have b : atKey (q :: qs) k = atKey qs k := by simp [atKey, List.find?_cons, e']
      rw [valV_neg e, b]; exact ih
theorem KT.repl {H : Hp} {kvs : List (List Key × V)} {xs : List (List Key × Addr × Value)} (r : KT H kvs xs) (k : List Key) {y : V} {u : Value} (ry : RelV y u) :
    KT H (kvs.map fun kv => if kv.1 = k then (kv.1, y) else kv) (xs.map (putAt k u)) := by
  induction r with
  | nil => exact .nil
  | @cons p q ps qs h t ih =>
    rw [List.map_cons, List.map_cons]
    refine .cons ?_ ih
    obtain ⟨h1, h2, h3⟩ := h
    unfold putAt
    by_cases e : p.1 = k
    · rw [if_pos e, if_pos (h1.symm.trans e)]; exact ⟨h1, h2, ry⟩
    · rw [if_neg e, if_neg (fun z => e (h1.trans z))]; exact ⟨h1, h2, h3⟩
theorem KT.put {H : Hp} {kvs : List (List Key × V)} {xs : List (List Key × Addr × Value)} (r : KT H kvs xs) (k : List Key) {b : Addr} {y : V} {u : Value} (hb : H b = some (.tup (k.map kV))) (ry : RelV y u) :
    KT H (putK kvs k y) (storedH xs k b u) := by
  have e : (kvs.any fun kv => decide (kv.1 = k)) = (atKey xs k).isSome := by
    rw [valV_any, (r.val k).isSome_eq, Option.isSome_map]
  unfold putK storedH
  rw [e]
  by_cases q : (atKey xs k).isSome = true
  · rw [if_pos q, if_pos q]; exact r.repl k ry
  · rw [if_neg q, if_neg q]; exact Paired.snoc r ⟨rfl, hb, ry⟩
theorem KT.keeps {H H' : Hp} {kvs : List (List Key × V)} {xs : List (List Key × Addr × Value)} (r : KT H kvs xs) (ht : ∀ b ys, H b = some (.tup ys) → H' b = some (.tup ys)) : KT H' kvs xs :=
  Paired.mapP r fun _ _ z => ⟨z.1, ht _ _ z.2.1, z.2.2⟩

section
variable {P : Program} {w : World} {H : Hp} {h : Heap} {a : Addr}
theorem rd_of {u : HO} (ok : HOk P w H h) (e : Rd H a u) : ObjOk P w H h a u := e.ok ok
theorem dk_rd {kvs : List (Key × V)} (ok : HOk P w H h) (e : Rd H a (.dK kvs)) : kvs.length ≤ sizeLine ∧ (a == sysModules) = false ∧ ∃ vs, KV kvs vs ∧ h.DictOf (mixKind P w) a vs :=
  show ObjOk P w H h a (.dK kvs) from rd_of ok e
theorem dk_of {kvs : List (Key × V)} (ok : HOk P w H h) (e : H a = some (.dK kvs)) : kvs.length ≤ sizeLine ∧ (a == sysModules) = false ∧ ∃ vs, KV kvs vs ∧ h.DictOf (mixKind P w) a vs := dk_rd ok (.inl e)
/-- a tracked tuple of ints and texts is a key -/
theorem key_of {ks : List Key} (ok : HOk P w H h) (e : H a = some (.tup (ks.map kV))) : (tupleKind (mixKind P w)).is h ks a := by
  obtain ⟨_, its, r, o, h1, h2, n, h3⟩ := (show ObjOk P w H h a (.tup (ks.map kV)) from ok a _ e)
  exact ⟨o, its.toArray, n, h1, h2, h3, by simpa using items_are r⟩
theorem dt_rd {kvs : List (List Key × V)} (ok : HOk P w H h) (e : Rd H a (.dT kvs)) : kvs.length ≤ sizeLine ∧ (a == sysModules) = false ∧
    ∃ xs, KT H kvs xs ∧ h.DictOfH (tupleKind (mixKind P w)) a xs := by
  obtain ⟨z, y, xs, r, o, es, ep, h1, h2, h3, h4, h5⟩ := (show ObjOk P w H h a (.dT kvs) from rd_of ok e)
  refine ⟨z, y, xs, r, o, es, ep, h1, h2, h3, h4, fun x hx => ?_, h5⟩
  have all : ∀ {l : List (List Key × V)} {m : List (List Key × Addr × Value)}, KT H l m → ∀ x ∈ m, (tupleKind (mixKind P w)).is h x.1 x.2.1 := by
    intro l m q
    induction q with
    | nil => intro x hx; exact nomatch hx
    | @cons p q ps qs hq t ih =>
      intro x hx
      rcases List.mem_cons.mp hx with e | hx
      · subst e
        exact key_of ok (by rw [← hq.1]; exact hq.2.1)
      · exact ih x hx
  exact all r x hx
theorem dt_of {kvs : List (List Key × V)} (ok : HOk P w H h) (e : H a = some (.dT kvs)) : kvs.length ≤ sizeLine ∧ (a == sysModules) = false ∧
    ∃ xs, KT H kvs xs ∧ h.DictOfH (tupleKind (mixKind P w)) a xs := dt_rd ok (.inl e)
end

/-- what the dict at a holds at the key y -/
def DGet (H : Hp) (a : Addr) (y : V) (r : Option V) : Prop :=
  (∃ kvs k, Rd H a (.dK kvs) ∧ y = kV k ∧ r = valV kvs k) ∨ ∃ kvs k b, Rd H a (.dT kvs) ∧ y = .ref b ∧ H b = some (.tup (k.map kV)) ∧ r = valV kvs k
/-- the heap behind a[y] = v -/
def DPut (H : Hp) (a : Addr) (y v : V) (H' : Hp) : Prop :=
  (∃ kvs k, H a = some (.dK kvs) ∧ y = kV k ∧ kvs.length < sizeLine ∧ H' = upd H a (.dK (putK kvs k v))) ∨
  ∃ kvs k b, H a = some (.dT kvs) ∧ y = .ref b ∧ H b = some (.tup (k.map kV)) ∧ kvs.length < sizeLine ∧ H' = upd H a (.dT (putK kvs k v))
theorem DGet.k {H : Hp} {a : Addr} {kvs : List (Key × V)} {k : Key} (e : H a = some (.dK kvs)) : DGet H a (kV k) (valV kvs k) := .inl ⟨kvs, k, .inl e, rfl, rfl⟩
theorem DGet.t {H : Hp} {a b : Addr} {kvs : List (List Key × V)} {k : List Key} (e : H a = some (.dT kvs)) (eb : H b = some (.tup (k.map kV))) : DGet H a (.ref b) (valV kvs k) := .inr ⟨kvs, k, b, .inl e, rfl, eb, rfl⟩
theorem DPut.k {H : Hp} {a : Addr} {kvs : List (Key × V)} {k : Key} {v : V} (e : H a = some (.dK kvs)) (hl : kvs.length < sizeLine) : DPut H a (kV k) v (upd H a (.dK (putK kvs k v))) := .inl ⟨kvs, k, e, rfl, hl, rfl⟩
theorem DPut.t {H : Hp} {a b : Addr} {kvs : List (List Key × V)} {k : List Key} {v : V} (e : H a = some (.dT kvs)) (eb : H b = some (.tup (k.map kV))) (hl : kvs.length < sizeLine) :
    DPut H a (.ref b) v (upd H a (.dT (putK kvs k v))) := .inr ⟨kvs, k, b, e, rfl, eb, hl, rfl⟩


section
variable {X : Cx} {pins : List (Addr × Obj)} {σ : St} {H : Hp} {s : Shared} {a : Addr} {y v : V} {u r : Value} {o : Option V} {A : Around} {E : Value → Shared → Prop}

theorem Inv.big (I : Inv X pins σ H s) : sysModules < s.heap.objs.size := by
  have h : mainGlobals < s.heap.objs.size := (I.mod.glob.keeps I.bk).lt
  exact Nat.lt_trans (by decide) h

/-- d[y], there -/
theorem d_getItem {Q : Value → Shared → Prop} (hu : A.units + 1 < cLine) (I : Inv X pins σ H s) (g : DGet H a y (some v)) (ry : RelV y u) (h : ∀ w' s', Inv X pins σ H s' → RelV v w' → Q w' s') :
    wpAny (model X.prog X.w) A (getItem (.ref a) u) Q E s := by
  rcases g with ⟨kvs, k, e, ey, l⟩ | ⟨kvs, k, b, e, ey, eb, l⟩
  · subst ey
    obtain ⟨z, hd, vs, rel, dd⟩ := dk_rd I.hok e
    obtain ⟨w', hw, rw'⟩ := RelO.some_of (v := v) (o := valueAt vs k) (by rw [l]; exact rel.val k)
    exact wpAny_getItem_of (kV_is ry) dd.mapOf hw (h w' _ (I.tok _) rw')
  · subst ey
    cases (show u = Value.ref b from ry)
    obtain ⟨z, hd, xs, rel, dd⟩ := dt_rd I.hok e
    obtain ⟨w', hw, rw'⟩ := RelO.some_of (v := v) (o := (atKey xs k).map (·.2)) (by rw [l]; exact rel.val k)
    obtain ⟨p, hp, hp2⟩ := Option.map_eq_some_iff.mp hw
    refine wpAny_getItem_heap (tupleKind_room_in1 hu) (key_of I.hok eb) dd hp ?_
    rw [hp2]
    exact h w' _ (I.tok _) rw'
/-- a dict's object is replaced -/
theorem d_write {h' : Heap} {t' : Nat} {ob : HO} (I : Inv X pins σ H s) (mu : Mut (H a)) (hs : Heap.SameBut a s.heap h') (he : ∃ q, h'.get? a = some q) (new : ObjOk X.prog X.w (upd H a ob) h' a ob) :
    Inv X pins σ (upd H a ob) { s with heap := h', toks := t' } :=
  I.write (x := a) (e := a) mu (.inl rfl) (fun b q hb z => (hs.2 b hb).trans z) he new
theorem dk_new {P : Program} {w : World} {H' : Hp} {h' : Heap} {kvs : List (Key × V)} {vs : List (Key × Value)} (z : kvs.length ≤ sizeLine) (hd : (a == sysModules) = false) (rel : KV kvs vs) (dd : h'.DictOf (mixKind P w) a vs) :
    ObjOk P w H' h' a (.dK kvs) := ⟨z, hd, vs, rel, dd⟩
/-- d[y] = v -/
theorem d_setItem {H' : Hp} {Q : Unit → Shared → Prop} (hu : A.units + 1 < cLine) (I : Inv X pins σ H s) (g : DPut H a y v H') (ry : RelV y u) (rv : RelV v r) (h : ∀ s', Inv X pins σ H' s' → Q () s') :
    wpAny (model X.prog X.w) A (setItem (.ref a) u r) Q E s := by
  rcases g with ⟨kvs, k, e, ey, l, eH⟩ | ⟨kvs, k, b, e, ey, eb, l, eH⟩
  · subst ey eH
    obtain ⟨z, hd, vs, rel, dd⟩ := dk_of I.hok e
    have hz : vs.length ≤ sizeLine := by rw [← rel.length]; exact z
    have hl : (putK kvs k v).length ≤ sizeLine := by have := length_putK kvs k v; omega
    refine wpAny_setItem_pairs (hsz := hz) (kV_is ry) dd fun h' dd' hs => h _ ?_
    have he : ∃ q, h'.get? a = some q := let ⟨q, _, _, hq, _⟩ := dd'; ⟨q, hq⟩
    exact d_write I (by rw [e]; exact True.intro) hs he (dk_new hl hd (rel.put k rv) dd')
  · subst ey eH
    cases (show u = Value.ref b from ry)
    obtain ⟨z, hd, xs, rel, dd⟩ := dt_of I.hok e
    have hz : xs.length ≤ sizeLine := by rw [← Paired.length rel]; exact z
    have hl : (putK kvs k v).length ≤ sizeLine := by have := length_putK kvs k v; omega
    refine wpAny_setItem_heap (hsz := hz) (tupleKind_room_in1 hu) (key_of I.hok eb) dd fun h' dd' hs => h _ ?_
    obtain ⟨q, es, ep, hq, h2, h3, h4, _, h5⟩ := dd'
    refine d_write I (by rw [e]; exact True.intro) hs ⟨q, hq⟩ ⟨hl, hd, _, (rel.put k eb rv).keeps fun c ys ec => ?_, q, es, ep, hq, h2, h3, h4, h5⟩
    rw [upd_ne (ne_of ec e (fun z => nomatch z))]
    exact ec
end

section
variable {X : Cx} {pins : List (Addr × Obj)} {σ : St} {H : Hp} {s : Shared} {a : Addr} {kvs : List (Key × V)} {k : Key} {u : Value} {A : Around} {E : Value → Shared → Prop}
end


/-! ### readings and rules -/
/-- the element of a subscription, not a slice -/
def NoSl (i : Expr) : Prop := ∀ ov iv, subscripted i false ov iv = operate [ov, iv] (getItem ov iv)
theorem subD_of {prog : Program} {w : World} {A : Around} {E : Value → Shared → Prop} {s : Shared} {env : Env} {value slice : Expr} {pos : Pos} {T id : String} {Q : Value → Shared → Prop}
    (hl : typeLookup (.type T) "__getitem__" = pure (some (.builtin id))) (hs : NoSl slice)
    (h : wpAny (model prog w) A (eval value env) (fun o s₁ => wpAny (model prog w) A (eval slice env) (fun i s₂ => s₂.TypeIs o T ∧ wpAny (model prog w) A (getItem o i) Q E s₂) E s₁) E s) :
    wpAny (model prog w) A (eval (.Subscript value slice pos) env) Q E s := by
  refine Subscript_ (wpAny_mono h (fun o s₁ h₁ => wpAny_mono h₁ (fun i s₂ h₂ => ?_) fun _ _ x => x) fun _ _ x => x)
  obtain ⟨hT, h₂⟩ := h₂
  unfold subscriptTail
  refine wpAny_bind ?_
  rw [getitemInPython_of_ne hT.not_modules]
  refine wpAny_bind (wpAny_specialOf hT hl ?_)
  have fin : wpAny (model prog w) A (subscripted slice false o i) (fun r s₃ => wpAny (model prog w) A (letTemporaryGo value o r >>= fun _ => pure r) Q E s₃) E s₂ := by
    rw [hs o i]
    exact wpAny_operating (wpAny_mono h₂ (fun r s₃ h₃ => wpAny_bind (wpAny_letTemporaryGo (wpAny_pure h₃))) fun _ _ x => x)
  first
    | exact wpAny_pure (wpAny_bind fin)
    | exact wpAny_bind (wpAny_pure (wpAny_bind fin))
    | exact wpAny_bind fin

theorem dict_typeIs {X : Cx} {pins : List (Addr × Obj)} {σ : St} {H : Hp} {s : Shared} {a : Addr} {y : V} {o : Option V} (I : Inv X pins σ H s) (g : DGet H a y o) : s.TypeIs (.ref a) "dict" := by
  rcases g with ⟨kvs, k, e, _, _⟩ | ⟨kvs, k, b, e, _, _, _⟩
  · obtain ⟨_, _, vs, _, dd⟩ := dk_rd I.hok e
    exact dd.typeIs
  · obtain ⟨_, _, xs, _, dd⟩ := dt_rd I.hok e
    exact dd.typeIs
/-- d[y] -/
def tDGet (td ty : TE) : TE := fun σ H Q => td σ H fun x H1 => ty σ H1 fun y H2 => ∃ a v, x = .ref a ∧ DGet H2 a y (some v) ∧ Q v H2
/-- d[y] = v -/
def sDPut (td ty tv : TE) : TS := fun D σ H => tv σ H fun v H1 => td σ H1 fun x H2 => ty σ H2 fun y H3 => ∃ a H4, x = .ref a ∧ DPut H3 a y v H4 ∧ D.nx σ H4
section
variable {X : Cx} {o i e value : Expr} {pos pos' tpos : Pos} {td ty tv : TE}
theorem pe_dget (hu : X.A.units + 1 < cLine) (ho : PE X o td) (hi : PE X i ty) (hs : NoSl i) : PE X (.Subscript o i pos) (tDGet td ty) := by
  intro pins s σ H Q I h
  refine subD_of PySem.F.slot_dict_getitem.lookup hs (thn (ho pins s σ H _ I h) fun u s1 ⟨x, H1, I1, rx, q1⟩ => thn (hi pins s1 σ H1 _ I1 q1) fun iv s2 ⟨y, H2, I2, ry, a, v, ex, g, q2⟩ => ?_)
  subst ex
  obtain rfl : u = Value.ref a := rx
  exact ⟨dict_typeIs I2 g, d_getItem hu I2 g ry fun w' s3 I3 rw' => ⟨v, H2, I3, rw', q2⟩⟩
theorem ps_dput (hu : X.A.units + 1 < cLine) (ho : PE X o td) (hi : PE X i ty) (hv : PE X value tv) (hs : swapsWith value (some (.Subscript o i pos')) pos.line X.env = pure false) :
    PS X (.Assign [.Subscript o i pos'] value pos) (sDPut td ty tv) := by
  intro pins s σ H D I h
  refine wpAny_Assign_Subscript (thn (hv pins s σ H _ I h) fun r s1 ⟨v, H1, I1, rv, q1⟩ => thn (ho pins s1 σ H1 _ I1 q1) fun u s2 ⟨x, H2, I2, rx, q2⟩ => thn (hi pins s2 σ H2 _ I2 q2) fun iv s3 ⟨y, H3, I3, ry, a, H4, ex, g, q3⟩ => ?_) hs
  subst ex
  obtain rfl : u = Value.ref a := rx
  exact d_setItem hu I3 g ry rv fun s4 I4 => ⟨σ, H4, I4, q3⟩
end


/-! ### displays -/
theorem dk_empty {P : Program} {w : World} {H : Hp} (h : Heap) (hb : sysModules < h.objs.size) : ObjOk P w H (h.push { cls := .type "dict", data := .dict #[] }) h.objs.size (.dK []) :=
  ⟨Nat.zero_le _, beq_eq_false_iff_ne.mpr (Ne.symm (Nat.ne_of_lt hb)), [], .nil, Heap.DictOf.new h⟩
section
variable {X : Cx} {pos : Pos}
end

/-- the pairs of a display, from the left -/
def tPairs : List (TE × TE) → St → Hp → (List (V × V) → Hp → Prop) → Prop
  | [], _, H, Q => Q [] H
  | (tk, tv) :: r, σ, H, Q => tk σ H fun x H1 => tv σ H1 fun y H2 => tPairs r σ H2 fun ps H3 => Q ((x, y) :: ps) H3
abbrev VV : List (V × V) → List (Value × Value) → Prop := Paired fun p q => RelV p.1 q.1 ∧ RelV p.2 q.2
def PPs (X : Cx) (pos : Pos) (keys : List (Option Expr)) (values : List Expr) (trs : List (TE × TE)) : Prop :=
  ∀ (pins : List (Addr × Obj)) (s : Shared) (σ : St) (H : Hp) (Q : List (V × V) → Hp → Prop), Inv X pins σ H s → tPairs trs σ H Q →
    wpAny (model X.prog X.w) X.A (evalPairs (pairTrees keys values X.env pos)) (fun vs s' => ∃ ps H', Inv X pins σ H' s' ∧ VV ps vs ∧ Q ps H') X.xe s
theorem pps_nil {X : Cx} {pos : Pos} : PPs X pos [] [] [] := fun pins s σ H Q I h => pairTrees_nil_walk ⟨[], H, I, .nil, h⟩
theorem pps_cons {X : Cx} {pos : Pos} {k v : Expr} {ks : List (Option Expr)} {vs : List Expr} {tk tv : TE} {trs : List (TE × TE)} (hk : PE X k tk) (hv : PE X v tv) (hr : PPs X pos ks vs trs) :
    PPs X pos (some k :: ks) (v :: vs) ((tk, tv) :: trs) := fun pins s σ H Q I h =>
  pairTrees_cons_walk (thn (hk pins s σ H _ I h) fun u s1 ⟨x, H1, I1, rx, q1⟩ => thn (hv pins s1 σ H1 _ I1 q1) fun w2 s2 ⟨y, H2, I2, ry, q2⟩ =>
    thn (hr pins s2 σ H2 _ I2 q2) fun ws s3 ⟨ps, H3, I3, rel, q3⟩ => ⟨(x, y) :: ps, H3, I3, .cons ⟨rx, ry⟩ rel, q3⟩)

def mergeK (kvs more : List (Key × V)) : List (Key × V) := more.foldl (fun acc kv => putK acc kv.1 kv.2) kvs
theorem KV.merge : ∀ {more : List (Key × V)} {rs : List (Key × Value)} {kvs : List (Key × V)} {vs : List (Key × Value)}, KV more rs → KV kvs vs → KV (mergeK kvs more) (merged vs rs) := by
  intro more rs kvs vs r
  unfold KV at r
  induction r generalizing kvs vs with
  | nil => intro q; exact q
  | @cons p q ps qs h t ih =>
    intro r0
    have e : KV (putK kvs p.1 p.2) (stored vs q.1 q.2) := by
      have := r0.put p.1 h.2
      rw [← h.1]; exact this
    exact ih e
theorem length_mergeK : ∀ (more kvs : List (Key × V)), (mergeK kvs more).length ≤ kvs.length + more.length
  | [], kvs => by show kvs.length ≤ kvs.length + 0; omega
  | p :: r, kvs => by
    have h1 := length_mergeK r (putK kvs p.1 p.2)
    have h2 := length_putK kvs p.1 p.2
    show (mergeK (putK kvs p.1 p.2) r).length ≤ _
    rw [List.length_cons]; omega
theorem carries_of {P : Program} {w : World} : ∀ {kvs : List (Key × V)} {ws : List (Value × Value)}, VV (kvs.map fun kv => (kV kv.1, kv.2)) ws → ∃ rs, Carries (mixKind P w) ws rs ∧ KV kvs rs
  | [], _, r => by rw [List.map_nil] at r; cases r; exact ⟨[], True.intro, .nil⟩
  | p :: kvs, _, r => by
    rw [List.map_cons] at r
    cases r with
    | @cons a b as bs h t =>
      obtain ⟨rs, c, q⟩ := carries_of (P := P) (w := w) t
      obtain ⟨b1, b2⟩ := b
      exact ⟨(p.1, b2) :: rs, ⟨kV_is h.1, rfl, c⟩, .cons ⟨rfl, h.2⟩ q⟩
/-- {k: v, ..} with keys ints and texts; the new dict stands empty while the pairs are made -/
def tDisp (trs : List (TE × TE)) : TE := fun σ H Q => ∀ p, H p = none → tPairs trs σ (upd H p (.dK [])) fun ps H2 => H2 p = some (.dK []) ∧ ∃ kvs : List (Key × V), ps = kvs.map (fun kv => (kV kv.1, kv.2)) ∧ kvs.length ≤ 15 ∧ Q (.ref p) (upd H2 p (.dK (mergeK [] kvs)))
theorem pe_disp {X : Cx} {pos : Pos} {keys : List (Option Expr)} {values : List Expr} {trs : List (TE × TE)} (h : PPs X pos keys values trs) (hall : keys.all (·.isSome) = true) (hl : keys.length = values.length) (h0 : keys ≠ [])
    (h15 : keys.length ≤ 15) : PE X (.Dict keys values pos) (tDisp trs) := by
  intro pins s σ H Q I q
  have hn := I.hok.fresh (Nat.le_refl s.heap.objs.size)
  have I1 := I.laid (a := s.heap.objs.size) (o := .dK []) (h' := s.heap.push { cls := .type "dict", data := .dict #[] }) (t' := s.toks) (fun _ _ q => Heap.get?_push_of_some _ q) (Nat.le_refl _) (dk_empty s.heap I.big)
  refine wpAny_Dict_walk (knd := mixKind X.prog X.w) hall hl h0 h15 (thn (h pins _ σ _ _ I1 (q _ hn)) fun ws s2 ⟨ps, H2, I2, rel, e, kvs, ep, lk, q2⟩ => ?_)
  subst ep
  obtain ⟨rs, c, rk⟩ := carries_of (P := X.prog) (w := X.w) rel
  obtain ⟨z, hd, vs0, r0, dd⟩ := dk_of I2.hok e
  cases r0
  refine ⟨rs, c, dd, fun h' dd' hs => ⟨.ref s.heap.objs.size, _, ?_, rfl, q2⟩⟩
  have hz : (mergeK [] kvs).length ≤ sizeLine := by
    have h1 := length_mergeK kvs []
    rw [List.length_nil] at h1
    rw [sizeLine_eq]; omega
  have he : ∃ q, h'.get? s.heap.objs.size = some q := let ⟨q, _, _, hq, _⟩ := dd'; ⟨q, hq⟩
  exact d_write I2 (by rw [e]; exact True.intro) hs he (dk_new hz hd (rk.merge .nil) dd')


/-! ### methods -/
/-- a method call o.m(e) of a built-in, with one argument: what must be seen of the text -/
structure M1 (X : Cx) (o : Expr) (m : Str) (apos : Pos) (e : Expr) (cpos : Pos) : Prop where
  base : attributeBase o m X.env (eval o X.env) = eval o X.env
  few : ((backTo cpos (starEach [e] X.env)).all (fun x => !x.1) && (backToKw cpos (keywordEach [] X.env)).all (fun x => x.1.isSome)
    && decide (([e] : List Expr).length + ([] : List Keyword).length + (if ([] : List Keyword).isEmpty then 0 else 1) < 30)) = true
  line : (apos.endLine == cpos.line) = true
  trees : backTo cpos (starEach [e] X.env) = [(false, eval e X.env)]
structure M2 (X : Cx) (o : Expr) (m : Str) (apos : Pos) (e f : Expr) (cpos : Pos) : Prop where
  base : attributeBase o m X.env (eval o X.env) = eval o X.env
  few : ((backTo cpos (starEach [e, f] X.env)).all (fun x => !x.1) && (backToKw cpos (keywordEach [] X.env)).all (fun x => x.1.isSome)
    && decide (([e, f] : List Expr).length + ([] : List Keyword).length + (if ([] : List Keyword).isEmpty then 0 else 1) < 30)) = true
  line : (apos.endLine == cpos.line) = true
  trees : backTo cpos (starEach [e, f] X.env) = [(false, eval e X.env), (false, eval f X.env)]

section
variable {X : Cx} {pins : List (Addr × Obj)} {σ : St} {H : Hp} {s : Shared} {a : Addr} {y d : V} {u r : Value} {o : Option V} {A : Around} {E : Value → Shared → Prop}
end

section
variable {X : Cx} {o e f : Expr} {apos cpos : Pos} {td ty tx : TE}
end

/-! ### dict(d): a copy -/
section
variable {X : Cx} {pins : List (Addr × Obj)} {σ : St} {H : Hp} {s : Shared} {a : Addr} {kvs : List (Key × V)} {A : Around} {E : Value → Shared → Prop}
end


section
variable {X : Cx} {pins : List (Addr × Obj)} {σ : St} {H : Hp} {s : Shared} {a : Addr} {y : V} {u : Value} {A : Around} {E : Value → Shared → Prop}
end
end L2

namespace HT
open PySem PyProof.Rows

/-- t < u of tuples of ints -/
def lexLt : List Int → List Int → Bool
  | [], [] => false
  | [], _ :: _ => true
  | _ :: _, [] => false
  | x :: xs, y :: ys => if x = y then lexLt xs ys else decide (x < y)
section
open PySem.SeqAt
open PySem.AutoSeq1 (wpAny_loadPart')
open PySem.MeetsSeq PySem.MeetsSeq2 PySem.MeetsSeq3

end

section
variable {prog : Program} {w : World} {A : Around} {E : Value → Shared → Prop} {s : Shared}

/-- t + u, t not empty -/
theorem cat_tup {t b : Addr} {vs ws : List Value} {Q : Value → Shared → Prop} (ht : IsTup s.heap t vs.toArray) (hb : IsTup s.heap b ws.toArray) (hv : vs ≠ [])
    (h1 : ws = [] → Q (.ref t) s) (h2 : ws ≠ [] → Q (.ref s.heap.objs.size) { s with heap := s.heap.push { cls := .type "tuple", data := .seq (vs ++ ws).toArray } })
    (hsz : vs.length + ws.length ≤ sizeLine) : wpAny (model prog w) A (binaryOp .Add (.ref t) (.ref b)) Q E s := by
  obtain ⟨⟨cls, dd, data, sl⟩, ho, hc, n, hd⟩ := id ht
  obtain ⟨⟨cls2, dd2, data2, sl2⟩, ho2, hc2, n2, hd2⟩ := id hb
  simp only at hc hd hc2 hd2
  subst hc hd hc2 hd2
  have e : vs.toArray ++ ws.toArray = (vs ++ ws).toArray := by simp
  by_cases hw : ws = []
  · exact concat_meets ⟨_, ho, rfl⟩ ⟨_, ho2, rfl⟩ noFill_tuple_add seq_tuple_add PySem.F.slot_tuple_add PySem.F.entry_tuple_add (PySem.F.args_tuple_add_2 _ _)
      (tuple_addW1 t b vs.toArray ws.toArray n n2 dd dd2 sl sl2 (by simpa using hv) (by simp [hw])) ⟨ho, ho2, h1 hw⟩
  · refine concat_meets ⟨_, ho, rfl⟩ ⟨_, ho2, rfl⟩ noFill_tuple_add seq_tuple_add PySem.F.slot_tuple_add PySem.F.entry_tuple_add (PySem.F.args_tuple_add_2 _ _)
      (tuple_addW2 t b vs.toArray ws.toArray n n2 dd dd2 sl sl2 (by simpa using hv) (by simpa using hw) (by rw [List.size_toArray, List.size_toArray]; exact hsz)) ⟨ho, ho2, ?_⟩
    rw [e]
    exact h2 hw

/-! ### t[a:b], not the whole -/
/-- a slice's bound as a place among n (d where it is left out) -/
def sIx (n d : Nat) : Option Int → Nat
  | none => d
  | some v => if v < 0 then (v + (n : Int)).toNat else min v.toNat n
theorem sIx_none (n d : Nat) : sIx n d none = d := rfl
theorem sIx_nat (n d k : Nat) : sIx n d (some (k : Int)) = min k n := by
  show (if (k : Int) < 0 then ((k : Int) + (n : Int)).toNat else min (k : Int).toNat n) = min k n
  rw [if_neg (by omega), Int.toNat_natCast]
theorem sIx_le (n d : Nat) (hd : d ≤ n) (o : Option Int) : sIx n d o ≤ n := by
  cases o with
  | none => exact hd
  | some v =>
    show (if v < 0 then (v + (n : Int)).toNat else min v.toNat n) ≤ n
    by_cases hv : v < 0
    · rw [if_pos hv]; omega
    · rw [if_neg hv]; exact Nat.min_le_right _ _
theorem clip_eq (v : Int) (n d : Nat) : (if v < 0 then max (v + (n : Int)) 0 else min v (n : Int)) = ((sIx n d (some v) : Nat) : Int) := by
  show (if v < 0 then max (v + (n : Int)) 0 else min v (n : Int)) = (((if v < 0 then (v + (n : Int)).toNat else min v.toNat n) : Nat) : Int)
  by_cases hv : v < 0
  · simp only [if_pos hv]; omega
  · simp only [if_neg hv]; omega
theorem adjust_gen (lo hi : Option Int) (n : Nat) : Builtin.Slice.sliceAdjust lo hi 1 (n : Int) = (((sIx n 0 lo : Nat) : Int), ((sIx n n hi : Nat) : Int)) := by
  have h1 : ¬ ((1 : Int) < 0) := by omega
  unfold Builtin.Slice.sliceAdjust
  simp only [h1, if_false]
  refine Prod.ext ?_ ?_
  · cases lo with
    | none => rfl
    | some v => exact clip_eq v n 0
  · cases hi with
    | none => rfl
    | some v => exact clip_eq v n n
theorem places_gen (i j : Nat) : Builtin.Slice.slicePlaces (i : Int) (j : Int) 1 = j - i := by
  unfold Builtin.Slice.slicePlaces
  have h1 : (1 : Int) > 0 := by omega
  simp only [h1, if_true, Int.ediv_one]
  split <;> omega
theorem slicePart_ {v : Value} {o : Option Int} {Q : Option Int → Shared → Prop} (p : IsPart v o) (h : Q o s) : wpAny (model prog w) A (Builtin.Slice.slicePartIndex v) Q E s := by
  cases p with
  | none => exact slicePart_none h
  | int i t => exact slicePart_int h
theorem sliceApplied_gen {sl : Addr} {vl vu : Value} {lo hi : Option Int} {n : Nat} {Q : Int × Int × Nat → Shared → Prop} (hs : s.heap.IsSliceOf sl vl vu .none) (pl : IsPart vl lo) (pu : IsPart vu hi)
    (h : Q (((sIx n 0 lo : Nat) : Int), 1, sIx n n hi - sIx n 0 lo) s) : wpAny (model prog w) A (Builtin.Slice.sliceApplied (.ref sl) (pure (n : Int))) Q E s := by
  obtain ⟨os, hos, hcs, hds⟩ := id hs
  unfold Builtin.Slice.sliceApplied Builtin.Slice.sliceFields
  refine wpAny_bind (wpAny_bind (wpAny_field hos hds (x := vl) rfl (wpAny_bind (wpAny_field hos hds (x := vu) rfl (wpAny_bind (wpAny_field hos hds (x := .none) rfl (wpAny_pure ?_)))))))
  refine wpAny_bind (slicePart_none ?_)
  show wpAny _ _ (if ((1 : Int) == 0) = true then _ else _) _ _ s
  rw [if_neg (by decide)]
  refine wpAny_bind (slicePart_ pl (wpAny_bind (slicePart_ pu (wpAny_bind (wpAny_pure ?_)))))
  show wpAny _ _ (match Builtin.Slice.sliceAdjust lo hi 1 (n : Int) with | (lo, hi) => pure (lo, (1 : Int), Builtin.Slice.slicePlaces lo hi 1)) _ _ s
  rw [adjust_gen lo hi n]
  show wpAny _ _ (pure (((sIx n 0 lo : Nat) : Int), (1 : Int), Builtin.Slice.slicePlaces ((sIx n 0 lo : Nat) : Int) ((sIx n n hi : Nat) : Int) 1)) _ _ s
  rw [places_gen]
  exact wpAny_pure h
theorem pick_gen (xs : Array Value) (i k : Nat) : ((List.range k).filterMap fun (m : Nat) => xs[((i : Int) + (m : Int) * 1).toNat]?).toArray = ((xs.toList.drop i).take k).toArray := by
  have e : (fun (m : Nat) => xs[((i : Int) + (m : Int) * 1).toNat]?) = fun m => xs[i + m]? := by
    funext m
    have : ((i : Int) + (m : Int) * 1).toNat = i + m := by omega
    rw [this]
  rw [e]
  have := pick_run xs i k
  rw [List.filterMap_map] at this
  have e2 : ((fun x => xs[x]?) ∘ fun x => i + x) = fun m => xs[i + m]? := rfl
  rw [e2] at this
  rw [this]

theorem getItem_tuple_cut {t sl : Addr} {items : Array Value} {vl vu : Value} {lo hi : Option Int} {Q : Value → Shared → Prop} (ht : IsTup s.heap t items) (hs : s.heap.IsSliceOf sl vl vu .none) (pl : IsPart vl lo) (pu : IsPart vu hi)
    (hw : ¬ (sIx items.size 0 lo = 0 ∧ sIx items.size items.size hi = items.size))
    (h : Q (.ref s.heap.objs.size) { s with heap := s.heap.push { cls := .type "tuple", data := .seq ((items.toList.drop (sIx items.size 0 lo)).take (sIx items.size items.size hi - sIx items.size 0 lo)).toArray } })
    (hsz : items.size ≤ sizeLine) : wpAny (model prog w) A (getItem (.ref t) (.ref sl)) Q E s := by
  have htake : sizeOk (.seq ((items.toList.drop (sIx items.size 0 lo)).take (sIx items.size items.size hi - sIx items.size 0 lo)).toArray) := by
    show ((items.toList.drop (sIx items.size 0 lo)).take (sIx items.size items.size hi - sIx items.size 0 lo)).toArray.size ≤ sizeLine
    rw [List.size_toArray, List.length_take, List.length_drop, Array.length_toList]
    omega
  have hj : sIx items.size items.size hi ≤ items.size := sIx_le _ _ (Nat.le_refl _) hi
  obtain ⟨os, hos, hcs, hds⟩ := id hs
  have hTs : s.TypeIs (.ref sl) "slice" := ⟨os, hos, hcs⟩
  unfold getItem
  try with_reducible refine wpAny_holding ?_
  first | refine wpAny_bind (wpAny_pure ?_) | skip
  refine wpAny_bind (wpAny_sequenceKey ht.typeIs (by decide) ?_)
  refine wpAny_bind (wpAny_callSpecial?_slot (name := Str.ofString "__getitem__") ht.typeIs PyProof.Rows.slot_tuple_getitem
    (wpAny_call_entry PyProof.Rows.slot_tuple_getitem ht.typeIs entry_tuple_getitem ?_ (args_tuple_getitem _ _)))
  show wpAny _ _ (Builtin.Tuple.tupleItemsOf (.ref t) >>= _) _ _ s
  refine wpAny_bind (tupleItemsOf_ ht ?_)
  refine wpAny_bind (wpAny_typeOf hTs ?_)
  rw [if_pos (by decide)]
  refine wpAny_bind (sliceApplied_gen hs pl pu ?_)
  have hno : ¬ ((((sIx items.size 0 lo : Nat) : Int) == 0 && (1 : Int) == 1 && (sIx items.size items.size hi - sIx items.size 0 lo) == items.size) = true) := by
    intro q
    rw [Bool.and_eq_true, Bool.and_eq_true] at q
    have q1 : ((sIx items.size 0 lo : Nat) : Int) = 0 := eq_of_beq q.1.1
    have q2 : sIx items.size items.size hi - sIx items.size 0 lo = items.size := eq_of_beq q.2
    exact hw ⟨by omega, by omega⟩
  show wpAny _ _ (if (((sIx items.size 0 lo : Nat) : Int) == 0 && (1 : Int) == 1 && (sIx items.size items.size hi - sIx items.size 0 lo) == items.size) = true then _ else _) _ _ s
  rw [if_neg hno, pick_gen]
  first
    | exact wpAny_bind (m := Builtin.Tuple.tupleExact _) (wpAny_newObj_type (wpAny_pure ⟨_, rfl, wpAny_pure h⟩) htake)
    | exact wpAny_bind (m := Builtin.Tuple.tupleExact _) (wpAny_newObj_type (wpAny_bind (wpAny_pure (wpAny_pure ⟨_, rfl, wpAny_pure h⟩))) htake)
    | exact wpAny_bind (wpAny_bind (m := Builtin.Tuple.tupleExact _) (wpAny_newObj_type (wpAny_pure (wpAny_pure ⟨_, rfl, wpAny_pure h⟩)) htake))
    | exact wpAny_bind (wpAny_bind (m := Builtin.Tuple.tupleExact _) (wpAny_newObj_type (wpAny_pure ⟨_, rfl, wpAny_pure h⟩) htake))
end
end HT

namespace L2
open PySem PySem.Spec PyProof.Rows

/-! ### the parts of a slice -/
abbrev TO := St → Hp → (Option Int → Hp → Prop) → Prop
/-- a slice's part (left out, or an int) -/
def PO (X : Cx) (e : Option Expr) (t : TO) : Prop :=
  ∀ (pins : List (Addr × Obj)) (s : Shared) (σ : St) (H : Hp) (Q : Option Int → Hp → Prop), Inv X pins σ H s → t σ H Q →
    wpAny (model X.prog X.w) X.A (evalPart e X.env) (fun u s' => ∃ o H', Inv X pins σ H' s' ∧ IsPart u o ∧ Q o H') X.xe s
def tNoPart : TO := fun _ H Q => Q none H
def tPart (t : TE) : TO := fun σ H Q => t σ H fun x H1 => ∃ i, x = .int i ∧ Q (some i) H1

theorem intsAre_of {ns : List Int} : ∀ {us : List Value}, Vals (ns.map V.int) us → IntsAre us ns := by
  induction ns with
  | nil => intro us r; rw [List.map_nil] at r; cases r; exact .nil
  | cons n ns ih =>
    intro us r
    rw [List.map_cons] at r
    cases r with
    | cons r1 r2 =>
      obtain ⟨t, e⟩ := r1
      subst e
      exact .cons n t (ih r2)

section
variable {X : Cx} {e : Expr} {te : TE} {lo hi : Option Expr} {tl th : TO} {pos p2 : Pos}

theorem po_none : PO X none tNoPart := by
  intro pins s σ H Q I h
  rw [evalPart_none]
  exact wpAny_pure ⟨none, H, I, .none, h⟩
theorem po_some (h : PE X e te) : PO X (some e) (tPart te) := by
  intro pins s σ H Q I hw
  rw [evalPart_some]
  refine thn (h pins s σ H _ I hw) fun u s1 ⟨x, H1, I1, r1, q1⟩ => ?_
  obtain ⟨i, rfl, q⟩ := q1
  obtain ⟨t, rfl⟩ := r1
  exact ⟨some i, H1, I1, .int i t, q⟩

/-- what a slice of a value is, by values: the slice object stands at sl -/
def SlR (X : Cx) (r : V → Option Int → Option Int → Hp → VK → Prop) : Prop :=
  ∀ (pins : List (Addr × Obj)) (s : Shared) (σ : St) (H : Hp) (x : V) (v vl vu : Value) (lo hi : Option Int) (sl : Addr) (Q : VK), Inv X pins σ H s → RelV x v → s.heap.IsSliceOf sl vl vu .none → IsPart vl lo → IsPart vu hi → r x lo hi H Q →
    ∃ T id, typeLookup (.type T) "__getitem__" = pure (some (.builtin id)) ∧ s.TypeIs v T ∧ wpAny (model X.prog X.w) X.A (getItem v (.ref sl)) (EP X pins σ Q) X.xe s
theorem SlR.or {r r' : V → Option Int → Option Int → Hp → VK → Prop} (h : SlR X r) (h' : SlR X r') : SlR X (fun x lo hi H Q => r x lo hi H Q ∨ r' x lo hi H Q) := by
  intro pins s σ H x v vl vu lo hi sl Q I rx hs pl pu q
  rcases q with q | q
  · exact h pins s σ H x v vl vu lo hi sl Q I rx hs pl pu q
  · exact h' pins s σ H x v vl vu lo hi sl Q I rx hs pl pu q
def tSl (r : V → Option Int → Option Int → Hp → VK → Prop) (te : TE) (tl th : TO) : TE := fun σ H Q => te σ H fun x H1 => tl σ H1 fun l H2 => th σ H2 fun u H3 => r x l u H3 Q
/-- a[lo:hi], any a -/
theorem pe_slice {r : V → Option Int → Option Int → Hp → VK → Prop} (hr : SlR X r) (he : PE X e te) (hl : PO X lo tl) (hu : PO X hi th) : PE X (.Subscript e (.Slice lo hi none p2) pos) (tSl r te tl th) := by
  intro pins s σ H Q I h
  refine Subscript_ (thn (he pins s σ H _ I h) fun v s1 ⟨x, H1, I1, r1, q1⟩ => ?_)
  refine wpAny_Slice (thn (hl pins s1 σ H1 _ I1 q1) fun vl s2 ⟨l, H2, I2, pl, q2⟩ => thn (hu pins s2 σ H2 _ I2 q2) fun vu s3 ⟨u, H3, I3, pu, q3⟩ => ?_)
  rw [evalPart_none]
  refine wpAny_pure ?_
  have I4 : Inv X pins σ H3 { s3 with heap := s3.heap.push { cls := .type "slice", data := .fields #[vl, vu, .none] } } := I3.kept (t' := s3.toks) fun b ob q => Heap.get?_push_of_some _ q
  obtain ⟨T, id, hT, ht, hg⟩ := hr pins { s3 with heap := s3.heap.push { cls := .type "slice", data := .fields #[vl, vu, .none] } } σ H3 x v vl vu l u s3.heap.objs.size Q I4 r1 (Heap.IsSliceOf.new ..) pl pu q3
  show wpAny (model X.prog X.w) X.A (subscriptTail e (.Slice lo hi none p2) v (.ref s3.heap.objs.size)) (EP X pins σ Q) X.xe { s3 with heap := s3.heap.push { cls := .type "slice", data := .fields #[vl, vu, .none] } }
  exact tail_any (ops := [.ref s3.heap.objs.size, v]) ht hT hg (by with_unfolding_all rfl)

/-- the items of xs[lo:hi] -/
def cutV (xs : List V) (lo hi : Option Int) : List V := (xs.drop (HT.sIx xs.length 0 lo)).take (HT.sIx xs.length xs.length hi - HT.sIx xs.length 0 lo)
theorem cutV_length (xs : List V) (lo hi : Option Int) : (cutV xs lo hi).length ≤ xs.length := by
  unfold cutV
  rw [List.length_take, List.length_drop]
  omega
/-- t[lo:hi], not the whole of it (the whole would be t itself) -/
def rSlT (K : PySem.W.Frag) : V → Option Int → Option Int → Hp → VK → Prop := fun x lo hi H Q => ∃ a xs, x = .ref a ∧ SqT K H a xs ∧
  ¬ (HT.sIx xs.length 0 lo = 0 ∧ HT.sIx xs.length xs.length hi = xs.length) ∧ ∀ p, H p = none → Q (.ref p) (upd H p (.tup (cutV xs lo hi)))
theorem sl_tup : SlR X (rSlT X.K) := by
  intro pins s σ H x v vl vu lo hi sl Q I rx hs pl pu h
  obtain ⟨a, xs, rfl, hx, hw, q⟩ := h
  cases rx
  obtain ⟨its, r, ht, hz⟩ := I.tuple hx
  have hlen : its.toArray.size = xs.length := by rw [List.size_toArray]; exact r.length.symm
  refine ⟨"tuple", _, PyProof.Rows.slot_tuple_getitem.lookup, ht.typeIs, ?_⟩
  refine HT.getItem_tuple_cut ht hs pl pu (by rw [hlen]; exact hw) ?_ (by rw [hlen]; exact hz)
  rw [hlen]
  refine ⟨.ref s.heap.objs.size, _, I.laid (t' := s.toks) (o := .tup (cutV xs lo hi)) (fun b ob q => Heap.get?_push_of_some _ q) (Nat.le_refl _) ?_, rfl, q _ (I.hok.fresh (Nat.le_refl _))⟩
  exact ⟨Nat.le_trans (cutV_length xs lo hi) hz, _, (r.drop (HT.sIx xs.length 0 lo)).take (HT.sIx xs.length xs.length hi - HT.sIx xs.length 0 lo), IsTup.new _ _⟩

/-! ### t < u, t + u -/
/-- t + u, t not empty: u empty gives t itself -/
def rCatT (K : PySem.W.Frag) : R2 := fun x y H Q => ∃ a b xs ys, x = .ref a ∧ y = .ref b ∧ SqT K H a xs ∧ SqT K H b ys ∧ xs ≠ [] ∧ xs.length + ys.length ≤ sizeLine ∧
  (ys = [] → Q (.ref a) H) ∧ (ys ≠ [] → ∀ p, H p = none → Q (.ref p) (upd H p (.tup (xs ++ ys))))
theorem Vals.nil_iff {xs : List V} {us : List Value} (r : Vals xs us) : us = [] ↔ xs = [] := by
  cases r with
  | nil => simp
  | cons _ _ => simp
theorem op_catT : OpR X (binaryOp .Add) (rCatT X.K) := by
  intro pins s σ H x y v u Q I rx ry h
  obtain ⟨a, b, xs, ys, rfl, rfl, ha, hb, hx, hz, q1, q2⟩ := h
  cases rx
  cases ry
  obtain ⟨its, r1, p1, _⟩ := I.tuple ha
  obtain ⟨its2, r2, p2, _⟩ := I.tuple hb
  refine HT.cat_tup p1 p2 (fun z => hx (r1.nil_iff.mp z)) (fun z => ⟨.ref a, H, I, rfl, q1 (r2.nil_iff.mp z)⟩) (fun z => ?_) (by rw [← r1.length, ← r2.length]; exact hz)
  refine ⟨.ref s.heap.objs.size, _, I.laid (t' := s.toks) (o := .tup (xs ++ ys)) (fun b ob q => Heap.get?_push_of_some _ q) (Nat.le_refl _) ?_, rfl, q2 (fun w => z (r2.nil_iff.mpr w)) _ (I.hok.fresh (Nat.le_refl _))⟩
  exact ⟨by rw [List.length_append]; exact hz, _, r1.append r2, IsTup.new _ _⟩
end
end L2

namespace L2
open PySem PySem.Spec PyProof.Rows

/-! ### places -/
/-- the place that an index of any sign means -/
def ixN (n : Nat) (i : Int) : Option Nat := if 0 ≤ i then (if i < n then some i.toNat else none) else if -(n : Int) ≤ i then some (i + n).toNat else none
def atI {α : Type} (xs : List α) (i : Int) : Option α := (ixN xs.length i).bind fun j => xs[j]?
theorem ixN_seq {n : Nat} {i : Int} {j : Nat} (h : ixN n i = some j) : seqIndex? i n = some j ∧ j < n ∧ -(n : Int) ≤ i ∧ i < n := by
  unfold ixN at h
  by_cases h0 : 0 ≤ i
  · rw [if_pos h0] at h
    by_cases h1 : i < n
    · rw [if_pos h1] at h
      have e : i.toNat = j := Option.some.inj h
      exact ⟨by rw [seqIndex_of h0 h1, e], by omega, by omega, h1⟩
    · rw [if_neg h1] at h; cases h
  · rw [if_neg h0] at h
    by_cases h1 : -(n : Int) ≤ i
    · rw [if_pos h1] at h
      have e : (i + n).toNat = j := Option.some.inj h
      exact ⟨by rw [seqIndex_neg (by omega) h1, e], by omega, h1, by omega⟩
    · rw [if_neg h1] at h; cases h
theorem atI_get {α : Type} {xs : List α} {i : Int} {v : α} (h : atI xs i = some v) : ∃ j, seqIndex? i xs.length = some j ∧ xs[j]? = some v ∧ j < xs.length ∧ -(xs.length : Int) ≤ i ∧ i < xs.length := by
  unfold atI at h
  cases e : ixN xs.length i with
  | none => rw [e] at h; cases h
  | some j =>
    rw [e] at h
    obtain ⟨h1, h2, h3, h4⟩ := ixN_seq e
    exact ⟨j, h1, h, h2, h3, h4⟩
theorem atI_nat {α : Type} {xs : List α} {j : Nat} {v : α} (h : xs[j]? = some v) : atI xs (j : Int) = some v := by
  have hj : j < xs.length := (List.getElem?_eq_some_iff.mp h).1
  have e : ixN xs.length (j : Int) = some j := by
    unfold ixN
    rw [if_pos (by omega), if_pos (by omega)]; simp
  unfold atI; rw [e]; exact h
/-! ### what may be subscripted -/
/-- what stands as an index of a plain subscript -/
def PlainIx (b : Expr) : Prop := ∀ o i, subscripted b false o i = operate [o, i] (getItem o i)
/-- a subscript by values -/
def IxR (X : Cx) (r : R2) : Prop :=
  ∀ (value slice : Expr) (pins : List (Addr × Obj)) (s : Shared) (σ : St) (H : Hp) (x y : V) (v u : Value) (Q : VK), Inv X pins σ H s → RelV x v → RelV y u → r x y H Q →
    subscripted slice false v u = operate [v, u] (getItem v u) → wpAny (model X.prog X.w) X.A (subscriptTail value slice v u) (EP X pins σ Q) X.xe s
/-- a call of a builtin's method by values: the receiver, the arguments -/
def MtR (X : Cx) (id : String) (r : V → List V → Hp → VK → Prop) : Prop :=
  ∀ (pins : List (Addr × Obj)) (s : Shared) (σ : St) (H : Hp) (x : V) (xs : List V) (v : Value) (us : List Value) (Q : VK), Inv X pins σ H s → RelV x v → Vals xs us → r x xs H Q →
    wpAny (model X.prog X.w) X.A (call (.builtin id) (v :: us)) (EP X pins σ Q) X.xe s
section
variable {X : Cx} {a b : Expr} {ta tb : TE} {pos : Pos}
theorem IxR.or {r r' : R2} (h : IxR X r) (h' : IxR X r') : IxR X (fun x y H Q => r x y H Q ∨ r' x y H Q) := by
  intro value slice pins s σ H x y v u Q I rx ry q hs
  rcases q with q | q
  · exact h value slice pins s σ H x y v u Q I rx ry q hs
  · exact h' value slice pins s σ H x y v u Q I rx ry q hs
theorem MtR.or {id : String} {r r' : V → List V → Hp → VK → Prop} (h : MtR X id r) (h' : MtR X id r') : MtR X id (fun x xs H Q => r x xs H Q ∨ r' x xs H Q) := by
  intro pins s σ H x xs v us Q I rx rs q
  rcases q with q | q
  · exact h pins s σ H x xs v us Q I rx rs q
  · exact h' pins s σ H x xs v us Q I rx rs q
/-- a[b] -/
theorem pe_ix {r : R2} (hr : IxR X r) (ha : PE X a ta) (hb : PE X b tb) (hs : PlainIx b) : PE X (.Subscript a b pos) (tOp r ta tb) := by
  intro pins s σ H Q I h
  exact Subscript_ (binT ha hb I h fun v u s2 x y H2 I2 rx ry q => hr a b pins s2 σ H2 x y v u Q I2 rx ry q (hs _ _))

def rIxL (K : PySem.W.Frag) : R2 := fun x y H Q => ∃ p xs i v, x = .ref p ∧ y = .int i ∧ SqL K H p xs ∧ atI xs i = some v ∧ Q v H
def rIxT (K : PySem.W.Frag) : R2 := fun x y H Q => ∃ p xs i v, x = .ref p ∧ y = .int i ∧ SqT K H p xs ∧ atI xs i = some v ∧ Q v H
theorem ix_list : IxR X (rIxL X.K) := by
  intro value slice pins s σ H x y v u Q I rx ry h hs
  obtain ⟨p, xs, i, z, rfl, rfl, hq, he, q⟩ := h
  cases rx
  obtain ⟨t, rfl⟩ := ry
  obtain ⟨its, r, pl, hz⟩ := I.list hq
  obtain ⟨j, h1, h2, h3, h4, h5⟩ := atI_get he
  obtain ⟨w, ew, rw'⟩ := r.get h2
  have hl := r.length
  have hn := line63
  have fin : EP X pins σ Q w s := ⟨z, H, I, rw', q⟩
  by_cases h0 : 0 ≤ i
  · have hj : i.toNat = j := by
      rw [seqIndex_of h0 h5] at h1
      exact Option.some.inj h1
    exact item_listR pl.isList h0 (by omega) (by rw [hj]; simpa using ew) fin hs
  · have hj : (i + (its.toArray.size : Int)).toNat = j := by
      rw [seqIndex_neg (by omega) h4] at h1
      rw [List.size_toArray, ← hl]
      exact Option.some.inj h1
    exact subscriptTail_builtinR (x := w) pl.isList.typeIs slot_list_getitem.lookup
      (wpAny_getItem_list_neg (Q := fun r s' => r = w ∧ EP X pins σ Q r s') pl.isList (by omega) (by rw [List.size_toArray] <;> omega) (by omega) (by rw [hj]; simpa using ew) ⟨rfl, fin⟩) hs
theorem ix_tup : IxR X (rIxT X.K) := by
  intro value slice pins s σ H x y v u Q I rx ry h hs
  obtain ⟨p, xs, i, z, rfl, rfl, hq, he, q⟩ := h
  cases rx
  obtain ⟨t, rfl⟩ := ry
  obtain ⟨its, r, pl, hz⟩ := I.tuple hq
  obtain ⟨j, h1, h2, h3, h4, h5⟩ := atI_get he
  obtain ⟨w, ew, rw'⟩ := r.get h2
  have hl := r.length
  have hn := line63
  have fin : EP X pins σ Q w s := ⟨z, H, I, rw', q⟩
  exact subscriptTail_builtinR (x := w) pl.typeIs slot_tuple_getitem.lookup
    (getItem_tuple (j := j) (Q := fun r s' => r = w ∧ EP X pins σ Q r s') pl (by omega) (by omega) (by rw [List.size_toArray, ← hl]; exact h1) (by simpa using ew) ⟨rfl, fin⟩) hs
/-! ### xs[i] = v, any sign -/
theorem Inv.lst {pins : List (Addr × Obj)} {σ : St} {H : Hp} {s : Shared} {p : Addr} {xs : List V} (I : Inv X pins σ H s) (h : H p = some (.lst xs)) :
    ∃ (its : List Value) (n : Nat), Vals xs its ∧ s.heap.get? p = some { cls := .type "list", data := .seq its.toArray n } ∧ xs.length ≤ sizeLine := by
  obtain ⟨z, its, n, r, e⟩ := I.hok p _ h
  exact ⟨its, n, r, e, z⟩
/-! ### slices -/
theorem slice_bounds (lo hi : Option Int) (n : Nat) : (sliceBounds lo hi none n).1 = ((HT.sIx n 0 lo : Nat) : Int) ∧ (sliceBounds lo hi none n).2.1 = ((HT.sIx n n hi : Nat) : Int) ∧ (sliceBounds lo hi none n).2.2 = 1 := by
  refine ⟨?_, ?_, rfl⟩
  · cases lo with
    | none => simp [sliceBounds, HT.sIx]
    | some i =>
      simp only [sliceBounds, HT.sIx, Option.getD_none, show (1 : Int) > 0 by decide, if_true]
      by_cases h : i < 0
      · simp only [h, if_true] <;> omega
      · simp only [h, if_false] <;> omega
  · cases hi with
    | none => simp [sliceBounds, HT.sIx]
    | some i =>
      simp only [sliceBounds, HT.sIx, Option.getD_none, show (1 : Int) > 0 by decide, if_true]
      by_cases h : i < 0
      · simp only [h, if_true] <;> omega
      · simp only [h, if_false] <;> omega
theorem slicePick_cut (its : List Value) (lo hi : Option Int) : slicePick its.toArray lo hi none = ((its.drop (HT.sIx its.length 0 lo)).take (HT.sIx its.length its.length hi - HT.sIx its.length 0 lo)).toArray := by
  obtain ⟨h1, h2, h3⟩ := slice_bounds lo hi its.toArray.size
  unfold slicePick
  rw [h1, h2, h3]
  simp only [sliceRange_one, pick_run, List.size_toArray] <;> rfl
/-- xs[lo:hi] of a list: a new list -/
def rSlL (K : PySem.W.Frag) : V → Option Int → Option Int → Hp → VK → Prop := fun x lo hi H Q => ∃ a xs, x = .ref a ∧ SqL K H a xs ∧ ∀ p, H p = none → Q (.ref p) (upd H p (.lst (cutV xs lo hi)))
theorem sl_list : SlR X (rSlL X.K) := by
  intro pins s σ H x v vl vu lo hi sl Q I rx hs pl pu h
  obtain ⟨a, xs, rfl, hx, q⟩ := h
  cases rx
  obtain ⟨its, r, ht, hz⟩ := I.list hx
  have hlen := r.length
  refine ⟨"list", _, slot_list_getitem.lookup, ht.isList.typeIs, ?_⟩
  refine wpAny_getItem_list_slice ht.isList hs pl pu .none (by simp) ?_ (by rw [List.size_toArray] <;> omega)
  rw [slicePick_cut, ← hlen]
  refine ⟨.ref s.heap.objs.size, _, I.laid (t' := s.toks) (o := .lst (cutV xs lo hi)) (fun b ob q => Heap.get?_push_of_some _ q) (Nat.le_refl _) ?_, rfl, q _ (I.hok.fresh (Nat.le_refl _))⟩
  exact ⟨Nat.le_trans (cutV_length xs lo hi) hz, _, 0, (r.drop (HT.sIx xs.length 0 lo)).take (HT.sIx xs.length xs.length hi - HT.sIx xs.length 0 lo), Heap.get?_push_size _ rfl⟩

/-! ### in, not in: flat items -/
def flatV : V → Bool
  | .non => true
  | .bl _ => true
  | .int _ => true
  | .str _ => true
  | _ => false
/-- == of flat values -/
def eqV : V → V → Bool
  | .non, .non => true
  | .bl a, .bl b => a == b
  | .bl a, .int b => (if a then 1 else 0) == b
  | .int a, .bl b => a == (if b then 1 else 0)
  | .int a, .int b => a == b
  | .str a, .str b => a == b
  | _, _ => false
theorem eqAt_V {A : Around} {s : Shared} {y x : V} {u v : Value} (ry : RelV y u) (rx : RelV x v) (fy : flatV y = true) (fx : flatV x = true) : SeqAt.EqAt A s u v (eqV y x) := by
  cases y with
  | non =>
    cases ry
    cases x with
    | non => cases rx; exact SeqAt.EqAt.same _
    | bl b => cases rx; exact SeqAt.EqAt.none_bool b
    | int b => obtain ⟨t, rfl⟩ := rx; exact SeqAt.EqAt.none_int b t
    | str b => obtain ⟨t, rfl⟩ := rx; exact SeqAt.EqAt.none_str b t
    | _ => exact absurd (show false = true from fx) Bool.false_ne_true
  | bl a =>
    cases ry
    cases x with
    | non => cases rx; exact SeqAt.EqAt.bool_none a
    | bl b => cases rx; exact SeqAt.EqAt.bool_bool a b
    | int b => obtain ⟨t, rfl⟩ := rx; exact SeqAt.EqAt.bool_int a b t
    | str b => obtain ⟨t, rfl⟩ := rx; exact SeqAt.EqAt.bool_str a b t
    | _ => exact absurd (show false = true from fx) Bool.false_ne_true
  | int a =>
    obtain ⟨t', rfl⟩ := ry
    cases x with
    | non => cases rx; exact SeqAt.EqAt.int_none a t'
    | bl b => cases rx; exact SeqAt.EqAt.int_bool a t' b
    | int b => obtain ⟨t, rfl⟩ := rx; exact SeqAt.EqAt.int_int a t' b t
    | str b => obtain ⟨t, rfl⟩ := rx; exact SeqAt.EqAt.int_str a t' b t
    | _ => exact absurd (show false = true from fx) Bool.false_ne_true
  | str a =>
    obtain ⟨t', rfl⟩ := ry
    cases x with
    | non => cases rx; exact SeqAt.EqAt.str_none a t'
    | bl b => cases rx; exact SeqAt.EqAt.str_bool a t' b
    | int b => obtain ⟨t, rfl⟩ := rx; exact SeqAt.EqAt.str_int a t' b t
    | str b => obtain ⟨t, rfl⟩ := rx; exact SeqAt.EqAt.str_str a t' b t
    | _ => exact absurd (show false = true from fx) Bool.false_ne_true
  | _ => exact absurd (show false = true from fy) Bool.false_ne_true
/-- the items' answers, read off the values (a value's own answer does not lean on its token) -/
def eqU (x : V) (u : Value) : Bool := match u with
  | .none => eqV .non x
  | .bool b => eqV (.bl b) x
  | .int i _ => eqV (.int i) x
  | .str z _ => eqV (.str z) x
  | _ => false
theorem eqU_of {x y : V} {u : Value} (r : RelV y u) (f : flatV y = true) : eqU x u = eqV y x := by
  cases y with
  | non => cases r; rfl
  | bl b => cases r; rfl
  | int i => obtain ⟨t, rfl⟩ := r; rfl
  | str z => obtain ⟨t, rfl⟩ := r; rfl
  | _ => exact absurd (show false = true from f) Bool.false_ne_true
theorem any_eqU {x : V} : ∀ {xs : List V} {us : List Value}, Vals xs us → xs.all flatV = true → us.any (eqU x) = xs.any fun y => eqV y x
  | _, _, .nil, _ => rfl
  | y :: xs, u :: us, .cons r t, f => by
    rw [List.all_cons, Bool.and_eq_true] at f
    rw [List.any_cons, List.any_cons, eqU_of r f.1, any_eqU t f.2]
theorem mem_eqAt {A : Around} {s : Shared} {x : V} {v : Value} (rx : RelV x v) (fx : flatV x = true) : ∀ {xs : List V} {us : List Value}, Vals xs us → xs.all flatV = true → ∀ u ∈ us, SeqAt.EqAt A s u v (eqU x u)
  | _, _, .nil, _ => fun u hu => by cases hu
  | y :: xs, u :: us, .cons r t, f => fun u' hu => by
    rw [List.all_cons, Bool.and_eq_true] at f
    rcases List.mem_cons.mp hu with rfl | hu
    · rw [eqU_of r f.1]; exact eqAt_V r rx f.1 fx
    · exact mem_eqAt rx fx t f.2 u' hu
def inV (x : V) (xs : List V) : Bool := xs.any fun y => eqV y x
/-- x in a list or tuple of flat items -/
def rIn (K : PySem.W.Frag) (neg : Bool) : R2 := fun x y H Q => ∃ p xs, y = .ref p ∧ (SqL K H p xs ∨ SqT K H p xs) ∧ flatV x = true ∧ xs.all flatV = true ∧ Q (.bl (if neg then !inV x xs else inV x xs)) H
theorem op_in_seq : OpR X (compareOp .In) (rIn X.K false) := by
  intro pins s σ H x y v u Q I rx ry h
  obtain ⟨p, xs, rfl, hq, fx, fs, q⟩ := h
  cases ry
  rcases hq with hq | hq
  · obtain ⟨its, r, pl, hz⟩ := I.list hq
    refine SeqAt.in_listAt (eqU x) pl.isList (fun w hw => mem_eqAt rx fx r fs w (by simpa using hw)) ⟨.bl _, H, I, rfl, ?_⟩
    rw [show its.toArray.any (eqU x) = its.any (eqU x) by simp, any_eqU r fs]
    exact q
  · obtain ⟨its, r, pl, hz⟩ := I.tuple hq
    refine SeqAt.in_tupleAt (eqU x) pl (fun w hw => mem_eqAt rx fx r fs w (by simpa using hw)) ⟨.bl _, H, I, rfl, ?_⟩
    rw [show its.toArray.any (eqU x) = its.any (eqU x) by simp, any_eqU r fs]
    exact q
theorem op_notIn_seq : OpR X (compareOp .NotIn) (rIn X.K true) := by
  intro pins s σ H x y v u Q I rx ry h
  obtain ⟨p, xs, rfl, hq, fx, fs, q⟩ := h
  cases ry
  rcases hq with hq | hq
  · obtain ⟨its, r, pl, hz⟩ := I.list hq
    refine SeqAt.notIn_listAt (eqU x) pl.isList (fun w hw => mem_eqAt rx fx r fs w (by simpa using hw)) ⟨.bl _, H, I, rfl, ?_⟩
    rw [show its.toArray.any (eqU x) = its.any (eqU x) by simp, any_eqU r fs]
    exact q
  · obtain ⟨its, r, pl, hz⟩ := I.tuple hq
    refine SeqAt.notIn_tupleAt (eqU x) pl (fun w hw => mem_eqAt rx fx r fs w (by simpa using hw)) ⟨.bl _, H, I, rfl, ?_⟩
    rw [show its.toArray.any (eqU x) = its.any (eqU x) by simp, any_eqU r fs]
    exact q
/-! ### len, list(x), tuple(x) of any list or tuple that is read -/
theorem CallR.or {f : Value} {r r' : List V → Hp → VK → Prop} (h : CallR X f r) (h' : CallR X f r') : CallR X f (fun xs H Q => r xs H Q ∨ r' xs H Q) := by
  intro pins s σ H xs us Q I rs q
  rcases q with q | q
  · exact h pins s σ H xs us Q I rs q
  · exact h' pins s σ H xs us Q I rs q
theorem call_tuple_of : CallR X (.type "tuple") (fun xs H Q => ∃ p ys, xs = [.ref p] ∧ ((SqL X.K H p ys ∧ ∀ l, H l = none → Q (.ref l) (upd H l (.tup ys))) ∨ (SqT X.K H p ys ∧ Q (.ref p) H))) := by
  intro pins s σ H xs us Q I r h
  obtain ⟨p, ys, rfl, h⟩ := h
  obtain ⟨u, rfl, rx⟩ := vals1 r
  cases rx
  rcases h with ⟨hq, q⟩ | ⟨hq, q⟩
  · obtain ⟨its, r', pl, hz⟩ := I.list hq
    have hlen := r'.length
    refine call_tuple_list pl.isList (fun h' kp => ?_) (by simp only [List.size_toArray] <;> omega)
    have I1 : Inv X pins σ H { s with heap := h' } := I.kept (t' := s.toks) kp
    have I2 : Inv X pins σ (upd H h'.objs.size (.tup ys)) { s with heap := h'.push { cls := .type "tuple", data := .seq its.toArray } } :=
      I1.laid (t' := s.toks) (fun b o e => Heap.get?_push_of_some _ e) (Nat.le_refl _) (show ObjOk X.prog X.w _ _ _ (.tup ys) from ⟨hz, its, r', IsTup.new _ _⟩)
    exact ⟨.ref h'.objs.size, _, I2, rfl, q _ (I1.hok.fresh (Nat.le_refl _))⟩
  · obtain ⟨its, r', pl, hz⟩ := I.tuple hq
    exact call_tuple_same pl ⟨.ref p, H, I, rfl, q⟩

/-! ### the call of a builtin's method: o.m(..) -/
/-- the value is of that builtin type -/
def tyV (K : PySem.W.Frag) (T : String) (x : V) (H : Hp) : Prop := match x with
  | .str _ => T = "str"
  | .int _ => T = "int"
  | .ref p => (T = "list" ∧ ∃ xs, SqL K H p xs) ∨ (T = "tuple" ∧ ∃ o, K.lookup p = some o ∧ o.cls = .type "tuple" ∧ o.dict = none) ∨
      (T = "dict" ∧ ((∃ kvs, H p = some (.dK kvs)) ∨ ∃ kvs, H p = some (.dT kvs))) ∨ (T = "set" ∧ ∃ S n, H p = some (.set S n))
  | _ => False
theorem tyV_is {pins : List (Addr × Obj)} {σ : St} {H : Hp} {s : Shared} {T : String} {x : V} {v : Value} (I : Inv X pins σ H s) (r : RelV x v) (ty : tyV X.K T x H) :
    s.TypeIs v T ∧ ∀ a, v = .ref a → ∃ ob, s.heap.get? a = some ob ∧ ob.dict = none := by
  cases x with
  | str z =>
    obtain ⟨t, rfl⟩ := r
    cases (show T = "str" from ty)
    exact ⟨typeIs_str s z t, fun _ e => nomatch e⟩
  | int i =>
    obtain ⟨t, rfl⟩ := r
    cases (show T = "int" from ty)
    exact ⟨typeIs_int s i t, fun _ e => nomatch e⟩
  | ref p =>
    cases r
    rcases ty with ⟨rfl, xs, hq⟩ | ⟨rfl, o, hk, hc, hd⟩ | ⟨rfl, hk⟩ | ⟨rfl, S, n, hk⟩
    · obtain ⟨its, _, pl, _⟩ := I.list hq
      refine ⟨pl.isList.typeIs, fun a e => ?_⟩
      cases e
      obtain ⟨o, n, e, c, hd, _⟩ := pl
      exact ⟨o, e, hd⟩
    · refine ⟨⟨o, I.kIn p o hk, hc⟩, fun a e => ?_⟩
      cases e
      exact ⟨o, I.kIn _ o hk, hd⟩
    · have z : ∃ o, s.heap.get? p = some o ∧ o.ExactDict := by
        rcases hk with ⟨kvs, hk⟩ | ⟨kvs, hk⟩
        · obtain ⟨_, _, _, _, o, _, _, e, ex, _⟩ := I.hok p _ hk
          exact ⟨o, e, ex⟩
        · obtain ⟨_, _, _, _, o, _, _, e, ex, _⟩ := I.hok p _ hk
          exact ⟨o, e, ex⟩
      obtain ⟨o, e, ex⟩ := z
      refine ⟨⟨o, e, ex.1⟩, fun a e2 => ?_⟩
      cases e2
      exact ⟨o, e, ex.2.1⟩
    · obtain ⟨o, _, _, _, e, ex, _⟩ := I.hok p _ hk
      refine ⟨⟨o, e, ex.1⟩, fun a e2 => ?_⟩
      cases e2
      exact ⟨o, e, ex.2.1⟩
  | _ => exact False.elim ty
def tBM (K : PySem.W.Frag) (T : String) (r : V → List V → Hp → VK → Prop) (to : TE) (t : TA) : TE := fun σ H Q => to σ H fun x H1 => tyV K T x H1 ∧ t σ H1 fun xs H2 => r x xs H2 Q
variable {o e : Expr} {es : List Expr} {to : TE} {t : TA} {name : Str} {apos cpos : Pos} {T id : String} {r : V → List V → Hp → VK → Prop}
theorem pe_bm (pa : PlainAttrs T) (slot : Slot T name id) (hty : typeOf (.builtin id) = pure (.type "method_descriptor")) (hm : MtR X id r) (ho : PE X o to) (ha : PA X (e :: es) t)
    (hbase : attributeBase o name X.env (eval o X.env) = eval o X.env := by rfl)
    (hfew : ((backTo cpos (starEach (e :: es) X.env)).all (fun x => !x.1) && (backToKw cpos (keywordEach [] X.env)).all (fun x => x.1.isSome)
      && decide ((e :: es).length + ([] : List Keyword).length + (if ([] : List Keyword).isEmpty then 0 else 1) < 30)) = true := by rfl)
    (hline : (apos.endLine == cpos.line) = true := by rfl) (hs : starEach (e :: es) X.env = (false, eval e X.env) :: starEach es X.env := by rfl) (hplain : (backTo cpos (starEach es X.env)).any (·.1) = false := by rfl) :
    PE X (.Call (.Attribute o name apos) (e :: es) [] cpos) (tBM X.K T r to t) := by
  intro pins s σ H Q I h
  refine wpAny_Call_method_late hbase hfew hline rfl (thn (ho pins s σ H _ I h) fun v s1 ⟨x, H1, I1, r1, ty, q1⟩ => ?_)
  obtain ⟨h1, h2⟩ := tyV_is I1 r1 ty
  refine ⟨T, id, pa, slot, hty, h1, h2, ?_⟩
  have hA := ha cpos pins s1 σ H1 _ I1 q1
  rw [hs] at hA ⊢
  refine Calls.callWith_builtin (by show (false || (backTo cpos (starEach es X.env)).any (·.1)) = false; rw [hplain] <;> rfl) (Calls.evalArgs_plain ?_)
  exact thn hA fun us s2 ⟨vs, H2, I2, r2, q2⟩ => hm pins s2 σ H2 x vs v us Q I2 r1 r2 q2
/- xs.append(e), list.index on a module's tuple .. are MtR facts of 06m -/
end
end L2

namespace L2
open PySem PySem.Spec PyProof.Rows

def MtM (X : Cx) (id : String) (r : V → List V → Hp → VK → Prop) : Prop :=
  ∀ (pins : List (Addr × Obj)) (s : Shared) (σ : St) (H : Hp) (x : V) (xs : List V) (v : Value) (us : List Value) (Q : VK), Inv X pins σ H s → RelV x v → Vals xs us → r x xs H Q →
    wpAny (model X.prog X.w) X.A (call (.builtin id) (v :: us)) (EP X pins σ Q) X.xe s

/-! ### lists of values -/
theorem Vals.one : ∀ {x : V} {us : List Value}, Vals [x] us → ∃ u, us = [u] ∧ RelV x u
  | _, _, .cons r .nil => ⟨_, rfl, r⟩
theorem Vals.two : ∀ {x y : V} {us : List Value}, Vals [x, y] us → ∃ u v, us = [u, v] ∧ RelV x u ∧ RelV y v
  | _, _, _, .cons r (.cons q .nil) => ⟨_, _, rfl, r, q⟩
theorem Vals.zero : ∀ {us : List Value}, Vals [] us → us = []
  | _, .nil => rfl
theorem Vals.dropLast {xs : List V} {us : List Value} (h : Vals xs us) : Vals xs.dropLast us.dropLast := by
  induction h with
  | nil => exact .nil
  | cons r t ih =>
    cases t with
    | nil => exact .nil
    | cons q t' => exact .cons r ih
theorem Vals.eraseIdx : ∀ {xs : List V} {us : List Value} (i : Nat), Vals xs us → Vals (xs.eraseIdx i) (us.eraseIdx i)
  | _, _, _, .nil => .nil
  | _, _, 0, .cons _ t => t
  | _, _, i + 1, .cons r t => .cons r (Vals.eraseIdx i t)
theorem Vals.reverse {xs : List V} {us : List Value} (h : Vals xs us) : Vals xs.reverse us.reverse := by
  induction h with
  | nil => exact .nil
  | cons r t ih => rw [List.reverse_cons, List.reverse_cons]; exact Vals.append ih (.cons r .nil)
section
variable {X : Cx} {pins : List (Addr × Obj)} {σ : St} {H : Hp} {s : Shared} {l b : Addr} {xs ys zs : List V}

/-! ### the two steps: a tracked list is rewritten, a new list is laid -/
theorem Inv.lset {its its' : List Value} {n : Nat} {f : Array Value → Array Value} {t' : Nat} (I : Inv X pins σ H s) (hH : H l = some (.lst xs))
    (e : s.heap.get? l = some { cls := .type "list", data := .seq its.toArray n }) (hf : f its.toArray = its'.toArray) (hv : Vals ys its') (hz : ys.length ≤ sizeLine) :
    Inv X pins σ (upd H l (.lst ys)) { s with heap := s.heap.update l (Obj.mapSeq f), toks := t' } := by
  have q := PySem.IsL.update e f
  rw [hf] at q
  refine I.write (x := l) (e := l) (by rw [hH]; exact trivial) (.inl rfl) (fun b' u hb hu => (Heap.get?_update_other s.heap (Obj.mapSeq f) (Ne.symm hb)).trans hu) ⟨_, q⟩ ?_
  exact ⟨hz, its', _, hv, q⟩
theorem Inv.lnew {its : List Value} {t' : Nat} (I : Inv X pins σ H s) (hv : Vals ys its) (hz : ys.length ≤ sizeLine) :
    Inv X pins σ (upd H s.heap.objs.size (.lst ys)) { s with heap := s.heap.push { cls := .type "list", data := .seq its.toArray }, toks := t' } :=
  I.laid (fun _ _ q => Heap.get?_push_of_some _ q) (Nat.le_refl _) ⟨hz, its, 0, hv, Heap.get?_push_size _ rfl⟩
theorem Inv.fresh (I : Inv X pins σ H s) : H s.heap.objs.size = none := I.hok.fresh (Nat.le_refl _)
theorem Inv.lstM (I : Inv X pins σ H s) (hH : H l = some (.lst xs)) : xs.length ≤ sizeLine ∧ ∃ (its : List Value) (n : Nat), Vals xs its ∧ xs.length = its.length ∧ s.heap.get? l = some { cls := .type "list", data := .seq its.toArray n } := by
  obtain ⟨z, its, n, r, e⟩ := I.hok l _ hH
  exact ⟨z, its, n, r, r.length, e⟩

end

section
variable {X : Cx}

/-! ### methods -/
def rAppend : V → List V → Hp → VK → Prop := fun x vs H Q => ∃ l xs y, x = .ref l ∧ vs = [y] ∧ H l = some (.lst xs) ∧ xs.length < sizeLine ∧ Q .non (upd H l (.lst (xs ++ [y])))
theorem mt_append : MtM X "list.append" rAppend := by
  intro pins s σ H x vs v us Q I rx rv h
  obtain ⟨l, xs, y, rfl, rfl, hH, hz, q⟩ := h
  cases rx
  obtain ⟨u, rfl, ru⟩ := rv.one
  obtain ⟨z, its, n, r, hl, e⟩ := I.lstM hH
  refine call_meets F.slot_list_append ⟨_, e, rfl⟩ F.entry_list_append (F.args_list_append_2 _ _) (PySem.list_append l its.toArray n u (by rw [List.size_toArray]; omega)) ⟨e, ?_⟩
  refine ⟨.non, _, I.lset (its' := its ++ [u]) hH e (by simp) (r.append (.cons ru .nil)) ?_, rfl, q⟩
  rw [List.length_append, List.length_singleton]
  omega

/-! ### list + list, list += list, list * int -/
def rCat : R2 := fun x y H Q => ∃ l b xs zs, x = .ref l ∧ y = .ref b ∧ H l = some (.lst xs) ∧ H b = some (.lst zs) ∧ xs.length + zs.length ≤ sizeLine ∧ ∀ p, H p = none → Q (.ref p) (upd H p (.lst (xs ++ zs)))
theorem op_cat : OpR X (binaryOp .Add) rCat := by
  intro pins s σ H x y v u Q I rx ry h
  obtain ⟨l, b, xs, zs, rfl, rfl, hH, hB, hz, q⟩ := h
  cases rx
  cases ry
  obtain ⟨z, its, n, r, hl, e⟩ := I.lstM hH
  obtain ⟨z2, its2, n2, r2, hl2, e2⟩ := I.lstM hB
  refine PySem.P.add_list e e2 ?_ (by rw [List.size_toArray, List.size_toArray]; omega)
  have ea : its.toArray ++ its2.toArray = (its ++ its2).toArray := by simp
  rw [ea]
  exact ⟨.ref _, _, I.lnew (t' := s.toks) (r.append r2) (by rw [List.length_append]; omega), rfl, q _ I.fresh⟩
/-! ### del xs[i] -/
end

/-! ### xs[a:b] = ys -/
section
variable {prog : Program} {w : World} {A : Around} {E : Value → Shared → Prop} {s : Shared}
end

section
variable {X : Cx}
end
end L2

namespace Att
open PySem PySem.W PySem.Calls PyProof.Rows

/-! ### the script -/
theorem ints_of_wellAll {P : Params} {h : Heap} : ∀ (ns : List Int) (vs : List Value), WellAll P h vs (ns.map WData.int) → IntsAre vs ns := by
  intro ns
  induction ns with
  | nil =>
    intro vs w
    rw [List.map_nil] at w
    cases w
    exact .nil
  | cons n ns ih =>
    intro vs w
    rw [List.map_cons] at w
    cases w with
    | cons a b =>
      cases a
      exact .cons _ _ (ih _ b)

theorem script_of {l : OpenLaw} {n : Nat} (hn : l.most = some n) {P : Params} {h : Heap} {args : List WData} {vals : List Value}
    (hpre : l.row.toRowW.claim.pre args = true) (hwl : WellAll P h vals args) :
    ∃ a vs ns, vals = [Value.ref a] ∧ args = [WData.list (ns.map WData.int)] ∧ h.get? a = some { cls := .type "list", data := .seq vs.toArray } ∧ IntsAre vs ns ∧ ns.length ≤ n := by
  have hsh : WShape.hasAll [] args [.list .int] = true := (pre_splitW hpre).1
  have hc : l.pre.holds [] { args := args } = true := (pre_splitW hpre).2
  obtain ⟨d, r, rfl, h1, h2⟩ := hasAllW_cons hsh
  obtain rfl := hasAllW_nil h2
  obtain ⟨xs, rfl, h3⟩ := hasW_list h1
  obtain ⟨ns, rfl⟩ := items_int h3
  have hlen : ns.length ≤ n := by
    unfold OpenLaw.pre at hc
    have h4 : (WTm.not (.lt (.lit (.int (n : Int))) (.len (.arg 0)))).holds [] { args := [.list (ns.map .int)] } = true := by
      have h4 := (holds_andW hc).1
      rw [hn] at h4
      exact h4
    have h5 := condW_of h4 (w_not (w_lt w_lit (w_len_list (w_arg rfl))))
    rw [List.length_map] at h5
    refine Nat.le_of_not_lt fun q => ?_
    have q' : (n : Int) < ((ns.length : Nat) : Int) := by omega
    first
      | (rw [decide_eq_true q'] at h5; exact absurd h5 (by decide))
      | (simp at h5; omega)
  cases hwl with
  | cons w1 w2 =>
    cases w2
    cases w1 with
    | list ho hall => exact ⟨_, _, ns, rfl, rfl, ho, ints_of_wellAll ns _ hall, hlen⟩

theorem post_true (l : OpenLaw) (args : List WData) : l.row.toRowW.claim.post args (.bool true) args = true :=
  postW_of (r := l.row.toRowW) (X := (true == true))
    (show WShape.has [] (.bool true) .bool = true by first | rfl | decide | simp [WShape.has, WShape.arms, WShape.armsAll])
    (show (WTm.eq .res (.lit (.bool true))).value [] { args := args, res := some (.bool true), after := args } = some (.bool (true == true)) from w_eq_bool (w_res rfl) w_lit) rfl

/-! ### the attachment: holds_open's last premise (the goal 'hc' behind k_head) from a wpAny of the law's body -/
/-- the same from a codeAny of the CALL (for a layer whose function contracts speak of calls) -/
theorem attach_call {l : OpenLaw} {n : Nat} {q : Program} {loose : List Str} {XP : (Str → Option Value) → Heap → Prop} {YP : World → Heap → Prop} {d : DefRec}
    (hn : l.most = some n) (hdf : d.params.defaults = [])
    (call : ∀ (w : World) (s₀ s₁ : Shared) (mg mb : Str → Option Value) (fa : Addr) (o : Obj) (pm cd doc : Value) (a : Addr) (vs : List Value) (ns : List Int),
      Ground q loose [] XP w s₀ mg mb s₁.heap → YP w s₁.heap →
      s₁.heap.get? fa = some o → o.data = .func (docDef d.name d.params d.body d.scope pm cd doc) → s₁.heap.CodeRec cd d.name → mg d.name = some (.ref fa) →
      s₁.heap.get? a = some { cls := .type "list", data := .seq vs.toArray } → IntsAre vs ns → ns.length ≤ n → s₁.gens = #[] →
      codeAny (model l.prog w) callerA (.call (.ref fa) ⟨[.ref a], []⟩) (fun r s' => r = .ok (.ret (.bool true)) ∧ OldK s₁.heap s'.heap ∧ s'.os = s₁.os ∧ AllBare s'.gens) s₁) :
    WalkO q loose XP YP l.row.toRowW d [] (fun f vs => PySem.call f vs) := by
  intro w s₀ s₁ mg mb G Y fa o pm cd doc dV kV ho hd hcd hD hmg hg args vals as hpre hlay hrd hwl hlo
  obtain rfl : dV = .none := Dflts.none hD hdf
  obtain rfl : kV = .none := Dflts.noKw hD
  obtain ⟨a, vs, ns, rfl, rfl, hobj, hints, hlen⟩ := script_of hn hpre hwl
  refine enter_call (codeAny_mono (call w s₀ s₁ mg mb fa o pm cd doc a vs ns G Y ho (fd_plain hd) hcd hmg hobj hints hlen hg) fun r s' hq => ?_)
  obtain ⟨rfl, h2, h3, h4⟩ := hq
  exact ⟨.inl ⟨.bool true, .bool true, [], rfl, fun _ => rfl, .bool true, post_true l _, fun _ => ⟨List.Pairwise.nil, fun _ hm => (nomatch hm)⟩⟩, h2, h3, h4⟩

/-! ### rules over ANY heap (no ledger) from facts about the written part K: the library's own take a ledger (News) for what they write -/
section
variable {prog : Program} {w : World} {A : Around} {E : Value → Shared → Prop} {s : Shared} {K : Frag}

/-! the whole heap as the ledger: makes every rule that writes through a ledger a rule over any heap -/
def ledger (h : Heap) (L d : Addr) : List (Addr × Obj) := (List.range h.objs.size).filterMap fun a => if a = L ∨ a = d then none else (h.get? a).map fun o => (a, o)
end
end Att

namespace L2
open PySem PySem.Spec PyProof.Rows

theorem vals_ints : ∀ {vs : List Value} {ns : List Int}, IntsAre vs ns → Vals (ns.map V.int) vs
  | _, _, .nil => .nil
  | _, _, .cons n t h => .cons ⟨t, rfl⟩ (vals_ints h)

/-- nothing is tracked but the script, known to the object (or it is an object of the module) -/
def Only (H : Hp) : Prop := ∀ b, H b = none ∨ ∃ o xs, H b = some (.frz o (.lst xs))

/-- THE HEAD: the law's promise, at the heap behind the top. F, the promise of the law's def, may use that base is part of the heap (so K.In base, base.Ns mainGlobals mg stand in Mod) -/
theorem law_call {P : Program} {w : World} {K : PySem.W.Frag} {mg mb : Str → Option Value} {CX : CXT} {k : Nat} {fa a : Addr} {fd : FuncData} {x : Str} {sp : Sp} {s₁ : Shared} {vs : List Value} {ns : List Int}
    (KX : K.In s₁.heap) (hns : s₁.heap.Ns mainGlobals mg) (hb : s₁.heap.Ns builtinsNs mb) (hbb : ∀ x : Str, x ≠ "__name__" → mb x = bootBuiltins x) (hlim : s₁.heap.NoLimit) (hg : s₁.gens = #[])
    (ha : s₁.heap.get? a = some { cls := .type "list", data := .seq vs.toArray }) (hi : IntsAre vs ns) (hl : ns.length ≤ sizeLine) (hr : Room k callerA)
    (F : ∀ base : Heap, K.In base → base.Ns mainGlobals mg → FnOk P w K mg base CX k fa fd [x] sp) (hbind : ∀ (s : Shared) (u : Value), BindsTo s fd ⟨[u], []⟩ [(x, u)])
    (hsp : ∀ H : Hp, Only H → SqL K H a (ns.map V.int) → sp [.ref a] H (fun v _ => v = .bl true) fun _ _ _ => False)
    (hCX : ∀ H e s', CX [] H s₁ (fun _ _ _ => False) e s' → False) :
    codeAny (model P w) callerA (.call (.ref fa) ⟨[.ref a], []⟩) (fun r s' => r = .ok (.ret (.bool true)) ∧ OldK s₁.heap s'.heap ∧ s'.os = s₁.os ∧ AllBare s'.gens) s₁ := by
  have rv := vals_ints hi
  have lenV := hi.length
  -- from an abstract heap in which nothing but the script may be tracked
  have core : ∀ H : Hp, Only H → SqL K H a (ns.map V.int) → HOk P w H s₁.heap → (∀ b, H b ≠ none → b = a) → (H a ≠ none → K.lookup a = none) →
      codeAny (model P w) callerA (.call (.ref fa) ⟨[.ref a], []⟩) (fun r s' => r = .ok (.ret (.bool true)) ∧ OldK s₁.heap s'.heap ∧ s'.os = s₁.os ∧ AllBare s'.gens) s₁ := by
    intro H hO hS hok hA hK
    have base_of : ∀ {b : Addr} {o : Obj}, s₁.heap.get? b = some o → H b = none → (hidT s₁.heap H).get? b = some o := fun e n => hidT_get e n
    have noA : ∀ {b : Addr} {o : Obj} {es : Array DictEntry} {ep : Nat}, s₁.heap.get? b = some o → o.data = .dict es ep → H b = none := fun {b o es ep} e d => by
      cases q : H b with
      | none => rfl
      | some u =>
        have e' : b = a := hA b (by rw [q]; simp)
        subst e'
        rw [ha] at e; cases e
        have d' : Data.seq vs.toArray _ = Data.dict es ep := d
        cases d'
    have nsK : ∀ {b : Addr} {m : Str → Option Value}, s₁.heap.Ns b m → (hidT s₁.heap H).Ns b m := fun {b m} ⟨o, es, ep, e, d, r⟩ => ⟨o, es, ep, base_of e (noA e d), d, r⟩
    have hKb : K.In (hidT s₁.heap H) := fun b o e => base_of (KX b o e) (by
      cases q : H b with
      | none => rfl
      | some u =>
        have e' : b = a := hA b (by rw [q]; simp)
        subst e'
        rw [hK (by rw [q]; simp)] at e; cases e)
    have hM : Mod K mg (hidT s₁.heap H) := ⟨hKb, nsK hns, ⟨mb, nsK hb, hbb⟩, let ⟨mc, h1, h2⟩ := hlim; ⟨mc, nsK h1, h2⟩⟩
    have e0 : Env0 P w K mg (hidT s₁.heap H) callerA [] s₁ H := ⟨rfl, hM, fun b o e => of_hidT e, Nat.le_of_eq (hidT_size _ _), trivial, fun b hb => absurd (show b ∈ ([] : List Addr) from hb) (by simp), hok, .of_eq hg⟩
    refine codeAny_mono ((F _ hKb (nsK hns)).run callerA [] s₁ H ⟨[.ref a], []⟩ [.ref a] [.ref a] _ _ hr e0 (hbind s₁ (.ref a)) (.cons rfl .nil) (hsp H hO hS)) fun r s' h => ?_
    cases r with
    | error e => exact (hCX H e s' h).elim
    | ok fl =>
      cases fl with
      | next => exact False.elim h
      | brk => exact False.elim h
      | cont => exact False.elim h
      | ret u =>
        obtain ⟨v, H', os, bare, un, hok', r', q⟩ := h
        have q' : v = .bl true := q
        subst q'
        obtain rfl : u = Value.bool true := r'
        refine ⟨rfl, OldK.of_keep fun b o e => ?_, os, bare⟩
        cases q : H b with
        | none => exact un.keep b o e q (by intro z; exact absurd (show b ∈ ([] : List Addr) from z) (by simp)) (by simp)
        | some u =>
          rcases hO b with z | ⟨ob, xs, z⟩
          · rw [q] at z; cases z
          · have z2 := un.frzs b ob _ z
            obtain ⟨e1, _⟩ := hok b _ z
            obtain ⟨e2, _⟩ := hok' b _ z2
            rw [e] at e1; cases e1
            exact e2
  cases hk : K.lookup a with
  | some o =>
    -- the script is one of the module's own objects
    have e := KX a o hk
    rw [ha] at e
    cases e
    refine core (fun _ => none) (fun _ => .inl rfl) (.inr ⟨_, vs.toArray, _, hk, rfl, rfl, rfl, by rw [List.size_toArray, lenV]; exact hl, by simpa using rv⟩) (fun b u z => by have z' : (none : Option HO) = some u := z; cases z') (fun b z => absurd rfl z) fun z => absurd rfl z
  | none =>
    refine core (fun b => if b = a then some (.frz { cls := .type "list", data := .seq vs.toArray } (.lst (ns.map V.int))) else none) (fun b => ?_) (.inl (.inr ⟨{ cls := .type "list", data := .seq vs.toArray }, if_pos rfl⟩)) (fun b u z => ?_) (fun b z => ?_) fun _ => hk
    · by_cases hb : b = a
      · exact .inr ⟨_, _, if_pos hb⟩
      · exact .inl (if_neg hb)
    · by_cases hb : b = a
      · have z' := (if_pos hb).symm.trans z
        cases z'
        subst hb
        exact ⟨ha, by rw [List.length_map]; exact hl, vs, _, rv, ha⟩
      · have z' := (if_neg hb).symm.trans z
        cases z'
    · by_cases hb : b = a
      · exact hb
      · exact absurd (if_neg hb) z
end L2

namespace L2
open PySem PySem.Spec PyProof.Rows

/-- the goal that k_head leaves (case hc), from the law's promise. F gives the function object fd (K's own) once, then the promise over every base -/
theorem walk_of {l : PySem.W.OpenLaw} {n k : Nat} {q : Program} {loose : List Str} {XP : (Str → Option Value) → Heap → Prop} {YP : World → Heap → Prop} {d : DefRec} {K : Params → PySem.W.Frag} {CX : World → CXT} {sp : World → Sp} {x : Str}
    (hn : l.most = some n) (hn2 : n ≤ sizeLine) (hdf : d.params.defaults = []) (hr : Room k callerA)
    (hY : ∀ (w : World) (h : Heap), YP w h → (K w.params).In h)
    (F : ∀ (w : World) (mg : Str → Option Value) (fa : Addr) (h : Heap), (K w.params).In h → h.Ns mainGlobals mg → mg d.name = some (.ref fa) →
      ∃ fd : FuncData, (∀ (s : Shared) (u : Value), BindsTo s fd ⟨[u], []⟩ [(x, u)]) ∧
        ∀ base : Heap, (K w.params).In base → base.Ns mainGlobals mg → FnOk l.prog w (K w.params) mg base (CX w) k fa fd [x] (sp w))
    (hsp : ∀ (w : World) (H : Hp) (a : Addr) (ns : List Int), ns.length ≤ n → Only H → SqL (K w.params) H a (ns.map V.int) → sp w [.ref a] H (fun v _ => v = .bl true) fun _ _ _ => False)
    (hCX : ∀ (w : World) (H : Hp) (s : Shared) (e : Value) (s' : Shared), CX w [] H s (fun _ _ _ => False) e s' → False) :
    PySem.W.WalkO q loose XP YP l.row.toRowW d [] (fun f vs => PySem.call f vs) := by
  refine Att.attach_call hn hdf fun w s₀ s₁ mg mb fa o pm cd doc a vs ns G Y ho hd hcd hmg hobj hints hlen hg => ?_
  have KX := hY w _ Y
  obtain ⟨fd, hb, hF⟩ := F w mg fa _ KX G.T.g hmg
  exact law_call KX G.T.g G.T.b G.T.builtins G.T.nolimit hg hobj hints (Nat.le_trans hlen hn2) hr hF hb (fun H hO hS => hsp w H a ns hlen hO hS) fun H e s' => hCX w H s₁ e s'
end L2


/-! SHORT WORDS over the layer: a def of the text, its body, what a loop and a test want. -/
namespace L2
open PySem PySem.Spec PyProof.Rows

/-! ### the text by places -/
def defArgs (s : Stmt) : Arguments := match s with
  | .FunctionDef _ a _ _ _ _ _ _ _ _ => a
  | _ => { posonlyargs := [], args := [], vararg := none, kwonlyargs := [], kw_defaults := [], kwarg := none, defaults := [] }
def defBody (s : Stmt) : List Stmt := match s with
  | .FunctionDef _ _ b _ _ _ _ _ _ _ => b
  | _ => []
def defScope (s : Stmt) : Scope := match s with
  | .FunctionDef _ _ _ _ _ _ sc _ _ _ => sc
  | _ => { kind := .function, names := [], isGenerator := false, isCoroutine := false }

/-! ### no exception leaves a def -/
abbrev CX0 : CXT := fun _ _ _ _ _ _ => False
abbrev E0 : XK := fun _ _ _ => False
theorem pass0 {X : Cx} : Passes CX0 X E0 := fun _ _ _ _ _ _ _ h => h.elim

/-! ### a def (or method) of the text as it stands behind the top -/
structure Fun (K : PySem.W.Frag) (x qual : Str) (st : Stmt) (f : Addr) (fd : FuncData) : Prop where
  ex : ∃ (oc : Value) (od : Option Addr) (kV doc pm : Value) (an : Option Addr) (cdv ct : Value) (osl : Array (Option Value)),
    fd = PySem.W.fnOf x qual (defArgs st) (defBody st) (defScope st) .none kV doc pm an cdv ct ∧ K.lookup f = some ⟨oc, od, .func fd, osl⟩ ∧ PySem.W.codeIn K cdv qual = true
  kp : PySem.W.keepIn K (.ref f) = true
section
variable {P : Program} {w : World} {K : PySem.W.Frag} {mg : Str → Option Value} {base : Heap}
/-- THE RULE for a def: its body as a term of rules, and the reading of that term -/
theorem Fun.ok {x qual : Str} {st : Stmt} {f : Addr} {fd : FuncData} {N ps : List Str} {k : Nat} {sp : Sp} (F : Fun K x qual st f fd) (S : FnScope N ps (defScope st)) (len : ∀ vs H Q E, sp vs H Q E → vs.length = ps.length)
    (hbody : ∀ (cdv : Value) (A : Around) (outer : List Env) (s : Shared) (H : Hp) (vs : List V) (Q : VK) (E : XK), Room k (A.deeper (envOfC qual (defScope st) s.heap.objs.size f cdv)) → sp vs H Q E →
      ∃ t, PSs (cxOf CX0 P w K mg base N qual (defScope st) f cdv A outer s H E).nox (defBody st) t ∧ t { nx := fun _ H' => Q .non H', rt := Q } (start N vs) H) : FnOk P w K mg base CX0 (k + 1) f fd ps sp := by
  obtain ⟨oc, od, kV, doc, pm, an, cdv, ct, osl, rfl, lk, hcd⟩ := F.ex
  refine fn_of lk hcd S len fun A outer s H vs Q E hr hsp => ?_
  obtain ⟨t, h, q⟩ := hbody cdv A outer s H vs Q E hr hsp
  exact ⟨t, h.nox, q⟩
/-- how its arguments bind (no defaults): h is «fun _ _ _ _ _ _ us hl => match us, hl with | [_, _], _ => rfl», one _ a parameter -/
theorem Fun.binds {x qual : Str} {st : Stmt} {f : Addr} {fd : FuncData} {ps : List Str} (F : Fun K x qual st f fd)
    (h : ∀ (kV doc pm : Value) (an : Option Addr) (cdv ct : Value) (us : List Value), us.length = ps.length → bindArgs (PySem.W.fnOf x qual (defArgs st) (defBody st) (defScope st) .none kV doc pm an cdv ct) ⟨us, []⟩ = pure (ps.zip us)) : Binds K fd ps [] := by
  obtain ⟨oc, od, kV, doc, pm, an, cdv, ct, osl, rfl, lk, hcd⟩ := F.ex
  exact .all (h kV doc pm an cdv ct)
theorem fun_mk {x qual : Str} {st : Stmt} {f : Addr} {oc : Value} {od an : Option Addr} {osl : Array (Option Value)} {kV doc pm cdv ct : Value} (l : K.lookup f = some ⟨oc, od, .func (PySem.W.fnOf x qual (defArgs st) (defBody st) (defScope st) .none kV doc pm an cdv ct), osl⟩)
    (c : PySem.W.codeIn K cdv qual = true) (k : PySem.W.keepIn K (.ref f) = true) : Fun K x qual st f (PySem.W.fnOf x qual (defArgs st) (defBody st) (defScope st) .none kV doc pm an cdv ct) := ⟨⟨oc, od, kV, doc, pm, an, cdv, ct, osl, rfl, l, c⟩, k⟩
end
theorem hu_of {A : Around} {k : Nat} (hr : Room k A) : A.units + 1 < cLine := Nat.lt_of_le_of_lt (Nat.add_le_add_left (by decide : 1 ≤ 64) _) hr.units
theorem small1000 {n : Nat} (h : n ≤ 1000) : n < sizeLine := Nat.lt_of_le_of_lt h (by decide)

/-! ### expressions in short: the name that stands in the i-th slot -/
section
variable {X : Cx}
end

/-! ### tests -/
theorem iteF {A B : Prop} (h : B) : if false = true then A else B := by
  rw [if_neg Bool.false_ne_true]
  exact h
theorem iteT {A B : Prop} (h : A) : if true = true then A else B := by
  rw [if_pos rfl]
  exact h
theorem ite2 {c A B : Prop} [Decidable c] (h1 : c → A) (h2 : ¬ c → B) : if c then A else B := by
  by_cases h : c
  · rw [if_pos h]
    exact h1 h
  · rw [if_neg h]
    exact h2 h
/-! ### heaps -/
/-- all that was tracked is as it was -/
def Same (H H' : Hp) : Prop := ∀ b o, H b = some o → H' b = some o
theorem Same.refl (H : Hp) : Same H H := fun _ _ h => h
theorem Same.trans {H H1 H2 : Hp} (a : Same H H1) (b : Same H1 H2) : Same H H2 := fun c o h => b c o (a c o h)
theorem Same.free {H H' : Hp} (e : Same H H') {l : Addr} (h : H' l = Option.none) : H l = Option.none := by
  cases q : H l with
  | none => rfl
  | some o =>
    rw [e l o q] at h
    cases h
theorem Same.seq {K : PySem.W.Frag} {H H' : Hp} {a : Addr} {xs : List V} (e : Same H H') (h : SqL K H a xs) : SqL K H' a xs := by
  rcases h with (h | ⟨o, h⟩) | h
  · exact .inl (.inl (e _ _ h))
  · exact .inl (.inr ⟨o, e _ _ h⟩)
  · exact .inr h

/-! ### a dict's pairs: keys that differ -/
section
variable {κ : Type} [DecidableEq κ]
end
end L2


set_option Elab.async false
set_option linter.all false
set_option maxRecDepth 100000
namespace L2
open PySem PySem.Spec PyProof.Rows
section
variable {X : Cx}
/-- isinstance(x, T) of one built-in type -/
theorem call_isinst : CallR X (.builtin "isinstance") (fun xs H Q => ∃ x T t b, xs = [x, .ty T] ∧ TyOf X.K H x t ∧ PySem.W.kitOne X.K t (.type T) = some b ∧ Q (.bl b) H) := by
  intro pins s σ H xs us Q I r h
  obtain ⟨x, T, t, b, rfl, ty, e, q⟩ := h
  obtain ⟨u, c, rfl, ru, rc⟩ := vals2 r
  cases rc
  exact isinst_ok I ru ty e fun tk => ⟨.bl b, H, I.tok tk, rfl, q⟩
theorem op_isnot_bl : OpR X (compareOp .IsNot) (fun x y H Q => ∃ a b, x = .bl a ∧ y = .bl b ∧ Q (.bl (a != b)) H) := by
  intro pins s σ H x y v u Q I rx ry h
  obtain ⟨a, b, rfl, rfl, q⟩ := h
  cases rx
  cases ry
  exact isnot_bool ⟨.bl _, H, I, rfl, q⟩
/-- t + u of any two tuples: some tuple of both -/
def rCatA (K : PySem.W.Frag) : R2 := fun x y H Q => ∃ a b xs ys, x = .ref a ∧ y = .ref b ∧ H a = some (.tup xs) ∧ H b = some (.tup ys) ∧ xs.length + ys.length ≤ sizeLine ∧
  ∀ p H', H' p = some (.tup (xs ++ ys)) → Same H H' → Q (.ref p) H'
theorem op_catA : OpR X (binaryOp .Add) (rCatA X.K) := by
  intro pins s σ H x y v u Q I rx ry h
  obtain ⟨a, b, xs, ys, rfl, rfl, ha, hb, hz, q⟩ := h
  by_cases hx : xs = []
  · subst hx
    cases rx
    cases ry
    obtain ⟨its, r1, p1, _⟩ := I.tuple (.of ha)
    obtain ⟨its2, r2, p2, _⟩ := I.tuple (.of hb)
    obtain ⟨⟨cls, dd, data, sl⟩, ho, hc, n, hd⟩ := id p1
    obtain ⟨⟨cls2, dd2, data2, sl2⟩, ho2, hc2, n2, hd2⟩ := id p2
    simp only at hc hd hc2 hd2
    subst hc hd hc2 hd2
    have hi : its = [] := r1.nil_iff.mpr rfl
    exact concat_meets ⟨_, ho, rfl⟩ ⟨_, ho2, rfl⟩ noFill_tuple_add seq_tuple_add PySem.F.slot_tuple_add PySem.F.entry_tuple_add (PySem.F.args_tuple_add_2 _ _)
      (tuple_addW0 a b its.toArray its2.toArray n n2 dd dd2 sl sl2 (by simp [hi])) ⟨ho, ho2, ⟨.ref b, H, I, rfl, q b H hb fun _ _ e => e⟩⟩
  · refine op_catT pins s σ H _ _ v u Q I rx ry ⟨a, b, xs, ys, rfl, rfl, .of ha, .of hb, hx, hz, fun e => ?_, fun e p hp => ?_⟩
    · subst e
      exact q a H (by rw [List.append_nil]; exact ha) fun _ _ e => e
    · exact q p _ upd_same fun c o e => by rw [upd_ne (ne_of_none e hp)]; exact e
end
section
variable {X : Cx}
end
end L2


set_option Elab.async false
set_option linter.all false
set_option maxRecDepth 100000
namespace HT
open PySem PySem.Spec PyProof.Rows
section
variable {prog : Program} {w : World} {A : Around} {E : Value → Shared → Prop} {s : Shared}
theorem getItem_tuple_whole {t sl : Addr} {items : Array Value} {vl vu : Value} {lo hi : Option Int} {Q : Value → Shared → Prop} (ht : IsTup s.heap t items) (hs : s.heap.IsSliceOf sl vl vu .none) (pl : IsPart vl lo) (pu : IsPart vu hi)
    (hw : sIx items.size 0 lo = 0 ∧ sIx items.size items.size hi = items.size) (h : Q (.ref t) s) (hsz : items.size ≤ sizeLine) : wpAny (model prog w) A (getItem (.ref t) (.ref sl)) Q E s := by
  obtain ⟨os, hos, hcs, hds⟩ := id hs
  have hTs : s.TypeIs (.ref sl) "slice" := ⟨os, hos, hcs⟩
  unfold getItem
  try with_reducible refine wpAny_holding ?_
  first | refine wpAny_bind (wpAny_pure ?_) | skip
  refine wpAny_bind (wpAny_sequenceKey ht.typeIs (by decide) ?_)
  refine wpAny_bind (wpAny_callSpecial?_slot (name := Str.ofString "__getitem__") ht.typeIs PyProof.Rows.slot_tuple_getitem
    (wpAny_call_entry PyProof.Rows.slot_tuple_getitem ht.typeIs entry_tuple_getitem ?_ (args_tuple_getitem _ _)))
  show wpAny _ _ (Builtin.Tuple.tupleItemsOf (.ref t) >>= _) _ _ s
  refine wpAny_bind (tupleItemsOf_ ht ?_)
  refine wpAny_bind (wpAny_typeOf hTs ?_)
  rw [if_pos (by decide)]
  refine wpAny_bind (sliceApplied_gen hs pl pu ?_)
  have hyes : (((sIx items.size 0 lo : Nat) : Int) == 0 && (1 : Int) == 1 && (sIx items.size items.size hi - sIx items.size 0 lo) == items.size) = true := by
    rw [hw.1, hw.2]
    simp
  show wpAny _ _ (if (((sIx items.size 0 lo : Nat) : Int) == 0 && (1 : Int) == 1 && (sIx items.size items.size hi - sIx items.size 0 lo) == items.size) = true then _ else _) _ _ s
  rw [if_pos hyes]
  unfold Builtin.Tuple.tupleIsExact
  refine wpAny_bind (wpAny_bind (wpAny_typeOf ht.typeIs ?_))
  refine wpAny_pure ?_
  rw [if_pos (by decide)]
  refine wpAny_bind (wpAny_rule ?_)
  exact wpAny_pure ⟨_, rfl, wpAny_pure h⟩
end
end HT
namespace L2
open PySem PySem.Spec PyProof.Rows
section
variable {X : Cx}
/-- t[lo:hi] of any tuple: some tuple of these items -/
def rSlA : V → Option Int → Option Int → Hp → VK → Prop := fun x lo hi H Q => ∃ a xs, x = .ref a ∧ H a = some (.tup xs) ∧ ∀ p H', H' p = some (.tup (cutV xs lo hi)) → Same H H' → Q (.ref p) H'
theorem sl_tupA : SlR X rSlA := by
  intro pins s σ H x v vl vu lo hi sl Q I rx hs pl pu h
  obtain ⟨a, xs, rfl, ha, q⟩ := h
  by_cases hw : HT.sIx xs.length 0 lo = 0 ∧ HT.sIx xs.length xs.length hi = xs.length
  · cases rx
    obtain ⟨its, r, ht, hz⟩ := I.tuple (.of ha)
    have hlen : its.toArray.size = xs.length := by rw [List.size_toArray]; exact r.length.symm
    refine ⟨"tuple", _, PyProof.Rows.slot_tuple_getitem.lookup, ht.typeIs, ?_⟩
    refine HT.getItem_tuple_whole ht hs pl pu (by rw [hlen]; exact hw) ⟨.ref a, H, I, rfl, q a H ?_ fun _ _ e => e⟩ (by rw [hlen]; exact hz)
    unfold cutV
    rw [hw.1, hw.2, List.drop_zero, Nat.sub_zero, List.take_length]
    exact ha
  · exact sl_tup pins s σ H _ v vl vu lo hi sl Q I rx hs pl pu ⟨a, xs, rfl, .of ha, hw, fun p hp => q p _ upd_same fun c o e => by rw [upd_ne (ne_of_none e hp)]; exact e⟩

/-! ### deep data -/
/-- what a value is, whatever lies where -/
inductive Dt where
  | non | bl (b : Bool) | int (i : Int) | str (x : Str) | tup (l : List Dt) | lst (l : List Dt) | dct
mutual
def Is (H : Hp) : Dt → V → Prop
  | .non, v => v = .non
  | .bl b, v => v = .bl b
  | .int i, v => v = .int i
  | .str x, v => v = .str x
  | .tup l, v => ∃ a xs, v = .ref a ∧ H a = some (.tup xs) ∧ IsL H l xs
  | .lst l, v => ∃ a xs, v = .ref a ∧ H a = some (.lst xs) ∧ IsL H l xs
  | .dct, v => ∃ a kvs, v = .ref a ∧ H a = some (.dK kvs) ∧ valV kvs (Sum.inr "at" : Key) = none
def IsL (H : Hp) : List Dt → List V → Prop
  | [], xs => xs = []
  | d :: ds, xs => ∃ x r, xs = x :: r ∧ Is H d x ∧ IsL H ds r
end
/-- data stays: tuples, lists and dicts but pens are as they were -/
def Stay (H H' : Hp) : Prop := ∀ b o, H b = some o → (∀ kvs, o = .dK kvs → valV kvs (Sum.inr "at" : Key) = none) → H' b = some o
theorem Stay.refl (H : Hp) : Stay H H := fun _ _ e _ => e
theorem Stay.trans {H H1 H2 : Hp} (a : Stay H H1) (b : Stay H1 H2) : Stay H H2 := fun c o e n => b c o (a c o e n) n
theorem Stay.same {H H1 : Hp} (a : Same H H1) : Stay H H1 := fun c o e _ => a c o e
theorem Stay.upd {H : Hp} {p : Addr} {o : HO} (h : H p = none) : Stay H (upd H p o) := fun c u e _ => by rw [upd_ne (ne_of_none e h)]; exact e
theorem Same.upd {H : Hp} {p : Addr} {o : HO} (h : H p = none) : Same H (upd H p o) := fun c u e => by rw [upd_ne (ne_of_none e h)]; exact e
theorem Stay.tup {H H1 : Hp} (a : Stay H H1) {p : Addr} {xs : List V} (h : H p = some (.tup xs)) : H1 p = some (.tup xs) := a _ _ h fun _ e => by cases e
theorem Stay.lst {H H1 : Hp} (a : Stay H H1) {p : Addr} {xs : List V} (h : H p = some (.lst xs)) : H1 p = some (.lst xs) := a _ _ h fun _ e => by cases e
mutual
theorem Is.stay {H H1 : Hp} (a : Stay H H1) : ∀ {d : Dt} {v : V}, Is H d v → Is H1 d v
  | .non, _, h => h
  | .bl _, _, h => h
  | .int _, _, h => h
  | .str _, _, h => h
  | .tup l, v, h => by
    obtain ⟨p, xs, e, hp, hl⟩ := h
    exact ⟨p, xs, e, a.tup hp, IsL.stay a hl⟩
  | .lst l, v, h => by
    obtain ⟨p, xs, e, hp, hl⟩ := h
    exact ⟨p, xs, e, a.lst hp, IsL.stay a hl⟩
  | .dct, v, h => by
    obtain ⟨p, kvs, e, hp, hl⟩ := h
    exact ⟨p, kvs, e, a _ _ hp fun kvs' e => by cases e; exact hl, hl⟩
theorem IsL.stay {H H1 : Hp} (a : Stay H H1) : ∀ {ds : List Dt} {xs : List V}, IsL H ds xs → IsL H1 ds xs
  | [], _, h => h
  | d :: ds, xs, h => by
    obtain ⟨x, r, e, h1, h2⟩ := h
    exact ⟨x, r, e, Is.stay a h1, IsL.stay a h2⟩
end
theorem IsL.length {H : Hp} : ∀ {ds : List Dt} {xs : List V}, IsL H ds xs → xs.length = ds.length
  | [], _, h => by cases h; rfl
  | d :: ds, xs, h => by
    obtain ⟨x, r, rfl, _, h2⟩ := h
    rw [List.length_cons, List.length_cons, IsL.length h2]
theorem IsL.get {H : Hp} : ∀ {ds : List Dt} {xs : List V} {i : Nat} {x : V}, IsL H ds xs → xs[i]? = some x → ∃ d, ds[i]? = some d ∧ Is H d x
  | [], _, _, _, h, e => by cases h; simp at e
  | d :: ds, xs, i, x, h, e => by
    obtain ⟨y, r, rfl, h1, h2⟩ := h
    cases i with
    | zero => simp at e; subst e; exact ⟨d, rfl, h1⟩
    | succ i =>
      obtain ⟨d', q1, q2⟩ := IsL.get (i := i) (x := x) h2 (by simpa using e)
      exact ⟨d', by simpa using q1, q2⟩
theorem IsL.getD {H : Hp} : ∀ {ds : List Dt} {xs : List V} {i : Nat} {d : Dt}, IsL H ds xs → ds[i]? = some d → ∃ x, xs[i]? = some x ∧ Is H d x
  | [], _, _, _, _, e => by simp at e
  | d :: ds, xs, i, x, h, e => by
    obtain ⟨y, r, rfl, h1, h2⟩ := h
    cases i with
    | zero => simp at e; subst e; exact ⟨y, rfl, h1⟩
    | succ i =>
      obtain ⟨d', q1, q2⟩ := IsL.getD (i := i) (d := x) h2 (by simpa using e)
      exact ⟨d', by simpa using q1, q2⟩
theorem IsL.append {H : Hp} : ∀ {ds es : List Dt} {xs ys : List V}, IsL H ds xs → IsL H es ys → IsL H (ds ++ es) (xs ++ ys)
  | [], _, _, _, h, k => by cases h; exact k
  | d :: ds, es, xs, ys, h, k => by
    obtain ⟨y, r, rfl, h1, h2⟩ := h
    exact ⟨y, r ++ ys, rfl, h1, IsL.append h2 k⟩
theorem IsL.take {H : Hp} : ∀ {ds : List Dt} {xs : List V} (n : Nat), IsL H ds xs → IsL H (ds.take n) (xs.take n)
  | _, _, 0, _ => by simp [IsL]
  | [], _, n + 1, h => by cases h; simp [IsL]
  | d :: ds, xs, n + 1, h => by
    obtain ⟨y, r, rfl, h1, h2⟩ := h
    exact ⟨y, r.take n, rfl, h1, IsL.take n h2⟩
theorem IsL.drop {H : Hp} : ∀ {ds : List Dt} {xs : List V} (n : Nat), IsL H ds xs → IsL H (ds.drop n) (xs.drop n)
  | _, _, 0, h => h
  | [], _, n + 1, h => by cases h; simp [IsL]
  | d :: ds, xs, n + 1, h => by
    obtain ⟨y, r, rfl, h1, h2⟩ := h
    exact IsL.drop n h2
theorem IsL.one {H : Hp} {d : Dt} {x : V} (h : Is H d x) : IsL H [d] [x] := ⟨x, [], rfl, h, rfl⟩
theorem IsL.ints {H : Hp} : ∀ {ns : List Int}, IsL H (ns.map .int) (ns.map .int)
  | [] => rfl
  | n :: ns => ⟨_, _, rfl, rfl, IsL.ints⟩
theorem IsL.of_ints {H : Hp} : ∀ {ns : List Int} {xs : List V}, IsL H (ns.map .int) xs → xs = ns.map .int
  | [], _, h => h
  | n :: ns, xs, h => by
    obtain ⟨y, r, rfl, h1, h2⟩ := h
    cases h1
    rw [IsL.of_ints h2]
    rfl
/-- the type of a datum -/
def Dt.ty : Dt → String
  | .non => "NoneType" | .bl _ => "bool" | .int _ => "int" | .str _ => "str" | .tup _ => "tuple" | .lst _ => "list" | .dct => "dict"
theorem Is.ty {K : PySem.W.Frag} {H : Hp} : ∀ {d : Dt} {v : V}, Is H d v → TyOf K H v (.type d.ty)
  | .non, _, h => by cases h; exact .non
  | .bl _, _, h => by cases h; exact .bl _
  | .int _, _, h => by cases h; exact .int _
  | .str _, _, h => by cases h; exact .str _
  | .tup l, v, h => by obtain ⟨p, xs, rfl, hp, hl⟩ := h; exact .tup hp
  | .lst l, v, h => by obtain ⟨p, xs, rfl, hp, hl⟩ := h; exact .lst hp
  | .dct, v, h => by obtain ⟨p, xs, rfl, hp, hl⟩ := h; exact .dK hp
def Dt.isTup : Dt → Bool
  | .tup _ => true | _ => false
def Dt.isInt : Dt → Bool
  | .int _ => true | .bl _ => true | _ => false
def Dt.isBl : Dt → Bool
  | .bl _ => true | _ => false
def Dt.isWhole : Dt → Bool
  | .int _ => true | _ => false
theorem kit_tup (K : PySem.W.Frag) (d : Dt) : PySem.W.kitOne K (.type d.ty) (.type "tuple") = some d.isTup := by cases d <;> rfl
theorem kit_int (K : PySem.W.Frag) (d : Dt) : PySem.W.kitOne K (.type d.ty) (.type "int") = some d.isInt := by cases d <;> rfl
theorem kit_bl (K : PySem.W.Frag) (d : Dt) : PySem.W.kitOne K (.type d.ty) (.type "bool") = some d.isBl := by cases d <;> rfl
end
end L2


set_option Elab.async false
set_option linter.all false
set_option maxRecDepth 100000
namespace L2
open PySem PySem.Spec PyProof.Rows
/-! ### what a comprehension's frame captures -/
def capL (env : Env) : List (Str × NameKind) → List (Str × Addr) → List (Str × Addr)
  | [], cs => cs
  | x :: r, cs => capL env r (if (x.2 == NameKind.free) = true then (x.1, (env.cells.lookup x.1).getD 0) :: cs else cs)
theorem closure_of {env : Env} {scope : Scope} (h : ∀ x ∈ scope.names, x.2 = .free → ∃ c, env.cells.lookup x.1 = some c) : closureFor scope env = pure (capL env scope.names []) := by
  have gen : ∀ (names : List (Str × NameKind)) (cs : List (Str × Addr)), (∀ x ∈ names, x.2 = .free → ∃ c, env.cells.lookup x.1 = some c) →
      (forIn names cs (fun x r => match x with
        | (name, kind) => if (kind == NameKind.free) = true then do let a ← cellOf env name; pure (ForInStep.yield ((name, a) :: r)) else pure (ForInStep.yield r)) : Sem (List (Str × Addr))) = pure (capL env names cs) := by
    intro names
    induction names with
    | nil => intro cs _; rfl
    | cons x r ih =>
      intro cs hh
      obtain ⟨n, k⟩ := x
      rw [List.forIn_cons]
      by_cases hk : (k == NameKind.free) = true
      · obtain ⟨c, hc⟩ := hh (n, k) List.mem_cons_self (eq_of_beq hk)
        have hc' : env.cells.lookup n = some c := hc
        have e : cellOf env n = pure c := by unfold cellOf; rw [hc']
        simp only [hk, if_true, e, pure_bind]
        rw [ih _ fun y hy => hh y (List.mem_cons_of_mem _ hy)]
        show pure _ = pure (capL env r (if (k == NameKind.free) = true then (n, (env.cells.lookup n).getD 0) :: cs else cs))
        rw [if_pos hk, hc']
        rfl
      · simp only [hk, pure_bind]
        have e2 : capL env ((n, k) :: r) cs = capL env r cs := by
          show capL env r (if (k == NameKind.free) = true then _ else cs) = _
          rw [if_neg hk]
        rw [e2]
        exact ih _ fun y hy => hh y (List.mem_cons_of_mem _ hy)
  unfold closureFor
  have := gen scope.names [] h
  simpa using this
theorem capL_some {env : Env} : ∀ {names : List (Str × NameKind)} {cs : List (Str × Addr)} {x : Str} {c : Addr}, (∀ y ∈ names, y.2 = .free → ∃ c, env.cells.lookup y.1 = some c) → (capL env names cs).lookup x = some c → env.cells.lookup x = some c ∨ cs.lookup x = some c
  | [], _, _, _, _, h => .inr h
  | (n, k) :: r, cs, x, c, hh, h => by
    have ih := capL_some (names := r) (x := x) (c := c) (fun y hy => hh y (List.mem_cons_of_mem _ hy)) h
    rcases ih with ih | ih
    · exact .inl ih
    · by_cases hk : (k == NameKind.free) = true
      · obtain ⟨c', hc⟩ := hh (n, k) List.mem_cons_self (eq_of_beq hk)
        have hc' : env.cells.lookup n = some c' := hc
        rw [if_pos hk, hc'] at ih
        rw [List.lookup_cons] at ih
        cases e : x == n with
        | true =>
          rw [e] at ih
          have := eq_of_beq e
          subst this
          have ih' : some c' = some c := ih
          cases ih'
          exact .inl hc'
        | false =>
          rw [e] at ih
          exact .inr ih
      · rw [if_neg hk] at ih
        exact .inr ih
theorem capL_keeps {env : Env} : ∀ {names : List (Str × NameKind)} {cs : List (Str × Addr)} {x : Str}, (∃ c, cs.lookup x = some c) → ∃ c, (capL env names cs).lookup x = some c
  | [], _, _, h => h
  | (n, k) :: r, cs, x, h => by
    refine capL_keeps (names := r) ?_
    by_cases hk : (k == NameKind.free) = true
    · rw [if_pos hk, List.lookup_cons]
      cases e : x == n with
      | true => exact ⟨_, rfl⟩
      | false => exact h
    · rw [if_neg hk]
      exact h
theorem capL_has {env : Env} : ∀ {names : List (Str × NameKind)} {cs : List (Str × Addr)} {x : Str}, names.lookup x = some .free → ∃ c, (capL env names cs).lookup x = some c
  | [], _, _, h => by simp at h
  | (n, k) :: r, cs, x, h => by
    rw [List.lookup_cons] at h
    cases e : x == n with
    | true =>
      rw [e] at h
      have h' : some k = some NameKind.free := h
      cases h'
      refine capL_keeps (names := r) ?_
      rw [if_pos (by rfl), List.lookup_cons, e]
      exact ⟨_, rfl⟩
    | false =>
      rw [e] at h
      exact capL_has (names := r) h
theorem lookup_relabel_back {env : Env} : ∀ {names : List (Str × NameKind)} {x : Str} {k : NameKind}, (∀ y ∈ names, y.2 ≠ .cell) →
    (names.map fun (n, k) => if (k == NameKind.free && env.scope.kind == .function && env.kindOf n == some .cell) then (n, NameKind.cell) else (n, k)).lookup x = some k → (k = .cell ∨ k = .free) → names.lookup x = some .free
  | [], _, _, _, h, _ => by simp at h
  | (n, k) :: r, x, k', hc, h, hk => by
    have ih := @lookup_relabel_back env r x k' (fun y hy => hc y (List.mem_cons_of_mem _ hy))
    rw [List.map_cons] at h
    rw [List.lookup_cons]
    by_cases hcond : (k == NameKind.free && env.scope.kind == .function && env.kindOf n == some .cell) = true
    · have h' : List.lookup x ((n, NameKind.cell) :: r.map fun (n, k) => if (k == NameKind.free && env.scope.kind == .function && env.kindOf n == some .cell) then (n, NameKind.cell) else (n, k)) = some k' := by
        have := h
        simp only [hcond, if_true] at this
        exact this
      rw [List.lookup_cons] at h'
      cases e : x == n with
      | true =>
        have : k = .free := by
          rw [Bool.and_eq_true, Bool.and_eq_true] at hcond
          exact eq_of_beq hcond.1.1
        subst this
        rfl
      | false =>
        rw [e] at h'
        exact ih h' hk
    · have h' : List.lookup x ((n, k) :: r.map fun (n, k) => if (k == NameKind.free && env.scope.kind == .function && env.kindOf n == some .cell) then (n, NameKind.cell) else (n, k)) = some k' := by
        have := h
        simp only [hcond] at this
        exact this
      rw [List.lookup_cons] at h'
      cases e : x == n with
      | true =>
        rw [e] at h'
        have h2 : some k = some k' := h'
        cases h2
        rcases hk with hk | hk
        · exact absurd hk (hc (n, k) List.mem_cons_self)
        · subst hk; rfl
      | false =>
        rw [e] at h'
        exact ih h' hk
theorem lookup_relabel_free {env : Env} : ∀ {names : List (Str × NameKind)} {x : Str}, names.lookup x = some .free →
    (names.map fun (n, k) => if (k == NameKind.free && env.scope.kind == .function && env.kindOf n == some .cell) then (n, NameKind.cell) else (n, k)).lookup x = some .cell ∨
    (names.map fun (n, k) => if (k == NameKind.free && env.scope.kind == .function && env.kindOf n == some .cell) then (n, NameKind.cell) else (n, k)).lookup x = some .free
  | [], _, h => by simp at h
  | (n, k) :: r, x, h => by
    have ih := @lookup_relabel_free env r x
    rw [List.lookup_cons] at h
    rw [List.map_cons]
    cases e : x == n with
    | true =>
      rw [e] at h
      have h' : some k = some NameKind.free := h
      cases h'
      by_cases hcond : ((NameKind.free == NameKind.free) && env.scope.kind == .function && env.kindOf n == some .cell) = true
      · left; simp only [hcond, if_true]; rw [List.lookup_cons, e]
      · right; simp only [hcond]; rw [if_neg Bool.false_ne_true, List.lookup_cons, e]
    | false =>
      rw [e] at h
      have h' : r.lookup x = some NameKind.free := h
      by_cases hcond : ((k == NameKind.free) && env.scope.kind == .function && env.kindOf n == some .cell) = true
      · simp only [hcond, if_true]; rw [List.lookup_cons, e]; exact ih h'
      · simp only [hcond]; rw [if_neg Bool.false_ne_true, List.lookup_cons, e]; exact ih h'
end L2


set_option Elab.async false
set_option linter.all false
set_option maxRecDepth 100000
namespace L2
open PySem PySem.Spec PyProof.Rows
/-- the context of a comprehension's own frame -/
def compCx (X : Cx) (scope : Scope) (N : List Str) (C : Addr) (s : Shared) (H : Hp) (ex : List Addr) : Cx where
  prog := X.prog
  w := X.w
  K := X.K
  mg := X.mg
  base := X.base
  A := X.A
  N := N
  s₀ := s
  H₀ := H
  env := compEnvC scope (capL X.env scope.names []) C X.env
  outer := X.stack
  stack := X.stack
  ex := ex
  fn := fun _ => false
  calm := X.calm
  pn := []
  xe := fun _ _ => False
/-- the captured names' slots: cix tells for each name of the frame none (a target), or the slot outside -/
def caps (XN : List Str) (Xnames names : List (Str × NameKind)) (N : List Str) (cix : List (Option Nat)) : Bool :=
  N.length == cix.length && (names.all fun y => y.2 != .cell) && ((N.zip cix).all fun p => match p.2 with
    | none => true
    | some i => XN[i]? == some p.1 && names.lookup p.1 == some .free && (Xnames.lookup p.1 == some .cell || Xnames.lookup p.1 == some .free)) &&
  (names.all fun y => y.2 != .free || (Xnames.lookup y.1 == some .cell || Xnames.lookup y.1 == some .free))
def capS (σ : St) (cix : List (Option Nat)) : St := cix.map fun o => match o with
  | none => none
  | some i => (σ[i]?).join
structure CompOk (X : Cx) (scope : Scope) (N : List Str) (cix : List (Option Nat)) : Prop where
  kind : scope.kind = .function
  names : ∀ x ∈ scope.names, x.2 = .local → scope.names.lookup x.1 = some .local
  caps : caps X.N X.env.scope.names scope.names N cix = true
section
variable {X : Cx} {pins : List (Addr × Obj)} {σ : St} {H : Hp} {s : Shared} {scope : Scope} {N : List Str} {cix : List (Option Nat)}
theorem CompOk.cell (c : CompOk X scope N cix) : ∀ y ∈ scope.names, y.2 ≠ .cell := fun y hy e => by
  have h := c.caps
  unfold L2.caps at h
  rw [Bool.and_eq_true, Bool.and_eq_true, Bool.and_eq_true] at h
  have := List.all_eq_true.mp h.1.1.2 y hy
  rw [e] at this
  exact absurd this (by decide)
theorem CompOk.len (c : CompOk X scope N cix) : N.length = cix.length := by
  have h := c.caps
  unfold L2.caps at h
  rw [Bool.and_eq_true, Bool.and_eq_true, Bool.and_eq_true] at h
  exact eq_of_beq h.1.1.1
theorem CompOk.cells (c : CompOk X scope N cix) (ok : X.Ok) : ∀ x ∈ scope.names, x.2 = .free → ∃ a, X.env.cells.lookup x.1 = some a := fun x hx e => by
  have h := c.caps
  unfold L2.caps at h
  rw [Bool.and_eq_true] at h
  have q := List.all_eq_true.mp h.2 x hx
  rw [e] at q
  have q' : (X.env.scope.names.lookup x.1 == some NameKind.cell || X.env.scope.names.lookup x.1 == some NameKind.free) = true := by simpa using q
  rcases Bool.or_eq_true_iff.mp q' with q | q
  · exact ok.has _ (.inl (eq_of_beq q))
  · exact ok.has _ (.inr (eq_of_beq q))
theorem CompOk.cap (c : CompOk X scope N cix) {j i : Nat} {x : Str} (h1 : N[j]? = some x) (h2 : cix[j]? = some (some i)) : X.N[i]? = some x ∧ scope.names.lookup x = some .free ∧ (X.env.scope.names.lookup x = some .cell ∨ X.env.scope.names.lookup x = some .free) := by
  have h := c.caps
  unfold L2.caps at h
  rw [Bool.and_eq_true, Bool.and_eq_true] at h
  have hm : (x, some i) ∈ N.zip cix := by
    refine List.mem_of_getElem? (i := j) ?_
    rw [List.getElem?_zip_eq_some]
    exact ⟨h1, h2⟩
  have q := List.all_eq_true.mp h.1.2 _ hm
  simp only [Bool.and_eq_true] at q
  refine ⟨eq_of_beq q.1.1, eq_of_beq q.1.2, ?_⟩
  rcases Bool.or_eq_true_iff.mp q.2 with q | q
  · exact .inl (eq_of_beq q)
  · exact .inr (eq_of_beq q)
/-- the frame of a comprehension has been made -/
theorem inv_comp {fp : List Addr} {h' : Heap} {tk : Nat} {m : Str → Option Value} (I : Inv X pins σ H s) (c : CompOk X scope N cix) (hf : ∀ b ∈ fp, FpOk X pins H b) (hfo : ∀ b ∈ fp, b < s.heap.objs.size)
    (hn : h'.Ns s.heap.objs.size m) (hk : ∀ b o, s.heap.get? b = some o → h'.get? b = some o) :
    Inv (compCx X scope N s.heap.objs.size s H fp) [] (capS σ cix) H { s with heap := h', toks := tk } := by
  have hcl := c.cells I.ok
  have back : ∀ x a, (capL X.env scope.names []).lookup x = some a → X.env.cells.lookup x = some a := fun x a e => by
    rcases capL_some hcl e with z | z
    · exact z
    · simp at z
  refine ⟨⟨I.mod, c.kind, I.ok.glob, I.ok.blt, Nat.le_refl _, fun x y a e1 e2 => I.ok.inj x y a (back x a e1) (back y a e2), fun x hx => ?_, fun x a z _ => absurd (show (false : Bool) = true from z) (by decide), I.ok.hd, I.ok.frames, .inl rfl,
    fun b hb => ⟨Nat.ne_of_lt (hfo b hb), fun x a e => (hf b hb).2.2.2.2.1 x a (back x a e)⟩, I.bs, Nat.le_trans I.ok.bsz I.sz, fun b o e hb => ?_, fun b hb z => ?_, I.stack, I.stkFree⟩,
    I.os ▸ rfl, I.bare, Un.kept hk, ⟨m, hn, fun j x v h1 h2 h3 => ?_⟩, fun x a e => ?_, I.hok.fresh (Nat.le_refl _), fun x a e => I.freeC x a (back x a e), fun p hp => absurd (show p ∈ ([] : List (Addr × Obj)) from hp) (by simp), I.hok.kept hk, ?_⟩
  · have hx' : ((relabel scope X.env).names.lookup x = some .cell ∨ (relabel scope X.env).names.lookup x = some .free) := hx
    rcases hx' with z | z
    · exact capL_has (lookup_relabel_back c.cell z (.inl rfl))
    · exact capL_has (lookup_relabel_back c.cell z (.inr rfl))
  · rcases (hf b hb).2.2.2.1 with z | z
    · exact I.ok.noex b o e z
    · exact absurd (Nat.lt_of_lt_of_le (Heap.lt_size e) (Nat.le_trans I.ok.bsz z)) (Nat.lt_irrefl _)
  · rcases List.mem_cons.mp (I.stkSub b z) with e | e
    · exact (hf b hb).2.1 e
    · exact (hf b hb).2.2.1 e
  · have h1' : N[j]? = some x := h1
    unfold capS at h2
    rw [List.getElem?_map] at h2
    cases e : cix[j]? with
    | none => rw [e] at h2; cases h2
    | some o =>
      rw [e] at h2
      cases o with
      | none => cases h2
      | some i =>
        have h2' : (σ[i]?).join = some v := Option.some.inj h2
        have h2'' : σ[i]? = some (some v) := by
          cases q : σ[i]? with
          | none => rw [q] at h2'; cases h2'
          | some z => rw [q] at h2'; have : z = some v := h2'; rw [this]
        obtain ⟨q1, q2, q3⟩ := c.cap h1' e
        obtain ⟨m0, hn0, hl0⟩ := I.loc
        obtain ⟨u, ru, hu⟩ := hl0 i x v q1 h2'' (q3.elim (fun z => .inr (.inl z)) fun z => .inr (.inr z))
        refine ⟨u, ru, .inr ⟨lookup_relabel_free q2, ?_⟩⟩
        rcases hu with ⟨z, _⟩ | ⟨_, a, ha, hcell⟩
        · have z' : X.env.scope.names.lookup x = some .local := z
          rcases q3 with q3 | q3 <;> rw [z'] at q3 <;> cases q3
        · obtain ⟨a', ha'⟩ := capL_has (env := X.env) (cs := []) q2
          have : a' = a := by have := (back x a' ha').symm.trans ha; exact Option.some.inj this
          subst this
          obtain ⟨oc, hoc, hd⟩ := hcell
          exact ⟨a', ha', oc, hk _ _ hoc, hd⟩
  · obtain ⟨v, oc, hoc, hd⟩ := I.cell x a (back x a e)
    exact ⟨v, oc, hk _ _ hoc, hd⟩
  · show (capS σ cix).length = N.length
    unfold capS
    rw [List.length_map, c.len]
theorem hok_sameBut {P : Program} {w : World} {H : Hp} {h h' : Heap} {a : Addr} (x : HOk P w H h) (hn : H a = none) (hs : Heap.SameBut a h h') : HOk P w H h' := fun b o e => by
  refine (x b o e).stay (fun c u hc q => (hs.2 c ?_).trans q) (fun _ q => q) fun _ _ q => q
  rcases hc with rfl | hc
  · exact ne_of_none e hn
  · exact ne_of_none hc hn
/-- the frame is let go -/
theorem inv_uncomp {fp : List Addr} {σ' : St} {H' : Hp} {s' : Shared} {h'' : Heap} (I : Inv X pins σ H s) (hf : ∀ b ∈ fp, FpOk X pins H b) (I' : Inv (compCx X scope N s.heap.objs.size s H fp) [] σ' H' s') (hs : Heap.SameBut s.heap.objs.size s'.heap h'') :
    Inv X pins σ H' { s' with heap := h'' } := by
  have ne : ∀ b o, s.heap.get? b = some o → b ≠ s.heap.objs.size := fun b o e => Nat.ne_of_lt (Heap.lt_size e)
  have u := I'.base
  refine Inv.call' (ch := fp) I I'.os ⟨fun b o e n hb hx => ?_, fun b o e n hb hx => ?_, u.free, fun b o e hx => ?_, u.tups, u.frzs, u.tbls⟩ (hok_sameBut I'.hok I'.free hs) I'.bare fun b hb => ⟨(hf b hb).2.2.2.1, (hf b hb).2.1, (hf b hb).2.2.2.2.1, (hf b hb).2.2.2.2.2⟩
  · exact (hs.2 b (ne b o e)).trans (u.keep b o e n hb hx)
  · obtain ⟨sl, q⟩ := u.slot b o e n hb hx
    exact ⟨sl, (hs.2 b (ne b o e)).trans q⟩
  · obtain ⟨o', q⟩ := u.there b o e hx
    exact ⟨o', (hs.2 b (ne b o e)).trans q⟩
end
/-! ### the loop of one clause -/
section
variable {prog : Program} {w : World} {A : Around} {R : Result → Shared → Prop} {s : Shared}
theorem codeAny_comp1 {elt target iter : Expr} {ifs : List Expr} {scope : Scope} {pos : Pos} {it acc : Value} {env : Env} (I : Nat → Shared → Prop)
    (turn : ∀ n s, I n s → wpAny (model prog w) A (pyNext it) (fun r s₁ => match r with
      | none => R (.ok .next) s₁
      | some v => wpAny (model prog w) A (letOwnedTupleGo target it v) (fun _ s₂ => wpAny (model prog w) A (assign target env v) (fun _ s₃ =>
          wpAny (model prog w) A (forIn ifs true fun c r => if r = true then do let ok ← isTrue c env (eval c env); pure (ForInStep.yield ok) else pure (ForInStep.yield r)) (fun ok s₄ =>
            if ok = true then wpAny (model prog w) A (eval elt env) (fun x s₅ =>
              wpAny (model prog w) A (call (.builtin "list.append") [acc, x]) (fun _ s₆ => ∃ m, m < n ∧ I m s₆) (fun _ _ => False) s₅) (fun _ _ => False) s₄
            else ∃ m, m < n ∧ I m s₄) (fun _ _ => False) s₃) (fun _ _ => False) s₂) (fun _ _ => False) s₁) (fun _ _ => False) s)
    (n : Nat) (h : I n s) :
    codeAny (model prog w) A (.compLoop (.ListComp elt [⟨target, iter, ifs, 0⟩] scope pos) 0 it acc env) R s := by
  refine codeAny_loop rfl I (fun n s hI => ?_) n h
  show wpAny _ A ((compTurn (.ListComp elt [⟨target, iter, ifs, 0⟩] scope pos) 0 it acc env).onRaise (fun x => do noteFrame x env; theTreesLotGoes x)) _ _ s
  refine wpAny_noted ?_
  rw [compTurn_list]
  refine wpAny_bind (wpAny_standAt (wpAny_bind (wpAny_mono (turn n s hI) (fun r s₁ h₁ => ?_) fun _ _ h' => h'.elim)))
  cases r with
  | none => exact wpAny_pure h₁
  | some v =>
    refine wpAny_bind (wpAny_mono h₁ (fun _ s₂ h₂ => ?_) fun _ _ h' => h'.elim)
    refine wpAny_bind (wpAny_mono h₂ (fun _ s₃ h₃ => wpAny_bind (wpAny_mono h₃ (fun ok s₄ h₄ => ?_) fun _ _ h' => h'.elim)) fun _ _ h' => h'.elim)
    cases ok with
    | false => exact wpAny_pure ⟨rfl, h₄⟩
    | true =>
      exact wpAny_bind (wpAny_bind (wpAny_mono h₄ (fun x s₅ h₅ => wpAny_bind (wpAny_mono h₅ (fun _ s₆ h₆ => wpAny_pure (wpAny_pure ⟨rfl, h₆⟩)) fun _ _ h' => h'.elim)) fun _ _ h' => h'.elim))
end
/-! ### the rule -/
/-- the tests of a clause, one after another -/
def PTs (X : Cx) (ifs : List Expr) (t : TT) : Prop :=
  ∀ (pins : List (Addr × Obj)) (s : Shared) (σ : St) (H : Hp) (Q : Bool → Hp → Prop), Inv X pins σ H s → t σ H Q →
    wpAny (model X.prog X.w) X.A (forIn ifs true fun c r => if r = true then do let ok ← isTrue c X.env (eval c X.env); pure (ForInStep.yield ok) else pure (ForInStep.yield r)) (TP X pins σ Q) X.xe s
def tNoTest : TT := fun _ H Q => Q true H
theorem pts_nil {X : Cx} : PTs X [] tNoTest := fun pins s σ H Q I h => wpAny_tests_nil ⟨H, I, h⟩
theorem pts_one {X : Cx} {c : Expr} {t : TT} (h : PT X c t) : PTs X [c] t := fun pins s σ H Q I q => wpAny_tests_one (h pins s σ H Q I q)
def tComp (wi : TI) (g : TG) (ti : TT) (te : TE) (cix : List (Option Nat)) : TE := fun σ H Q => wi σ H fun J H1 => ∀ acc, H1 acc = none → ∃ W : Nat → Nat → St → Hp → Prop, (∃ m, W 0 m (capS σ cix) (upd H1 acc (.lst []))) ∧
  ∀ i m σ' H', W i m σ' H' → (J.stop i H' ∧ Q (.ref acc) H') ∨ (J.go i H' ∧ ∃ N : St → Hp → Prop, (∀ σ2 H2, N σ2 H2 → ∃ m', m' < m ∧ W (i + 1) m' σ2 H2) ∧
    ∀ x H2, J.yld i H' x H2 → g x σ' H2 fun σ3 H3 => ti σ3 H3 fun ok H4 => if ok = true then te σ3 H4 fun v H5 => ∃ xs, H5 acc = some (.lst xs) ∧ xs.length < sizeLine ∧ N σ3 (upd H5 acc (.lst (xs ++ [v]))) else N σ3 H4)
theorem pe_comp {X : Cx} {elt tg iter : Expr} {ifs : List Expr} {scope : Scope} {pos : Pos} {wi : TI} {g : TG} {ti : TT} {te : TE} {N : List Str} {cix : List (Option Nat)} (hc : X.calm = true) (c : CompOk X scope N cix)
    (hi : PI X tg iter wi) (hg : ∀ C s H ex, PG (compCx X scope N C s H ex) tg g) (ht : ∀ C s H ex, PTs (compCx X scope N C s H ex) ifs ti) (he : ∀ C s H ex, PE (compCx X scope N C s H ex) elt te)
    (hs : ∀ x, foldedSetIterable iter X.env x = pure x := by intro _; rfl) : PE X (.ListComp elt [⟨tg, iter, ifs, 0⟩] scope pos) (tComp wi g ti te cix) := by
  intro pins s σ H Q I h
  rw [eval_ListComp]
  refine wpAny_comprehension_free (use := none) rfl hs (closure_of (c.cells I.ok)) c.kind c.names (thn (hi pins s σ H _ I h) fun xv s1 h1 => thn h1 fun itv s2 h2 => ?_)
  obtain ⟨it, fp, tn, J, H2, e, I2, T, st2, f2, q2⟩ := h2
  subst e
  refine wpAny_newObj_type (wpAny_newFunctionEnv c.cell (by intro y hy; simp at hy) (fun h4 hns4 hsb4 => ?_) c.kind)
  dsimp only at hns4 hsb4 ⊢
  have hnone := I2.hok.fresh (Nat.le_refl s2.heap.objs.size)
  -- the new list
  have I3 : Inv X pins σ (upd H2 s2.heap.objs.size (.lst [])) { s2 with heap := s2.heap.push { cls := .type "list", dict := none, data := .seq ([] : List Value).toArray }, toks := s2.toks } := I2.lnew (t' := s2.toks) .nil (by simp)
  obtain ⟨W, ⟨m0, w0⟩, turn⟩ := q2 s2.heap.objs.size hnone
  have ltF : ∀ b ∈ fp, b < s2.heap.objs.size := fun b hb => by
    obtain ⟨o, ho, _⟩ := T.obj _ _ st2 b hb
    exact Heap.lt_size ho
  have f3 : ∀ b ∈ fp, FpOk X pins (upd H2 s2.heap.objs.size (.lst [])) b := fun b hb => ⟨by rw [upd_ne (Nat.ne_of_lt (ltF b hb))]; exact (f2 b hb).1, (f2 b hb).2⟩
  have kp : ∀ b o, (s2.heap.push { cls := .type "list", dict := none, data := .seq ([] : List Value).toArray }).get? b = some o → h4.get? b = some o := fun b o e =>
    hsb4.extBut b o (Nat.ne_of_lt (Heap.lt_size e)) (Heap.get?_push_of_some _ e)
  have sz3 : s2.heap.objs.size < (s2.heap.push { cls := .type "list", dict := none, data := .seq ([] : List Value).toArray }).objs.size := by rw [Heap.size_push]; exact Nat.lt_succ_self _
  have I4 := inv_comp (tk := s2.toks + ([] : List (Str × Value)).length) I3 c f3 (fun b hb => Nat.lt_trans (ltF b hb) sz3) hns4 kp
  have st4 : tn 0 h4 := T.keep _ _ _ st2 fun b hb o e => kp b o (Heap.get?_push_of_some _ e)
  generalize hX : compCx X scope N (s2.heap.push { cls := .type "list", dict := none, data := .seq ([] : List Value).toArray }).objs.size
    { s2 with heap := s2.heap.push { cls := .type "list", dict := none, data := .seq ([] : List Value).toArray }, toks := s2.toks } (upd H2 s2.heap.objs.size (.lst [])) fp = X' at I4
  have pX : X'.prog = X.prog := by rw [← hX]; rfl
  have wX : X'.w = X.w := by rw [← hX]; rfl
  have KX : X'.K = X.K := by rw [← hX]; rfl
  have AX : X'.A = X.A := by rw [← hX]; rfl
  have cX : X'.calm = true := by rw [← hX]; exact hc
  have xX : X'.xe = fun _ _ => False := by rw [← hX]; rfl
  have eX : X'.env = compEnvC scope (capL X.env scope.names []) (s2.heap.push { cls := .type "list", dict := none, data := .seq ([] : List Value).toArray }).objs.size X.env := by rw [← hX]; rfl
  have hg' : PG X' tg g := by rw [← hX]; exact hg _ _ _ _
  have ht' : PTs X' ifs ti := by rw [← hX]; exact ht _ _ _ _
  have he' : PE X' elt te := by rw [← hX]; exact he _ _ _ _
  have f4 : ∀ {H' : Hp}, (∀ b ∈ fp, H' b = none) → ∀ b ∈ fp, FpOk X' [] H' b := fun {H'} hn b hb => by
    refine ⟨hn b hb, ?_, ?_, .inl ?_, ?_, ?_⟩
    · rw [eX]; exact Nat.ne_of_lt (Nat.lt_trans (ltF b hb) sz3)
    · have e1 : X'.fs = frs X.stack := by rw [← hX]; rfl
      rw [e1]
      intro z
      rcases List.mem_cons.mp (I2.stkSub b z) with e | e
      · exact (f2 b hb).2.1 e
      · exact (f2 b hb).2.2.1 e
    · rw [← hX]; exact hb
    · rw [eX]
      intro x a e
      rcases capL_some (c.cells I.ok) e with z | z
      · exact (f2 b hb).2.2.2.2.1 x a z
      · simp at z
    · intro p hp
      have e1 : X'.pn ++ ([] : List (Addr × Obj)) = [] := by rw [← hX]; rfl
      rw [e1] at hp
      simp at hp
  -- the loop
  have loop : ∀ s4 : Shared, s4 = { s2 with heap := h4, toks := s2.toks + ([] : List (Str × Value)).length } →
      codeAny (model X.prog X.w) X.A (.compLoop (.ListComp elt [⟨tg, iter, ifs, 0⟩] scope pos) 0 (.ref it) (.ref s2.heap.objs.size) X'.env)
        (compPost (model X.prog X.w) X.A X.xe none (EP X pins σ Q) (.ref s2.heap.objs.size) (s2.heap.push { cls := .type "list", dict := none, data := .seq ([] : List Value).toArray }).objs.size) s4 := by
    rintro s4 rfl
    refine codeAny_comp1 (fun n s' => ∃ i σ' H', Inv X' [] σ' H' s' ∧ tn i s'.heap ∧ (∀ b ∈ fp, H' b = none) ∧ W i n σ' H') ?_ m0 ⟨0, capS σ cix, _, I4, st4, fun b hb => (f3 b hb).1, w0⟩
    rintro n s5 ⟨i, σ5, H5, I5, st5, fr5, w5⟩
    rcases turn i n σ5 H5 w5 with ⟨stop, qn⟩ | ⟨go, Nx, hN, step⟩
    · have := T.done X' pX wX KX cX i [] s5 σ5 H5 (fun _ _ => False) I5 (f4 fr5) st5 stop
      rw [AX] at this
      refine thn this fun r s6 ⟨hr, I6⟩ => ?_
      subst hr
      obtain ⟨m6, hn6, _⟩ := I6.loc
      rw [eX] at hn6
      refine ⟨m6, hn6, fun h7 hs7 => ?_⟩
      have I6' := I6
      rw [← hX] at I6'
      exact ⟨.ref s2.heap.objs.size, H5, inv_uncomp I3 f3 I6' hs7, rfl, qn⟩
    · have := T.item X' pX wX KX cX i [] s5 σ5 H5 (fun _ _ => False) I5 (f4 fr5) st5 go
      rw [AX] at this
      refine thn this fun r s6 ⟨u, hr, h6⟩ => ?_
      subst hr
      refine thn h6 fun _ s7 ⟨x, H7, I7, r7, y7, st7, fr7⟩ => ?_
      have I7' := I7.pinned (f4 fr7) (T.obj _ _ st7)
      have a7 := hg' _ s7 σ5 H7 x u _ I7' r7 (step x H7 y7)
      rw [pX, wX, AX, xX] at a7
      refine thn a7 fun _ s8 ⟨σ8, H8, I8, q8⟩ => ?_
      have t8 := ht' _ s8 σ8 H8 _ I8 q8
      rw [pX, wX, AX, xX] at t8
      refine thn t8 fun ok s9 ⟨H9, I9, q9⟩ => ?_
      have again : ∀ {s' : Shared} {σ' : St} {H' : Hp}, Inv X' ([] ++ pinsAt fp s7.heap) σ' H' s' → Nx σ' H' → ∃ m, m < n ∧ ∃ i σ' H', Inv X' [] σ' H' s' ∧ tn i s'.heap ∧ (∀ b ∈ fp, H' b = none) ∧ W i m σ' H' := fun {s' σ' H'} J' n' => by
        obtain ⟨m', hm, w'⟩ := hN σ' H' n'
        refine ⟨m', hm, i + 1, σ', H', J'.unpinned, T.keep _ _ _ st7 fun b hb o e => (J'.pin (b, o) (List.mem_append_right _ (List.mem_append_right _ (mem_pinsAt hb e)))).1, fun b hb => ?_, w'⟩
        obtain ⟨o, e, d⟩ := T.obj _ _ st7 b hb
        exact (J'.pin (b, o) (List.mem_append_right _ (List.mem_append_right _ (mem_pinsAt hb e)))).2.1
      cases ok with
      | false => exact again I9 q9
      | true =>
        have e9 := he' _ s9 σ8 H9 _ I9 q9
        rw [pX, wX, AX, xX] at e9
        refine thn e9 fun u2 s10 ⟨v, H10, I10, r10, q10⟩ => ?_
        obtain ⟨xs, hxs, hlt, nx⟩ := q10
        have m10 := mt_append (X := X') _ s10 σ8 H10 (.ref s2.heap.objs.size) [v] (.ref s2.heap.objs.size) [u2] (fun _ H' => Nx σ8 H') I10 rfl (.cons r10 .nil) ⟨_, xs, v, rfl, rfl, hxs, hlt, nx⟩
        rw [pX, wX, AX, xX] at m10
        refine thn m10 fun _ s11 ⟨_, H11, I11, _, n11⟩ => again I11 n11
  have l0 := loop _ rfl
  rw [eX] at l0
  exact codeAny_compStart_list l0 (T.self X.A 0 _ _ _ st4 l0)
end L2


set_option Elab.async false
set_option linter.all false
set_option maxRecDepth 100000
namespace L2
open PySem PySem.Spec PyProof.Rows
/-- a def of the text, known by its name -/
structure Dfn (K : PySem.W.Frag) (mg : Str → Option Value) (x : Str) (st : Stmt) (ps : List Str) (f : Addr) (fd : FuncData) : Prop where
  F : Fun K x x st f fd
  b : Binds K fd ps []
  m : mg x = some (.ref f)
section
variable {X : Cx}
theorem pe_fn {x : Str} {st : Stmt} {ps : List Str} {f : Addr} {fd : FuncData} {sp : Sp} {j k : Nat} {e : Expr} {es : List Expr} {t : TA} {p pos : Pos} (D : Dfn X.K X.mg x st ps f fd) (G : FnOk X.prog X.w X.K X.mg X.base CX0 j f fd ps sp) (hr : Room k X.A)
    (ha : PA X (e :: es) t) (hjk : j ≤ k := by decide) (hg : Gl X x := by rfl) (hdb : (x == ("__debug__" : Str)) = false := by decide) (he : starEach (e :: es) X.env = (false, eval e X.env) :: starEach es X.env := by rfl) (hpl : (backTo pos (starEach es X.env)).any (·.1) = false := by rfl) :
    PE X (.Call (.Name x p) (e :: es) [] pos) (tCall sp [] E0 t) :=
  pe_call G (hr.mono hjk) hg D.m D.F.kp D.b .nil pass0 ha hdb he hpl
/-- == and != of two lists of ints -/
def rEqLI : R2 := fun x y H Q => ∃ (a b : Addr) (ns ms : List Int), x = .ref a ∧ y = .ref b ∧ H a = some (.lst (ns.map V.int)) ∧ H b = some (.lst (ms.map V.int)) ∧ Q (.bl (decide (ns = ms))) H
theorem op_eqLI (hu : X.A.units + 64 < cLine) : OpR X (compareOp .Eq) rEqLI := by
  intro pins s σ H x y v u Q I rx ry h
  obtain ⟨a, b, ns, ms, rfl, rfl, ha, hb, q⟩ := h
  cases rx
  cases ry
  obtain ⟨its, r1, p1, _⟩ := I.list (.of ha)
  obtain ⟨its2, r2, p2, _⟩ := I.list (.of hb)
  exact PySem.W.ke_eq_ints p1.isList p2.isList (intsAre_of r1) (intsAre_of r2) hu ⟨.bl _, H, I, rfl, q⟩
end
end L2


set_option Elab.async false
set_option linter.all false
set_option maxRecDepth 100000
/-! The layer's judgements in structures: what is behind them is not opened while a term of rules is read. -/
namespace L2
open PySem PySem.Spec PyProof.Rows
structure QE (X : Cx) (e : Expr) (t : TE) : Prop where
  run : PE X e t
structure QT (X : Cx) (e : Expr) (t : TT) : Prop where
  run : PT X e t
structure QW (X : Cx) (e : Expr) (t : TT) : Prop where
  run : PW X e t
structure QC (X : Cx) (op : CmpOp) (a b : Expr) (t : TE) : Prop where
  run : PC X op a b t
structure QA (X : Cx) (es : List Expr) (t : TA) : Prop where
  run : PA X es t
structure QS (X : Cx) (s : Stmt) (t : TS) : Prop where
  run : PS X s t
structure QSs (X : Cx) (s : List Stmt) (t : TS) : Prop where
  run : PSs X s t
structure QG (X : Cx) (e : Expr) (t : TG) : Prop where
  run : PG X e t
structure QGs (X : Cx) (es : List Expr) (t : TGs) : Prop where
  run : PGs X es t
structure QI (X : Cx) (tg e : Expr) (t : TI) : Prop where
  run : PI X tg e t
structure QO (X : Cx) (e : Option Expr) (t : TO) : Prop where
  run : PO X e t
structure QP (X : Cx) (pos : Pos) (ks : List (Option Expr)) (vs : List Expr) (t : List (TE × TE)) : Prop where
  run : PPs X pos ks vs t
structure QTs (X : Cx) (es : List Expr) (t : TT) : Prop where
  run : PTs X es t
structure OpQ (X : Cx) (f : Value → Value → Sem Value) (r : R2) : Prop where
  run : OpR X f r
structure UnQ (X : Cx) (f : Value → Sem Value) (r : V → Hp → VK → Prop) : Prop where
  run : UnR X f r
structure CallQ (X : Cx) (f : Value) (r : List V → Hp → VK → Prop) : Prop where
  run : CallR X f r
structure IxQ (X : Cx) (r : R2) : Prop where
  run : IxR X r
structure SlQ (X : Cx) (r : V → Option Int → Option Int → Hp → VK → Prop) : Prop where
  run : SlR X r
section
variable {X : Cx} {e a b c : Expr} {es : List Expr} {te ta tb tc : TE} {t u : TT} {pos p : Pos}
/-! names, constants -/
theorem qv (i : Nat) {x : Str} {pos : Pos} (hN : X.N[i]? = some x := by rfl) (hv : Vis X.env.scope x := by first | exact Or.inl rfl | exact Or.inr (Or.inl rfl) | exact Or.inr (Or.inr rfl)) (hd : (x == ("__debug__" : Str)) = false := by decide)
    (hcd : (x == ("__classdict__" : Str)) = false := by decide) : QE X (.Name x pos) (tVar i) := ⟨pe_var hN hv hd hcd⟩
theorem qe_int {i : Int} {j : Nat} : QE X (.Constant (.int i) j pos) (tC (.int i)) := ⟨pe_int⟩
theorem qe_bl {k : Bool} {j : Nat} : QE X (.Constant (.bool k) j pos) (tC (.bl k)) := ⟨pe_bl⟩
theorem qe_non {j : Nat} : QE X (.Constant .none j pos) (tC .non) := ⟨pe_non⟩
theorem qe_str {x : Str} {j : Nat} : QE X (.Constant (.str x) j pos) (tC (.str x)) := ⟨pe_str⟩
theorem qe_globE {x : Str} {v : V} (hg : Gl X x) (h : ∃ w, RelV v w ∧ X.mg x = some w) (hd : (x == ("__debug__" : Str)) = false := by decide) : QE X (.Name x pos) (tC v) := by
  obtain ⟨w, r, hm⟩ := h
  exact ⟨pe_glob hg hm r hd⟩
theorem qe_bltn {x : Str} {v : V} {w : Value} (hg : Gl X x) (hm : X.mg x = none) (hv : bootBuiltins x = some w) (r : RelV v w) (hn : x ≠ "__name__" := by decide) (hd : (x == ("__debug__" : Str)) = false := by decide) : QE X (.Name x pos) (tC v) := ⟨pe_bltn hg hm hv r hn hd⟩
/-! operators -/
theorem oq_add : OpQ X (binaryOp .Add) (rI0 fun i j => .int (i + j)) := ⟨op_add⟩
theorem oq_sub : OpQ X (binaryOp .Sub) (rI0 fun i j => .int (i - j)) := ⟨op_sub⟩
theorem oq_mul : OpQ X (binaryOp .Mult) (rI CMul fun i j => .int (i * j)) := ⟨op_mul⟩
theorem oq_fdiv : OpQ X (binaryOp .FloorDiv) (rI CDiv fun i j => .int (i / j)) := ⟨op_fdiv⟩
theorem oq_mod : OpQ X (binaryOp .Mod) (rI (fun _ j => 0 < j) fun i j => .int (i % j)) := ⟨op_mod⟩
theorem oq_pow : OpQ X (binaryOp .Pow) (rI CPow fun i j => .int (i ^ j.toNat)) := ⟨op_pow⟩
theorem oq_catA : OpQ X (binaryOp .Add) (rCatA X.K) := ⟨op_catA⟩
theorem oq_cat : OpQ X (binaryOp .Add) rCat := ⟨op_cat⟩
theorem oq_lt : OpQ X (compareOp .Lt) (rI0 fun i j => .bl (decide (i < j))) := ⟨op_lt⟩
theorem oq_le : OpQ X (compareOp .LtE) (rI0 fun i j => .bl (decide (i ≤ j))) := ⟨op_le⟩
theorem oq_gt : OpQ X (compareOp .Gt) (rI0 fun i j => .bl (decide (j < i))) := ⟨op_gt⟩
theorem oq_ge : OpQ X (compareOp .GtE) (rI0 fun i j => .bl (decide (j ≤ i))) := ⟨op_ge⟩
theorem oq_eq : OpQ X (compareOp .Eq) rEq := ⟨op_eq⟩
theorem oq_ne : OpQ X (compareOp .NotEq) rNe := ⟨op_ne⟩
theorem oq_eqLI (hu : X.A.units + 64 < cLine) : OpQ X (compareOp .Eq) rEqLI := ⟨op_eqLI hu⟩
theorem oq_isnot_bl : OpQ X (compareOp .IsNot) (fun x y H Q => ∃ a b, x = .bl a ∧ y = .bl b ∧ Q (.bl (a != b)) H) := ⟨op_isnot_bl⟩
theorem oq_in_seq : OpQ X (compareOp .In) (rIn X.K false) := ⟨op_in_seq⟩
theorem oq_notIn_seq : OpQ X (compareOp .NotIn) (rIn X.K true) := ⟨op_notIn_seq⟩
theorem uq_neg : UnQ X (unaryOp .USub) (rU fun i => .int (-i)) := ⟨un_neg⟩
theorem qe_op {op : Operator} {r : R2} (ho : OpQ X (binaryOp op) r) (ha : QE X a ta) (hb : QE X b tb) : QE X (.BinOp a op b pos) (tOp r ta tb) := ⟨pe_op ho.run ha.run hb.run⟩
theorem qe_un {op : UnaryOp} {r : V → Hp → VK → Prop} (ho : UnQ X (unaryOp op) r) (ha : QE X a ta) : QE X (.UnaryOp op a pos) (tUn r ta) := ⟨pe_un ho.run ha.run⟩
theorem qe_cmpR {op : CmpOp} {r : R2} (ho : OpQ X (compareOp op) r) (ha : QE X a ta) (hb : QE X b tb) (hm : behindInMarks op b = false) : QE X (.Compare a [op] [b] pos) (tOp r ta tb) := ⟨pe_cmpR ho.run ha.run hb.run hm⟩
theorem qt_cmpR {op : CmpOp} {r : R2} (ho : OpQ X (compareOp op) r) (ha : QE X a ta) (hb : QE X b tb) (hm : behindInMarks op b = false) : QT X (.Compare a [op] [b] pos) (tTest (tOp r ta tb)) := ⟨pt_cmpR ho.run ha.run hb.run hm⟩
theorem qe_chain {op op' : CmpOp} {r r' : R2} (ho : OpQ X (compareOp op) r) (ho' : OpQ X (compareOp op') r') (ha : QE X a ta) (hb : QE X b tb) (hc : QE X c tc) (hm : lastMarks [op, op'] [b, c] = false := by with_unfolding_all rfl) :
    QE X (.Compare a [op, op'] [b, c] pos) (tChain r r' ta tb tc) := ⟨pe_chain ho.run ho'.run ha.run hb.run hc.run hm⟩
theorem qc_isN {j : Nat} {pos' : Pos} (ha : QE X a ta) : QC X .Is a (.Constant .none j pos') (tIsN ta) := ⟨pc_isN ha.run⟩
theorem qc_notN {j : Nat} {pos' : Pos} (ha : QE X a ta) : QC X .IsNot a (.Constant .none j pos') (tNotN ta) := ⟨pc_notN ha.run⟩
theorem qe_cmp {op : CmpOp} (h : QC X op a b te) (h1 : behindInMarks op b = false := by first | exact nobehind _ (by decide) (by decide) | rfl) : QE X (.Compare a [op] [b] pos) te := ⟨pe_cmp h.run h1⟩
theorem qt_cmp {op : CmpOp} (h : QC X op a b te) (h1 : behindInMarks op b = false := by first | exact nobehind _ (by decide) (by decide) | rfl) : QT X (.Compare a [op] [b] pos) (tB te) := ⟨pt_cmp h.run h1⟩
theorem qt_val (h : QE X e te) (he : ∀ whole, isTrue e X.env whole = (do let v ← whole; standAt e.pos; holding [v] (truthy v)) := by intro _; rfl) : QT X e (tB te) := ⟨pt_val h.run he⟩
theorem qt_not (h : QT X a t) : QT X (.UnaryOp .Not a pos) (tNot t) := ⟨pt_not h.run⟩
theorem qw_and1 (h : QT X a t) : QW X (.BoolOp .And [a] pos) t := ⟨pw_and1 h.run⟩
theorem qw_or1 (h : QT X a t) : QW X (.BoolOp .Or [a] pos) t := ⟨pw_or1 h.run⟩
theorem qw_and {rest : List Expr} (h : QT X a t) (h' : QW X (.BoolOp .And (b :: rest) pos) u) : QW X (.BoolOp .And (a :: b :: rest) pos) (tAnd t u) := ⟨pw_and h.run h'.run⟩
theorem qw_or {rest : List Expr} (h : QT X a t) (h' : QW X (.BoolOp .Or (b :: rest) pos) u) : QW X (.BoolOp .Or (a :: b :: rest) pos) (tOr t u) := ⟨pw_or h.run h'.run⟩
theorem QW.pt (h : QW X e t) : QT X e t := ⟨h.run.pt⟩
theorem qe_one {op : BoolOp} (h : QE X a ta) : QE X (.BoolOp op [a] pos) ta := ⟨pe_one h.run⟩
theorem qe_and {rest : List Expr} (ha : QE X a ta) (hb : QE X (.BoolOp .And (b :: rest) pos) tb) : QE X (.BoolOp .And (a :: b :: rest) pos) (tAndV ta tb) := ⟨pe_and ha.run hb.run⟩
theorem qe_or {rest : List Expr} (ha : QE X a ta) (hb : QE X (.BoolOp .Or (b :: rest) pos) tb) : QE X (.BoolOp .Or (a :: b :: rest) pos) (tOrV ta tb) := ⟨pe_or ha.run hb.run⟩
theorem qe_not (ha : QE X a ta) : QE X (.UnaryOp .Not a pos) (tNotV ta) := ⟨pe_not ha.run⟩
theorem qe_ifExp (hc : QT X c t) (ha : QE X a ta) (hb : QE X b tb) : QE X (.IfExp c a b pos) (tIf t ta tb) := ⟨pe_ifExp hc.run ha.run hb.run⟩
/-! arguments, displays -/
theorem qa_nil : QA X [] tNil := ⟨pa_nil⟩
theorem qa_cons {ts : TA} (ha : QE X e te) (hr : QA X es ts) (hs : starEach (e :: es) X.env = (false, eval e X.env) :: starEach es X.env := by rfl) : QA X (e :: es) (tCons te ts) := ⟨pa_cons ha.run hr.run hs⟩
theorem qe_tup {x1} {ts : TA} (h : QA X es ts) : QE X (.Tuple es x1 pos) (tTup ts) := ⟨pe_tup h.run⟩
theorem qe_lst {ts : TA} (h : QA X es ts) : QE X (.List es pos) (tLst ts) := ⟨pe_lst h.run⟩
theorem qps_nil : QP X pos [] [] [] := ⟨pps_nil⟩
theorem qps_cons {k v : Expr} {ks : List (Option Expr)} {vs : List Expr} {tk tv : TE} {trs : List (TE × TE)} (hk : QE X k tk) (hv : QE X v tv) (hr : QP X pos ks vs trs) : QP X pos (some k :: ks) (v :: vs) ((tk, tv) :: trs) := ⟨pps_cons hk.run hv.run hr.run⟩
theorem qe_disp {keys : List (Option Expr)} {values : List Expr} {trs : List (TE × TE)} (h : QP X pos keys values trs) (hall : keys.all (·.isSome) = true) (hl : keys.length = values.length) (h0 : keys ≠ []) (h15 : keys.length ≤ 15) : QE X (.Dict keys values pos) (tDisp trs) := ⟨pe_disp h.run hall hl h0 h15⟩
/-! subscripts -/
theorem qo_none : QO X none tNoPart := ⟨po_none⟩
theorem qo_some (h : QE X e te) : QO X (some e) (tPart te) := ⟨po_some h.run⟩
theorem sq_tupA : SlQ X rSlA := ⟨sl_tupA⟩
theorem sq_list : SlQ X (rSlL X.K) := ⟨sl_list⟩
theorem qe_slice {r : V → Option Int → Option Int → Hp → VK → Prop} {lo hi : Option Expr} {tl th : TO} {p2 : Pos} (hr : SlQ X r) (he : QE X e te) (hl : QO X lo tl) (hu : QO X hi th) : QE X (.Subscript e (.Slice lo hi none p2) pos) (tSl r te tl th) := ⟨pe_slice hr.run he.run hl.run hu.run⟩
theorem xq_list : IxQ X (rIxL X.K) := ⟨ix_list⟩
theorem xq_tup : IxQ X (rIxT X.K) := ⟨ix_tup⟩
theorem qe_ix {r : R2} (hr : IxQ X r) (ha : QE X a ta) (hb : QE X b tb) (hs : PlainIx b) : QE X (.Subscript a b pos) (tOp r ta tb) := ⟨pe_ix hr.run ha.run hb.run hs⟩
theorem qe_dget (hu : X.A.units + 1 < cLine) (ha : QE X a ta) (hb : QE X b tb) (hs : NoSl b) : QE X (.Subscript a b pos) (tDGet ta tb) := ⟨pe_dget hu ha.run hb.run hs⟩
/-! calls -/
theorem cq_len : CallQ X (.builtin "len") (fun xs H Q => ∃ x n, xs = [x] ∧ LenV X.K x H n ∧ Q (.int n) H) := ⟨call_len⟩
theorem cq_abs : CallQ X (.builtin "abs") (fun xs H Q => ∃ i, xs = [.int i] ∧ Q (.int (if i < 0 then -i else i)) H) := ⟨call_abs⟩
theorem cq_min2 (hc : X.calm = true) : CallQ X (.builtin "min") (fun xs H Q => ∃ i j, xs = [.int i, .int j] ∧ Q (.int (if j < i then j else i)) H) := ⟨call_min2 hc⟩
theorem cq_isinst : CallQ X (.builtin "isinstance") (fun xs H Q => ∃ x T t b, xs = [x, .ty T] ∧ TyOf X.K H x t ∧ PySem.W.kitOne X.K t (.type T) = some b ∧ Q (.bl b) H) := ⟨call_isinst⟩
theorem cq_tuple_of : CallQ X (.type "tuple") (fun xs H Q => ∃ p ys, xs = [.ref p] ∧ ((SqL X.K H p ys ∧ ∀ l, H l = none → Q (.ref l) (upd H l (.tup ys))) ∨ (SqT X.K H p ys ∧ Q (.ref p) H))) := ⟨call_tuple_of⟩
theorem cq_int1 : CallQ X (.type "int") (fun xs H Q => (∃ i, xs = [.int i] ∧ Q (.int i) H) ∨ ∃ k, xs = [.bl k] ∧ Q (.int (if k then 1 else 0)) H) := ⟨call_int1⟩
theorem qe_callB {id : String} {r : List V → Hp → VK → Prop} {x : Str} {ts : TA} (hc : CallQ X (.builtin id) r) (hg : Gl X x) (hm : X.mg x = none) (hv : bootBuiltins x = some (.builtin id)) (ha : QA X (e :: es) ts) (hn : x ≠ "__name__" := by decide) (hdb : (x == ("__debug__" : Str)) = false := by decide)
    (he : starEach (e :: es) X.env = (false, eval e X.env) :: starEach es X.env := by rfl) (hpl : (backTo pos (starEach es X.env)).any (·.1) = false := by rfl) : QE X (.Call (.Name x p) (e :: es) [] pos) (tCB r ts) := ⟨pe_callB hc.run hg hm hv ha.run hn hdb he hpl⟩
theorem qe_callTy {T : String} {r : List V → Hp → VK → Prop} {x : Str} {ts : TA} (hc : CallQ X (.type T) r) (hg : Gl X x) (hm : X.mg x = none) (hv : bootBuiltins x = some (.type T)) (ha : QA X (e :: es) ts) (hn : x ≠ "__name__" := by decide) (hdb : (x == ("__debug__" : Str)) = false := by decide)
    (he : starEach (e :: es) X.env = (false, eval e X.env) :: starEach es X.env := by rfl) (hpl : (backTo pos (starEach es X.env)).any (·.1) = false := by rfl) : QE X (.Call (.Name x p) (e :: es) [] pos) (tCB r ts) := ⟨pe_callTy hc.run hg hm hv ha.run hn hdb he hpl⟩
theorem qe_fn {x : Str} {st : Stmt} {ps : List Str} {f : Addr} {fd : FuncData} {sp : Sp} {j k : Nat} {ts : TA} (D : Dfn X.K X.mg x st ps f fd) (G : FnOk X.prog X.w X.K X.mg X.base CX0 j f fd ps sp) (hr : Room k X.A)
    (ha : QA X (e :: es) ts) (hjk : j ≤ k := by decide) (hg : Gl X x := by rfl) (hdb : (x == ("__debug__" : Str)) = false := by decide) (he : starEach (e :: es) X.env = (false, eval e X.env) :: starEach es X.env := by rfl) (hpl : (backTo pos (starEach es X.env)).any (·.1) = false := by rfl) :
    QE X (.Call (.Name x p) (e :: es) [] pos) (tCall sp [] E0 ts) := ⟨pe_fn D G hr ha.run hjk hg hdb he hpl⟩
/-! targets, iterators -/
theorem qg_name {i : Nat} {x : Str} (hN : X.N.Nodup) (hi : X.N[i]? = some x) (hx : Loc X.env.scope x) (hf : X.fn x = true ∨ X.env.scope.names.lookup x = some .local := by first | exact .inl rfl | exact .inr rfl | assumption) : QG X (.Name x pos) (gName i) := ⟨pg_name hN hi hx hf⟩
theorem qgs_nil : QGs X [] gNil := ⟨pgs_nil⟩
theorem qgs_cons {g : TG} {gs : TGs} (h1 : QG X e g) (h2 : QGs X es gs) (hs : (assignEach (e :: es) X.env).map (·.2) = assign e X.env :: (assignEach es X.env).map (·.2) := by rfl) : QGs X (e :: es) (gCons g gs) := ⟨pgs_cons h1.run h2.run hs⟩
theorem qg_tup {k : Nat} {gs : TGs} {n : Nat} (hc : X.calm = true) (h : QGs X es gs) (hn : (assignEach es X.env).length = n := by rfl) (hst : (assignEach es X.env).findIdx? (·.1) = none := by rfl) : QG X (.Tuple es k pos) (gTup X.K n gs) := ⟨pg_tup hc h.run hn hst⟩
theorem qi_list {tg : Expr} (hl : QE X e te) : QI X tg e (iList X.K te) := ⟨pi_list hl.run⟩
theorem qi_tup {tg : Expr} (hl : QE X e te) : QI X tg e (iTup X.K te) := ⟨pi_tup hl.run⟩
theorem qi_range1 {tg : Expr} {ts : TA} (hg : Gl X "range") (hm : X.mg "range" = none) (ha : QA X [a] ts) (hs : starEach [a] X.env = [(false, eval a X.env)] := by rfl) : QI X tg (.Call (.Name "range" p) [a] [] pos) (iRng1 ts) := ⟨pi_range1 hg hm ha.run hs⟩
/-! comprehensions -/
theorem qts_nil : QTs X [] tNoTest := ⟨pts_nil⟩
theorem qts_one (h : QT X c t) : QTs X [c] t := ⟨pts_one h.run⟩
theorem qe_comp {elt tg iter : Expr} {ifs : List Expr} {scope : Scope} {wi : TI} {g : TG} {ti : TT} {N : List Str} {cix : List (Option Nat)} (hc : X.calm = true) (c : CompOk X scope N cix)
    (hi : QI X tg iter wi) (hg : ∀ C s H ex, QG (compCx X scope N C s H ex) tg g) (ht : ∀ C s H ex, QTs (compCx X scope N C s H ex) ifs ti) (he : ∀ C s H ex, QE (compCx X scope N C s H ex) elt te)
    (hs : ∀ x, foldedSetIterable iter X.env x = pure x := by intro _; rfl) : QE X (.ListComp elt [⟨tg, iter, ifs, 0⟩] scope pos) (tComp wi g ti te cix) := ⟨pe_comp hc c hi.run (fun C s H ex => (hg C s H ex).run) (fun C s H ex => (ht C s H ex).run) (fun C s H ex => (he C s H ex).run) hs⟩
end
/-! statements -/
section
variable {X : Cx} {st : Stmt} {sts body a b : List Stmt} {t u : TS} {e o i : Expr} {te td ty tv : TE} {pos : Pos}
theorem qss_nil : QSs X [] tNext := ⟨pss_nil⟩
theorem qss_cons (h1 : QS X st t) (h2 : QSs X sts u) : QSs X (st :: sts) (tSeq t u) := ⟨pss_cons h1.run h2.run⟩
theorem qss_one (h1 : QS X st t) : QSs X [st] t := ⟨pss_one h1.run⟩
theorem qs_expr (he : QE X e te) (hs : swapsWith e none pos.line X.env = pure false := by rfl) : QS X (.Expr e pos) (tDrop te) := ⟨ps_expr he.run hs⟩
theorem qs_ret (he : QE X e te) : QS X (.Return (some e) pos) (tRet te) := ⟨ps_ret he.run⟩
theorem qs_if {c : Expr} {tc : TT} (hc : QT X c tc) (ha : QSs X a t) (hb : QSs X b u) : QS X (.If c a b pos) (tIfS tc t u) := ⟨ps_if hc.run ha.run hb.run⟩
theorem qs_set {i : Nat} {x : Str} {pos' : Pos} (hN : X.N.Nodup) (hi : X.N[i]? = some x) (hx : Loc X.env.scope x) (he : QE X e te) (hs : swapsWith e (some (.Name x pos')) pos.line X.env = pure false := by rfl) (hf : X.fn x = true ∨ X.env.scope.names.lookup x = some .local := by first | exact .inl rfl | exact .inr rfl | assumption) :
    QS X (.Assign [.Name x pos'] e pos) (tAsg te (gName i)) := ⟨ps_set hN hi hx he.run hs hf⟩
theorem qs_asg {tg : Expr} {g : TG} (he : QE X e te) (hg : QG X tg g) (hs : swapsWithSole [tg] e pos.line X.env = pure false := by rfl) (hw : swappedStores [tg] e X.env = pure none := by rfl)
    (h1 : (assignEach [tg] X.env).map (·.2) = [assign tg X.env] := by rfl) : QS X (.Assign [tg] e pos) (tAsg te g) := ⟨ps_asg he.run hg.run hs hw h1⟩
theorem qs_dput {pos' : Pos} (hu : X.A.units + 1 < cLine) (ho : QE X o td) (hi : QE X i ty) (hv : QE X e tv) (hs : swapsWith e (some (.Subscript o i pos')) pos.line X.env = pure false) : QS X (.Assign [.Subscript o i pos'] e pos) (sDPut td ty tv) := ⟨ps_dput hu ho.run hi.run hv.run hs⟩
theorem qs_for {tg iter : Expr} {wi : TI} {g : TG} (hp : PassesOwn (model X.prog X.w) X.A X.env X.xe) (hc : X.calm = true) (hi : QI X tg iter wi) (hg : QG X tg g) (hb : QSs X body t) (hs : ∀ x, foldedSetIterable iter X.env x = pure x := by intro _; rfl) : QS X (.For tg iter body [] pos) (tFor wi g t) := ⟨ps_for hp hc hi.run hg.run hb.run hs⟩
end
theorem Fun.okQ {P : Program} {w : World} {K : PySem.W.Frag} {mg : Str → Option Value} {base : Heap} {x qual : Str} {st : Stmt} {f : Addr} {fd : FuncData} {N ps : List Str} {k : Nat} {sp : Sp} (F : Fun K x qual st f fd) (S : FnScope N ps (defScope st)) (len : ∀ vs H Q E, sp vs H Q E → vs.length = ps.length)
    (hbody : ∀ (cdv : Value) (A : Around) (outer : List Env) (s : Shared) (H : Hp) (vs : List V) (Q : VK) (E : XK), Room k (A.deeper (envOfC qual (defScope st) s.heap.objs.size f cdv)) → sp vs H Q E →
      ∃ t, QSs (cxOf CX0 P w K mg base N qual (defScope st) f cdv A outer s H E).nox (defBody st) t ∧ t { nx := fun _ H' => Q .non H', rt := Q } (start N vs) H) : FnOk P w K mg base CX0 (k + 1) f fd ps sp :=
  F.ok S len fun cdv A outer s H vs Q E hr h => by
    obtain ⟨t, h1, h2⟩ := hbody cdv A outer s H vs Q E hr h
    exact ⟨t, h1.run, h2⟩
end L2


set_option Elab.async false
set_option linter.all false
set_option maxRecDepth 100000
namespace L2
open PySem PySem.Spec PyProof.Rows
theorem s_ca : ¬ (("cells" : Str) = "at") := by decide +kernel
theorem s_cl : ¬ (("cells" : Str) = "left") := by decide +kernel
theorem s_al : ¬ (("at" : Str) = "left") := by decide +kernel
theorem k_ca : ¬ (Sum.inr "cells" : Key) = (Sum.inr "at" : Key) := fun z => s_ca (Sum.inr.inj z)
theorem k_cl : ¬ (Sum.inr "cells" : Key) = (Sum.inr "left" : Key) := fun z => s_cl (Sum.inr.inj z)
theorem k_al : ¬ (Sum.inr "at" : Key) = (Sum.inr "left" : Key) := fun z => s_al (Sum.inr.inj z)
def penK (c : Addr) (a l : Int) : List (Key × V) := [(Sum.inr "cells", .ref c), (Sum.inr "at", .int a), (Sum.inr "left", .int l)]
theorem pen_c (c : Addr) (a l : Int) : valV (penK c a l) (Sum.inr "cells" : Key) = some (.ref c) := valV_pos rfl
theorem pen_a (c : Addr) (a l : Int) : valV (penK c a l) (Sum.inr "at" : Key) = some (.int a) := by
  unfold penK
  rw [valV_neg k_ca, valV_pos rfl]
theorem pen_l (c : Addr) (a l : Int) : valV (penK c a l) (Sum.inr "left" : Key) = some (.int l) := by
  unfold penK
  rw [valV_neg k_cl, valV_neg k_al, valV_pos rfl]
theorem pen_pa (c : Addr) (a l b : Int) : putK (penK c a l) (Sum.inr "at" : Key) (.int b) = penK c b l := by
  unfold putK penK
  have e1 := k_ca
  have e2 : ¬ (Sum.inr "left" : Key) = (Sum.inr "at" : Key) := fun z => k_al z.symm
  simp [e1, e2]
theorem pen_pl (c : Addr) (a l b : Int) : putK (penK c a l) (Sum.inr "left" : Key) (.int b) = penK c a b := by
  unfold putK penK
  have e1 := k_cl
  have e2 := k_al
  simp [e1, e2]
theorem pen_mk (c : Addr) (a l : Int) : mergeK [] (penK c a l) = penK c a l := by
  unfold mergeK penK
  have e1 := k_ca
  have e2 := k_cl
  have e3 := k_al
  simp [putK, e1, e2, e3]
/-- a pen: at most n cells are drawn, its cells are ns -/
structure Pen (H : Hp) (p c : Addr) (ns : List Int) (n : Nat) : Prop where
  ob : ∃ a l : Int, H p = some (.dK (penK c a l)) ∧ 0 ≤ a ∧ a ≤ n ∧ 0 ≤ l
  ls : H c = some (.lst (ns.map V.int))
  len : ns.length ≤ 63
theorem Pen.mono {H : Hp} {p c : Addr} {ns : List Int} {n m : Nat} (P : Pen H p c ns n) (h : n ≤ m) : Pen H p c ns m := by
  obtain ⟨⟨a, l, h1, h2, h3, h4⟩, h5, h6⟩ := P
  exact ⟨⟨a, l, h1, h2, by omega, h4⟩, h5, h6⟩
theorem Pen.same {H H' : Hp} {p c : Addr} {ns : List Int} {n : Nat} (P : Pen H p c ns n) (h : Same H H') : Pen H' p c ns n := by
  obtain ⟨⟨a, l, h1, h2, h3, h4⟩, h5, h6⟩ := P
  exact ⟨⟨a, l, h _ _ h1, h2, h3, h4⟩, h _ _ h5, h6⟩
theorem stay_pen {H : Hp} {p c : Addr} {a l : Int} {o : HO} (h : H p = some (.dK (penK c a l))) : Stay H (upd H p o) := fun b u e n => by
  by_cases hb : b = p
  · subst hb
    rw [h] at e
    cases e
    have := n _ rfl
    rw [pen_a] at this
    cases this
  · rw [upd_ne hb]; exact e
section
variable {H : Hp} {p c : Addr} {a l : Int}
theorem pen_gc (h : H p = some (.dK (penK c a l))) : DGet H p (.str "cells") (some (.ref c)) := by
  have := DGet.k (k := (Sum.inr "cells" : Key)) h
  rw [pen_c] at this
  exact this
theorem pen_ga (h : H p = some (.dK (penK c a l))) : DGet H p (.str "at") (some (.int a)) := by
  have := DGet.k (k := (Sum.inr "at" : Key)) h
  rw [pen_a] at this
  exact this
theorem pen_gl (h : H p = some (.dK (penK c a l))) : DGet H p (.str "left") (some (.int l)) := by
  have := DGet.k (k := (Sum.inr "left" : Key)) h
  rw [pen_l] at this
  exact this
theorem pen_sa (h : H p = some (.dK (penK c a l))) (b : Int) : DPut H p (.str "at") (.int b) (upd H p (.dK (penK c b l))) := by
  have := DPut.k (k := (Sum.inr "at" : Key)) (v := .int b) h (by show 3 < sizeLine; decide)
  rw [pen_pa] at this
  exact this
theorem pen_sl (h : H p = some (.dK (penK c a l))) (b : Int) : DPut H p (.str "left") (.int b) (upd H p (.dK (penK c a b))) := by
  have := DPut.k (k := (Sum.inr "left" : Key)) (v := .int b) h (by show 3 < sizeLine; decide)
  rw [pen_pl] at this
  exact this
end
theorem at_mod (ns : List Int) (a : Int) (h : 0 < ((ns.map V.int).length : Int)) : ∃ z, atI (ns.map V.int) (a % ((ns.map V.int).length : Int)) = some (.int z) := by
  have h0 := Int.emod_nonneg a (show ((ns.map V.int).length : Int) ≠ 0 by omega)
  have h1 := Int.emod_lt_of_pos a h
  generalize hm : a % ((ns.map V.int).length : Int) = m at h0 h1
  obtain ⟨j, rfl⟩ : ∃ j : Nat, m = j := ⟨m.toNat, by omega⟩
  have hj : j < ns.length := by rw [List.length_map] at h1; omega
  exact ⟨ns[j], atI_nat (by simp [hj])⟩
theorem at_prime (a : Int) : ∃ z, atI ([.int 2147483647, .int 2147483629, .int 2147483587, .int 2147483579, .int 2147483563, .int 2147483549, .int 2147483543] : List V) (a % 7) = some (.int z) ∧ 0 < z ∧ z ≤ 2147483647 := by
  have h0 := Int.emod_nonneg a (show (7 : Int) ≠ 0 by decide)
  have h1 := Int.emod_lt_of_pos a (show (0 : Int) < 7 by decide)
  generalize a % 7 = m at h0 h1
  obtain ⟨j, rfl⟩ : ∃ j : Nat, m = j := ⟨m.toNat, by omega⟩
  have hj : j = 0 ∨ j = 1 ∨ j = 2 ∨ j = 3 ∨ j = 4 ∨ j = 5 ∨ j = 6 := by omega
  rcases hj with rfl | rfl | rfl | rfl | rfl | rfl | rfl <;> exact ⟨_, atI_nat rfl, by decide, by decide⟩
theorem sq_bound {a : Int} {n : Nat} (h0 : 0 ≤ a) (h1 : a ≤ n) (h2 : n ≤ 1000000) : 0 ≤ 60013 * a * a ∧ 60013 * a * a ≤ 60013000000000000 := by
  have e : 60013 * a * a = 60013 * (a * a) := Int.mul_assoc _ _ _
  have m0 : 0 ≤ a * a := Int.mul_nonneg h0 h0
  have m1 : a * a ≤ 1000000 * 1000000 := Int.mul_le_mul (by omega) (by omega) h0 (by omega)
  rw [e]
  omega
theorem atI_mem {xs : List V} {i : Int} (h0 : 0 ≤ i) (h1 : i < xs.length) : ∃ v, atI xs i = some v ∧ v ∈ xs := by
  obtain ⟨j, rfl⟩ : ∃ j : Nat, i = j := ⟨i.toNat, by omega⟩
  have hj : j < xs.length := by omega
  exact ⟨xs[j], atI_nat (List.getElem?_eq_getElem hj), List.getElem_mem hj⟩
/-- two ways that go on alike: the rest is said once, for every letter -/
theorem meet {α : Type} {G : Prop} (P : α → Prop) (h : (∀ a, P a) → G) (r : ∀ a, P a) : G := h r
theorem meet0 {G : Prop} (P : Prop) (h : P → G) (r : P) : G := h r
/-- a draw -/
def spDraw : Sp := fun vs H Q _ => ∃ (p c : Addr) (ns : List Int) (n : Nat) (many : Int), vs = [.ref p, .int many] ∧ Pen H p c ns n ∧ n ≤ 1000000 ∧ 1 ≤ many ∧ many < 1073741824 ∧
  ∀ (r : Int) (H' : Hp), 0 ≤ r → r < many → Pen H' p c ns (n + 1) → Stay H H' → Q (.int r) H'
def spPen (K : PySem.W.Frag) : Sp := fun vs H Q _ => ∃ (a : Addr) (ns : List Int), vs = [.ref a] ∧ SqL K H a (ns.map V.int) ∧ ns.length ≤ 63 ∧ ∀ (p c : Addr) (H' : Hp), Pen H' p c ns 0 → Same H H' → Q (.ref p) H'
/-- the product -/
def prodI (ns : List Int) : Int := ns.foldl (· * ·) 1
theorem prodI_snoc (ns : List Int) (n : Int) : prodI (ns ++ [n]) = prodI ns * n := by unfold prodI; rw [List.foldl_append]; rfl
theorem take_succ_get {α : Type} {l : List α} {i : Nat} {x : α} (h : l[i]? = some x) : l.take (i + 1) = l.take i ++ [x] := by
  rw [List.take_succ, h]; rfl
def spProd : Sp := fun vs H Q _ => ∃ (a : Addr) (ns : List Int), vs = [.ref a] ∧ H a = some (.tup (ns.map V.int)) ∧ (∀ n ∈ ns, 2 ≤ n ∧ n ≤ 4) ∧ Q (.int (prodI ns)) H
def spWhole : Sp := fun vs H Q _ => ∃ (v : V) (d : Dt), vs = [v] ∧ Is H d v ∧ Q (.bl d.isWhole) H
def Dt.inBox : Dt → Bool
  | .int i => decide (2 ≤ i) && decide (i ≤ 4)
  | _ => false
def Dt.val : Dt → Int
  | .int i => i
  | _ => 0
/-- what a room is -/
def roomB : Dt → Bool
  | .tup l => decide (1 ≤ l.length) && decide (l.length ≤ 8) && l.all Dt.inBox && decide (prodI (l.map Dt.val) ≤ 256)
  | _ => false
theorem vals_ints_map : ∀ (ns : List Int), (ns.map Dt.int).map Dt.val = ns
  | [] => rfl
  | n :: ns => by simp only [List.map_cons, vals_ints_map ns]; rfl
/-- a room is drawn -/
def spMkRoom : Sp := fun vs H Q _ => ∃ (p c : Addr) (ns : List Int) (n : Nat) (most : Int), vs = [.ref p, .int most] ∧ Pen H p c ns n ∧ n + 20 ≤ 1000000 ∧ 4 ≤ most ∧ most ≤ 256 ∧
  ∀ (a : Addr) (rm : List Int) (H' : Hp), H' a = some (.tup (rm.map V.int)) → rm ≠ [] → rm.length ≤ 8 → (∀ r ∈ rm, 2 ≤ r ∧ r ≤ 4) → prodI rm ≤ most → Pen H' p c ns (n + 10) → Stay H H' → Q (.ref a) H'
/-- every item is some datum -/
def AllIs (H : Hp) (xs : List V) : Prop := ∀ x ∈ xs, ∃ d, Is H d x
theorem AllIs.dts {H : Hp} : ∀ {xs : List V}, AllIs H xs → ∃ ds, IsL H ds xs
  | [], _ => ⟨[], rfl⟩
  | x :: xs, h => by
    obtain ⟨d, hd⟩ := h x List.mem_cons_self
    obtain ⟨ds, hds⟩ := AllIs.dts (xs := xs) fun y hy => h y (List.mem_cons_of_mem _ hy)
    exact ⟨d :: ds, x, xs, rfl, hd, hds⟩
theorem AllIs.tup {H : Hp} {xs : List V} {a : Addr} (h : AllIs H xs) (ha : H a = some (.tup xs)) : ∃ d, Is H d (.ref a) := by
  obtain ⟨ds, hds⟩ := h.dts
  exact ⟨.tup ds, a, xs, rfl, ha, hds⟩
theorem AllIs.append {H : Hp} {xs ys : List V} (h : AllIs H xs) (k : AllIs H ys) : AllIs H (xs ++ ys) := fun x hx => by
  rcases List.mem_append.mp hx with z | z
  · exact h x z
  · exact k x z
theorem AllIs.stay {H H' : Hp} {xs : List V} (h : AllIs H xs) (s : Stay H H') : AllIs H' xs := fun x hx => by
  obtain ⟨d, hd⟩ := h x hx
  exact ⟨d, hd.stay s⟩
theorem AllIs.ints {H : Hp} {ns : List Int} : AllIs H (ns.map V.int) := fun x hx => by
  obtain ⟨n, _, rfl⟩ := List.mem_map.mp hx
  exact ⟨.int n, rfl⟩
theorem AllIs.one {H : Hp} {x : V} {d : Dt} (h : Is H d x) : AllIs H [x] := fun y hy => by
  rw [List.mem_singleton.mp hy]
  exact ⟨d, h⟩
/-- a law: a list of at most 63 ints comes in, True comes out -/
def spLaw (K : PySem.W.Frag) : Sp := fun vs H Q _ => ∃ (a : Addr) (ns : List Int), vs = [.ref a] ∧ SqL K H a (ns.map V.int) ∧ ns.length ≤ 63 ∧ ∀ H', Q (.bl true) H'
/-- of each thing it is known that it is no room -/
def NoRoom (H : Hp) (xs : List V) : Prop := ∀ x ∈ xs, ∃ d, Is H d x ∧ roomB d = false
theorem NoRoom.nil {H : Hp} : NoRoom H [] := fun _ h => by simp at h
theorem NoRoom.cons {H : Hp} {x : V} {xs : List V} {d : Dt} (hd : Is H d x) (hb : roomB d = false) (h : NoRoom H xs) : NoRoom H (x :: xs) := fun y hy => by
  rcases List.mem_cons.mp hy with rfl | hy
  · exact ⟨d, hd, hb⟩
  · exact h y hy
theorem NoRoom.append {H : Hp} {xs ys : List V} (h : NoRoom H xs) (k : NoRoom H ys) : NoRoom H (xs ++ ys) := fun y hy => by
  rcases List.mem_append.mp hy with hy | hy
  · exact h y hy
  · exact k y hy
theorem NoRoom.stay {H H' : Hp} {xs : List V} (h : NoRoom H xs) (s : Stay H H') : NoRoom H' xs := fun y hy => by
  obtain ⟨d, h1, h2⟩ := h y hy
  exact ⟨d, h1.stay s, h2⟩
/-- a comprehension's turn without a test -/
theorem noTest {g : TG} {x : V} {σ : St} {H : Hp} {A B : St → Hp → Prop} (h : g x σ H A) : g x σ H fun σ3 H3 => tNoTest σ3 H3 fun ok H4 => if ok = true then A σ3 H4 else B σ3 H4 := by
  have e : (fun σ3 H3 => tNoTest σ3 H3 fun ok H4 => if ok = true then A σ3 H4 else B σ3 H4) = A := by
    funext σ3 H3
    show (if true = true then A σ3 H3 else B σ3 H3) = A σ3 H3
    rw [if_pos rfl]
  rw [e]
  exact h
end L2


set_option Elab.async false
set_option linter.all false
set_option maxRecDepth 100000
namespace L2
open PySem PySem.Spec PyProof.Rows
/-! ### enumerate of a tuple -/
section
variable {prog : Program} {w : World} {A : Around} {E : Value → Shared → Prop} {s : Shared}
theorem nextOf_tuple_item {it t : Addr} {i : Nat} {items} {x : Value} {Q : Value → Shared → Prop} (hit : s.heap.IsTupleIter it t i) (ht : s.heap.IsTuple t items) (hx : items[i]? = some x)
    (hQ : ∀ h', h'.IsTupleIter it t (i + 1) → Heap.SameBut it s.heap h' → Q x { s with heap := h' }) : wpAny (model prog w) A (Builtin.SmallTypes.nextOf (.ref it)) Q E s := by
  obtain ⟨o, ho, hc, hd⟩ := id hit
  obtain ⟨ol, hol, _, nl, hdl⟩ := ht
  unfold Builtin.SmallTypes.nextOf
  refine wpAny_bind (wpAny_callSpecial?_slot (name := Str.ofString "__next__") hit.typeIs F.slot_tuple_iterator_next
    (wpAny_call_entry F.slot_tuple_iterator_next hit.typeIs F.entry_tuple_iterator_next ?_ (F.args_tuple_iterator_next_1 _)))
  show wpAny _ _ (field (.ref it) 0 >>= _) _ _ s
  refine wpAny_bind (wpAny_field ho hd (x := .ref t) rfl ?_)
  show wpAny _ _ (if (Value.ref t == Value.none) = true then _ else _) _ _ s
  rw [if_neg (show ¬ ((Value.ref t == Value.none) = true) from Bool.false_ne_true)]
  show wpAny _ _ (field (.ref it) 1 >>= _) _ _ s
  refine wpAny_bind (wpAny_field ho hd (x := .int i 0) rfl ?_)
  show wpAny _ _ (seqItems? (.ref t) >>= _) _ _ s
  refine wpAny_bind (wpAny_seqItems hol hdl ?_)
  simp only [Int.toNat_natCast, hx]
  refine wpAny_bind (wpAny_setField ho hd (by simp) (wpAny_pure ⟨x, rfl, wpAny_pure (hQ _ ?_ (Heap.SameBut.update ..))⟩))
  exact ⟨_, Heap.get?_update_self _ ho (Obj.isFreed_of_fields (Obj.data_mapFields hd _)), (Obj.cls_mapFields ..).trans hc, by
    rw [Obj.data_mapFields hd]; simp [rawInt]⟩
theorem nextOf_tuple_end {it t : Addr} {i : Nat} {items} {Q : Value → Shared → Prop} (hh : A.handled = none) (hit : s.heap.IsTupleIter it t i) (ht : s.heap.IsTuple t items) (hx : items[i]? = none)
    (hE : ∀ h' e, Heap.ExtBut it s.heap h' → (∃ o, h'.get? e = some o ∧ o.cls = .type "StopIteration") → E (.ref e) { s with heap := h' }) : wpAny (model prog w) A (Builtin.SmallTypes.nextOf (.ref it)) Q E s := by
  obtain ⟨o, ho, hc, hd⟩ := id hit
  obtain ⟨ol, hol, _, nl, hdl⟩ := ht
  unfold Builtin.SmallTypes.nextOf
  refine wpAny_bind (wpAny_callSpecial?_slot (name := Str.ofString "__next__") hit.typeIs F.slot_tuple_iterator_next
    (wpAny_call_entry F.slot_tuple_iterator_next hit.typeIs F.entry_tuple_iterator_next ?_ (F.args_tuple_iterator_next_1 _)))
  show wpAny _ _ (field (.ref it) 0 >>= _) _ _ s
  refine wpAny_bind (wpAny_field ho hd (x := .ref t) rfl ?_)
  show wpAny _ _ (if (Value.ref t == Value.none) = true then _ else _) _ _ s
  rw [if_neg (show ¬ ((Value.ref t == Value.none) = true) from Bool.false_ne_true)]
  show wpAny _ _ (field (.ref it) 1 >>= _) _ _ s
  refine wpAny_bind (wpAny_field ho hd (x := .int i 0) rfl ?_)
  show wpAny _ _ (seqItems? (.ref t) >>= _) _ _ s
  refine wpAny_bind (wpAny_seqItems hol hdl ?_)
  simp only [Int.toNat_natCast, hx]
  refine wpAny_bind (wpAny_rule (wpAny_bind (wpAny_setField ho hd (by simp) ?_)))
  show wpAny _ _ (newExc (.type "StopIteration") [] >>= _) _ _ _
  refine wpAny_bind ?_
  simp only [newExc, newTuple]
  refine wpAny_bind (wpAny_newObj_type ?_ (by size_fits))
  refine wpAny_bind (m := firstArgMember _ _) (wpAny_of_eq (a := Value.none) (by first | rfl | (simp only [firstArgMember]; rfl)) ?_)
  refine wpAny_newObj_type ?_ (by size_fits)
  simp only [raiseNew]
  refine wpAny_bind (wpAny_handled ?_)
  first | rw [show A.in1.handled = none from hh] | rw [hh]
  refine wpAny_bind (wpAny_pure (wpAny_throw ?_))
  exact hE _ _ (((Heap.SameBut.update ..).extBut.push _).push _) ⟨_, Heap.get?_push_size _ rfl, rfl⟩
theorem draws_tuple (hh : A.handled = none) (it l : Addr) (hne : l ≠ it) (items : Array Value) :
    Draws prog w A it [it, l] items.size (fun i v => items[i]? = some v) (fun i h => h.IsTupleIter it l i ∧ h.IsTuple l items) where
  live := fun _ _ st => let ⟨o, ho, _⟩ := st.1; ⟨o, ho⟩
  frame := fun _ _ _ st hk => ⟨let ⟨o, ho, r⟩ := st.1; ⟨o, hk it (by simp) o ho, r⟩, let ⟨o, ho, r⟩ := st.2; ⟨o, hk l (by simp) o ho, r⟩⟩
  item := fun i s Q E hi st hQ => by
    refine nextOf_tuple_item st.1 st.2 (x := items[i]) (by simp [hi]) fun h' hit' hs' => ?_
    exact hQ _ h' s.toks (by simp [hi]) ⟨hit', st.2.extBut hs'.extBut hne⟩ hs'
  done := fun s Q E st hE => nextOf_tuple_end hh st.1 st.2 (by simp) hE
theorem meets_enumerate_newT (l : Addr) (items : Array Value) (n : Nat) (dct : Option Addr) (sl : Array (Option Value)) :
    Meets (Builtin.«enumerate.__new__» ⟨[.type "enumerate", .ref l], []⟩) (fun _ R s => s.heap.get? l = some { cls := .type "tuple", dict := dct, data := .seq items n, slots := sl } ∧
      R (.ok (.ret (.ref (s.heap.push { cls := .type "tuple_iterator", data := .fields #[.ref l, .int 0 0] }).objs.size)))
        { s with heap := (s.heap.push { cls := .type "tuple_iterator", data := .fields #[.ref l, .int 0 0] }).push { cls := .type "enumerate", data := .fields #[.none, .bool false, .ref s.heap.objs.size, rawInt 0, .none, .none] } }) :=
  .of_wp fun prog w A R s h => by
    obtain ⟨hp, g, d, tk, os⟩ := s; obtain ⟨hl, h⟩ := h
    have hsub := sub_enumerate
    have hL : Heap.IsTuple (Shared.heap ⟨hp, g, d, tk, os⟩) l items := ⟨_, hl, rfl, n, rfl⟩
    wp_walk using AutoSeq1.wpAny_loadPart' hl
    refine wpAny_stack_any fun st => wpAny_pure ?_
    split
    · rename_i c _ _ _ _ _
      cases (c == Value.type "enumerate")
      · wp_walk using AutoSeq1.wpAny_loadPart' hl, wpAny_pyIter_tuple hL
        exact ⟨_, rfl, h⟩
      · wp_walk using AutoSeq1.wpAny_loadPart' hl, wpAny_pyIter_tuple hL
        exact ⟨_, rfl, h⟩
    · wp_walk using AutoSeq1.wpAny_loadPart' hl, wpAny_pyIter_tuple hL
      exact ⟨_, rfl, h⟩
theorem call_enumerate_tuple {l : Addr} {items : Array Value} {Q : Value → Shared → Prop} (hL : s.heap.IsTuple l items)
    (h : ∀ h', IsEnum h' (s.heap.objs.size + 1) s.heap.objs.size 0 .none → h'.IsTupleIter s.heap.objs.size l 0 → h'.objs.size = s.heap.objs.size + 2 →
      (∀ b o, s.heap.get? b = some o → h'.get? b = some o) → Q (.ref (s.heap.objs.size + 1)) { s with heap := h' }) :
    wpAny (model prog w) A (call (.type "enumerate") [.ref l]) Q E s := by
  obtain ⟨⟨c, dct, dt, sl⟩, hl, hc, n, hd⟩ := hL
  replace hc : c = .type "tuple" := hc
  replace hd : dt = .seq items n := hd
  subst hc hd
  refine callType_new F.called_enumerate (by decide) (F.typeCall_enumerate_1 _) (F.newCall_enumerate_1 _) (fun obj => F.args_object_init_2 obj _) F.entry_enumerate_new
    (meets_enumerate_newT l items n dct sl) ⟨hl, ?_⟩
  have hz : (s.heap.push { cls := .type "tuple_iterator", data := .fields #[.ref l, .int 0 0] }).objs.size = s.heap.objs.size + 1 := Heap.size_push ..
  show _ ∧ _
  rw [hz]
  have he : IsEnum ((s.heap.push { cls := .type "tuple_iterator", data := .fields #[.ref l, .int 0 0] }).push
      { cls := .type "enumerate", data := .fields #[.none, .bool false, .ref s.heap.objs.size, rawInt 0, .none, .none] }) (s.heap.objs.size + 1) s.heap.objs.size 0 .none := by
    have := Heap.get?_push_size (s.heap.push { cls := .type "tuple_iterator", data := .fields #[.ref l, .int 0 0] })
      (o := { cls := .type "enumerate", data := .fields #[.none, .bool false, .ref s.heap.objs.size, rawInt 0, .none, .none] }) rfl
    rw [hz] at this; exact this
  refine ⟨⟨_, he, rfl⟩, h _ he ⟨_, Heap.get?_push_of_some _ (Heap.get?_push_size _ rfl), rfl, rfl⟩ (by rw [Heap.size_push, hz]) fun b o x => Heap.get?_push_of_some _ (Heap.get?_push_of_some _ x)⟩
end
/-- (0, x0), (1, x1), .. of the tuple at a; each pair a new tuple -/
def Ite (K : PySem.W.Frag) (a : Addr) : It :=
  ⟨fun i H => ∃ xs x, SqT K H a xs ∧ xs[i]? = some x, fun i H v H' => ∃ T x, v = .ref T ∧ H T = none ∧ H' = upd H T (.tup [.int i, x]) ∧ ∀ xs, SqT K H a xs → xs[i]? = some x, fun i H => ∃ xs, SqT K H a xs ∧ xs.length ≤ i⟩
theorem turn_enum {P : Program} {w : World} {K : PySem.W.Frag} {elts : List Expr} {x1} {tpos : Pos} (a it e : Addr) (hei : e ≠ it) :
    Turn P w K (.Tuple elts x1 tpos) (Ite K a) [e, it] e (fun i h => (∃ old, IsEnum h e it i old) ∧ h.IsTupleIter it a i) where
  mem := by simp
  obj := fun i h st b hb => by
    rcases List.mem_cons.mp hb with rfl | hb
    · obtain ⟨⟨old, he⟩, _⟩ := st
      exact ⟨_, he, fun v z => by
        have z' : Data.fields _ = Data.cell v := z
        cases z'⟩
    · rw [List.mem_singleton.mp hb]
      obtain ⟨_, o, e, c, d⟩ := st
      exact ⟨o, e, fun v z => by rw [d] at z; cases z⟩
  keep := fun i h h' st k => by
    obtain ⟨⟨old, he⟩, o, ho, r⟩ := st
    exact ⟨⟨old, k e (by simp) _ he⟩, o, k it (by simp) _ ho, r⟩
  item := by
    intro X hP hw hK hc i pins s σ H E I hf st hg
    subst hP hw hK
    obtain ⟨xs, x, hq, hx⟩ := hg
    obtain ⟨its, rv, p, hz⟩ := I.tuple hq
    obtain ⟨u, hu, ru⟩ := rv.get hx
    obtain ⟨f0, f1, f2, f3, f4, f5⟩ := hf e (by simp)
    obtain ⟨g0, g1, g2, g3, g4, g5⟩ := hf it (by simp)
    obtain ⟨⟨old, he⟩, hit⟩ := st
    have hsz : i < its.toArray.size := by
      have := (List.getElem?_eq_some_iff.mp hu).1
      simpa using this
    have hai : a ≠ it := by
      intro z
      obtain ⟨o, ho, hcl, _⟩ := p
      obtain ⟨o', ho', hcl', _⟩ := hit
      rw [z, ho'] at ho
      cases ho
      rw [hcl'] at hcl
      exact absurd (Value.type.inj hcl) (by decide)
    have hea : e ≠ a := by
      intro z
      obtain ⟨o, ho, hcl, _⟩ := p
      rw [← z, he] at ho
      cases ho
      have : Value.type "enumerate" = Value.type "tuple" := hcl
      exact absurd (Value.type.inj this) (by decide)
    refine wpAny_pyNext_enum_itemD (draws_tuple (A := X.A.in1) (I.ok.hd hc) it a hai its.toArray) he ⟨hit, p⟩ hsz hei (by simp [hei, hea]) fun y h' tk hy ho hst hT hsz' hk => ?_
    have hy' : y = u := by
      have : its.toArray[i]? = some y := hy
      have : its[i]? = some y := by simpa using this
      rw [hu] at this
      exact (Option.some.inj this).symm
    subst hy'
    refine ⟨_, rfl, ?_⟩
    refine wpAny_letOwnedTupleGo_enum ho fun h'' he'' hs'' => ?_
    -- from s to h'': the records at e and it have turned, one tuple is new
    have hTe : s.heap.objs.size ≠ e := Nat.ne_of_gt (Heap.lt_size he)
    have hTi : s.heap.objs.size ≠ it := by
      obtain ⟨o, hoi, _⟩ := hit
      exact Nat.ne_of_gt (Heap.lt_size hoi)
    have hnone := I.hok.fresh (Nat.le_refl s.heap.objs.size)
    have kp : ∀ b o, b ≠ e → b ≠ it → s.heap.get? b = some o → h''.get? b = some o := fun b o h1 h2 hb => (hs''.2 b h1).trans (hk b o h1 h2 hb)
    have hT'' : h''.get? s.heap.objs.size = some { cls := .type "tuple", data := .seq #[.int i tk, y] } := (hs''.2 _ hTe).trans hT
    obtain ⟨oe, hoe⟩ : ∃ o, h''.get? e = some o := ⟨_, he''⟩
    obtain ⟨oi, hoi⟩ : ∃ o, h''.get? it = some o := by
      obtain ⟨⟨o, ho2, _⟩, _⟩ := hst
      exact ⟨o, (hs''.2 it (Ne.symm hei)).trans ho2⟩
    have objK : ∀ b u', H b = some u' → b ≠ e ∧ b ≠ it := fun b u' hb => ⟨ne_of_none hb f0, ne_of_none hb g0⟩
    have hok' : HOk X.prog X.w (upd H s.heap.objs.size (.tup [.int i, x])) h'' := by
      intro b u' hb
      by_cases hbT : b = s.heap.objs.size
      · subst hbT
        rw [upd_same] at hb
        cases hb
        exact ⟨by show 2 ≤ sizeLine; decide, [.int i tk, y], .cons ⟨tk, rfl⟩ (.cons ru .nil), _, hT'', rfl, 0, rfl⟩
      · rw [upd_ne hbT] at hb
        refine (I.hok b u' hb).stay (fun c v hcv q => ?_) (fun c q => ?_) (fun c ys q => ?_)
        · refine kp c v ?_ ?_ q
          · rcases hcv with rfl | hcv
            · exact (objK _ _ hb).1
            · exact ne_of_none hcv f0
          · rcases hcv with rfl | hcv
            · exact (objK _ _ hb).2
            · exact ne_of_none hcv g0
        · rw [upd_ne (ne_of_none q hnone)]; exact q
        · rw [upd_ne (ne_of_none q hnone)]; exact q
    have I1 : Inv X pins σ (upd H s.heap.objs.size (.tup [.int i, x])) { s with heap := h'', toks := tk + 1 } := by
      refine Inv.step (ch := [e, it]) (g' := s.gens) (d' := s.drawn) (t' := tk + 1) I (fun b hb => ?_) (fun b o h1 h2 h3 h4 h5 => ?_) (fun b o h1 h2 h3 h4 h5 => ?_) (fun b o h3 h4 h5 => ?_) (fun b o h3 h4 => ?_) (fun b ys q => ?_) (fun b o u' q => ?_) (fun b ps q => ?_) (fun m hm => ?_) hok' I.bare
      · rcases List.mem_cons.mp hb with rfl | hb
        · exact ⟨f3, f1, f4, f5⟩
        · rw [List.mem_singleton.mp hb]
          exact ⟨g3, g1, g4, g5⟩
      · exact kp b o (fun z => h3 (by simp [z])) (fun z => h3 (by simp [z])) h4
      · exact ⟨o.slots, kp b o (fun z => h3 (by simp [z])) (fun z => h3 (by simp [z])) h4⟩
      · rw [upd_ne (Nat.ne_of_lt (Heap.lt_size h4))]; exact h5
      · exact ⟨o, kp b o (fun z => h3 (by simp [z])) (fun z => h3 (by simp [z])) h4⟩
      · rw [upd_ne (ne_of_none q hnone)]; exact q
      · rw [upd_ne (ne_of_none q hnone)]; exact q
      · exact ⟨#[], by rw [upd_ne (ne_of_none q hnone), Array.append_empty]; exact q⟩
      · obtain ⟨o, es, ep, ho1, r1⟩ := hm
        exact ⟨o, es, ep, kp _ o (Ne.symm f1) (Ne.symm g1) ho1, r1⟩
    refine ⟨.ref s.heap.objs.size, _, I1, rfl, ⟨s.heap.objs.size, x, rfl, hnone, rfl, fun ys hy2 => by rw [I.tuple_inj hy2 hq]; exact hx⟩, ⟨⟨y, by have := he''; push_cast; exact this⟩, ?_⟩, fun b hb => ?_⟩
    · obtain ⟨⟨o, ho2, r2⟩, _⟩ := hst
      exact ⟨o, (hs''.2 it (Ne.symm hei)).trans ho2, r2⟩
    · rcases List.mem_cons.mp hb with rfl | hb
      · rw [upd_ne (Ne.symm hTe)]; exact f0
      · rw [List.mem_singleton.mp hb, upd_ne (Ne.symm hTi)]; exact g0
  done := by
    intro X hP hw hK hc i pins s σ H E I hf st hg
    subst hP hw hK
    obtain ⟨xs, hq, hx⟩ := hg
    obtain ⟨its, rv, p, hz⟩ := I.tuple hq
    obtain ⟨f0, f1, f2, f3, f4, f5⟩ := hf it (by simp)
    obtain ⟨⟨old, he⟩, hit⟩ := st
    have hl := rv.length
    have hT : s.TypeIs (.ref e) "enumerate" := ⟨_, he, rfl⟩
    unfold pyNext
    refine wpAny_bind (wpAny_attempt (wpAny_callSpecial?_slot (name := Str.ofString "__next__") hT F.slot_enumerate_next
      (wpAny_call_entry F.slot_enumerate_next hT F.entry_enumerate_next ?_ (F.args_enumerate_next_1 _))))
    show wpAny _ _ (field (.ref e) 2 >>= _) _ _ _
    refine wpAny_bind (wpAny_field he rfl (x := .ref it) rfl ?_)
    refine wpAny_bind (nextOf_tuple_end (A := X.A.in1) (I.ok.hd hc) hit p (by simp; omega) fun h' x he' hx' => ?_)
    obtain ⟨o, ho, hc'⟩ := hx'
    refine wpAny_bind (wpAny_isInstance (T := "StopIteration") (b := true) ⟨o, ho, hc'⟩ isSubtype_stop ?_)
    exact wpAny_pure ⟨rfl, I.turned (t' := s.toks) (fun b o hb e => he' b o hb e) f0 f1 f3 f4 f5⟩
  self := fun A i s Q E st h => by
    obtain ⟨⟨old, he⟩, hit⟩ := st
    exact wpAny_pyIter_enum he h
def iEnum (K : PySem.W.Frag) (ta : TA) : TI := fun σ H R => ta σ H fun vs H1 => ∃ a, vs = [.ref a] ∧ (∃ xs, SqT K H1 a xs) ∧ R (Ite K a) H1
theorem pi_enum {X : Cx} {elts : List Expr} {x1} {tpos : Pos} {a : Expr} {ta : TA} {p pos : Pos} (hg : Gl X "enumerate") (hm : X.mg "enumerate" = none) (ha : PA X [a] ta) (hs : starEach [a] X.env = [(false, eval a X.env)] := by rfl) :
    PI X (.Tuple elts x1 tpos) (.Call (.Name "enumerate" p) [a] [] pos) (iEnum X.K ta) := by
  intro pins s σ H R I h
  refine Call_ (ld_blt I hg hm boot_enumerate (PyProof.Rows.callWith_type1 (thn (ha pos pins s σ H _ I h) fun us s1 ⟨vs, H1, I1, r1, q1⟩ => ?_) hs rfl))
  obtain ⟨b, rfl, ⟨xs, hq⟩, q⟩ := q1
  obtain ⟨u, rfl, ru⟩ := vals1 r1
  cases ru
  obtain ⟨its, rv, pt, hz⟩ := I1.tuple hq
  refine call_enumerate_tuple (show s1.heap.IsTuple b its.toArray from pt) fun h' he hit hsz hk => ?_
  have I2 : Inv X pins σ H1 { s1 with heap := h', toks := s1.toks } := I1.kept (t' := s1.toks) hk
  refine wpAny_pyIter_enum he ?_
  refine ⟨s1.heap.objs.size + 1, [s1.heap.objs.size + 1, s1.heap.objs.size], _, _, H1, rfl, I2, turn_enum b s1.heap.objs.size (s1.heap.objs.size + 1) (Nat.succ_ne_self _), ⟨⟨_, he⟩, hit⟩, fun c hc => ?_, q⟩
  rcases List.mem_cons.mp hc with rfl | hc
  · exact I1.fpOk (Nat.le_succ _) (I1.hok.fresh (Nat.le_succ _))
  · rw [List.mem_singleton.mp hc]
    exact I1.fpOk (Nat.le_refl _) (I1.hok.fresh (Nat.le_refl _))
theorem qi_enum {X : Cx} {elts : List Expr} {x1} {tpos : Pos} {a : Expr} {ta : TA} {p pos : Pos} (hg : Gl X "enumerate") (hm : X.mg "enumerate" = none) (ha : QA X [a] ta) (hs : starEach [a] X.env = [(false, eval a X.env)] := by rfl) :
    QI X (.Tuple elts x1 tpos) (.Call (.Name "enumerate" p) [a] [] pos) (iEnum X.K ta) := ⟨pi_enum hg hm ha.run hs⟩
theorem for_enum {K : PySem.W.Frag} {a : Addr} {xs : List V} {g : TG} {tb : TS} {D : Ends} {σ : St} {H : Hp} (Pv : Nat → St → Hp → Prop) (h0 : Pv 0 σ H) (hl : ∀ i σ H, i ≤ xs.length → Pv i σ H → SqT K H a xs)
    (hs : ∀ i x T σ H, xs[i]? = some x → Pv i σ H → H T = none → g (.ref T) σ (upd H T (.tup [.int i, x])) fun σ2 H2 => tb { D with nx := Pv (i + 1), ct := Pv (i + 1), bk := D.nx } σ2 H2) (hd : ∀ σ H, Pv xs.length σ H → D.nx σ H) :
    ∃ W : Nat → Nat → St → Hp → Prop, (∃ m, W 0 m σ H) ∧ ∀ i m σ H, W i m σ H →
      ((Ite K a).stop i H ∧ D.nx σ H) ∨ ((Ite K a).go i H ∧ ∃ N : St → Hp → Prop, (∀ σ' H', N σ' H' → ∃ m', m' < m ∧ W (i + 1) m' σ' H') ∧ ∀ x H', (Ite K a).yld i H x H' → g x σ H' fun σ2 H2 => tb { D with nx := N, ct := N, bk := D.nx } σ2 H2) := by
  refine ⟨fun i m σ H => m = xs.length - i ∧ i ≤ xs.length ∧ Pv i σ H, ⟨xs.length, by simp, Nat.zero_le _, h0⟩, ?_⟩
  rintro i m σ H ⟨rfl, hi, p⟩
  have q := hl i σ H hi p
  by_cases hlt : i < xs.length
  · refine .inr ⟨⟨xs, xs[i], q, by simp [hlt]⟩, Pv (i + 1), fun σ' H' p' => ⟨xs.length - (i + 1), by omega, rfl, hlt, p'⟩, fun x H' y => ?_⟩
    obtain ⟨T, z, rfl, hT, rfl, y⟩ := y
    exact hs i z T σ H (y xs q) p hT
  · have e : i = xs.length := by omega
    subst e
    exact .inl ⟨⟨xs, q, Nat.le_refl _⟩, hd σ H p⟩
/-! ### xs.append(e) -/
end L2


set_option Elab.async false
set_option linter.all false
set_option maxRecDepth 100000
namespace L2
open PySem PySem.Spec PyProof.Rows
/-! ### == of data -/
mutual
def Dt.toW : Dt → PySem.W.Dat
  | .non => .none
  | .bl b => .bool b
  | .int i => .int i
  | .str x => .str x
  | .tup l => .tuple (Dt.toWs l)
  | .lst l => .list (Dt.toWs l)
  | .dct => .bytes #[]
def Dt.toWs : List Dt → List PySem.W.Dat
  | [] => []
  | d :: ds => d.toW :: Dt.toWs ds
end
mutual
theorem toW_inj : ∀ {d e : Dt}, d.toW = e.toW → d = e
  | .non, e, h => by cases e <;> simp [Dt.toW] at h ⊢
  | .bl b, e, h => by cases e <;> simp [Dt.toW] at h ⊢; exact h
  | .int b, e, h => by cases e <;> simp [Dt.toW] at h ⊢; exact h
  | .str b, e, h => by cases e <;> simp [Dt.toW] at h ⊢; exact h
  | .tup l, e, h => by
    cases e with
    | tup m => simp only [Dt.toW, PySem.W.Dat.tuple.injEq] at h; rw [toWs_inj h]
    | _ => simp [Dt.toW] at h
  | .lst l, e, h => by
    cases e with
    | lst m => simp only [Dt.toW, PySem.W.Dat.list.injEq] at h; rw [toWs_inj h]
    | _ => simp [Dt.toW] at h
  | .dct, e, h => by cases e <;> simp [Dt.toW] at h ⊢
theorem toWs_inj : ∀ {l m : List Dt}, Dt.toWs l = Dt.toWs m → l = m
  | [], m, h => by cases m <;> simp [Dt.toWs] at h ⊢
  | d :: l, m, h => by
    cases m with
    | nil => simp [Dt.toWs] at h
    | cons e m =>
      simp only [Dt.toWs, List.cons.injEq] at h
      rw [toW_inj h.1, toWs_inj h.2]
end
/-- data that == takes: at most eight deep, no truths, no dicts -/
def Dt.eqOk (d : Dt) : Prop := PySem.W.kqdOk 8 d.toW = true
section
variable {P : Program} {w : World} {H : Hp} {h : Heap}
mutual
theorem is_reads (ok : HOk P w H h) : ∀ (n : Nat) {d : Dt} {v : V} {u : Value}, Is H d v → RelV v u → PySem.W.kqdOk n d.toW = true → ∃ as, Reads h u (PySem.W.kqdP d.toW) as
  | _, .non, _, _, h1, r, _ => by cases h1; cases r; exact ⟨_, Reads.none⟩
  | n, .bl b, _, _, _, _, k => by cases n <;> simp [Dt.toW, PySem.W.kqdOk] at k
  | _, .int i, _, _, h1, r, _ => by cases h1; obtain ⟨t, rfl⟩ := r; exact ⟨_, Reads.int i t⟩
  | _, .str x, _, _, h1, r, _ => by cases h1; obtain ⟨t, rfl⟩ := r; exact ⟨_, Reads.str x t⟩
  | 0, .tup l, _, _, _, _, k => by simp [Dt.toW, PySem.W.kqdOk] at k
  | n + 1, .tup l, _, _, h1, r, k => by
    obtain ⟨a, xs, rfl, ha, hl⟩ := h1
    cases r
    obtain ⟨_, its, rv, o, ho, hc, m, hd⟩ := ok a _ ha
    obtain ⟨as, q⟩ := is_readsAll ok n hl rv (by simpa [Dt.toW, PySem.W.kqdOk] using k)
    exact ⟨as, reads_tuple_at ho hc hd (by simpa using q)⟩
  | 0, .lst l, _, _, _, _, k => by simp [Dt.toW, PySem.W.kqdOk] at k
  | n + 1, .lst l, _, _, h1, r, k => by
    obtain ⟨a, xs, rfl, ha, hl⟩ := h1
    cases r
    obtain ⟨_, its, m, rv, e⟩ := ok a _ ha
    obtain ⟨as, q⟩ := is_readsAll ok n hl rv (by simpa [Dt.toW, PySem.W.kqdOk] using k)
    exact ⟨_, reads_list_at e rfl rfl (by simpa using q)⟩
  | n, .dct, _, _, _, _, k => by cases n <;> simp [Dt.toW, PySem.W.kqdOk] at k
theorem is_readsAll (ok : HOk P w H h) : ∀ (n : Nat) {ds : List Dt} {xs : List V} {us : List Value}, IsL H ds xs → Vals xs us → (∀ d ∈ Dt.toWs ds, PySem.W.kqdOk n d = true) → ∃ as, ReadsAll h us (PySem.W.kqdPs (Dt.toWs ds)) as
  | _, [], _, _, h1, r, _ => by cases h1; cases r; exact ⟨_, ReadsAll.nil⟩
  | n, d :: ds, _, _, h1, r, k => by
    obtain ⟨x, xr, rfl, hd, hr⟩ := h1
    cases r with
    | cons rx rr =>
      obtain ⟨as, q⟩ := is_reads ok n hd rx (k _ (by simp [Dt.toWs]))
      obtain ⟨bs, q2⟩ := is_readsAll ok n hr rr fun e he => k e (by simp [Dt.toWs, he])
      exact ⟨_, ReadsAll.cons q q2⟩
end
end
theorem eqOk_shaped {d : Dt} (h : d.eqOk) : SeqAt.shaped (PySem.W.kqdP d.toW) = true := by
  have l := PySem.W.kqd_lay 8 _ h
  unfold SeqAt.shaped
  rw [l.1, Bool.true_and]
  exact decide_eq_true (Nat.le_trans l.2 (by decide))
def rEqD : R2 := fun x y H Q => ∃ d e, Is H d x ∧ Is H e y ∧ d.eqOk ∧ e.eqOk ∧ ∀ b : Bool, (b = true ↔ d = e) → Q (.bl b) H
def rNeD : R2 := fun x y H Q => ∃ d e, Is H d x ∧ Is H e y ∧ d.eqOk ∧ e.eqOk ∧ ∀ b : Bool, (b = true ↔ d = e) → Q (.bl (!b)) H
section
variable {X : Cx}
theorem eqv_iff {d e : Dt} (h1 : d.eqOk) (h2 : e.eqOk) : PyData.eqv (PySem.W.kqdP d.toW) (PySem.W.kqdP e.toW) = true ↔ d = e :=
  (PySem.W.kqd_eqv 8 d.toW e.toW 8 h1 h2).trans ⟨toW_inj, fun z => by rw [z]⟩
theorem op_eqD (hu : X.A.units + 64 < cLine) : OpR X (compareOp .Eq) rEqD := by
  intro pins s σ H x y v u Q I rx ry h
  obtain ⟨d, e, hd, he, kd, ke, q⟩ := h
  obtain ⟨as, ra⟩ := is_reads I.hok 8 hd rx kd
  obtain ⟨bs, rb⟩ := is_reads I.hok 8 he ry ke
  exact eq_dataH ra rb (eqOk_shaped kd) (eqOk_shaped ke) hu ⟨.bl _, H, I, rfl, q _ (eqv_iff kd ke)⟩
theorem op_neD (hu : X.A.units + 64 < cLine) : OpR X (compareOp .NotEq) rNeD := by
  intro pins s σ H x y v u Q I rx ry h
  obtain ⟨d, e, hd, he, kd, ke, q⟩ := h
  obtain ⟨as, ra⟩ := is_reads I.hok 8 hd rx kd
  obtain ⟨bs, rb⟩ := is_reads I.hok 8 he ry ke
  exact ne_dataH ra rb (eqOk_shaped kd) (eqOk_shaped ke) hu ⟨.bl _, H, I, rfl, q _ (eqv_iff kd ke)⟩
theorem oq_eqD (hu : X.A.units + 64 < cLine) : OpQ X (compareOp .Eq) rEqD := ⟨op_eqD hu⟩
theorem oq_neD (hu : X.A.units + 64 < cLine) : OpQ X (compareOp .NotEq) rNeD := ⟨op_neD hu⟩
/-- xs.append(e) -/
theorem qe_app {o e : Expr} {to : TE} {t : TA} {apos cpos : Pos} (ho : QE X o to) (ha : QA X [e] t) (hbase : attributeBase o "append" X.env (eval o X.env) = eval o X.env := by rfl)
    (hfew : ((backTo cpos (starEach [e] X.env)).all (fun x => !x.1) && (backToKw cpos (keywordEach [] X.env)).all (fun x => x.1.isSome) && decide (([e] : List Expr).length + ([] : List Keyword).length + (if ([] : List Keyword).isEmpty then 0 else 1) < 30)) = true := by rfl)
    (hline : (apos.endLine == cpos.line) = true := by rfl) (hs : starEach [e] X.env = (false, eval e X.env) :: starEach [] X.env := by rfl) (hplain : (backTo cpos (starEach [] X.env)).any (·.1) = false := by rfl) :
    QE X (.Call (.Attribute o "append" apos) [e] [] cpos) (tBM X.K "list" rAppend to t) := ⟨pe_bm PySem.F.plainAttrs_list PySem.F.slot_list_append PySem.F.type_list_append mt_append ho.run ha.run hbase hfew hline hs hplain⟩
end
theorem eqOk_ints {ns : List Int} : (Dt.tup (ns.map .int)).eqOk := by
  have e : ∀ ns : List Int, (Dt.toWs (ns.map .int)).all (PySem.W.kqdOk 7) = true := by
    intro ns
    induction ns with
    | nil => rfl
    | cons n ns ih => simp only [List.map_cons, Dt.toWs, List.all_cons, ih, Bool.and_true]; rfl
  exact e ns
end L2


set_option Elab.async false
set_option linter.all false
set_option maxRecDepth 100000
namespace L2
open PySem PySem.Spec PyProof.Rows
/-- a room stands at ra -/
structure RoomAt (H : Hp) (ra : Addr) (rm : List Int) : Prop where
  at' : H ra = some (.tup (rm.map V.int))
  ne : rm ≠ []
  few : rm.length ≤ 8
  box : ∀ r ∈ rm, 2 ≤ r ∧ r ≤ 4
theorem RoomAt.stay {H H' : Hp} {ra : Addr} {rm : List Int} (h : RoomAt H ra rm) (s : Stay H H') : RoomAt H' ra rm := ⟨s.tup h.at', h.ne, h.few, h.box⟩
theorem RoomAt.pos {H : Hp} {ra : Addr} {rm : List Int} (h : RoomAt H ra rm) : 1 ≤ rm.length := by
  cases rm with
  | nil => exact absurd rfl h.ne
  | cons _ _ => simp
def many (rm : List Int) (i : Int) : Int := rm.getD i.toNat 0
theorem RoomAt.get {H : Hp} {ra : Addr} {rm : List Int} (h : RoomAt H ra rm) {i : Int} (h0 : 0 ≤ i) (h1 : i < rm.length) : atI (rm.map V.int) i = some (.int (many rm i)) ∧ 2 ≤ many rm i ∧ many rm i ≤ 4 := by
  obtain ⟨j, rfl⟩ : ∃ j : Nat, i = j := ⟨i.toNat, by omega⟩
  have hj : j < rm.length := by omega
  have e : many rm (j : Int) = rm[j] := by unfold many; simp [hj]
  rw [e]
  exact ⟨atI_nat (by simp [hj]), h.box _ (List.getElem_mem hj)⟩
def boxOk (rm : List Int) : Dt → Bool
  | .int i => decide (0 ≤ i) && decide (i < rm.length)
  | _ => false
def worthOk (rm : List Int) (i : Int) : Dt → Bool
  | .int j => decide (0 ≤ j) && decide (j < many rm i)
  | _ => false
def choiceB (rm : List Int) : Dt → Bool
  | .tup [a, b] => boxOk rm a && worthOk rm a.val b
  | _ => false
def headV : Dt → Int
  | .tup (a :: _) => a.val
  | _ => 0
def givenF (rm : List Int) : Int → List Dt → Bool
  | _, [] => true
  | last, d :: r => choiceB rm d && decide (last < headV d) && givenF rm (headV d) r
def givenB (rm : List Int) : Dt → Bool
  | .tup l => givenF rm (-1) l
  | _ => false
theorem choice_is {rm : List Int} {d : Dt} (h : choiceB rm d = true) : ∃ i j, d = .tup [.int i, .int j] ∧ 0 ≤ i ∧ i < rm.length ∧ 0 ≤ j ∧ j < many rm i := by
  cases d with
  | tup l =>
    match l, h with
    | [a, b], h =>
      have h' : (boxOk rm a && worthOk rm a.val b) = true := h
      rw [Bool.and_eq_true] at h'
      cases a with
      | int i =>
        cases b with
        | int j =>
          have h1 := h'.1
          have h2 := h'.2
          simp only [boxOk, worthOk, Dt.val, Bool.and_eq_true, decide_eq_true_eq] at h1 h2
          exact ⟨i, j, rfl, h1.1, h1.2, h2.1, of_decide_eq_true h2.2⟩
        | _ => exact absurd h'.2 Bool.false_ne_true
      | _ => exact absurd h'.1 Bool.false_ne_true
  | _ => exact absurd h Bool.false_ne_true
def pairD (q : Int × Int) : Dt := .tup [.int q.1, .int q.2]
/-- a given: boxes rise, worths are within -/
structure Giv (rm : List Int) (g : List (Int × Int)) : Prop where
  ok : ∀ q ∈ g, 0 ≤ q.1 ∧ q.1 < rm.length ∧ 0 ≤ q.2 ∧ q.2 < many rm q.1
  up : g.Pairwise fun a b => a.1 < b.1
theorem giv_ok {rm : List Int} : ∀ {g : List (Int × Int)} {last : Int}, Giv rm g → (∀ q ∈ g, last < q.1) → givenF rm last (g.map pairD) = true
  | [], _, _, _ => rfl
  | q :: g, last, h, hl => by
    have hq := h.ok q List.mem_cons_self
    have hu := List.pairwise_cons.mp h.up
    have ih := giv_ok (g := g) (last := q.1) ⟨fun x hx => h.ok x (List.mem_cons_of_mem _ hx), hu.2⟩ hu.1
    have h1 := hl q List.mem_cons_self
    show (choiceB rm (pairD q) && decide (last < headV (pairD q)) && givenF rm (headV (pairD q)) (g.map pairD)) = true
    have e1 : choiceB rm (pairD q) = true := by
      show (boxOk rm (.int q.1) && worthOk rm q.1 (.int q.2)) = true
      simp only [boxOk, worthOk, Bool.and_eq_true, decide_eq_true_eq]
      exact ⟨⟨hq.1, hq.2.1⟩, hq.2.2.1, hq.2.2.2⟩
    have e2 : headV (pairD q) = q.1 := rfl
    rw [e1, e2, ih]
    simp [h1]
theorem Giv.givenB {rm : List Int} {g : List (Int × Int)} (h : Giv rm g) : givenB rm (.tup (g.map pairD)) = true := giv_ok h fun q hq => by have := (h.ok q hq).1; omega
/-! data without lists stay where the tuples stay -/
def StayT (H H' : Hp) : Prop := ∀ b xs, H b = some (.tup xs) → H' b = some (.tup xs)
theorem StayT.app {H : Hp} {a : Addr} {xs ys : List V} (h : H a = some (.lst xs)) : StayT H (upd H a (.lst ys)) := fun b zs e => by
  by_cases hb : b = a
  · subst hb; rw [h] at e; cases e
  · rw [upd_ne hb]; exact e
mutual
def Dt.noL : Dt → Bool
  | .tup l => Dt.noLs l
  | .lst _ => false
  | .dct => false
  | _ => true
def Dt.noLs : List Dt → Bool
  | [] => true
  | d :: ds => d.noL && Dt.noLs ds
end
mutual
theorem Is.stayT {H H1 : Hp} (a : StayT H H1) : ∀ {d : Dt} {v : V}, d.noL = true → Is H d v → Is H1 d v
  | .non, _, _, h => h
  | .bl _, _, _, h => h
  | .int _, _, _, h => h
  | .str _, _, _, h => h
  | .tup l, _, n, h => by
    obtain ⟨p, xs, e, hp, hl⟩ := h
    exact ⟨p, xs, e, a _ _ hp, IsL.stayT a (by simpa [Dt.noL] using n) hl⟩
  | .lst l, _, n, _ => by simp [Dt.noL] at n
  | .dct, _, n, _ => by simp [Dt.noL] at n
theorem IsL.stayT {H H1 : Hp} (a : StayT H H1) : ∀ {ds : List Dt} {xs : List V}, Dt.noLs ds = true → IsL H ds xs → IsL H1 ds xs
  | [], _, _, h => h
  | d :: ds, _, n, h => by
    obtain ⟨x, r, e, hd, hr⟩ := h
    have n' : d.noL = true ∧ Dt.noLs ds = true := by simpa [Dt.noLs] using n
    exact ⟨x, r, e, Is.stayT a n'.1 hd, IsL.stayT a n'.2 hr⟩
end
theorem noL_pairs : ∀ g : List (Int × Int), Dt.noLs (g.map pairD) = true
  | [] => rfl
  | q :: g => by
    show (Dt.noL (pairD q) && Dt.noLs (g.map pairD)) = true
    rw [noL_pairs g]
    rfl
theorem Giv.snoc {rm : List Int} {g : List (Int × Int)} {i w : Int} (h : Giv rm g) (hl : ∀ q ∈ g, q.1 < i) (h0 : 0 ≤ i) (h1 : i < rm.length) (h2 : 0 ≤ w) (h3 : w < many rm i) : Giv rm (g ++ [(i, w)]) := by
  refine ⟨fun q hq => ?_, List.pairwise_append.mpr ⟨h.up, List.pairwise_singleton _ _, fun a ha b hb => ?_⟩⟩
  · rcases List.mem_append.mp hq with z | z
    · exact h.ok q z
    · rw [List.mem_singleton.mp z]; exact ⟨h0, h1, h2, h3⟩
  · rw [List.mem_singleton.mp hb]; exact hl a ha
theorem Pen.app {H : Hp} {p c fa : Addr} {ns : List Int} {n : Nat} {xs ys : List V} (P : Pen H p c ns n) (hf : H fa = some (.lst xs)) (hc : c ≠ fa) : Pen (upd H fa (.lst ys)) p c ns n := by
  obtain ⟨⟨a, l, h1, h2, h3, h4⟩, h5, h6⟩ := P
  have hp : p ≠ fa := fun e => by subst e; rw [hf] at h1; cases h1
  exact ⟨⟨a, l, by rw [upd_ne hp]; exact h1, h2, h3, h4⟩, by rw [upd_ne hc]; exact h5, h6⟩
theorem stay_app {H H1 : Hp} {fa : Addr} {o : HO} (s : Stay H H1) (hf : ∀ b o, H b = some o → (∀ kvs, o = .dK kvs → valV kvs (Sum.inr "at" : Key) = none) → b ≠ fa) : Stay H (upd H1 fa o) := fun b u e nn => by
  rw [upd_ne (hf b u e nn)]; exact s b u e nn
theorem IsL.all {H : Hp} : ∀ {ds : List Dt} {xs : List V}, IsL H ds xs → AllIs H xs
  | [], _, h => by cases h; exact fun x hx => by simp at hx
  | d :: ds, _, h => by
    obtain ⟨x, r, rfl, hd, hr⟩ := h
    intro y hy
    rcases List.mem_cons.mp hy with rfl | hy
    · exact ⟨d, hd⟩
    · exact IsL.all hr y hy
/-! promises -/
def spBox : Sp := fun vs H Q _ => ∃ (ra : Addr) (rm : List Int) (v : V) (d : Dt), vs = [.ref ra, v] ∧ RoomAt H ra rm ∧ Is H d v ∧ Q (.bl (boxOk rm d)) H
def spWorth : Sp := fun vs H Q _ => ∃ (ra : Addr) (rm : List Int) (i : Int) (v : V) (d : Dt), vs = [.ref ra, .int i, v] ∧ RoomAt H ra rm ∧ 0 ≤ i ∧ i < rm.length ∧ Is H d v ∧ Q (.bl (worthOk rm i d)) H
def spChoice : Sp := fun vs H Q _ => ∃ (ra : Addr) (rm : List Int) (v : V) (d : Dt), vs = [.ref ra, v] ∧ RoomAt H ra rm ∧ Is H d v ∧ Q (.bl (choiceB rm d)) H
def spGiven : Sp := fun vs H Q _ => ∃ (ra : Addr) (rm : List Int) (v : V) (d : Dt), vs = [.ref ra, v] ∧ RoomAt H ra rm ∧ Is H d v ∧ Q (.bl (givenB rm d)) H
def spMkGiven : Sp := fun vs H Q _ => ∃ (p c ra : Addr) (ns rm : List Int) (n : Nat) (apart : Int), vs = [.ref p, .ref ra, .int apart] ∧ Pen H p c ns n ∧ n + 40 ≤ 1000000 ∧ RoomAt H ra rm ∧
  ∀ (a : Addr) (g : List (Int × Int)) (H' : Hp), Is H' (.tup (g.map pairD)) (.ref a) → Giv rm g → (∀ q ∈ g, q.1 ≠ apart) → g.length ≤ 8 → Pen H' p c ns (n + 30) → Stay H H' → Q (.ref a) H'
end L2


set_option Elab.async false
set_option linter.all false
set_option maxRecDepth 100000
/-! What is new lies at some new place of some later heap: no text of the heap is carried on. -/
namespace L2
open PySem PySem.Spec PyProof.Rows
/-- what holds of every later heap with o at a new place -/
def New (H : Hp) (o : HO) (R : V → Hp → Prop) : Prop := ∀ (p : Addr) (H' : Hp), H p = none → H' p = some o → Same H H' → R (.ref p) H'
theorem New.at {H : Hp} {o : HO} {R : V → Hp → Prop} (h : New H o R) {p : Addr} (hp : H p = none) : R (.ref p) (upd H p o) := h p _ hp upd_same (Same.upd hp)
def tTupN (t : TA) : TE := fun σ H Q => t σ H fun xs H1 => xs.length ≤ sizeLine ∧ New H1 (.tup xs) Q
def tLstN (t : TA) : TE := fun σ H Q => t σ H fun xs H1 => xs.length ≤ sizeLine ∧ New H1 (.lst xs) Q
section
variable {X : Cx} {es : List Expr} {t : TA} {pos : Pos}
theorem pe_tupN {x1} (h : PA X es t) : PE X (.Tuple es x1 pos) (tTupN t) := by
  intro pins s σ H Q I hq
  refine wpAny_Tuple_spliced (thn (h pos pins s σ H _ I hq) fun us s1 ⟨xs, H1, I1, r, z, q⟩ => ⟨by rw [← r.length]; exact z, ?_⟩)
  have hf : H1 s1.heap.objs.size = none := I1.hok.fresh (Nat.le_refl _)
  refine ⟨.ref s1.heap.objs.size, upd H1 s1.heap.objs.size (.tup xs), I1.laid (t' := s1.toks) (fun b u e => Heap.get?_push_of_some _ e) (Nat.le_refl _) ?_, rfl, q.at hf⟩
  exact ⟨z, us, r, ⟨_, Heap.get?_push_size _ rfl, rfl, _, rfl⟩⟩
theorem pe_lstN (h : PA X es t) : PE X (.List es pos) (tLstN t) := by
  intro pins s σ H Q I hq
  refine wpAny_List_spliced (thn (h pos pins s σ H _ I hq) fun us s1 ⟨xs, H1, I1, r, z, q⟩ => ⟨by rw [← r.length]; exact z, ?_⟩)
  have hf : H1 s1.heap.objs.size = none := I1.hok.fresh (Nat.le_refl _)
  refine ⟨.ref s1.heap.objs.size, upd H1 s1.heap.objs.size (.lst xs), I1.laid (t' := s1.toks) (fun b u e => Heap.get?_push_of_some _ e) (Nat.le_refl _) ?_, rfl, q.at hf⟩
  exact ⟨z, us, 0, r, Heap.get?_push_size _ rfl⟩
theorem qe_tupN {x1} (h : QA X es t) : QE X (.Tuple es x1 pos) (tTupN t) := ⟨pe_tupN h.run⟩
theorem qe_lstN (h : QA X es t) : QE X (.List es pos) (tLstN t) := ⟨pe_lstN h.run⟩
theorem CallQ.weak {f : Value} {r r' : List V → Hp → VK → Prop} (h : CallQ X f r) (k : ∀ xs H Q, r' xs H Q → r xs H Q) : CallQ X f r' := ⟨fun pins s σ H xs us Q I rr z => h.run pins s σ H xs us Q I rr (k _ _ _ z)⟩
theorem OpQ.weak {f : Value → Value → Sem Value} {r r' : R2} (h : OpQ X f r) (k : ∀ x y H Q, r' x y H Q → r x y H Q) : OpQ X f r' := ⟨fun pins s σ H x y v u Q I rx ry z => h.run pins s σ H x y v u Q I rx ry (k _ _ _ _ z)⟩
def rTupleN (K : PySem.W.Frag) : List V → Hp → VK → Prop := fun xs H Q => ∃ p ys, xs = [.ref p] ∧ ((SqL K H p ys ∧ New H (.tup ys) Q) ∨ (SqT K H p ys ∧ Q (.ref p) H))
theorem cq_tuple_ofN : CallQ X (.type "tuple") (rTupleN X.K) := cq_tuple_of.weak fun xs H Q ⟨p, ys, e, h⟩ => ⟨p, ys, e, h.elim (fun ⟨a, n⟩ => .inl ⟨a, fun l hl => n.at hl⟩) .inr⟩
def rCatN : R2 := fun x y H Q => ∃ l b xs zs, x = .ref l ∧ y = .ref b ∧ H l = some (.lst xs) ∧ H b = some (.lst zs) ∧ xs.length + zs.length ≤ sizeLine ∧ New H (.lst (xs ++ zs)) Q
theorem oq_catN : OpQ X (binaryOp .Add) rCatN := oq_cat.weak fun x y H Q ⟨l, b, xs, zs, e1, e2, h1, h2, z, n⟩ => ⟨l, b, xs, zs, e1, e2, h1, h2, z, fun p hp => n.at hp⟩
end
/-! comprehensions, by a word of each turn -/
def compT (g : TG) (ti : TT) (te : TE) (acc : Addr) (N : St → Hp → Prop) (x : V) (σ : St) (H : Hp) : Prop :=
  g x σ H fun σ3 H3 => ti σ3 H3 fun ok H4 => if ok = true then te σ3 H4 fun v H5 => ∃ xs, H5 acc = some (.lst xs) ∧ xs.length < sizeLine ∧ N σ3 (upd H5 acc (.lst (xs ++ [v]))) else N σ3 H4
def compG (J : It) (g : TG) (ti : TT) (te : TE) (acc : Addr) (Q : VK) (σ : St) (H : Hp) : Prop := ∃ W : Nat → Nat → St → Hp → Prop, (∃ m, W 0 m σ H) ∧
  ∀ i m σ' H', W i m σ' H' → (J.stop i H' ∧ Q (.ref acc) H') ∨ (J.go i H' ∧ ∃ N : St → Hp → Prop, (∀ σ2 H2, N σ2 H2 → ∃ m', m' < m ∧ W (i + 1) m' σ2 H2) ∧ ∀ x H2, J.yld i H' x H2 → compT g ti te acc N x σ' H2)
def tCompG (wi : TI) (g : TG) (ti : TT) (te : TE) (cix : List (Option Nat)) : TE := fun σ H Q => wi σ H fun J H1 => ∀ acc, H1 acc = none → compG J g ti te acc Q (capS σ cix) (upd H1 acc (.lst []))
theorem qe_compG {X : Cx} {pos : Pos} {te : TE} {elt tg iter : Expr} {ifs : List Expr} {scope : Scope} {wi : TI} {g : TG} {ti : TT} {N : List Str} {cix : List (Option Nat)} (hc : X.calm = true) (c : CompOk X scope N cix)
    (hi : QI X tg iter wi) (hg : ∀ C s H ex, QG (compCx X scope N C s H ex) tg g) (ht : ∀ C s H ex, QTs (compCx X scope N C s H ex) ifs ti) (he : ∀ C s H ex, QE (compCx X scope N C s H ex) elt te)
    (hs : ∀ x, foldedSetIterable iter X.env x = pure x := by intro _; rfl) : QE X (.ListComp elt [⟨tg, iter, ifs, 0⟩] scope pos) (tCompG wi g ti te cix) := qe_comp hc c hi hg ht he hs
section
variable {K : PySem.W.Frag} {a acc : Addr} {xs : List V} {g : TG} {ti : TT} {te : TE} {σ : St} {H : Hp} {Q : VK}
theorem comp_list (hacc : H acc = none) (Pv : Nat → St → Hp → Prop) (h0 : ∀ H', H' acc = some (.lst []) → Same H H' → Pv 0 σ H') (hl : ∀ i σ H, i ≤ xs.length → Pv i σ H → SqL K H a xs)
    (hs : ∀ i x σ H, xs[i]? = some x → Pv i σ H → compT g ti te acc (Pv (i + 1)) x σ H) (hd : ∀ σ H, Pv xs.length σ H → Q (.ref acc) H) : compG (Itl K a) g ti te acc Q σ (upd H acc (.lst [])) := by
  refine ⟨fun i m σ H => m = xs.length - i ∧ i ≤ xs.length ∧ Pv i σ H, ⟨xs.length, by simp, Nat.zero_le _, h0 _ upd_same (Same.upd hacc)⟩, ?_⟩
  rintro i m σ H ⟨rfl, hi, p⟩
  have q := hl i σ H hi p
  by_cases hlt : i < xs.length
  · refine .inr ⟨⟨xs, xs[i], q, by simp [hlt]⟩, Pv (i + 1), fun σ' H' p' => ⟨xs.length - (i + 1), by omega, rfl, hlt, p'⟩, fun x H' y => ?_⟩
    obtain ⟨e, y⟩ := y
    subst e
    exact hs i x σ _ (y xs q) p
  · have e : i = xs.length := by omega
    subst e
    exact .inl ⟨⟨xs, q, Nat.le_refl _⟩, hd σ H p⟩
theorem comp_tup (hacc : H acc = none) (Pv : Nat → St → Hp → Prop) (h0 : ∀ H', H' acc = some (.lst []) → Same H H' → Pv 0 σ H') (hl : ∀ i σ H, i ≤ xs.length → Pv i σ H → SqT K H a xs)
    (hs : ∀ i x σ H, xs[i]? = some x → Pv i σ H → compT g ti te acc (Pv (i + 1)) x σ H) (hd : ∀ σ H, Pv xs.length σ H → Q (.ref acc) H) : compG (Itt K a) g ti te acc Q σ (upd H acc (.lst [])) := by
  refine ⟨fun i m σ H => m = xs.length - i ∧ i ≤ xs.length ∧ Pv i σ H, ⟨xs.length, by simp, Nat.zero_le _, h0 _ upd_same (Same.upd hacc)⟩, ?_⟩
  rintro i m σ H ⟨rfl, hi, p⟩
  have q := hl i σ H hi p
  by_cases hlt : i < xs.length
  · refine .inr ⟨⟨xs, xs[i], q, by simp [hlt]⟩, Pv (i + 1), fun σ' H' p' => ⟨xs.length - (i + 1), by omega, rfl, hlt, p'⟩, fun x H' y => ?_⟩
    obtain ⟨e, y⟩ := y
    subst e
    exact hs i x σ _ (y xs q) p
  · have e : i = xs.length := by omega
    subst e
    exact .inl ⟨⟨xs, q, Nat.le_refl _⟩, hd σ H p⟩
theorem comp_range {lo : Int} {n : Nat} (hacc : H acc = none) (Pv : Nat → St → Hp → Prop) (h0 : ∀ H', H' acc = some (.lst []) → Same H H' → Pv 0 σ H')
    (hs : ∀ i σ H, i < n → Pv i σ H → compT g ti te acc (Pv (i + 1)) (.int (lo + i)) σ H) (hd : ∀ σ H, Pv n σ H → Q (.ref acc) H) : compG (Itr lo n) g ti te acc Q σ (upd H acc (.lst [])) := by
  refine ⟨fun i m σ H => m = n - i ∧ i ≤ n ∧ Pv i σ H, ⟨n, by simp, Nat.zero_le _, h0 _ upd_same (Same.upd hacc)⟩, ?_⟩
  rintro i m σ H ⟨rfl, hi, p⟩
  by_cases hlt : i < n
  · refine .inr ⟨hlt, Pv (i + 1), fun σ' H' p' => ⟨n - (i + 1), by omega, rfl, hlt, p'⟩, fun x H' y => ?_⟩
    obtain ⟨e, y⟩ := y
    subst e y
    exact hs i σ _ hlt p
  · have e : i = n := by omega
    subst e
    exact .inl ⟨Nat.le_refl _, hd σ H p⟩
end
/-- a comprehension's turn without a test -/
theorem compNo {g : TG} {te : TE} {acc : Addr} {N : St → Hp → Prop} {x : V} {σ : St} {H : Hp} (h : g x σ H fun σ3 H3 => te σ3 H3 fun v H5 => ∃ xs, H5 acc = some (.lst xs) ∧ xs.length < sizeLine ∧ N σ3 (upd H5 acc (.lst (xs ++ [v])))) : compT g tNoTest te acc N x σ H := noTest h
theorem same_acc {H H1 : Hp} {acc : Addr} {o : HO} (h : H acc = none) (s : Same H H1) : Same H (upd H1 acc o) := fun b u e => by rw [upd_ne (ne_of_none e h)]; exact s b u e
theorem stay_acc {H H1 : Hp} {acc : Addr} {o : HO} (h : H acc = none) (s : Stay H H1) : Stay H (upd H1 acc o) := fun b u e nn => by rw [upd_ne (ne_of_none e h)]; exact s b u e nn
/-- of each thing it is known that it is nothing of some kind -/
def NoneOf (H : Hp) (B : Dt → Bool) (xs : List V) : Prop := ∀ x ∈ xs, ∃ d, Is H d x ∧ B d = false
theorem NoneOf.nil {H : Hp} {B : Dt → Bool} : NoneOf H B [] := fun _ h => by simp at h
theorem NoneOf.cons {H : Hp} {B : Dt → Bool} {x : V} {xs : List V} {d : Dt} (hd : Is H d x) (hb : B d = false) (h : NoneOf H B xs) : NoneOf H B (x :: xs) := fun y hy => by
  rcases List.mem_cons.mp hy with rfl | hy
  · exact ⟨d, hd, hb⟩
  · exact h y hy
theorem iteFe {A B : Prop} {c : Bool} (e : c = false) (h : B) : if c = true then A else B := by
  rw [e]; exact iteF h
theorem iteTe {A B : Prop} {c : Bool} (e : c = true) (h : A) : if c = true then A else B := by
  rw [e]; exact iteT h
/-! rules within a comprehension: the text's fragment by its own name -/
section
variable {X : Cx} (K : PySem.W.Frag) (h : X.K = K)
include h
theorem xq_tupK : IxQ X (rIxT K) := h ▸ xq_tup
theorem oq_notIn_seqK : OpQ X (compareOp .NotIn) (rIn K true) := h ▸ oq_notIn_seq
theorem oq_catAK : OpQ X (binaryOp .Add) (rCatA K) := h ▸ oq_catA
end
theorem qg_tupK {X : Cx} (K : PySem.W.Frag) (hK : X.K = K) {es : List Expr} {pos : Pos} {k : Nat} {gs : TGs} {n : Nat} (hc : X.calm = true) (h : QGs X es gs) (hn : (assignEach es X.env).length = n := by rfl) (hst : (assignEach es X.env).findIdx? (·.1) = none := by rfl) : QG X (.Tuple es k pos) (gTup K n gs) := hK ▸ qg_tup hc h hn hst
theorem qi_tupK {X : Cx} (K : PySem.W.Frag) (hK : X.K = K) {e tg : Expr} {te : TE} (hl : QE X e te) : QI X tg e (iTup K te) := hK ▸ qi_tup hl
theorem qi_listK {X : Cx} (K : PySem.W.Frag) (hK : X.K = K) {e tg : Expr} {te : TE} (hl : QE X e te) : QI X tg e (iList K te) := hK ▸ qi_list hl
end L2


set_option Elab.async false
set_option linter.all false
set_option maxRecDepth 100000
namespace L2
open PySem PySem.Spec PyProof.Rows
/-! wishes and books -/
structure Wi where
  g : List (Int × Int)
  b : Int
  r : Int
  w : Int
def wishD (x : Wi) : Dt := .tup [.tup (x.g.map pairD), .int x.b, .int x.r, .int x.w]
structure WishOk (rm : List Int) (x : Wi) : Prop where
  giv : Giv rm x.g
  b0 : 0 ≤ x.b
  b1 : x.b < rm.length
  apart : ∀ q ∈ x.g, q.1 ≠ x.b
  r0 : 0 ≤ x.r
  r1 : x.r < many rm x.b
  w0 : 0 ≤ x.w
  w1 : x.w < many rm x.b
  ne : x.r ≠ x.w
def heads : Dt → List Int
  | .tup l => l.map headV
  | _ => []
def wishB (rm : List Int) : Dt → Bool
  | .tup [g, b, r, w] => givenB rm g && boxOk rm b && !(heads g).contains b.val && (worthOk rm b.val r && worthOk rm b.val w && !(decide (r.val = w.val)))
  | _ => false
def bookB (rm : List Int) : Dt → Bool
  | .tup l => decide (l.length ≤ 600) && l.all (wishB rm)
  | _ => false
theorem heads_pairs (g : List (Int × Int)) : heads (.tup (g.map pairD)) = g.map (·.1) := by
  show (g.map pairD).map headV = _
  rw [List.map_map]
  rfl
theorem WishOk.wishB {rm : List Int} {x : Wi} (h : WishOk rm x) : wishB rm (wishD x) = true := by
  have e1 : boxOk rm (.int x.b) = true := by
    show (decide (0 ≤ x.b) && decide (x.b < (rm.length : Int))) = true
    rw [decide_eq_true h.b0, decide_eq_true h.b1]; rfl
  have e2 : worthOk rm x.b (.int x.r) = true := by
    show (decide (0 ≤ x.r) && decide (x.r < many rm x.b)) = true
    rw [decide_eq_true h.r0, decide_eq_true h.r1]; rfl
  have e3 : worthOk rm x.b (.int x.w) = true := by
    show (decide (0 ≤ x.w) && decide (x.w < many rm x.b)) = true
    rw [decide_eq_true h.w0, decide_eq_true h.w1]; rfl
  have e4 : (heads (.tup (x.g.map pairD))).contains x.b = false := by
    rw [heads_pairs, Bool.eq_false_iff]
    intro z
    have z' := List.contains_iff_mem.mp z
    obtain ⟨q, hq, e⟩ := List.mem_map.mp z'
    exact h.apart q hq e
  show (givenB rm (.tup (x.g.map pairD)) && boxOk rm (.int x.b) && !(heads (.tup (x.g.map pairD))).contains x.b && (worthOk rm x.b (.int x.r) && worthOk rm x.b (.int x.w) && !(decide (x.r = x.w)))) = true
  rw [h.giv.givenB, e1, e2, e3, e4, decide_eq_false h.ne]
  rfl
/-- a given's boxes and worths: what a datum that is one looks like -/
theorem givenF_is {rm : List Int} : ∀ {l : List Dt} {last : Int}, givenF rm last l = true → ∃ g : List (Int × Int), l = g.map pairD ∧ Giv rm g ∧ ∀ q ∈ g, last < q.1
  | [], _, _ => ⟨[], rfl, ⟨fun _ h => by simp at h, .nil⟩, fun _ h => by simp at h⟩
  | d :: l, last, h => by
    have h' : (choiceB rm d && decide (last < headV d) && givenF rm (headV d) l) = true := h
    rw [Bool.and_eq_true, Bool.and_eq_true] at h'
    obtain ⟨i, j, rfl, i0, i1, j0, j1⟩ := choice_is h'.1.1
    obtain ⟨g, rfl, hG, hl⟩ := givenF_is h'.2
    have h2 : last < i := of_decide_eq_true h'.1.2
    refine ⟨(i, j) :: g, rfl, ⟨fun q hq => ?_, List.pairwise_cons.mpr ⟨hl, hG.up⟩⟩, fun q hq => ?_⟩
    · rcases List.mem_cons.mp hq with rfl | hq
      · exact ⟨i0, i1, j0, j1⟩
      · exact hG.ok q hq
    · rcases List.mem_cons.mp hq with rfl | hq
      · exact h2
      · have := hl q hq
        exact Int.lt_trans h2 this
theorem given_is {rm : List Int} {d : Dt} (h : givenB rm d = true) : ∃ g : List (Int × Int), d = .tup (g.map pairD) ∧ Giv rm g := by
  cases d with
  | tup l =>
    obtain ⟨g, rfl, hG, _⟩ := givenF_is (show givenF rm (-1) l = true from h)
    exact ⟨g, rfl, hG⟩
  | _ => exact absurd h Bool.false_ne_true
/-! each of some things is a datum of some kind -/
def AllOf (H : Hp) (R : Dt → Prop) (xs : List V) : Prop := ∀ x ∈ xs, ∃ d, Is H d x ∧ R d
section
variable {H H' : Hp} {R : Dt → Prop} {xs ys : List V}
theorem AllOf.nil : AllOf H R [] := fun _ h => by simp at h
theorem AllOf.cons {x : V} {d : Dt} (hd : Is H d x) (hr : R d) (h : AllOf H R xs) : AllOf H R (x :: xs) := fun y hy => by
  rcases List.mem_cons.mp hy with rfl | hy
  · exact ⟨d, hd, hr⟩
  · exact h y hy
theorem AllOf.append (h : AllOf H R xs) (k : AllOf H R ys) : AllOf H R (xs ++ ys) := fun x hx => by
  rcases List.mem_append.mp hx with z | z
  · exact h x z
  · exact k x z
theorem AllOf.sub (h : AllOf H R xs) (k : ∀ y ∈ ys, y ∈ xs) : AllOf H R ys := fun x hx => h x (k x hx)
theorem AllOf.stay (h : AllOf H R xs) (s : Stay H H') : AllOf H' R xs := fun x hx => by
  obtain ⟨d, hd, hr⟩ := h x hx
  exact ⟨d, hd.stay s, hr⟩
theorem AllOf.stayT (h : AllOf H R xs) (s : StayT H H') (hn : ∀ d, R d → d.noL = true) : AllOf H' R xs := fun x hx => by
  obtain ⟨d, hd, hr⟩ := h x hx
  exact ⟨d, hd.stayT s (hn d hr), hr⟩
theorem AllOf.dts : ∀ {xs : List V}, AllOf H R xs → ∃ ds, IsL H ds xs ∧ ∀ d ∈ ds, R d
  | [], _ => ⟨[], rfl, fun _ h => by simp at h⟩
  | x :: xs, h => by
    obtain ⟨d, hd, hr⟩ := h x List.mem_cons_self
    obtain ⟨ds, hds, hrs⟩ := AllOf.dts (xs := xs) fun y hy => h y (List.mem_cons_of_mem _ hy)
    exact ⟨d :: ds, ⟨x, xs, rfl, hd, hds⟩, fun e he => by
      rcases List.mem_cons.mp he with rfl | he
      · exact hr
      · exact hrs e he⟩
end
def IsWish (rm : List Int) (d : Dt) : Prop := ∃ x, d = wishD x ∧ WishOk rm x
theorem noL_wish (x : Wi) : (wishD x).noL = true := by
  show Dt.noLs [.tup (x.g.map pairD), .int x.b, .int x.r, .int x.w] = true
  show (Dt.noLs (x.g.map pairD) && _) = true
  rw [noL_pairs]
  rfl
theorem IsWish.noL {rm : List Int} {d : Dt} (h : IsWish rm d) : d.noL = true := by
  obtain ⟨x, rfl, _⟩ := h
  exact noL_wish x
theorem IsWish.b {rm : List Int} {d : Dt} (h : IsWish rm d) : wishB rm d = true := by
  obtain ⟨x, rfl, h⟩ := h
  exact h.wishB
theorem kqd_wish (x : Wi) : PySem.W.kqdOk 7 (wishD x).toW = true := by
  have e : ∀ g : List (Int × Int), (Dt.toWs (g.map pairD)).all (PySem.W.kqdOk 5) = true := by
    intro g
    induction g with
    | nil => rfl
    | cons n ns ih => simp only [List.map_cons, Dt.toWs, List.all_cons, ih, Bool.and_true]; rfl
  show ((Dt.toWs (x.g.map pairD)).all (PySem.W.kqdOk 5) && _) = true
  rw [e]
  rfl
theorem eqOk_wishes {rm : List Int} {ds : List Dt} (h : ∀ d ∈ ds, IsWish rm d) : (Dt.tup ds).eqOk ∧ (Dt.lst ds).eqOk := by
  have e : ∀ ds : List Dt, (∀ d ∈ ds, IsWish rm d) → (Dt.toWs ds).all (PySem.W.kqdOk 7) = true := by
    intro ds
    induction ds with
    | nil => intro _; rfl
    | cons n ns ih =>
      intro h
      obtain ⟨x, rfl, _⟩ := h n List.mem_cons_self
      simp only [Dt.toWs, List.all_cons, ih fun d hd => h d (List.mem_cons_of_mem _ hd), kqd_wish x, Bool.and_true]
  exact ⟨e ds h, e ds h⟩
theorem bookB_true {rm : List Int} {ds : List Dt} (h : ∀ d ∈ ds, IsWish rm d) (hl : ds.length ≤ 600) : bookB rm (.tup ds) = true := by
  show (decide (ds.length ≤ 600) && ds.all (wishB rm)) = true
  rw [decide_eq_true hl, Bool.true_and, List.all_eq_true]
  exact fun d hd => (h d hd).b
theorem bookB_long {rm : List Int} {ds : List Dt} (hl : 600 < ds.length) : bookB rm (.tup ds) = false := by
  show (decide (ds.length ≤ 600) && ds.all (wishB rm)) = false
  rw [decide_eq_false (by omega), Bool.false_and]
theorem bookB_bad {rm : List Int} {ds : List Dt} {d : Dt} (hd : d ∈ ds) (hb : wishB rm d = false) : bookB rm (.tup ds) = false := by
  show (decide (ds.length ≤ 600) && ds.all (wishB rm)) = false
  have : ds.all (wishB rm) = false := List.all_eq_false.mpr ⟨d, hd, by rw [hb]; decide⟩
  rw [this, Bool.and_false]
theorem inV_ints (b : Int) (ns : List Int) : inV (.int b) (ns.map V.int) = ns.contains b := by
  unfold inV
  induction ns with
  | nil => rfl
  | cons n ns ih =>
    rw [List.map_cons, List.any_cons, ih, List.contains_cons]
    show ((n == b) || _) = ((b == n) || _)
    rw [show (n == b) = (b == n) from BEq.comm]
theorem flat_ints (ns : List Int) : (ns.map V.int).all flatV = true := by
  rw [List.all_eq_true]
  intro x hx
  obtain ⟨n, _, rfl⟩ := List.mem_map.mp hx
  rfl
/-- boxes rise: a given has no more tuples than the room boxes -/
theorem giv_len {m : Int} : ∀ {g : List (Int × Int)} {lo : Int}, (∀ q ∈ g, lo ≤ q.1 ∧ q.1 < m) → (g.Pairwise fun a b => a.1 < b.1) → lo ≤ m → (g.length : Int) ≤ m - lo
  | [], lo, _, _, h => by simp; omega
  | q :: g, lo, h, hp, hm => by
    have h1 := h q List.mem_cons_self
    have hp' := List.pairwise_cons.mp hp
    have ih := giv_len (g := g) (lo := q.1 + 1) (fun x hx => ⟨by have := hp'.1 x hx; omega, (h x (List.mem_cons_of_mem _ hx)).2⟩) hp'.2 (by omega)
    rw [List.length_cons]
    omega
theorem giv_few {rm : List Int} {g : List (Int × Int)} (h : Giv rm g) (h8 : rm.length ≤ 8) : g.length ≤ 100 := by
  have := giv_len (g := g) (lo := 0) (m := rm.length) (fun q hq => ⟨(h.ok q hq).1, (h.ok q hq).2.1⟩) h.up (by omega)
  omega
/-! promises -/
def spWish : Sp := fun vs H Q _ => ∃ (ra : Addr) (rm : List Int) (v : V) (d : Dt), vs = [.ref ra, v] ∧ RoomAt H ra rm ∧ Is H d v ∧ ∀ H', Same H H' → Q (.bl (wishB rm d)) H'
def spBook : Sp := fun vs H Q _ => ∃ (ra : Addr) (rm : List Int) (v : V) (d : Dt), vs = [.ref ra, v] ∧ RoomAt H ra rm ∧ Is H d v ∧ ∀ H', Same H H' → Q (.bl (bookB rm d)) H'
def spMkWish : Sp := fun vs H Q _ => ∃ (p c ra : Addr) (ns rm : List Int) (n : Nat), vs = [.ref p, .ref ra] ∧ Pen H p c ns n ∧ n + 60 ≤ 1000000 ∧ RoomAt H ra rm ∧
  ∀ (a : Addr) (x : Wi) (H' : Hp), Is H' (wishD x) (.ref a) → WishOk rm x → Pen H' p c ns (n + 35) → Stay H H' → Q (.ref a) H'
def spMkBook : Sp := fun vs H Q _ => ∃ (p c ra : Addr) (ns rm : List Int) (n : Nat) (most : Int), vs = [.ref p, .ref ra, .int most] ∧ Pen H p c ns n ∧ n + 2100 ≤ 1000000 ∧ 3 ≤ most ∧ most ≤ 40 ∧ RoomAt H ra rm ∧
  ∀ (a : Addr) (xs : List V) (H' : Hp), H' a = some (.tup xs) → AllOf H' (IsWish rm) xs → (xs.length : Int) ≤ most → Pen H' p c ns (n + 2000) → Stay H H' → Q (.ref a) H'
end L2


set_option Elab.async false
set_option linter.all false
set_option maxRecDepth 100000
namespace L2
open PySem PySem.Spec PyProof.Rows
theorem cutV_take (xs : List V) (k : Nat) : cutV xs none (some (k : Int)) = xs.take k := by
  have e : HT.sIx xs.length xs.length (some (k : Int)) = min k xs.length := by simp [HT.sIx]; try omega
  unfold cutV
  rw [e, show HT.sIx xs.length 0 none = 0 from rfl, List.drop_zero, Nat.sub_zero]
  by_cases h : k ≤ xs.length
  · rw [Nat.min_eq_left h]
  · rw [Nat.min_eq_right (by omega), List.take_of_length_le (Nat.le_refl _), List.take_of_length_le (by omega)]
theorem cutV_drop (xs : List V) (k : Nat) : cutV xs (some (k : Int)) none = xs.drop k := by
  have e : HT.sIx xs.length 0 (some (k : Int)) = min k xs.length := by simp [HT.sIx]; try omega
  unfold cutV
  rw [e, show HT.sIx xs.length xs.length none = xs.length from rfl]
  by_cases h : k ≤ xs.length
  · rw [Nat.min_eq_left h, List.take_of_length_le (by rw [List.length_drop]; omega)]
  · rw [Nat.min_eq_right (by omega), List.drop_eq_nil_of_le (as := xs) (i := xs.length) (by omega), List.drop_eq_nil_of_le (as := xs) (i := k) (by omega), List.take_nil]
theorem cutV_mid (xs : List V) (k m : Nat) : cutV xs (some (k : Int)) (some (m : Int)) = (xs.take m).drop k := by
  have e : HT.sIx xs.length 0 (some (k : Int)) = min k xs.length := by simp [HT.sIx]; try omega
  have e2 : HT.sIx xs.length xs.length (some (m : Int)) = min m xs.length := by simp [HT.sIx]; try omega
  unfold cutV
  rw [e, e2, List.drop_take]
  by_cases h : k ≤ xs.length
  · rw [Nat.min_eq_left h]
    by_cases h2 : m ≤ xs.length
    · rw [Nat.min_eq_left h2]
    · rw [Nat.min_eq_right (by omega), List.take_of_length_le (by rw [List.length_drop]; omega), List.take_of_length_le (by rw [List.length_drop]; omega)]
  · rw [show min k xs.length = xs.length by omega, List.drop_eq_nil_of_le (as := xs) (i := xs.length) (by omega), List.drop_eq_nil_of_le (as := xs) (i := k) (by omega), List.take_nil, List.take_nil]
theorem mod_better {w r m : Int} (m2 : 2 ≤ m) (m4 : m ≤ 4) (w0 : 0 ≤ w) (w1 : w < m) (r0 : 0 ≤ r) (r1 : r < m - 1) : 0 ≤ (w + 1 + r) % m ∧ (w + 1 + r) % m < m ∧ (w + 1 + r) % m ≠ w := by
  have : m = 2 ∨ m = 3 ∨ m = 4 := by omega
  rcases this with rfl | rfl | rfl <;> omega
/-- found.append(x) of two names -/
theorem app_names {K : PySem.W.Frag} {D : Ends} {σ : St} {H : Hp} {fa : Addr} {xs : List V} {v : V} {i j : Nat} (hi : σ[i]? = some (some (.ref fa))) (hj : σ[j]? = some (some v)) (hf : H fa = some (.lst xs)) (hz : xs.length < sizeLine) (h : D.nx σ (upd H fa (.lst (xs ++ [v])))) :
    tDrop (tBM K "list" rAppend (tVar i) (tCons (tVar j) tNil)) D σ H :=
  ⟨_, hi, .inl ⟨rfl, _, SqL.of hf⟩, _, hj, fa, xs, v, rfl, rfl, hf, hz, h⟩
theorem WishOk.drop {rm : List Int} {x : Wi} (h : WishOk rm x) (k : Nat) : WishOk rm { x with g := x.g.drop k } :=
  ⟨⟨fun q hq => h.giv.ok q (List.mem_of_mem_drop hq), h.giv.up.sublist (List.drop_sublist _ _)⟩, h.b0, h.b1, fun q hq => h.apart q (List.mem_of_mem_drop hq), h.r0, h.r1, h.w0, h.w1, h.ne⟩
theorem WishOk.turn {rm : List Int} {x : Wi} (h : WishOk rm x) : WishOk rm { x with r := x.w, w := x.r } :=
  ⟨h.giv, h.b0, h.b1, h.apart, h.w0, h.w1, h.r0, h.r1, fun e => h.ne e.symm⟩
/-- a wish's tuple -/
theorem wish_parts {H : Hp} {x : Wi} {v : V} (h : Is H (wishD x) v) : ∃ (a ga : Addr) (gs : List V), v = .ref a ∧ H a = some (.tup [.ref ga, .int x.b, .int x.r, .int x.w]) ∧ H ga = some (.tup gs) ∧ IsL H (x.g.map pairD) gs := by
  obtain ⟨a, xs, rfl, ha, y0, r0, rfl, hy0, hl⟩ := h
  obtain ⟨ga, gs, rfl, hga, hgl⟩ := hy0
  obtain rfl := IsL.of_ints (ns := [x.b, x.r, x.w]) hl
  exact ⟨a, ga, gs, rfl, ha, hga, hgl⟩
theorem wish_mk {H : Hp} {x : Wi} {a ga : Addr} {gs : List V} (ha : H a = some (.tup [.ref ga, .int x.b, .int x.r, .int x.w])) (hga : H ga = some (.tup gs)) (hgl : IsL H (x.g.map pairD) gs) : Is H (wishD x) (.ref a) :=
  ⟨a, _, rfl, ha, ⟨_, _, rfl, ⟨ga, gs, rfl, hga, hgl⟩, IsL.ints (ns := [x.b, x.r, x.w])⟩⟩
/-- two ways that go on alike, for every letter of a kind -/
theorem meet2 {α β : Type} {G : Prop} (P C : α → β → Prop) (h : (∀ a b, C a b → P a b) → G) (r : ∀ a b, C a b → P a b) : G := h r
section
variable {rm : List Int} {g b r w : Dt}
end
/-- a tuple of wishes is a book -/
theorem AllOf.book {H : Hp} {rm : List Int} {xs : List V} {a : Addr} (h : AllOf H (IsWish rm) xs) (ha : H a = some (.tup xs)) (hl : xs.length ≤ 600) : ∃ d, Is H d (.ref a) ∧ bookB rm d = true ∧ d.eqOk := by
  obtain ⟨ds, hds, hw⟩ := h.dts
  exact ⟨.tup ds, ⟨a, xs, rfl, ha, hds⟩, bookB_true hw (by rw [← hds.length]; exact hl), (eqOk_wishes hw).1⟩
mutual
theorem Is.one {H : Hp} : ∀ {d e : Dt} {v : V}, Is H d v → Is H e v → d = e
  | .non, e, _, h, k => by cases h; cases e <;> first | rfl | (cases k; done) | (obtain ⟨_, _, z, _⟩ := k; cases z)
  | .bl b, e, _, h, k => by cases h; cases e <;> first | (cases k; rfl) | (cases k; done) | (obtain ⟨_, _, z, _⟩ := k; cases z)
  | .int b, e, _, h, k => by cases h; cases e <;> first | (cases k; rfl) | (cases k; done) | (obtain ⟨_, _, z, _⟩ := k; cases z)
  | .str b, e, _, h, k => by cases h; cases e <;> first | (cases k; rfl) | (cases k; done) | (obtain ⟨_, _, z, _⟩ := k; cases z)
  | .tup l, e, _, h, k => by
    obtain ⟨a, xs, rfl, ha, hl⟩ := h
    cases e with
    | tup m =>
      obtain ⟨b, ys, z, hb, hm⟩ := k
      cases z
      rw [ha] at hb
      cases hb
      rw [IsL.oneL hl hm]
    | lst m => obtain ⟨b, ys, z, hb, hm⟩ := k; cases z; rw [ha] at hb; cases hb
    | dct => obtain ⟨b, ys, z, hb, hm⟩ := k; cases z; rw [ha] at hb; cases hb
    | _ => cases k
  | .lst l, e, _, h, k => by
    obtain ⟨a, xs, rfl, ha, hl⟩ := h
    cases e with
    | lst m =>
      obtain ⟨b, ys, z, hb, hm⟩ := k
      cases z
      rw [ha] at hb
      cases hb
      rw [IsL.oneL hl hm]
    | tup m => obtain ⟨b, ys, z, hb, hm⟩ := k; cases z; rw [ha] at hb; cases hb
    | dct => obtain ⟨b, ys, z, hb, hm⟩ := k; cases z; rw [ha] at hb; cases hb
    | _ => cases k
  | .dct, e, _, h, k => by
    obtain ⟨a, xs, rfl, ha, hl⟩ := h
    cases e with
    | tup m => obtain ⟨b, ys, z, hb, hm⟩ := k; cases z; rw [ha] at hb; cases hb
    | lst m => obtain ⟨b, ys, z, hb, hm⟩ := k; cases z; rw [ha] at hb; cases hb
    | dct => rfl
    | _ => cases k
theorem IsL.oneL {H : Hp} : ∀ {ds es : List Dt} {xs : List V}, IsL H ds xs → IsL H es xs → ds = es
  | [], es, _, h, k => by
    cases h
    cases es with
    | nil => rfl
    | cons _ _ => obtain ⟨_, _, z, _⟩ := k; cases z
  | d :: ds, es, _, h, k => by
    obtain ⟨x, r, rfl, hd, hr⟩ := h
    cases es with
    | nil => cases k
    | cons e es =>
      obtain ⟨y, r', z, he, hr'⟩ := k
      cases z
      rw [Is.one hd he, IsL.oneL hr hr']
end
theorem meetC {α : Type} {G : Prop} (P C : α → Prop) (h : (∀ a, C a → P a) → G) (r : ∀ a, C a → P a) : G := h r
theorem AllOf.all {H : Hp} {R : Dt → Prop} {xs : List V} (h : AllOf H R xs) : AllIs H xs := fun x hx => by
  obtain ⟨d, hd, _⟩ := h x hx
  exact ⟨d, hd⟩
end L2


set_option Elab.async false
set_option linter.all false
set_option maxRecDepth 100000
/-! t[::-1], xs[i] = v, and more -/
namespace HT
open PySem PySem.Spec PyProof.Rows
section
variable {prog : Program} {w : World} {A : Around} {E : Value → Shared → Prop} {s : Shared}
end
end HT
namespace L2
open PySem PySem.Spec PyProof.Rows
section
variable {X : Cx} {e : Expr} {te : TE} {pos p2 p3 p4 : Pos} {j : Nat}
end
section
variable {X : Cx}
end
end L2


set_option Elab.async false
set_option linter.all false
set_option maxRecDepth 100000
namespace L2
open PySem PySem.Spec PyProof.Rows
/-! standings -/
theorem many_get {st : List Int} {b : Int} (h0 : 0 ≤ b) (h1 : b < st.length) : atI (st.map V.int) b = some (.int (many st b)) := by
  obtain ⟨j, rfl⟩ : ∃ j : Nat, b = j := ⟨b.toNat, by omega⟩
  have hj : j < st.length := by omega
  have e : many st (j : Int) = st[j] := by unfold many; simp [hj]
  rw [e]
  exact atI_nat (by simp [hj])
def chg (st : List Int) (b w : Int) : List Int := st.take b.toNat ++ [w] ++ st.drop (b.toNat + 1)
theorem chg_cut (st : List Int) {b w : Int} (h0 : 0 ≤ b) : cutV (st.map V.int) none (some b) ++ [.int w] ++ cutV (st.map V.int) (some (b + 1)) none = (chg st b w).map V.int := by
  obtain ⟨j, rfl⟩ : ∃ j : Nat, b = j := ⟨b.toNat, by omega⟩
  rw [cutV_take, show ((j : Int) + 1) = ((j + 1 : Nat) : Int) by omega, cutV_drop]
  unfold chg
  rw [List.map_append, List.map_append, List.map_take, List.map_drop]
  rfl
theorem chg_len {st : List Int} {b w : Int} (h0 : 0 ≤ b) (h1 : b < st.length) : (chg st b w).length = st.length := by
  unfold chg
  rw [List.length_append, List.length_append, List.length_take, List.length_drop]
  show min b.toNat st.length + 1 + (st.length - (b.toNat + 1)) = st.length
  omega
theorem chg_get {st : List Int} {b w c : Int} (h0 : 0 ≤ b) (h1 : b < st.length) (c0 : 0 ≤ c) : many (chg st b w) c = if c = b then w else many st c := by
  obtain ⟨j, rfl⟩ : ∃ j : Nat, b = j := ⟨b.toNat, by omega⟩
  obtain ⟨k, rfl⟩ : ∃ k : Nat, c = k := ⟨c.toNat, by omega⟩
  have hj : j < st.length := by omega
  unfold many chg
  simp only [Int.toNat_natCast, List.getD_eq_getElem?_getD]
  have hl : (st.take j).length = j := by rw [List.length_take]; omega
  rcases Nat.lt_trichotomy k j with h | h | h
  · rw [if_neg (by omega), List.append_assoc, List.getElem?_append_left (by rw [hl]; exact h), List.getElem?_take_of_lt h]
  · subst h
    rw [if_pos rfl, List.append_assoc, List.getElem?_append_right (by rw [hl]; exact Nat.le_refl _), hl, Nat.sub_self]
    rfl
  · rw [if_neg (by omega), List.append_assoc, List.getElem?_append_right (by rw [hl]; omega), hl]
    obtain ⟨m, rfl⟩ : ∃ m, k = j + 1 + m := ⟨k - (j + 1), by omega⟩
    rw [show j + 1 + m - j = m + 1 by omega]
    show ((st.drop (j + 1))[m]?).getD 0 = _
    rw [List.getElem?_drop]
theorem ext_many {s t : List Int} (hl : s.length = t.length) (h : ∀ c : Int, 0 ≤ c → c < s.length → many s c = many t c) : s = t := by
  refine List.ext_getElem hl fun i h1 h2 => ?_
  have := h (i : Int) (by omega) (by omega)
  unfold many at this
  simpa [h1, h2] using this
def keepsB (st : List Int) (g : List (Int × Int)) : Bool := g.all fun q => decide (many st q.1 = q.2)
def goalB (st : List Int) (x : Wi) : Bool := decide (many st x.b = x.w) && keepsB st x.g
def hits (one other : List Int) (x : Wi) : Bool := goalB one x && decide (chg one x.b x.r = other)
def whyF (one other : List Int) : Nat → List Wi → Option Nat
  | _, [] => none
  | i, x :: r => if hits one other x then some i else whyF one other (i + 1) r
def optV : Option Nat → V
  | none => .non
  | some i => .int i
def turnW (x : Wi) : Wi := { x with r := x.w, w := x.r }
theorem keepsB_chg {rm st : List Int} {x : Wi} {w : Int} (hx : WishOk rm x) (hl : st.length = rm.length) (h : keepsB st x.g = true) : keepsB (chg st x.b w) x.g = true := by
  unfold keepsB at h ⊢
  rw [List.all_eq_true] at h ⊢
  intro q hq
  have h1 := h q hq
  have b1 := hx.b1
  rw [chg_get hx.b0 (by omega) (hx.giv.ok q hq).1, if_neg (hx.apart q hq)]
  exact h1
theorem hits_turn {rm one other : List Int} {x : Wi} (hx : WishOk rm x) (h1 : one.length = rm.length) (h : hits one other x = true) : hits other one (turnW x) = true := by
  unfold hits goalB at h
  rw [Bool.and_eq_true, Bool.and_eq_true] at h
  have e1 : many one x.b = x.w := of_decide_eq_true h.1.1
  have e3 : chg one x.b x.r = other := of_decide_eq_true h.2
  have b1 := hx.b1
  have b0 := hx.b0
  subst e3
  have hc1 : (chg one x.b x.r).length = one.length := chg_len b0 (by omega)
  unfold hits goalB
  rw [Bool.and_eq_true, Bool.and_eq_true]
  refine ⟨⟨decide_eq_true ?_, keepsB_chg (x := turnW x) hx.turn h1 h.1.2⟩, decide_eq_true ?_⟩
  · show many (chg one x.b x.r) x.b = x.r
    rw [chg_get b0 (by omega) b0, if_pos rfl]
  · show chg (chg one x.b x.r) x.b x.w = one
    refine ext_many (by rw [chg_len b0 (by rw [hc1]; omega), hc1]) fun c c0 c1 => ?_
    rw [chg_get b0 (by rw [hc1]; omega) c0]
    by_cases hc : c = x.b
    · rw [if_pos hc, hc, e1]
    · rw [if_neg hc, chg_get b0 (by omega) c0, if_neg hc]
theorem hits_turn_eq {rm one other : List Int} {x : Wi} (hx : WishOk rm x) (h1 : one.length = rm.length) (h2 : other.length = rm.length) : hits other one (turnW x) = hits one other x := by
  rw [Bool.eq_iff_iff]
  exact ⟨fun h => hits_turn (x := turnW x) hx.turn h2 h, fun h => hits_turn hx h1 h⟩
theorem whyF_turn {rm one other : List Int} (h1 : one.length = rm.length) (h2 : other.length = rm.length) : ∀ {bk : List Wi} (i : Nat), (∀ x ∈ bk, WishOk rm x) → whyF other one i (bk.map turnW) = whyF one other i bk
  | [], _, _ => rfl
  | x :: bk, i, h => by
    rw [List.map_cons]
    show (if hits other one (turnW x) then some i else whyF other one (i + 1) (bk.map turnW)) = (if hits one other x then some i else whyF one other (i + 1) bk)
    rw [hits_turn_eq (h x List.mem_cons_self) h1 h2, whyF_turn h1 h2 (i + 1) fun y hy => h y (List.mem_cons_of_mem _ hy)]
theorem wishes_bk {rm : List Int} : ∀ {ds : List Dt}, (∀ d ∈ ds, IsWish rm d) → ∃ bk : List Wi, ds = bk.map wishD ∧ ∀ x ∈ bk, WishOk rm x
  | [], _ => ⟨[], rfl, fun _ h => by simp at h⟩
  | d :: ds, h => by
    obtain ⟨x, rfl, hx⟩ := h d List.mem_cons_self
    obtain ⟨bk, rfl, hb⟩ := wishes_bk (ds := ds) fun y hy => h y (List.mem_cons_of_mem _ hy)
    exact ⟨x :: bk, rfl, fun y hy => by
      rcases List.mem_cons.mp hy with rfl | hy
      · exact hx
      · exact hb y hy⟩
/-- a book stands at ba -/
structure BookAt (H : Hp) (rm : List Int) (ba : Addr) (xs : List V) (bk : List Wi) : Prop where
  at' : H ba = some (.tup xs)
  is : IsL H (bk.map wishD) xs
  ok : ∀ x ∈ bk, WishOk rm x
theorem BookAt.stay {H H' : Hp} {rm : List Int} {ba : Addr} {xs : List V} {bk : List Wi} (h : BookAt H rm ba xs bk) (s : Stay H H') : BookAt H' rm ba xs bk := ⟨s.tup h.at', h.is.stay s, h.ok⟩
theorem AllOf.bookAt {H : Hp} {rm : List Int} {xs : List V} {a : Addr} (h : AllOf H (IsWish rm) xs) (ha : H a = some (.tup xs)) : ∃ bk, BookAt H rm a xs bk := by
  obtain ⟨ds, hds, hw⟩ := h.dts
  obtain ⟨bk, rfl, hb⟩ := wishes_bk hw
  exact ⟨bk, ha, hds, hb⟩
theorem BookAt.all {H : Hp} {rm : List Int} {ba : Addr} {xs : List V} {bk : List Wi} (h : BookAt H rm ba xs bk) : AllOf H (IsWish rm) xs := by
  have : ∀ {bk : List Wi} {xs : List V}, IsL H (bk.map wishD) xs → (∀ x ∈ bk, WishOk rm x) → AllOf H (IsWish rm) xs := by
    intro bk
    induction bk with
    | nil => intro xs h _; cases h; exact .nil
    | cons x bk ih =>
      intro xs h hb
      obtain ⟨y, r, rfl, hy, hr⟩ := h
      exact .cons hy ⟨x, rfl, hb x List.mem_cons_self⟩ (ih hr fun z hz => hb z (List.mem_cons_of_mem _ hz))
  exact this h.is h.ok
theorem BookAt.len {H : Hp} {rm : List Int} {ba : Addr} {xs : List V} {bk : List Wi} (h : BookAt H rm ba xs bk) : xs.length = bk.length := by
  have := h.is.length
  rwa [List.length_map] at this
theorem BookAt.get {H : Hp} {rm : List Int} {ba : Addr} {xs : List V} {bk : List Wi} (h : BookAt H rm ba xs bk) {i : Nat} {v : V} (hv : xs[i]? = some v) : ∃ x, bk[i]? = some x ∧ Is H (wishD x) v ∧ WishOk rm x := by
  obtain ⟨d, hd, his⟩ := h.is.get hv
  rw [List.getElem?_map] at hd
  obtain ⟨x, hx, rfl⟩ := Option.map_eq_some_iff.mp hd
  exact ⟨x, hx, his, h.ok x (List.mem_of_getElem? hx)⟩
theorem for_enumN {K : PySem.W.Frag} {a : Addr} {xs : List V} {g : TG} {tb : TS} {D : Ends} {σ : St} {H : Hp} (Pv : Nat → St → Hp → Prop) (h0 : Pv 0 σ H) (hl : ∀ i σ H, i ≤ xs.length → Pv i σ H → SqT K H a xs)
    (hs : ∀ i x T σ H H', xs[i]? = some x → Pv i σ H → H' T = some (.tup [.int i, x]) → Same H H' → g (.ref T) σ H' fun σ2 H2 => tb { D with nx := Pv (i + 1), ct := Pv (i + 1), bk := D.nx } σ2 H2) (hd : ∀ σ H, Pv xs.length σ H → D.nx σ H) :
    ∃ W : Nat → Nat → St → Hp → Prop, (∃ m, W 0 m σ H) ∧ ∀ i m σ H, W i m σ H →
      ((Ite K a).stop i H ∧ D.nx σ H) ∨ ((Ite K a).go i H ∧ ∃ N : St → Hp → Prop, (∀ σ' H', N σ' H' → ∃ m', m' < m ∧ W (i + 1) m' σ' H') ∧ ∀ x H', (Ite K a).yld i H x H' → g x σ H' fun σ2 H2 => tb { D with nx := N, ct := N, bk := D.nx } σ2 H2) :=
  for_enum Pv h0 hl (fun i x T σ H hx p hT => hs i x T σ H _ hx p upd_same (Same.upd hT)) hd
theorem noL_wishes : ∀ bk : List Wi, Dt.noLs (bk.map wishD) = true
  | [] => rfl
  | x :: bk => by
    show ((wishD x).noL && Dt.noLs (bk.map wishD)) = true
    rw [noL_wish, noL_wishes bk]
    rfl
theorem many_nat (st : List Int) (j : Nat) : many st (j : Int) = st.getD j 0 := by unfold many; simp
theorem many_of_get {st : List Int} {i : Nat} {m : Int} (h : st[i]? = some m) : many st (i : Int) = m := by
  rw [many_nat, List.getD_eq_getElem?_getD, h]
  rfl
theorem room_many {rm : List Int} (hb : ∀ r ∈ rm, 2 ≤ r ∧ r ≤ 4) {b : Int} (h0 : 0 ≤ b) (h1 : b < rm.length) : 2 ≤ many rm b ∧ many rm b ≤ 4 := by
  obtain ⟨j, rfl⟩ : ∃ j : Nat, b = j := ⟨b.toNat, by omega⟩
  have hj : j < rm.length := by omega
  rw [many_of_get (List.getElem?_eq_getElem hj)]
  exact hb _ (List.getElem_mem hj)
/-! promises -/
def spChanged : Sp := fun vs H Q _ => ∃ (a : Addr) (st : List Int) (b w : Int), vs = [.ref a, .int b, .int w] ∧ H a = some (.tup (st.map V.int)) ∧ st.length ≤ 400 ∧ 0 ≤ b ∧ ∀ (p : Addr) (H' : Hp), H' p = some (.tup ((chg st b w).map V.int)) → Same H H' → Q (.ref p) H'
def spKeeps : Sp := fun vs H Q _ => ∃ (a ga : Addr) (st : List Int) (gs : List V) (g : List (Int × Int)), vs = [.ref a, .ref ga] ∧ H a = some (.tup (st.map V.int)) ∧ H ga = some (.tup gs) ∧ IsL H (g.map pairD) gs ∧ (∀ q ∈ g, 0 ≤ q.1 ∧ q.1 < st.length) ∧ Q (.bl (keepsB st g)) H
def spWhy : Sp := fun vs H Q _ => ∃ (ba a1 a2 : Addr) (rm : List Int) (xs : List V) (bk : List Wi) (one other : List Int), vs = [.ref ba, .ref a1, .ref a2] ∧ rm.length ≤ 8 ∧ BookAt H rm ba xs bk ∧ H a1 = some (.tup (one.map V.int)) ∧ one.length = rm.length ∧ H a2 = some (.tup (other.map V.int)) ∧
  ∀ H', Same H H' → Q (optV (whyF one other 0 bk)) H'
def spTurned : Sp := fun vs H Q _ => ∃ (ba : Addr) (rm : List Int) (xs : List V) (bk : List Wi), vs = [.ref ba] ∧ BookAt H rm ba xs bk ∧ bk.length ≤ 100000 ∧ ∀ (a : Addr) (ys : List V) (H' : Hp), BookAt H' rm a ys (bk.map turnW) → Same H H' → Q (.ref a) H'
def IsSt (n : Nat) (d : Dt) : Prop := ∃ st : List Int, d = .tup (st.map .int) ∧ st.length = n
theorem noLs_ints : ∀ st : List Int, Dt.noLs (st.map .int) = true
  | [] => rfl
  | _ :: st => by
    show (true && Dt.noLs (st.map .int)) = true
    rw [noLs_ints st]
    rfl
theorem IsSt.noL {n : Nat} {d : Dt} (h : IsSt n d) : d.noL = true := by
  obtain ⟨st, rfl, _⟩ := h
  exact noLs_ints st
theorem kqd_ints (st : List Int) : PySem.W.kqdOk 7 (Dt.tup (st.map .int)).toW = true := by
  have e : ∀ ns : List Int, (Dt.toWs (ns.map .int)).all (PySem.W.kqdOk 6) = true := by
    intro ns
    induction ns with
    | nil => rfl
    | cons n ns ih => simp only [List.map_cons, Dt.toWs, List.all_cons, ih, Bool.and_true]; rfl
  exact e st
theorem eqOk_sts {n : Nat} {ds : List Dt} (h : ∀ d ∈ ds, IsSt n d) : (Dt.lst ds).eqOk := by
  have e : ∀ ds : List Dt, (∀ d ∈ ds, IsSt n d) → (Dt.toWs ds).all (PySem.W.kqdOk 7) = true := by
    intro ds
    induction ds with
    | nil => intro _; rfl
    | cons m ms ih =>
      intro h
      obtain ⟨x, rfl, _⟩ := h m List.mem_cons_self
      simp only [Dt.toWs, List.all_cons, ih fun d hd => h d (List.mem_cons_of_mem _ hd), kqd_ints x, Bool.and_true]
  exact e ds h
end L2


set_option Elab.async false
set_option linter.all false
set_option maxRecDepth 100000
set_option maxHeartbeats 4000000
/-! x = [comprehension], x a plain local: stored ahead of the comprehension's own names let go -/
namespace L2
open PySem PySem.Spec PyProof.Rows
theorem ps_setC {X : Cx} {elt tg iter : Expr} {ifs : List Expr} {scope : Scope} {pos spos : Pos} {wi : TI} {g : TG} {ti : TT} {te : TE} {N : List Str} {cix : List (Option Nat)} {ix : Nat} {nx : Str} {px : Pos} (hNd : X.N.Nodup) (hix : X.N[ix]? = some nx) (hlx : X.env.scope.names.lookup nx = some .local) (hc : X.calm = true) (c : CompOk X scope N cix)
    (hi : PI X tg iter wi) (hg : ∀ C s H ex, PG (compCx X scope N C s H ex) tg g) (ht : ∀ C s H ex, PTs (compCx X scope N C s H ex) ifs ti) (he : ∀ C s H ex, PE (compCx X scope N C s H ex) elt te)
    (hsw : swapsWithSole [.Name nx px] (.ListComp elt [⟨tg, iter, ifs, 0⟩] scope pos) spos.line X.env = pure true)
    (hs : ∀ x, foldedSetIterable iter X.env x = pure x := by intro _; rfl)
    (h1a : (assignEach [.Name nx px] X.env).map (·.2) = [assign (.Name nx px) X.env] := by rfl) : PS X (.Assign [.Name nx px] (.ListComp elt [⟨tg, iter, ifs, 0⟩] scope pos) spos) (tAsg (tComp wi g ti te cix) (gName ix)) := by
  intro pins s σ H D I h0
  have h : tComp wi g ti te cix σ H (fun x H1 => D.nx (σ.set ix (some x)) H1) := h0
  rw [exec_Assign_arm]
  refine wpAny_bind (wpAny_standAt ?_)
  rw [hsw]
  refine wpAny_bind (wpAny_pure ?_)
  rw [if_pos rfl]
  refine wpAny_bind ?_
  rw [evalThenUse.eq_1]
  refine wpAny_bind ?_
  generalize hU : (fun v => assignAll v ((assignEach [.Name nx px] X.env).map (·.2))) = U
  refine wpAny_comprehension_free (g := ⟨tg, iter, ifs, 0⟩) (gs := []) (use := some U) rfl hs (closure_of (c.cells I.ok)) c.kind c.names ?_
  refine (thn (hi pins s σ H _ I h) fun xv s1 h1 => thn h1 fun itv s2 h2 => ?_)
  obtain ⟨it, fp, tn, J, H2, e, I2, T, st2, f2, q2⟩ := h2
  subst e
  refine wpAny_newObj_type (wpAny_newFunctionEnv c.cell (by intro y hy; simp at hy) (fun h4 hns4 hsb4 => ?_) c.kind)
  dsimp only at hns4 hsb4 ⊢
  have hnone := I2.hok.fresh (Nat.le_refl s2.heap.objs.size)
  -- the new list
  have I3 : Inv X pins σ (upd H2 s2.heap.objs.size (.lst [])) { s2 with heap := s2.heap.push { cls := .type "list", dict := none, data := .seq ([] : List Value).toArray }, toks := s2.toks } := I2.lnew (t' := s2.toks) .nil (by simp)
  obtain ⟨W, ⟨m0, w0⟩, turn⟩ := q2 s2.heap.objs.size hnone
  have ltF : ∀ b ∈ fp, b < s2.heap.objs.size := fun b hb => by
    obtain ⟨o, ho, _⟩ := T.obj _ _ st2 b hb
    exact Heap.lt_size ho
  have f3 : ∀ b ∈ fp, FpOk X pins (upd H2 s2.heap.objs.size (.lst [])) b := fun b hb => ⟨by rw [upd_ne (Nat.ne_of_lt (ltF b hb))]; exact (f2 b hb).1, (f2 b hb).2⟩
  have kp : ∀ b o, (s2.heap.push { cls := .type "list", dict := none, data := .seq ([] : List Value).toArray }).get? b = some o → h4.get? b = some o := fun b o e =>
    hsb4.extBut b o (Nat.ne_of_lt (Heap.lt_size e)) (Heap.get?_push_of_some _ e)
  have sz3 : s2.heap.objs.size < (s2.heap.push { cls := .type "list", dict := none, data := .seq ([] : List Value).toArray }).objs.size := by rw [Heap.size_push]; exact Nat.lt_succ_self _
  have I4 := inv_comp (tk := s2.toks + ([] : List (Str × Value)).length) I3 c f3 (fun b hb => Nat.lt_trans (ltF b hb) sz3) hns4 kp
  have st4 : tn 0 h4 := T.keep _ _ _ st2 fun b hb o e => kp b o (Heap.get?_push_of_some _ e)
  generalize hX : compCx X scope N (s2.heap.push { cls := .type "list", dict := none, data := .seq ([] : List Value).toArray }).objs.size
    { s2 with heap := s2.heap.push { cls := .type "list", dict := none, data := .seq ([] : List Value).toArray }, toks := s2.toks } (upd H2 s2.heap.objs.size (.lst [])) fp = X' at I4
  have pX : X'.prog = X.prog := by rw [← hX]; rfl
  have wX : X'.w = X.w := by rw [← hX]; rfl
  have KX : X'.K = X.K := by rw [← hX]; rfl
  have AX : X'.A = X.A := by rw [← hX]; rfl
  have cX : X'.calm = true := by rw [← hX]; exact hc
  have xX : X'.xe = fun _ _ => False := by rw [← hX]; rfl
  have eX : X'.env = compEnvC scope (capL X.env scope.names []) (s2.heap.push { cls := .type "list", dict := none, data := .seq ([] : List Value).toArray }).objs.size X.env := by rw [← hX]; rfl
  have hg' : PG X' tg g := by rw [← hX]; exact hg _ _ _ _
  have ht' : PTs X' ifs ti := by rw [← hX]; exact ht _ _ _ _
  have he' : PE X' elt te := by rw [← hX]; exact he _ _ _ _
  have f4 : ∀ {H' : Hp}, (∀ b ∈ fp, H' b = none) → ∀ b ∈ fp, FpOk X' [] H' b := fun {H'} hn b hb => by
    refine ⟨hn b hb, ?_, ?_, .inl ?_, ?_, ?_⟩
    · rw [eX]; exact Nat.ne_of_lt (Nat.lt_trans (ltF b hb) sz3)
    · have e1 : X'.fs = frs X.stack := by rw [← hX]; rfl
      rw [e1]
      intro z
      rcases List.mem_cons.mp (I2.stkSub b z) with e | e
      · exact (f2 b hb).2.1 e
      · exact (f2 b hb).2.2.1 e
    · rw [← hX]; exact hb
    · rw [eX]
      intro x a e
      rcases capL_some (c.cells I.ok) e with z | z
      · exact (f2 b hb).2.2.2.2.1 x a z
      · simp at z
    · intro p hp
      have e1 : X'.pn ++ ([] : List (Addr × Obj)) = [] := by rw [← hX]; rfl
      rw [e1] at hp
      simp at hp
  -- the loop
  have loop : ∀ s4 : Shared, s4 = { s2 with heap := h4, toks := s2.toks + ([] : List (Str × Value)).length } →
      codeAny (model X.prog X.w) X.A (.compLoop (.ListComp elt [⟨tg, iter, ifs, 0⟩] scope pos) 0 (.ref it) (.ref s2.heap.objs.size) X'.env)
        (compPost (model X.prog X.w) X.A X.xe (some U) (fun _ s => wpAny (model X.prog X.w) X.A (pure ()) (fun _ s => wpAny (model X.prog X.w) X.A (pure Flow.next) (SP X pins D) X.xe s) X.xe s) (.ref s2.heap.objs.size) (s2.heap.push { cls := .type "list", dict := none, data := .seq ([] : List Value).toArray }).objs.size) s4 := by
    rintro s4 rfl
    refine codeAny_comp1 (fun n s' => ∃ i σ' H', Inv X' [] σ' H' s' ∧ tn i s'.heap ∧ (∀ b ∈ fp, H' b = none) ∧ W i n σ' H') ?_ m0 ⟨0, capS σ cix, _, I4, st4, fun b hb => (f3 b hb).1, w0⟩
    rintro n s5 ⟨i, σ5, H5, I5, st5, fr5, w5⟩
    rcases turn i n σ5 H5 w5 with ⟨stop, qn⟩ | ⟨go, Nx, hN, step⟩
    · have := T.done X' pX wX KX cX i [] s5 σ5 H5 (fun _ _ => False) I5 (f4 fr5) st5 stop
      rw [AX] at this
      refine thn this fun r s6 ⟨hr, I6⟩ => ?_
      subst hr
      obtain ⟨m6, hn6, _⟩ := I6.loc
      have hfr : H5 (s2.heap.push { cls := .type "list", dict := none, data := .seq ([] : List Value).toArray }).objs.size = none := by
        have := I6.free
        rw [eX] at this
        exact this
      rw [eX] at hn6
      have I6' := I6
      rw [← hX] at I6'
      have IX := inv_uncomp I3 f3 I6' ⟨rfl, fun _ _ => rfl⟩
      have fC := I3.fpOk (Nat.le_refl _) hfr
      have hUv : U (.ref s2.heap.objs.size) = assignAll (.ref s2.heap.objs.size) [assign (.Name nx px) X.env] := by
        rw [← hU, ← h1a]
      show wpAny _ _ (U (.ref s2.heap.objs.size)) _ _ s6
      rw [hUv]
      refine wpAny_assign_Name (x := nx) (pos := px) ?_
      refine store_ok2 IX hNd hix (Or.inl hlx) (v := .ref s2.heap.objs.size) rfl (fun s7 I7 ⟨a7, hs7, ha7⟩ => ?_) (.inr hlx)
      have hCa : (s2.heap.push { cls := .type "list", dict := none, data := .seq ([] : List Value).toArray }).objs.size ≠ a7 := by
        intro z
        rcases ha7 with e | e
        · exact fC.2.1 (z.trans e)
        · exact fC.2.2.2.2.1 nx a7 e z.symm
      obtain ⟨oC, esC, epC, hoC, rC⟩ := hn6
      refine ⟨m6, ⟨oC, esC, epC, (hs7.2 _ hCa).trans hoC, rC⟩, fun h8 hs8 => ?_⟩
      refine wpAny_pure (wpAny_pure ?_)
      exact ⟨_, H5, I7.turned (t' := s7.toks) (fun b o hb e => (hs8.2 b hb).trans e) hfr fC.2.1 fC.2.2.2.1 fC.2.2.2.2.1 fC.2.2.2.2.2, qn⟩
    · have := T.item X' pX wX KX cX i [] s5 σ5 H5 (fun _ _ => False) I5 (f4 fr5) st5 go
      rw [AX] at this
      refine thn this fun r s6 ⟨u, hr, h6⟩ => ?_
      subst hr
      refine thn h6 fun _ s7 ⟨x, H7, I7, r7, y7, st7, fr7⟩ => ?_
      have I7' := I7.pinned (f4 fr7) (T.obj _ _ st7)
      have a7 := hg' _ s7 σ5 H7 x u _ I7' r7 (step x H7 y7)
      rw [pX, wX, AX, xX] at a7
      refine thn a7 fun _ s8 ⟨σ8, H8, I8, q8⟩ => ?_
      have t8 := ht' _ s8 σ8 H8 _ I8 q8
      rw [pX, wX, AX, xX] at t8
      refine thn t8 fun ok s9 ⟨H9, I9, q9⟩ => ?_
      have again : ∀ {s' : Shared} {σ' : St} {H' : Hp}, Inv X' ([] ++ pinsAt fp s7.heap) σ' H' s' → Nx σ' H' → ∃ m, m < n ∧ ∃ i σ' H', Inv X' [] σ' H' s' ∧ tn i s'.heap ∧ (∀ b ∈ fp, H' b = none) ∧ W i m σ' H' := fun {s' σ' H'} J' n' => by
        obtain ⟨m', hm, w'⟩ := hN σ' H' n'
        refine ⟨m', hm, i + 1, σ', H', J'.unpinned, T.keep _ _ _ st7 fun b hb o e => (J'.pin (b, o) (List.mem_append_right _ (List.mem_append_right _ (mem_pinsAt hb e)))).1, fun b hb => ?_, w'⟩
        obtain ⟨o, e, d⟩ := T.obj _ _ st7 b hb
        exact (J'.pin (b, o) (List.mem_append_right _ (List.mem_append_right _ (mem_pinsAt hb e)))).2.1
      cases ok with
      | false => exact again I9 q9
      | true =>
        have e9 := he' _ s9 σ8 H9 _ I9 q9
        rw [pX, wX, AX, xX] at e9
        refine thn e9 fun u2 s10 ⟨v, H10, I10, r10, q10⟩ => ?_
        obtain ⟨xs, hxs, hlt, nx⟩ := q10
        have m10 := mt_append (X := X') _ s10 σ8 H10 (.ref s2.heap.objs.size) [v] (.ref s2.heap.objs.size) [u2] (fun _ H' => Nx σ8 H') I10 rfl (.cons r10 .nil) ⟨_, xs, v, rfl, rfl, hxs, hlt, nx⟩
        rw [pX, wX, AX, xX] at m10
        refine thn m10 fun _ s11 ⟨_, H11, I11, _, n11⟩ => again I11 n11
  have l0 := loop _ rfl
  rw [eX] at l0
  exact codeAny_compStart_list l0 (T.self X.A 0 _ _ _ st4 l0)

theorem qs_setC {X : Cx} {elt tg iter : Expr} {ifs : List Expr} {scope : Scope} {pos spos : Pos} {wi : TI} {g : TG} {ti : TT} {te : TE} {N : List Str} {cix : List (Option Nat)} {ix : Nat} {nx : Str} {px : Pos} (hNd : X.N.Nodup) (hix : X.N[ix]? = some nx) (hlx : X.env.scope.names.lookup nx = some .local) (hc : X.calm = true) (c : CompOk X scope N cix)
    (hi : QI X tg iter wi) (hg : ∀ C s H ex, QG (compCx X scope N C s H ex) tg g) (ht : ∀ C s H ex, QTs (compCx X scope N C s H ex) ifs ti) (he : ∀ C s H ex, QE (compCx X scope N C s H ex) elt te)
    (hsw : swapsWithSole [.Name nx px] (.ListComp elt [⟨tg, iter, ifs, 0⟩] scope pos) spos.line X.env = pure true := by rfl)
    (hs : ∀ x, foldedSetIterable iter X.env x = pure x := by intro _; rfl)
    (h1a : (assignEach [.Name nx px] X.env).map (·.2) = [assign (.Name nx px) X.env] := by rfl) : QS X (.Assign [.Name nx px] (.ListComp elt [⟨tg, iter, ifs, 0⟩] scope pos) spos) (tAsg (tCompG wi g ti te cix) (gName ix)) :=
  ⟨ps_setC hNd hix hlx hc c hi.run (fun C s H ex => (hg C s H ex).run) (fun C s H ex => (ht C s H ex).run) (fun C s H ex => (he C s H ex).run) hsw hs h1a⟩
end L2


set_option Elab.async false
set_option linter.all false
set_option maxRecDepth 100000
set_option maxHeartbeats 1000000
namespace L2
open PySem PySem.Spec PyProof.Rows
/-! ### zip of two tuples -/
section
variable {prog : Program} {w : World} {A : Around} {E : Value → Shared → Prop} {s : Shared}
end
theorem BookAt.eqOk {H : Hp} {rm : List Int} {ba : Addr} {xs : List V} {bk : List Wi} (h : BookAt H rm ba xs bk) : (Dt.tup (bk.map wishD)).eqOk ∧ (Dt.lst (bk.map wishD)).eqOk := eqOk_wishes (rm := rm) fun d hd => by
  obtain ⟨x, hx, rfl⟩ := List.mem_map.mp hd
  exact ⟨x, rfl, h.ok x hx⟩
theorem BookAt.d {H : Hp} {rm : List Int} {ba : Addr} {xs : List V} {bk : List Wi} (h : BookAt H rm ba xs bk) : Is H (.tup (bk.map wishD)) (.ref ba) := ⟨ba, xs, rfl, h.at', h.is⟩
theorem BookAt.bookB {H : Hp} {rm : List Int} {ba : Addr} {xs : List V} {bk : List Wi} (h : BookAt H rm ba xs bk) (hl : xs.length ≤ 600) : bookB rm (.tup (bk.map wishD)) = true := bookB_true (fun d hd => by
  obtain ⟨x, hx, rfl⟩ := List.mem_map.mp hd
  exact ⟨x, rfl, h.ok x hx⟩) (by rw [List.length_map, ← h.len]; exact hl)
end L2


set_option Elab.async false
set_option linter.all false
set_option maxRecDepth 100000
namespace L2
open PySem PySem.Spec PyProof.Rows
section
variable {X : Cx}
end
/-! what a standing is, of any datum -/
def standF (rm : List Int) : Nat → List Dt → Bool
  | _, [] => true
  | i, d :: r => worthOk rm i d && standF rm (i + 1) r
def standB (rm : List Int) : Dt → Bool
  | .tup l => decide (l.length = rm.length) && standF rm 0 l
  | _ => false
theorem standF_false {rm : List Int} : ∀ {l : List Dt} {i j : Nat} {d : Dt}, l[j]? = some d → worthOk rm ((i + j : Nat) : Int) d = false → standF rm i l = false
  | [], _, _, _, h, _ => by simp at h
  | e :: l, i, 0, d, h, hw => by
    have : e = d := by simpa using h
    subst this
    show (worthOk rm i e && _) = false
    rw [show worthOk rm (i : Int) e = false from hw, Bool.false_and]
  | e :: l, i, j + 1, d, h, hw => by
    show (_ && standF rm (i + 1) l) = false
    rw [standF_false (l := l) (i := i + 1) (j := j) (d := d) (by simpa using h) (by rw [show i + 1 + j = i + (j + 1) by omega]; exact hw), Bool.and_false]
theorem standF_ok {rm : List Int} : ∀ {st : List Int} {i : Nat}, (∀ j : Nat, j < st.length → 0 ≤ st.getD j 0 ∧ st.getD j 0 < many rm ((i + j : Nat) : Int)) → standF rm i (st.map .int) = true
  | [], _, _ => rfl
  | w :: st, i, h => by
    have h0 := h 0 (by simp)
    show (worthOk rm i (.int w) && standF rm (i + 1) (st.map .int)) = true
    have e1 : worthOk rm (i : Int) (.int w) = true := by
      show (decide (0 ≤ w) && decide (w < many rm i)) = true
      have h1 : 0 ≤ w := h0.1
      have h2 : w < many rm (i : Int) := h0.2
      rw [decide_eq_true h1, decide_eq_true h2]
      rfl
    rw [e1, standF_ok (st := st) (i := i + 1) fun j hj => ?_]
    · rfl
    · have := h (j + 1) (by simp; omega)
      rw [show i + 1 + j = i + (j + 1) by omega]
      simpa using this
theorem stand_ok {rm st : List Int} (hl : st.length = rm.length) (h : ∀ b : Int, 0 ≤ b → b < rm.length → 0 ≤ many st b ∧ many st b < many rm b) : standB rm (.tup (st.map .int)) = true := by
  show (decide ((st.map Dt.int).length = rm.length) && standF rm 0 (st.map .int)) = true
  rw [decide_eq_true (by rw [List.length_map]; exact hl), standF_ok fun j hj => ?_]
  · rfl
  · have := h (j : Int) (by omega) (by omega)
    rw [many_nat] at this
    rw [Nat.zero_add]
    exact this
theorem stand_len {rm : List Int} {l : List Dt} (h : l.length ≠ rm.length) : standB rm (.tup l) = false := by
  show (decide (l.length = rm.length) && _) = false
  rw [decide_eq_false h, Bool.false_and]
theorem stand_at {rm : List Int} {l : List Dt} {j : Nat} {d : Dt} (h : l[j]? = some d) (hw : worthOk rm (j : Int) d = false) : standB rm (.tup l) = false := by
  show (_ && standF rm 0 l) = false
  rw [standF_false h (by rw [Nat.zero_add]; exact hw), Bool.and_false]
def spStand : Sp := fun vs H Q _ => ∃ (ra : Addr) (rm : List Int) (v : V) (d : Dt), vs = [.ref ra, v] ∧ RoomAt H ra rm ∧ Is H d v ∧ ∀ H', Same H H' → Q (.bl (standB rm d)) H'
end L2


set_option Elab.async false
set_option linter.all false
set_option maxRecDepth 100000
set_option maxHeartbeats 1000000
namespace L2
open PySem PySem.Spec PyProof.Rows
/-! ### comprehensions of two clauses -/
section
variable {prog : Program} {w : World} {A : Around} {R : Result → Shared → Prop} {s : Shared}
theorem codeAny_comp2_in {elt target iter : Expr} {c1 : Comprehension} {ifs : List Expr} {scope : Scope} {pos : Pos} {it acc : Value} {env : Env} (I : Nat → Shared → Prop)
    (turn : ∀ n s, I n s → wpAny (model prog w) A (pyNext it) (fun r s₁ => match r with
      | none => R (.ok .next) s₁
      | some v => wpAny (model prog w) A (letOwnedTupleGo target it v) (fun _ s₂ => wpAny (model prog w) A (assign target env v) (fun _ s₃ =>
          wpAny (model prog w) A (forIn ifs true fun c r => if r = true then do let ok ← isTrue c env (eval c env); pure (ForInStep.yield ok) else pure (ForInStep.yield r)) (fun ok s₄ =>
            if ok = true then wpAny (model prog w) A (eval elt env) (fun x s₅ =>
              wpAny (model prog w) A (call (.builtin "list.append") [acc, x]) (fun _ s₆ => ∃ m, m < n ∧ I m s₆) (fun _ _ => False) s₅) (fun _ _ => False) s₄
            else ∃ m, m < n ∧ I m s₄) (fun _ _ => False) s₃) (fun _ _ => False) s₂) (fun _ _ => False) s₁) (fun _ _ => False) s)
    (n : Nat) (h : I n s) :
    codeAny (model prog w) A (.compLoop (.ListComp elt [c1, ⟨target, iter, ifs, 0⟩] scope pos) 1 it acc env) R s := by
  refine codeAny_loop rfl I (fun n s hI => ?_) n h
  show wpAny _ A ((compTurn (.ListComp elt [c1, ⟨target, iter, ifs, 0⟩] scope pos) 1 it acc env).onRaise (fun x => do noteFrame x env; theTreesLotGoes x)) _ _ s
  refine wpAny_noted ?_
  unfold compTurn
  refine wpAny_bind (wpAny_standAt (wpAny_bind (wpAny_mono (turn n s hI) (fun r s₁ h₁ => ?_) fun _ _ h' => h'.elim)))
  cases r with
  | none => exact wpAny_pure h₁
  | some v =>
    refine wpAny_bind (wpAny_mono h₁ (fun _ s₂ h₂ => ?_) fun _ _ h' => h'.elim)
    refine wpAny_bind (wpAny_mono h₂ (fun _ s₃ h₃ => wpAny_bind (wpAny_mono h₃ (fun ok s₄ h₄ => ?_) fun _ _ h' => h'.elim)) fun _ _ h' => h'.elim)
    cases ok with
    | false => exact wpAny_pure ⟨rfl, h₄⟩
    | true =>
      exact wpAny_bind (wpAny_bind (wpAny_mono h₄ (fun x s₅ h₅ => wpAny_bind (wpAny_mono h₅ (fun _ s₆ h₆ => wpAny_pure (wpAny_pure ⟨rfl, h₆⟩)) fun _ _ h' => h'.elim)) fun _ _ h' => h'.elim))
theorem codeAny_comp2_start {elt target iter : Expr} {c1 : Comprehension} {ifs : List Expr} {scope : Scope} {pos : Pos} {it acc : Value} {env : Env}
    (h1 : codeAny (model prog w) A (.compLoop (.ListComp elt [c1, ⟨target, iter, ifs, 0⟩] scope pos) 1 it acc env) R s)
    (h2 : wpAny (model prog w) A (pyIter it) (fun it' s' => codeAny (model prog w) A (.compLoop (.ListComp elt [c1, ⟨target, iter, ifs, 0⟩] scope pos) 1 it' acc env) R s') (fun _ _ => False) s) :
    codeAny (model prog w) A (.compStart (.ListComp elt [c1, ⟨target, iter, ifs, 0⟩] scope pos) 1 it acc env) R s := by
  refine codeAny_of_tree ?_
  show wpAny _ A ((compStart (.ListComp elt [c1, ⟨target, iter, ifs, 0⟩] scope pos) 1 it acc env).onRaise (fun x => do noteFrame x env; standAt theWindowsPlace)) _ _ s
  refine wpAny_onRaise ?_
  unfold compStart
  rw [if_neg (by show ¬ ((0 != 0) = true); decide)]
  refine wpAny_bind (wpAny_askSetting ?_)
  split
  · exact wpAny_pure ⟨rfl, h1⟩
  · refine wpAny_bind (wpAny_rule ?_)
    refine wpAny_bind (wpAny_standAt ?_)
    refine wpAny_bind (wpAny_mono h2 (fun it' s' h' => wpAny_pure ⟨rfl, h'⟩) fun _ _ h' => h'.elim)
theorem codeAny_comp2_out {elt target iter t2 it2 : Expr} {ifs ifs2 : List Expr} {scope : Scope} {pos : Pos} {it acc : Value} {env : Env} (hf : ∀ x, foldedSetIterable it2 env x = pure x) (I : Nat → Shared → Prop)
    (turn : ∀ n s, I n s → wpAny (model prog w) A (pyNext it) (fun r s₁ => match r with
      | none => R (.ok .next) s₁
      | some v => wpAny (model prog w) A (letOwnedTupleGo target it v) (fun _ s₂ => wpAny (model prog w) A (assign target env v) (fun _ s₃ =>
          wpAny (model prog w) A (forIn ifs true fun c r => if r = true then do let ok ← isTrue c env (eval c env); pure (ForInStep.yield ok) else pure (ForInStep.yield r)) (fun ok s₄ =>
            if ok = true then wpAny (model prog w) A (eval it2 env) (fun x s₅ => wpAny (model prog w) A (pyIter x) (fun iv s₆ =>
              codeAny (model prog w) A (.compStart (.ListComp elt [⟨target, iter, ifs, 0⟩, ⟨t2, it2, ifs2, 0⟩] scope pos) 1 iv acc env) (fun r s₇ => match r with
                | .ok _ => ∃ m, m < n ∧ I m s₇
                | .error _ => False) s₆) (fun _ _ => False) s₅) (fun _ _ => False) s₄
            else ∃ m, m < n ∧ I m s₄) (fun _ _ => False) s₃) (fun _ _ => False) s₂) (fun _ _ => False) s₁) (fun _ _ => False) s)
    (n : Nat) (h : I n s) :
    codeAny (model prog w) A (.compLoop (.ListComp elt [⟨target, iter, ifs, 0⟩, ⟨t2, it2, ifs2, 0⟩] scope pos) 0 it acc env) R s := by
  refine codeAny_loop rfl I (fun n s hI => ?_) n h
  show wpAny _ A ((compTurn (.ListComp elt [⟨target, iter, ifs, 0⟩, ⟨t2, it2, ifs2, 0⟩] scope pos) 0 it acc env).onRaise (fun x => do noteFrame x env; theTreesLotGoes x)) _ _ s
  refine wpAny_noted ?_
  unfold compTurn
  refine wpAny_bind (wpAny_standAt (wpAny_bind (wpAny_mono (turn n s hI) (fun r s₁ h₁ => ?_) fun _ _ h' => h'.elim)))
  cases r with
  | none => exact wpAny_pure h₁
  | some v =>
    refine wpAny_bind (wpAny_mono h₁ (fun _ s₂ h₂ => ?_) fun _ _ h' => h'.elim)
    refine wpAny_bind (wpAny_mono h₂ (fun _ s₃ h₃ => wpAny_bind (wpAny_mono h₃ (fun ok s₄ h₄ => ?_) fun _ _ h' => h'.elim)) fun _ _ h' => h'.elim)
    cases ok with
    | false => exact wpAny_pure ⟨rfl, h₄⟩
    | true =>
      refine wpAny_bind (wpAny_mono h₄ (fun x s₅ h₅ => ?_) fun _ _ h' => h'.elim)
      refine wpAny_bind (wpAny_standAt ?_)
      show wpAny _ _ (foldedSetIterable it2 env x >>= _) _ _ _
      rw [hf]
      refine wpAny_bind (wpAny_pure ?_)
      show wpAny _ _ (holding [x] (pyIter x) >>= _) _ _ _
      refine wpAny_bind (wpAny_holding (wpAny_mono h₅ (fun iv s₆ h₆ => ?_) fun _ _ h' => h'.elim))
      refine wpAny_bind (wpAny_runOwn (h := none) ?_)
      refine codeAny_mono (show codeAny (model prog w) (A.mark none) _ _ s₆ from h₆) fun r s₇ h₇ => ?_
      cases r with
      | ok f => exact wpAny_pure ⟨rfl, h₇⟩
      | error e => exact h₇.elim
end
def innerG (J : It) (g : TG) (ti : TT) (te : TE) (acc : Addr) (N : St → Hp → Prop) (σ : St) (H : Hp) : Prop := ∃ W : Nat → Nat → St → Hp → Prop, (∃ m, W 0 m σ H) ∧
  ∀ i m σ' H', W i m σ' H' → (J.stop i H' ∧ N σ' H') ∨ (J.go i H' ∧ ∃ N2 : St → Hp → Prop, (∀ σ2 H2, N2 σ2 H2 → ∃ m', m' < m ∧ W (i + 1) m' σ2 H2) ∧ ∀ x H2, J.yld i H' x H2 → compT g ti te acc N2 x σ' H2)
def comp2T (g : TG) (ti : TT) (wi2 : TI) (g2 : TG) (ti2 : TT) (te : TE) (acc : Addr) (N : St → Hp → Prop) (x : V) (σ : St) (H : Hp) : Prop :=
  g x σ H fun σ3 H3 => ti σ3 H3 fun ok H4 => if ok = true then wi2 σ3 H4 fun J2 H5 => innerG J2 g2 ti2 te acc N σ3 H5 else N σ3 H4
def comp2G (J : It) (g : TG) (ti : TT) (wi2 : TI) (g2 : TG) (ti2 : TT) (te : TE) (acc : Addr) (Q : VK) (σ : St) (H : Hp) : Prop := ∃ W : Nat → Nat → St → Hp → Prop, (∃ m, W 0 m σ H) ∧
  ∀ i m σ' H', W i m σ' H' → (J.stop i H' ∧ Q (.ref acc) H') ∨ (J.go i H' ∧ ∃ N : St → Hp → Prop, (∀ σ2 H2, N σ2 H2 → ∃ m', m' < m ∧ W (i + 1) m' σ2 H2) ∧ ∀ x H2, J.yld i H' x H2 → comp2T g ti wi2 g2 ti2 te acc N x σ' H2)
def tComp2 (wi : TI) (g : TG) (ti : TT) (wi2 : TI) (g2 : TG) (ti2 : TT) (te : TE) (cix : List (Option Nat)) : TE := fun σ H Q => wi σ H fun J H1 => ∀ acc, H1 acc = none → comp2G J g ti wi2 g2 ti2 te acc Q (capS σ cix) (upd H1 acc (.lst []))
theorem ps_setC2 {X : Cx} {elt tg iter tg2 iter2 : Expr} {ifs ifs2 : List Expr} {scope : Scope} {pos spos : Pos} {wi wi2 : TI} {g g2 : TG} {ti ti2 : TT} {te : TE} {N : List Str} {cix : List (Option Nat)} {ix : Nat} {nx : Str} {px : Pos} (hNd : X.N.Nodup) (hix : X.N[ix]? = some nx) (hlx : X.env.scope.names.lookup nx = some .local) (hc : X.calm = true) (c : CompOk X scope N cix)
    (hi : PI X tg iter wi) (hg : ∀ C s H ex, PG (compCx X scope N C s H ex) tg g) (ht : ∀ C s H ex, PTs (compCx X scope N C s H ex) ifs ti)
    (hi2 : ∀ C s H ex, PI (compCx X scope N C s H ex) tg2 iter2 wi2) (hg2 : ∀ C s H ex, PG (compCx X scope N C s H ex) tg2 g2) (ht2 : ∀ C s H ex, PTs (compCx X scope N C s H ex) ifs2 ti2) (he : ∀ C s H ex, PE (compCx X scope N C s H ex) elt te)
    (hsw : swapsWithSole [.Name nx px] (.ListComp elt [⟨tg, iter, ifs, 0⟩, ⟨tg2, iter2, ifs2, 0⟩] scope pos) spos.line X.env = pure true)
    (hs : ∀ x, foldedSetIterable iter X.env x = pure x := by intro _; rfl) (hs2 : ∀ C s H ex x, foldedSetIterable iter2 (compCx X scope N C s H ex).env x = pure x := by intro _ _ _ _ _; rfl)
    (h1a : (assignEach [.Name nx px] X.env).map (·.2) = [assign (.Name nx px) X.env] := by rfl) : PS X (.Assign [.Name nx px] (.ListComp elt [⟨tg, iter, ifs, 0⟩, ⟨tg2, iter2, ifs2, 0⟩] scope pos) spos) (tAsg (tComp2 wi g ti wi2 g2 ti2 te cix) (gName ix)) := by
  intro pins s σ H D I h0
  have h : tComp2 wi g ti wi2 g2 ti2 te cix σ H (fun x H1 => D.nx (σ.set ix (some x)) H1) := h0
  rw [exec_Assign_arm]
  refine wpAny_bind (wpAny_standAt ?_)
  rw [hsw]
  refine wpAny_bind (wpAny_pure ?_)
  rw [if_pos rfl]
  refine wpAny_bind ?_
  rw [evalThenUse.eq_1]
  refine wpAny_bind ?_
  generalize hU : (fun v => assignAll v ((assignEach [.Name nx px] X.env).map (·.2))) = U
  refine wpAny_comprehension_free (g := ⟨tg, iter, ifs, 0⟩) (gs := [⟨tg2, iter2, ifs2, 0⟩]) (use := some U) rfl hs (closure_of (c.cells I.ok)) c.kind c.names ?_
  refine (thn (hi pins s σ H _ I h) fun xv s1 h1 => thn h1 fun itv s2 h2 => ?_)
  obtain ⟨it, fp, tn, J, H2, e, I2, T, st2, f2, q2⟩ := h2
  subst e
  refine wpAny_newObj_type (wpAny_newFunctionEnv c.cell (by intro y hy; simp at hy) (fun h4 hns4 hsb4 => ?_) c.kind)
  dsimp only at hns4 hsb4 ⊢
  have hnone := I2.hok.fresh (Nat.le_refl s2.heap.objs.size)
  -- the new list
  have I3 : Inv X pins σ (upd H2 s2.heap.objs.size (.lst [])) { s2 with heap := s2.heap.push { cls := .type "list", dict := none, data := .seq ([] : List Value).toArray }, toks := s2.toks } := I2.lnew (t' := s2.toks) .nil (by simp)
  obtain ⟨W, ⟨m0, w0⟩, turn⟩ := q2 s2.heap.objs.size hnone
  have ltF : ∀ b ∈ fp, b < s2.heap.objs.size := fun b hb => by
    obtain ⟨o, ho, _⟩ := T.obj _ _ st2 b hb
    exact Heap.lt_size ho
  have f3 : ∀ b ∈ fp, FpOk X pins (upd H2 s2.heap.objs.size (.lst [])) b := fun b hb => ⟨by rw [upd_ne (Nat.ne_of_lt (ltF b hb))]; exact (f2 b hb).1, (f2 b hb).2⟩
  have kp : ∀ b o, (s2.heap.push { cls := .type "list", dict := none, data := .seq ([] : List Value).toArray }).get? b = some o → h4.get? b = some o := fun b o e =>
    hsb4.extBut b o (Nat.ne_of_lt (Heap.lt_size e)) (Heap.get?_push_of_some _ e)
  have sz3 : s2.heap.objs.size < (s2.heap.push { cls := .type "list", dict := none, data := .seq ([] : List Value).toArray }).objs.size := by rw [Heap.size_push]; exact Nat.lt_succ_self _
  have I4 := inv_comp (tk := s2.toks + ([] : List (Str × Value)).length) I3 c f3 (fun b hb => Nat.lt_trans (ltF b hb) sz3) hns4 kp
  have st4 : tn 0 h4 := T.keep _ _ _ st2 fun b hb o e => kp b o (Heap.get?_push_of_some _ e)
  generalize hX : compCx X scope N (s2.heap.push { cls := .type "list", dict := none, data := .seq ([] : List Value).toArray }).objs.size
    { s2 with heap := s2.heap.push { cls := .type "list", dict := none, data := .seq ([] : List Value).toArray }, toks := s2.toks } (upd H2 s2.heap.objs.size (.lst [])) fp = X' at I4
  have pX : X'.prog = X.prog := by rw [← hX]; rfl
  have wX : X'.w = X.w := by rw [← hX]; rfl
  have KX : X'.K = X.K := by rw [← hX]; rfl
  have AX : X'.A = X.A := by rw [← hX]; rfl
  have cX : X'.calm = true := by rw [← hX]; exact hc
  have xX : X'.xe = fun _ _ => False := by rw [← hX]; rfl
  have eX : X'.env = compEnvC scope (capL X.env scope.names []) (s2.heap.push { cls := .type "list", dict := none, data := .seq ([] : List Value).toArray }).objs.size X.env := by rw [← hX]; rfl
  have hg' : PG X' tg g := by rw [← hX]; exact hg _ _ _ _
  have ht' : PTs X' ifs ti := by rw [← hX]; exact ht _ _ _ _
  have he' : PE X' elt te := by rw [← hX]; exact he _ _ _ _
  have hi2' : PI X' tg2 iter2 wi2 := by rw [← hX]; exact hi2 _ _ _ _
  have hg2' : PG X' tg2 g2 := by rw [← hX]; exact hg2 _ _ _ _
  have ht2' : PTs X' ifs2 ti2 := by rw [← hX]; exact ht2 _ _ _ _
  have hs2' : ∀ x, foldedSetIterable iter2 X'.env x = pure x := by rw [← hX]; exact hs2 _ _ _ _
  have f4 : ∀ {H' : Hp}, (∀ b ∈ fp, H' b = none) → ∀ b ∈ fp, FpOk X' [] H' b := fun {H'} hn b hb => by
    refine ⟨hn b hb, ?_, ?_, .inl ?_, ?_, ?_⟩
    · rw [eX]; exact Nat.ne_of_lt (Nat.lt_trans (ltF b hb) sz3)
    · have e1 : X'.fs = frs X.stack := by rw [← hX]; rfl
      rw [e1]
      intro z
      rcases List.mem_cons.mp (I2.stkSub b z) with e | e
      · exact (f2 b hb).2.1 e
      · exact (f2 b hb).2.2.1 e
    · rw [← hX]; exact hb
    · rw [eX]
      intro x a e
      rcases capL_some (c.cells I.ok) e with z | z
      · exact (f2 b hb).2.2.2.2.1 x a z
      · simp at z
    · intro p hp
      have e1 : X'.pn ++ ([] : List (Addr × Obj)) = [] := by rw [← hX]; rfl
      rw [e1] at hp
      simp at hp
  -- the loop
  have loop : ∀ s4 : Shared, s4 = { s2 with heap := h4, toks := s2.toks + ([] : List (Str × Value)).length } →
      codeAny (model X.prog X.w) X.A (.compLoop (.ListComp elt [⟨tg, iter, ifs, 0⟩, ⟨tg2, iter2, ifs2, 0⟩] scope pos) 0 (.ref it) (.ref s2.heap.objs.size) X'.env)
        (compPost (model X.prog X.w) X.A X.xe (some U) (fun _ s => wpAny (model X.prog X.w) X.A (pure ()) (fun _ s => wpAny (model X.prog X.w) X.A (pure Flow.next) (SP X pins D) X.xe s) X.xe s) (.ref s2.heap.objs.size) (s2.heap.push { cls := .type "list", dict := none, data := .seq ([] : List Value).toArray }).objs.size) s4 := by
    rintro s4 rfl
    refine codeAny_comp2_out hs2' (fun n s' => ∃ i σ' H', Inv X' [] σ' H' s' ∧ tn i s'.heap ∧ (∀ b ∈ fp, H' b = none) ∧ W i n σ' H') ?_ m0 ⟨0, capS σ cix, _, I4, st4, fun b hb => (f3 b hb).1, w0⟩
    rintro n s5 ⟨i, σ5, H5, I5, st5, fr5, w5⟩
    rcases turn i n σ5 H5 w5 with ⟨stop, qn⟩ | ⟨go, Nx, hN, step⟩
    · have := T.done X' pX wX KX cX i [] s5 σ5 H5 (fun _ _ => False) I5 (f4 fr5) st5 stop
      rw [AX] at this
      refine thn this fun r s6 ⟨hr, I6⟩ => ?_
      subst hr
      obtain ⟨m6, hn6, _⟩ := I6.loc
      have hfr : H5 (s2.heap.push { cls := .type "list", dict := none, data := .seq ([] : List Value).toArray }).objs.size = none := by
        have := I6.free
        rw [eX] at this
        exact this
      rw [eX] at hn6
      have I6' := I6
      rw [← hX] at I6'
      have IX := inv_uncomp I3 f3 I6' ⟨rfl, fun _ _ => rfl⟩
      have fC := I3.fpOk (Nat.le_refl _) hfr
      have hUv : U (.ref s2.heap.objs.size) = assignAll (.ref s2.heap.objs.size) [assign (.Name nx px) X.env] := by
        rw [← hU, ← h1a]
      show wpAny _ _ (U (.ref s2.heap.objs.size)) _ _ s6
      rw [hUv]
      refine wpAny_assign_Name (x := nx) (pos := px) ?_
      refine store_ok2 IX hNd hix (Or.inl hlx) (v := .ref s2.heap.objs.size) rfl (fun s7 I7 ⟨a7, hs7, ha7⟩ => ?_) (.inr hlx)
      have hCa : (s2.heap.push { cls := .type "list", dict := none, data := .seq ([] : List Value).toArray }).objs.size ≠ a7 := by
        intro z
        rcases ha7 with e | e
        · exact fC.2.1 (z.trans e)
        · exact fC.2.2.2.2.1 nx a7 e z.symm
      obtain ⟨oC, esC, epC, hoC, rC⟩ := hn6
      refine ⟨m6, ⟨oC, esC, epC, (hs7.2 _ hCa).trans hoC, rC⟩, fun h8 hs8 => ?_⟩
      refine wpAny_pure (wpAny_pure ?_)
      exact ⟨_, H5, I7.turned (t' := s7.toks) (fun b o hb e => (hs8.2 b hb).trans e) hfr fC.2.1 fC.2.2.2.1 fC.2.2.2.2.1 fC.2.2.2.2.2, qn⟩
    · have := T.item X' pX wX KX cX i [] s5 σ5 H5 (fun _ _ => False) I5 (f4 fr5) st5 go
      rw [AX] at this
      refine thn this fun r s6 ⟨u, hr, h6⟩ => ?_
      subst hr
      refine thn h6 fun _ s7 ⟨x, H7, I7, r7, y7, st7, fr7⟩ => ?_
      have I7' := I7.pinned (f4 fr7) (T.obj _ _ st7)
      have a7 := hg' _ s7 σ5 H7 x u _ I7' r7 (step x H7 y7)
      rw [pX, wX, AX, xX] at a7
      refine thn a7 fun _ s8 ⟨σ8, H8, I8, q8⟩ => ?_
      have t8 := ht' _ s8 σ8 H8 _ I8 q8
      rw [pX, wX, AX, xX] at t8
      refine thn t8 fun ok s9 ⟨H9, I9, q9⟩ => ?_
      have again : ∀ {s' : Shared} {σ' : St} {H' : Hp}, Inv X' ([] ++ pinsAt fp s7.heap) σ' H' s' → Nx σ' H' → ∃ m, m < n ∧ ∃ i σ' H', Inv X' [] σ' H' s' ∧ tn i s'.heap ∧ (∀ b ∈ fp, H' b = none) ∧ W i m σ' H' := fun {s' σ' H'} J' n' => by
        obtain ⟨m', hm, w'⟩ := hN σ' H' n'
        refine ⟨m', hm, i + 1, σ', H', J'.unpinned, T.keep _ _ _ st7 fun b hb o e => (J'.pin (b, o) (List.mem_append_right _ (List.mem_append_right _ (mem_pinsAt hb e)))).1, fun b hb => ?_, w'⟩
        obtain ⟨o, e, d⟩ := T.obj _ _ st7 b hb
        exact (J'.pin (b, o) (List.mem_append_right _ (List.mem_append_right _ (mem_pinsAt hb e)))).2.1
      cases ok with
      | false => exact again I9 q9
      | true =>
        have e9 := hi2' _ s9 σ8 H9 _ I9 q9
        rw [pX, wX, AX, xX] at e9
        refine thn e9 fun xv2 s10 h10 => thn h10 fun itv2 s11 h11 => ?_
        obtain ⟨it2, fp2, tn2, J2, H11, e2, I11, T2, st11, f11, W2, ⟨m20, w20⟩, turn2⟩ := h11
        subst e2
        rw [pX, wX, KX] at T2
        have stat : ∀ {H' : Hp}, (∀ b ∈ fp2, H' b = none) → ∀ b ∈ fp2, FpOk X' ([] ++ pinsAt fp s7.heap) H' b := fun hn b hb => ⟨hn b hb, (f11 b hb).2⟩
        have loop2 : codeAny (model X.prog X.w) X.A (.compLoop (.ListComp elt [⟨tg, iter, ifs, 0⟩, ⟨tg2, iter2, ifs2, 0⟩] scope pos) 1 (.ref it2) (.ref s2.heap.objs.size) X'.env) (fun r s₇ => match r with
            | .ok _ => ∃ m, m < n ∧ ∃ i σ' H', Inv X' [] σ' H' s₇ ∧ tn i s₇.heap ∧ (∀ b ∈ fp, H' b = none) ∧ W i m σ' H'
            | .error _ => False) s11 := by
          refine codeAny_comp2_in (fun n2 s' => ∃ i σ' H', Inv X' ([] ++ pinsAt fp s7.heap) σ' H' s' ∧ tn2 i s'.heap ∧ (∀ b ∈ fp2, H' b = none) ∧ W2 i n2 σ' H') ?_ m20 ⟨0, σ8, H11, I11, st11, fun b hb => (f11 b hb).1, w20⟩
          rintro n2 s12 ⟨i2, σ12, H12, I12, st12, fr12, w12⟩
          rcases turn2 i2 n2 σ12 H12 w12 with ⟨stop2, qn2⟩ | ⟨go2, Nx2, hN2, step2⟩
          · have := T2.done X' pX wX KX cX i2 _ s12 σ12 H12 (fun _ _ => False) I12 (stat fr12) st12 stop2
            rw [AX] at this
            refine thn this fun r s13 ⟨hr, I13⟩ => ?_
            subst hr
            exact again I13 qn2
          · have := T2.item X' pX wX KX cX i2 _ s12 σ12 H12 (fun _ _ => False) I12 (stat fr12) st12 go2
            rw [AX] at this
            refine thn this fun r s13 ⟨u, hr, h13⟩ => ?_
            subst hr
            refine thn h13 fun _ s14 ⟨x, H14, I14, r14, y14, st14, fr14⟩ => ?_
            have I14' := I14.pinned (stat fr14) (T2.obj _ _ st14)
            have a14 := hg2' _ s14 σ12 H14 x u _ I14' r14 (step2 x H14 y14)
            rw [pX, wX, AX, xX] at a14
            refine thn a14 fun _ s15 ⟨σ15, H15, I15, q15⟩ => ?_
            have t15 := ht2' _ s15 σ15 H15 _ I15 q15
            rw [pX, wX, AX, xX] at t15
            refine thn t15 fun ok s16 ⟨H16, I16, q16⟩ => ?_
            have again2 : ∀ {s' : Shared} {σ' : St} {H' : Hp}, Inv X' (([] ++ pinsAt fp s7.heap) ++ pinsAt fp2 s14.heap) σ' H' s' → Nx2 σ' H' → ∃ m, m < n2 ∧ ∃ i σ' H', Inv X' ([] ++ pinsAt fp s7.heap) σ' H' s' ∧ tn2 i s'.heap ∧ (∀ b ∈ fp2, H' b = none) ∧ W2 i m σ' H' := fun {s' σ' H'} J' n' => by
              obtain ⟨m', hm, w'⟩ := hN2 σ' H' n'
              refine ⟨m', hm, i2 + 1, σ', H', J'.unpinned, T2.keep _ _ _ st14 fun b hb o e => (J'.pin (b, o) (List.mem_append_right _ (List.mem_append_right _ (mem_pinsAt hb e)))).1, fun b hb => ?_, w'⟩
              obtain ⟨o, e, d⟩ := T2.obj _ _ st14 b hb
              exact (J'.pin (b, o) (List.mem_append_right _ (List.mem_append_right _ (mem_pinsAt hb e)))).2.1
            cases ok with
            | false => exact again2 I16 q16
            | true =>
              have e16 := he' _ s16 σ15 H16 _ I16 q16
              rw [pX, wX, AX, xX] at e16
              refine thn e16 fun u2 s17 ⟨v, H17, I17, r17, q17⟩ => ?_
              obtain ⟨xs, hxs, hlt, nx⟩ := q17
              have m17 := mt_append (X := X') _ s17 σ15 H17 (.ref s2.heap.objs.size) [v] (.ref s2.heap.objs.size) [u2] (fun _ H' => Nx2 σ15 H') I17 rfl (.cons r17 .nil) ⟨_, xs, v, rfl, rfl, hxs, hlt, nx⟩
              rw [pX, wX, AX, xX] at m17
              refine thn m17 fun _ s18 ⟨_, H18, I18, _, n18⟩ => again2 I18 n18
        exact codeAny_comp2_start loop2 (T2.self X.A 0 _ _ _ st11 loop2)
  have l0 := loop _ rfl
  rw [eX] at l0
  exact codeAny_compStart_list l0 (T.self X.A 0 _ _ _ st4 l0)
theorem qs_setC2 {X : Cx} {elt tg iter tg2 iter2 : Expr} {ifs ifs2 : List Expr} {scope : Scope} {pos spos : Pos} {wi wi2 : TI} {g g2 : TG} {ti ti2 : TT} {te : TE} {N : List Str} {cix : List (Option Nat)} {ix : Nat} {nx : Str} {px : Pos} (hNd : X.N.Nodup) (hix : X.N[ix]? = some nx) (hlx : X.env.scope.names.lookup nx = some .local) (hc : X.calm = true) (c : CompOk X scope N cix)
    (hi : QI X tg iter wi) (hg : ∀ C s H ex, QG (compCx X scope N C s H ex) tg g) (ht : ∀ C s H ex, QTs (compCx X scope N C s H ex) ifs ti)
    (hi2 : ∀ C s H ex, QI (compCx X scope N C s H ex) tg2 iter2 wi2) (hg2 : ∀ C s H ex, QG (compCx X scope N C s H ex) tg2 g2) (ht2 : ∀ C s H ex, QTs (compCx X scope N C s H ex) ifs2 ti2) (he : ∀ C s H ex, QE (compCx X scope N C s H ex) elt te)
    (hsw : swapsWithSole [.Name nx px] (.ListComp elt [⟨tg, iter, ifs, 0⟩, ⟨tg2, iter2, ifs2, 0⟩] scope pos) spos.line X.env = pure true := by rfl)
    (hs : ∀ x, foldedSetIterable iter X.env x = pure x := by intro _; rfl) (hs2 : ∀ C s H ex x, foldedSetIterable iter2 (compCx X scope N C s H ex).env x = pure x := by intro _ _ _ _ _; rfl)
    (h1a : (assignEach [.Name nx px] X.env).map (·.2) = [assign (.Name nx px) X.env] := by rfl) : QS X (.Assign [.Name nx px] (.ListComp elt [⟨tg, iter, ifs, 0⟩, ⟨tg2, iter2, ifs2, 0⟩] scope pos) spos) (tAsg (tComp2 wi g ti wi2 g2 ti2 te cix) (gName ix)) :=
  ⟨ps_setC2 hNd hix hlx hc c hi.run (fun C s H ex => (hg C s H ex).run) (fun C s H ex => (ht C s H ex).run) (fun C s H ex => (hi2 C s H ex).run) (fun C s H ex => (hg2 C s H ex).run) (fun C s H ex => (ht2 C s H ex).run) (fun C s H ex => (he C s H ex).run) hsw hs hs2 h1a⟩
/-! ### loops of clauses, by a word of each turn -/
section
variable {K : PySem.W.Frag} {a acc : Addr} {xs : List V} {g : TG} {ti : TT} {wi2 : TI} {g2 : TG} {ti2 : TT} {te : TE} {σ : St} {H : Hp} {Q : VK} {N : St → Hp → Prop}
theorem comp2_list (hacc : H acc = none) (Pv : Nat → St → Hp → Prop) (h0 : ∀ H', H' acc = some (.lst []) → Same H H' → Pv 0 σ H') (hl : ∀ i σ H, i ≤ xs.length → Pv i σ H → SqL K H a xs)
    (hs : ∀ i x σ H, xs[i]? = some x → Pv i σ H → comp2T g ti wi2 g2 ti2 te acc (Pv (i + 1)) x σ H) (hd : ∀ σ H, Pv xs.length σ H → Q (.ref acc) H) : comp2G (Itl K a) g ti wi2 g2 ti2 te acc Q σ (upd H acc (.lst [])) := by
  refine ⟨fun i m σ H => m = xs.length - i ∧ i ≤ xs.length ∧ Pv i σ H, ⟨xs.length, by simp, Nat.zero_le _, h0 _ upd_same (Same.upd hacc)⟩, ?_⟩
  rintro i m σ H ⟨rfl, hi, p⟩
  have q := hl i σ H hi p
  by_cases hlt : i < xs.length
  · refine .inr ⟨⟨xs, xs[i], q, by simp [hlt]⟩, Pv (i + 1), fun σ' H' p' => ⟨xs.length - (i + 1), by omega, rfl, hlt, p'⟩, fun x H' y => ?_⟩
    obtain ⟨e, y⟩ := y
    subst e
    exact hs i x σ _ (y xs q) p
  · have e : i = xs.length := by omega
    subst e
    exact .inl ⟨⟨xs, q, Nat.le_refl _⟩, hd σ H p⟩
theorem inner_list (Pv : Nat → St → Hp → Prop) (h0 : Pv 0 σ H) (hl : ∀ i σ H, i ≤ xs.length → Pv i σ H → SqL K H a xs)
    (hs : ∀ i x σ H, xs[i]? = some x → Pv i σ H → compT g ti te acc (Pv (i + 1)) x σ H) (hd : ∀ σ H, Pv xs.length σ H → N σ H) : innerG (Itl K a) g ti te acc N σ H := by
  refine ⟨fun i m σ H => m = xs.length - i ∧ i ≤ xs.length ∧ Pv i σ H, ⟨xs.length, by simp, Nat.zero_le _, h0⟩, ?_⟩
  rintro i m σ H ⟨rfl, hi, p⟩
  have q := hl i σ H hi p
  by_cases hlt : i < xs.length
  · refine .inr ⟨⟨xs, xs[i], q, by simp [hlt]⟩, Pv (i + 1), fun σ' H' p' => ⟨xs.length - (i + 1), by omega, rfl, hlt, p'⟩, fun x H' y => ?_⟩
    obtain ⟨e, y⟩ := y
    subst e
    exact hs i x σ _ (y xs q) p
  · have e : i = xs.length := by omega
    subst e
    exact .inl ⟨⟨xs, q, Nat.le_refl _⟩, hd σ H p⟩
end
/-! ### range(n), list(range(n)) -/
section
variable {X : Cx}
theorem cq_range : CallQ X (.type "range") (fun xs H Q => ∃ n, xs = [.int n] ∧ New H (.rng 0 n) Q) := ⟨by
  intro pins s σ H xs us Q I r h
  obtain ⟨n, rfl, q⟩ := h
  obtain ⟨u, rfl, ru⟩ := vals1 r
  obtain ⟨t, rfl⟩ := ru
  refine call_range_1 ?_
  refine ⟨.ref s.heap.objs.size, _, I.laid (t' := s.toks + 1 + 1) (o := .rng 0 n) (fun b ob q => Heap.get?_push_of_some _ q) (Nat.le_refl _) ?_, rfl, q.at (I.hok.fresh (Nat.le_refl _))⟩
  exact ⟨_, _, _, Heap.get?_push_size _ rfl⟩⟩
theorem rng_size (n : Nat) : Builtin.Range.rangeSize 0 (n : Int) 1 = n := by
  unfold Builtin.Range.rangeSize
  rw [if_pos (by decide)]
  split
  · rw [Int.ediv_one]; omega
  · omega
theorem vals_of : ∀ {xs : List V} {us : List Value}, xs.length = us.length → (∀ (i : Nat) x u, xs[i]? = some x → us[i]? = some u → RelV x u) → Vals xs us
  | [], [], _, _ => .nil
  | [], _ :: _, h, _ => by simp at h
  | _ :: _, [], h, _ => by simp at h
  | x :: xs, u :: us, h, k => .cons (k 0 x u rfl rfl) (vals_of (by simpa using h) fun i y v hy hv => k (i + 1) y v hy hv)
theorem cq_list_rng (hc : X.calm = true) : CallQ X (.type "list") (fun xs H Q => ∃ (p : Addr) (n : Nat), xs = [.ref p] ∧ H p = some (.rng 0 n) ∧ n ≤ 1000 ∧ New H (.lst ((List.range n).map fun i : Nat => V.int i)) Q) := ⟨by
  intro pins s σ H xs us Q I r h
  obtain ⟨p, n, rfl, hp, hn, q⟩ := h
  obtain ⟨u, rfl, ru⟩ := vals1 r
  cases ru
  obtain ⟨t, u, v, ho⟩ := I.hok p _ hp
  have hn' : n < sizeLine := small1000 hn
  refine call_list_range (a := 0) (b := n) (c := 1) (n := n) (I.ok.hd hc) ho ?_ ?_ (Nat.le_trans hn (by decide)) fun h' tk acc' c' kp hg hit => ?_
  · have e := rng_size n
    unfold Builtin.Range.small
    rw [e]
    simp [Builtin.Range.rangeFitsLong]
    omega
  · exact rng_size n
  · have hv : Vals ((List.range n).map fun i : Nat => V.int i) acc'.toList := by
      refine vals_of (by rw [List.length_map, List.length_range, Array.length_toList, hit.1]) fun j x u hx hu => ?_
      rw [List.getElem?_map] at hx
      obtain ⟨k, hk, rfl⟩ := Option.map_eq_some_iff.mp hx
      obtain ⟨hlt, e⟩ := List.getElem?_eq_some_iff.mp hk
      have : k = j := by simpa using e.symm
      subst this
      obtain ⟨t', rfl⟩ := hit.2 k u (by simpa using hu)
      exact ⟨t', by rw [show (0 : Int) + (k : Int) * 1 = k by omega]⟩
    refine ⟨.ref s.heap.objs.size, _, I.laid (t' := tk) (o := .lst ((List.range n).map fun i : Nat => V.int i)) kp (Nat.le_refl _) ?_, rfl, q.at (I.hok.fresh (Nat.le_refl _))⟩
    exact ⟨by rw [List.length_map, List.length_range]; exact Nat.le_of_lt hn', acc'.toList, c', hv, by simpa using hg⟩⟩
end
end L2


set_option Elab.async false
set_option linter.all false
set_option maxRecDepth 100000
namespace L2
open PySem PySem.Spec PyProof.Rows
/-! all standings of a room, by mixed radix -/
def rangeI (m : Int) : List Int := (List.range m.toNat).map fun i : Nat => (i : Int)
def crossI (rows : List (List Int)) (ws : List Int) : List (List Int) := rows.flatMap fun r => ws.map fun w => r ++ [w]
def allC (cs : List (List Int)) : List (List Int) := cs.foldl crossI [[]]
theorem allC_snoc (cs : List (List Int)) (c : List Int) : allC (cs ++ [c]) = crossI (allC cs) c := by
  unfold allC
  rw [List.foldl_append]
  rfl
def digsR : List Int → Nat → List Int
  | [], _ => []
  | m :: r, k => digsR r (k / m.toNat) ++ [((k % m.toNat : Nat) : Int)]
def sizeR : List Int → Nat
  | [] => 1
  | m :: r => sizeR r * m.toNat
theorem range_mul (P m : Nat) : List.range (P * m) = (List.range P).flatMap fun q => (List.range m).map fun r => q * m + r := by
  induction P with
  | zero => rw [Nat.zero_mul]; rfl
  | succ P ih =>
    rw [Nat.succ_mul, List.range_add, ih, List.range_succ, List.flatMap_append]
    simp
theorem cross_range (P m : Nat) (f : Nat → List Int) : crossI ((List.range P).map f) ((List.range m).map fun i : Nat => (i : Int)) = (List.range (P * m)).map fun k => f (k / m) ++ [((k % m : Nat) : Int)] := by
  unfold crossI
  rw [range_mul, List.map_flatMap, List.flatMap_map]
  congr 1
  funext q
  rw [List.map_map, List.map_map]
  refine List.map_congr_left fun r hr => ?_
  have hr' := List.mem_range.mp hr
  show f q ++ [(r : Int)] = f ((q * m + r) / m) ++ [(((q * m + r) % m : Nat) : Int)]
  have e1 : (q * m + r) / m = q := by
    rw [Nat.mul_comm, Nat.mul_add_div (by omega), Nat.div_eq_of_lt hr']
    omega
  have e2 : (q * m + r) % m = r := by
    rw [Nat.mul_comm, Nat.mul_add_mod, Nat.mod_eq_of_lt hr']
  rw [e1, e2]
theorem all_digs : ∀ rr : List Int, allC (rr.reverse.map rangeI) = (List.range (sizeR rr)).map (digsR rr)
  | [] => rfl
  | m :: r => by
    rw [List.reverse_cons, List.map_append]
    show allC (r.reverse.map rangeI ++ [rangeI m]) = _
    rw [allC_snoc, all_digs r]
    exact cross_range (sizeR r) m.toNat (digsR r)
def Valid : List Int → List Int → Prop
  | [], [] => True
  | m :: rm, w :: st => 0 ≤ w ∧ w < m ∧ Valid rm st
  | _, _ => False
theorem Valid.snoc : ∀ {rm st : List Int} {m w : Int}, Valid rm st → 0 ≤ w → w < m → Valid (rm ++ [m]) (st ++ [w])
  | [], [], _, _, _, h0, h1 => ⟨h0, h1, trivial⟩
  | [], _ :: _, _, _, h, _, _ => h.elim
  | _ :: _, [], _, _, h, _, _ => h.elim
  | _ :: rm, _ :: st, _, _, h, h0, h1 => ⟨h.1, h.2.1, Valid.snoc h.2.2 h0 h1⟩
theorem Valid.len : ∀ {rm st : List Int}, Valid rm st → st.length = rm.length
  | [], [], _ => rfl
  | [], _ :: _, h => h.elim
  | _ :: _, [], h => h.elim
  | _ :: rm, _ :: st, h => by rw [List.length_cons, List.length_cons, Valid.len h.2.2]
theorem Valid.get : ∀ {rm st : List Int}, Valid rm st → ∀ j : Nat, j < rm.length → 0 ≤ st.getD j 0 ∧ st.getD j 0 < rm.getD j 0
  | [], [], _, j, hj => by simp at hj
  | [], _ :: _, h, _, _ => h.elim
  | _ :: _, [], h, _, _ => h.elim
  | _ :: rm, _ :: st, h, 0, _ => ⟨h.1, h.2.1⟩
  | _ :: rm, _ :: st, h, j + 1, hj => by
    have := Valid.get h.2.2 j (by simpa using hj)
    simpa using this
theorem Valid.st {rm st : List Int} (h : Valid rm st) : ∀ b : Int, 0 ≤ b → b < rm.length → 0 ≤ many st b ∧ many st b < many rm b := fun b b0 b1 => by
  obtain ⟨j, rfl⟩ : ∃ j : Nat, b = j := ⟨b.toNat, by omega⟩
  rw [many_nat, many_nat]
  exact h.get j (by omega)
theorem digs_valid : ∀ {rr : List Int} (k : Nat), (∀ m ∈ rr, 1 ≤ m) → Valid rr.reverse (digsR rr k)
  | [], _, _ => trivial
  | m :: r, k, h => by
    rw [List.reverse_cons]
    have hm := h m List.mem_cons_self
    refine Valid.snoc (digs_valid (k / m.toNat) fun x hx => h x (List.mem_cons_of_mem _ hx)) (by omega) ?_
    have := Nat.mod_lt k (show 0 < m.toNat by omega)
    omega
/-! promises -/
def stD (st : List Int) : Dt := .tup (st.map .int)
theorem noLs_sts : ∀ sts : List (List Int), Dt.noLs (sts.map stD) = true
  | [] => rfl
  | st :: sts => by
    show ((stD st).noL && Dt.noLs (sts.map stD)) = true
    rw [noLs_sts sts, show (stD st).noL = true from noLs_ints st]
    rfl
/-- lists of ints, each at its place -/
def Lists (H : Hp) (xs : List V) (cs : List (List Int)) : Prop := xs.length = cs.length ∧ ∀ (i : Nat) c, cs[i]? = some c → ∃ a, xs[i]? = some (.ref a) ∧ H a = some (.lst (c.map V.int))
theorem Lists.same {H H' : Hp} {xs : List V} {cs : List (List Int)} (h : Lists H xs cs) (s : Same H H') : Lists H' xs cs := ⟨h.1, fun i c hc => by
  obtain ⟨a, h1, h2⟩ := h.2 i c hc
  exact ⟨a, h1, s _ _ h2⟩⟩
def spCombined (K : PySem.W.Frag) : Sp := fun vs H Q _ => ∃ (ca : Addr) (xs : List V) (cs : List (List Int)), vs = [.ref ca] ∧ H ca = some (.lst xs) ∧ Lists H xs cs ∧ cs.length ≤ 8 ∧ (∀ c ∈ cs, c.length ≤ 4) ∧
  ∀ (a : Addr) (ys : List V) (H' : Hp), H a = none → H' a = some (.lst ys) → IsL H' ((allC cs).map stD) ys → Same H H' → Q (.ref a) H'
theorem crossI_snoc (rows : List (List Int)) (r ws : List Int) : crossI (rows ++ [r]) ws = crossI rows ws ++ ws.map fun w => r ++ [w] := by
  unfold crossI
  rw [List.flatMap_append]
  simp
theorem crossI_len (rows : List (List Int)) (ws : List Int) : (crossI rows ws).length = rows.length * ws.length := by
  unfold crossI
  rw [List.length_flatMap]
  induction rows with
  | nil => simp
  | cons r rows ih => rw [List.map_cons, List.sum_cons, ih, List.length_map, List.length_cons, Nat.succ_mul, Nat.add_comm]
theorem allC_row : ∀ (cs : List (List Int)) (row : List Int), row ∈ allC cs → row.length = cs.length := by
  intro cs
  have : ∀ (n : Nat) (cs : List (List Int)), cs.length = n → ∀ row, row ∈ allC cs → row.length = cs.length := by
    intro n
    induction n with
    | zero =>
      intro cs h row hr
      have : cs = [] := List.eq_nil_of_length_eq_zero h
      subst this
      have : row = [] := by simpa [allC] using hr
      subst this
      rfl
    | succ n ih =>
      intro cs h row hr
      have hne : cs ≠ [] := by intro z; rw [z] at h; simp at h
      rw [← List.dropLast_concat_getLast hne, allC_snoc] at hr
      unfold crossI at hr
      obtain ⟨r, hr1, hr2⟩ := List.mem_flatMap.mp hr
      obtain ⟨w, _, rfl⟩ := List.mem_map.mp hr2
      have := ih cs.dropLast (by rw [List.length_dropLast]; omega) r hr1
      rw [List.length_append, this, List.length_dropLast]
      show cs.length - 1 + 1 = cs.length
      omega
  exact this cs.length cs rfl
theorem allC_le : ∀ (n : Nat) (cs : List (List Int)), cs.length = n → (∀ c ∈ cs, c.length ≤ 4) → (allC cs).length ≤ 4 ^ n := by
  intro n
  induction n with
  | zero =>
    intro cs h _
    have : cs = [] := List.eq_nil_of_length_eq_zero h
    subst this
    exact Nat.le_refl _
  | succ n ih =>
    intro cs h h4
    have hne : cs ≠ [] := by intro z; rw [z] at h; simp at h
    rw [← List.dropLast_concat_getLast hne, allC_snoc, crossI_len, Nat.pow_succ]
    exact Nat.mul_le_mul (ih cs.dropLast (by rw [List.length_dropLast]; omega) fun c hc => h4 c ((List.dropLast_sublist cs).subset hc)) (h4 _ (List.getLast_mem hne))
theorem allC_few {cs : List (List Int)} (h8 : cs.length ≤ 8) (h4 : ∀ c ∈ cs, c.length ≤ 4) (k : Nat) : (allC (cs.take k)).length ≤ 65536 := by
  refine Nat.le_trans (allC_le _ (cs.take k) rfl fun c hc => h4 c (List.mem_of_mem_take hc)) ?_
  have : (cs.take k).length ≤ 8 := by rw [List.length_take]; omega
  exact Nat.le_trans (Nat.pow_le_pow_right (by decide) this) (by decide)
def spStandings (K : PySem.W.Frag) : Sp := fun vs H Q _ => ∃ (ra : Addr) (rm : List Int), vs = [.ref ra] ∧ RoomAt H ra rm ∧
  ∀ (a : Addr) (ys : List V) (H' : Hp), H a = none → H' a = some (.lst ys) → IsL H' ((allC (rm.map rangeI)).map stD) ys → Same H H' → Q (.ref a) H'
theorem room_all (rm : List Int) : allC (rm.map rangeI) = (List.range (sizeR rm.reverse)).map (digsR rm.reverse) := by
  have := all_digs rm.reverse
  rwa [List.reverse_reverse] at this
theorem Same.none {H H' : Hp} (s : Same H H') {a : Addr} (h : H' a = none) : H a = none := by
  cases e : H a with
  | none => rfl
  | some o => rw [s _ _ e] at h; cases h
theorem rangeI_len (m : Int) : (rangeI m).length = m.toNat := by unfold rangeI; rw [List.length_map, List.length_range]
theorem rangeI_map (m : Int) : (rangeI m).map V.int = (List.range m.toNat).map fun i : Nat => V.int i := by unfold rangeI; rw [List.map_map]; rfl
section
variable {X : Cx} {o : Expr} {to : TE} {apos cpos : Pos}
end
end L2


set_option Elab.async false
set_option linter.all false
set_option maxRecDepth 100000
/-! the library's tree of questions of a sort, answered by keys that are all unlike: what comes out rises -/
namespace L2
open PySem PySem.Spec PyProof.Rows PySem.W
/-- along the answers the tree ends with a, and every question is of places below n -/
inductive Run (ans : Nat → Nat → Bool) (n : Nat) : {α : Type} → KasT α → α → Prop
  | ret {α : Type} (a : α) : Run ans n (.ret a) a
  | ask {α : Type} {i j : Nat} {k : Bool → KasT α} {a : α} (hi : i < n) (hj : j < n) (h : Run ans n (k (ans i j)) a) : Run ans n (.ask i j k) a
theorem Run.bind {ans : Nat → Nat → Bool} {n : Nat} {α β : Type} {t : KasT α} {f : α → KasT β} {a : α} {b : β} (h : Run ans n t a) (k : Run ans n (f a) b) : Run ans n (t.bind f) b := by
  induction h with
  | ret a => exact k
  | ask hi hj _ ih => exact .ask hi hj (ih k)
/-- a walk of the tree, for a state that stays good -/
theorem Run.wp {ans : Nat → Nat → Bool} {n : Nat} {α : Type} {t : KasT α} {a : α} (h : Run ans n t a) {cmp : Nat → Nat → (Bool → Shared → Prop) → Shared → Prop} {S : Shared → Prop} {Q : α → Shared → Prop}
    (hc : ∀ i j C s, i < n → j < n → S s → (∀ s', S s' → C (ans i j) s') → cmp i j C s) (hq : ∀ s, S s → Q a s) : ∀ s, S s → KasT.kasWp cmp t Q s := by
  induction h with
  | ret a => intro s hs; rw [KasT.kasWp.eq_1]; exact hq s hs
  | ask hi hj _ ih =>
    intro s hs
    rw [KasT.kasWp.eq_2]
    exact hc _ _ _ s hi hj hs fun s' hs' => ih hq s' hs'
section
variable {n : Nat} {f : Nat → Int}
/-- the answers by keys -/
def ansK (f : Nat → Int) (i j : Nat) : Bool := decide (f i < f j)
def key (f : Nat → Int) (p : Array Nat) (k : Nat) : Int := f (p.getD k 0)
/-- p holds each place below n once, its first m keys rise -/
structure Up (n : Nat) (f : Nat → Int) (p : Array Nat) (m : Nat) : Prop where
  perm : p.Perm (List.range n).toArray
  le : m ≤ n
  up : ∀ k, k + 1 < m → key f p k < key f p (k + 1)
theorem perm_size {p : Array Nat} (h : p.Perm (List.range n).toArray) : p.size = n := by
  have := h.size_eq
  simpa using this
theorem perm_lt {p : Array Nat} (h : p.Perm (List.range n).toArray) {k : Nat} (hk : k < n) : p.getD k 0 < n := by
  have hs := perm_size h
  have hm : p.getD k 0 ∈ p := by
    rw [Array.getD_eq_getD_getElem?, Array.getElem?_eq_getElem (by omega)]
    exact Array.getElem_mem _
  have := (h.mem_iff).mp hm
  simpa using this
theorem Up.lt_of {p : Array Nat} {m : Nat} (h : Up n f p m) : ∀ {i j : Nat}, i < j → j < m → key f p i < key f p j := by
  intro i j
  induction j with
  | zero => intro h0; omega
  | succ j ih =>
    intro hij hj
    have h1 := h.up j hj
    by_cases e : i = j
    · subst e; exact h1
    · have := ih (by omega) (by omega)
      omega
theorem asc_run (p : Array Nat) (hp : p.Perm (List.range n).toArray) : ∀ (g x : Nat), 1 ≤ x → x + g ≤ n → ∃ m, Run (ansK f) n (kas_asc p g x) m ∧ x ≤ m ∧ m ≤ x + g ∧ (∀ k, x ≤ k → k < m → ¬ key f p k < key f p (k - 1)) ∧ (m < x + g → key f p m < key f p (m - 1))
  | 0, x, _, _ => ⟨x, by rw [kas_asc.eq_1]; exact .ret _, Nat.le_refl _, Nat.le_refl _, fun k h1 h2 => by omega, fun h => by omega⟩
  | g + 1, x, hx, hn => by
    rw [kas_asc.eq_2]
    by_cases hc : key f p x < key f p (x - 1)
    · refine ⟨x, .ask (perm_lt hp (by omega)) (perm_lt hp (by omega)) ?_, Nat.le_refl _, by omega, fun k h1 h2 => by omega, fun _ => hc⟩
      rw [show ansK f (p.getD x 0) (p.getD (x - 1) 0) = true from decide_eq_true hc, if_pos rfl]
      exact .ret _
    · obtain ⟨m, h1, h2, h3, h4, h5⟩ := asc_run p hp g (x + 1) (by omega) (by omega)
      refine ⟨m, .ask (perm_lt hp (by omega)) (perm_lt hp (by omega)) ?_, by omega, by omega, fun k k1 k2 => ?_, fun h => h5 (by omega)⟩
      · rw [show ansK f (p.getD x 0) (p.getD (x - 1) 0) = false from decide_eq_false hc, if_neg Bool.false_ne_true]
        exact h1
      · by_cases e : k = x
        · subst e; exact hc
        · exact h4 k (by omega) k2
/-- keys at unlike places are unlike -/
def Unlike (n : Nat) (f : Nat → Int) : Prop := ∀ i j, i < n → j < n → f i = f j → i = j
theorem key_ne (hu : Unlike n f) {p : Array Nat} (hp : p.Perm (List.range n).toArray) {i j : Nat} (hi : i < n) (hj : j < n) (hij : i ≠ j) : key f p i ≠ key f p j := by
  intro e
  have e2 := hu _ _ (perm_lt hp hi) (perm_lt hp hj) e
  have hs := perm_size hp
  have hnd : p.toList.Nodup := by
    have : p.toList.Perm (List.range n) := by
      have := hp.toList
      simpa using this
    exact this.nodup_iff.mpr List.nodup_range
  rw [Array.getD_eq_getD_getElem?, Array.getD_eq_getD_getElem?, Array.getElem?_eq_getElem (by omega), Array.getElem?_eq_getElem (by omega)] at e2
  have e3 : p.toList[i]'(by rw [Array.length_toList]; omega) = p.toList[j]'(by rw [Array.length_toList]; omega) := by simpa using e2
  exact hij ((List.getElem_inj hnd).mp e3)
theorem desc_run (hu : Unlike n f) (p : Array Nat) (hp : p.Perm (List.range n).toArray) : ∀ (g x : Nat), 1 ≤ x → x + g ≤ n → ∃ m, Run (ansK f) n (kas_desc g p x 0) (p, m, 0) ∧ x ≤ m ∧ m ≤ x + g ∧ (∀ k, x ≤ k → k < m → key f p k < key f p (k - 1))
  | 0, x, _, _ => ⟨x, by rw [kas_desc.eq_1]; exact .ret _, Nat.le_refl _, Nat.le_refl _, fun k h1 h2 => by omega⟩
  | g + 1, x, hx, hn => by
    rw [kas_desc.eq_2]
    by_cases hc : key f p x < key f p (x - 1)
    · obtain ⟨m, h1, h2, h3, h4⟩ := desc_run hu p hp g (x + 1) (by omega) (by omega)
      refine ⟨m, .ask (perm_lt hp (by omega)) (perm_lt hp (by omega)) ?_, by omega, by omega, fun k k1 k2 => ?_⟩
      · rw [show ansK f (p.getD x 0) (p.getD (x - 1) 0) = true from decide_eq_true hc, if_pos rfl, if_neg (by omega)]
        exact h1
      · by_cases e : k = x
        · subst e; exact hc
        · exact h4 k (by omega) k2
    · have hne := key_ne hu hp (i := x) (j := x - 1) (by omega) (by omega) (by omega)
      have hlt : key f p (x - 1) < key f p x := by omega
      refine ⟨x, .ask (perm_lt hp (by omega)) (perm_lt hp (by omega)) ?_, Nat.le_refl _, by omega, fun k k1 k2 => by omega⟩
      rw [show ansK f (p.getD x 0) (p.getD (x - 1) 0) = false from decide_eq_false hc, if_neg Bool.false_ne_true]
      refine .ask (perm_lt hp (by omega)) (perm_lt hp (by omega)) ?_
      rw [show ansK f (p.getD (x - 1) 0) (p.getD x 0) = true from decide_eq_true hlt, if_pos rfl]
      exact .ret _
theorem key_rev {p : Array Nat} {j : Nat} (hj : j ≤ p.size) (k : Nat) : key f (kas_rev p 0 j) k = if k < j then key f p (j - 1 - k) else key f p k := by
  unfold key kas_rev
  rw [Array.getD_eq_getD_getElem?, getElem?_mirror_all hj]
  by_cases h : k < j
  · rw [if_pos ⟨Nat.zero_le _, h⟩, if_pos h, Array.getD_eq_getD_getElem?, Nat.zero_add]
  · rw [if_neg (fun z => h z.2), if_neg h, Array.getD_eq_getD_getElem?]
theorem rev_perm {p : Array Nat} (hp : p.Perm (List.range n).toArray) (j : Nat) : (kas_rev p 0 j).Perm (List.range n).toArray := (mirror_perm p 0 j _).trans hp
theorem count_run (hu : Unlike n f) (hn : 2 ≤ n) (p : Array Nat) (hp : p.Perm (List.range n).toArray) : ∃ (m : Nat) (q : Array Nat), Run (ansK f) n (kas_count n p) (m, q) ∧ 1 ≤ m ∧ Up n f q m := by
  have hs := perm_size hp
  obtain ⟨m, h1, h2, h3, h4, h5⟩ := asc_run (f := f) p hp (n - 1) 1 (Nat.le_refl _) (by omega)
  have up1 : Up n f p m := ⟨hp, by omega, fun k hk => by
    have h6 := h4 (k + 1) (by omega) hk
    rw [Nat.add_sub_cancel] at h6
    have := key_ne hu hp (i := k) (j := k + 1) (by omega) (by omega) (by omega)
    omega⟩
  unfold kas_count
  by_cases hmn : m = n
  · refine ⟨m, p, h1.bind ?_, h2, up1⟩
    rw [if_pos (by rw [hmn]; exact beq_self_eq_true n)]
    exact .ret _
  · by_cases hm1 : m > 1
    · refine ⟨m, p, h1.bind ?_, h2, up1⟩
      rw [if_neg (by intro z; exact hmn (eq_of_beq z)), if_pos hm1]
      refine .ask (perm_lt hp (by omega)) (perm_lt hp (by omega)) ?_
      have hlt : key f p 0 < key f p (m - 1) := up1.lt_of (by omega) (by omega)
      rw [show ansK f (p.getD 0 0) (p.getD (m - 1) 0) = true from decide_eq_true hlt, if_pos rfl]
      exact .ret _
    · have em : m = 1 := by omega
      subst em
      have h10 := h5 (by omega)
      obtain ⟨d, g1, g2, g3, g4⟩ := desc_run hu p hp (n - 2) 2 (by omega) (by omega)
      have hrp := rev_perm hp d
      obtain ⟨m2, a1, a2, a3, a4, _⟩ := asc_run (f := f) (kas_rev p 0 d) hrp (n - d) d (by omega) (by omega)
      refine ⟨m2, kas_rev p 0 d, h1.bind ?_, by omega, ⟨hrp, by omega, fun k hk => ?_⟩⟩
      · rw [if_neg (by intro z; exact hmn (eq_of_beq z)), if_neg hm1]
        unfold kas_descPart
        refine Run.bind (a := (p, d, 0)) g1 ?_
        rw [if_neg (by show ¬ (0 > 0); omega)]
        unfold kas_tail3
        exact Run.bind a1 (.ret _)
      · by_cases hkd : k + 1 < d
        · rw [key_rev (by omega), key_rev (by omega), if_pos (by omega), if_pos hkd]
          have e : d - 1 - k = (d - 1 - (k + 1)) + 1 := by omega
          rw [e]
          by_cases e0 : d - 1 - (k + 1) = 0
          · rw [e0]; exact h10
          · have := g4 (d - 1 - (k + 1) + 1) (by omega) (by omega)
            rw [Nat.add_sub_cancel] at this
            exact this
        · have h6 := a4 (k + 1) (by omega) hk
          rw [Nat.add_sub_cancel] at h6
          have := key_ne hu hrp (i := k) (j := k + 1) (by omega) (by omega) (by omega)
          omega
theorem place_run (p : Array Nat) (hp : p.Perm (List.range n).toArray) (k : Nat) (hk : k < n) : ∀ (g l r : Nat), r ≤ k → l ≤ r → r - l ≤ g → (∀ i, i < l → ¬ key f p k < key f p i) → (∀ i, r ≤ i → i < k → key f p k < key f p i) →
    (∀ i j, i < j → j < k → key f p i < key f p j) →
    ∃ m, Run (ansK f) n (kas_place p k g l r) m ∧ m ≤ k ∧ (∀ i, i < m → ¬ key f p k < key f p i) ∧ (∀ i, m ≤ i → i < k → key f p k < key f p i)
  | 0, l, r, h1, h2, h3, h4, h5, _ => ⟨l, by rw [kas_place.eq_1]; exact .ret _, by omega, h4, fun i hi => h5 i (by omega)⟩
  | g + 1, l, r, h1, h2, h3, h4, h5, hup => by
    rw [kas_place.eq_2]
    by_cases hlr : l ≥ r
    · refine ⟨l, ?_, by omega, h4, fun i hi => h5 i (by omega)⟩
      rw [if_pos hlr]
      exact .ret _
    · rw [if_neg hlr]
      by_cases hc : key f p k < key f p ((l + r) / 2)
      · obtain ⟨m, g1, g2, g3, g4⟩ := place_run p hp k hk g l ((l + r) / 2) (by omega) (by omega) (by omega) h4 (fun i hi hik => by
          by_cases e : i = (l + r) / 2
          · rw [e]; exact hc
          · have := hup ((l + r) / 2) i (by omega) hik
            omega) hup
        refine ⟨m, .ask (perm_lt hp hk) (perm_lt hp (by omega)) ?_, g2, g3, g4⟩
        rw [show ansK f (p.getD k 0) (p.getD ((l + r) / 2) 0) = true from decide_eq_true hc, if_pos rfl]
        exact g1
      · obtain ⟨m, g1, g2, g3, g4⟩ := place_run p hp k hk g ((l + r) / 2 + 1) r h1 (by omega) (by omega) (fun i hi => by
          by_cases e : i = (l + r) / 2
          · rw [e]; exact hc
          · have := hup i ((l + r) / 2) (by omega) (by omega)
            omega) h5 hup
        refine ⟨m, .ask (perm_lt hp hk) (perm_lt hp (by omega)) ?_, g2, g3, g4⟩
        rw [show ansK f (p.getD k 0) (p.getD ((l + r) / 2) 0) = false from decide_eq_false hc, if_neg Bool.false_ne_true]
        exact g1
theorem key_bubble {p : Array Nat} {src d : Nat} (h1 : src < p.size) (h2 : d ≤ src) (k : Nat) : key f (bubble p src d) k = if k = src - d then key f p src else if src - d < k ∧ k ≤ src then key f p (k - 1) else key f p k := by
  unfold key
  simp only [Array.getD_eq_getD_getElem?]
  rw [getElem?_bubble h1 d h2]
  by_cases a : k = src - d
  · rw [if_pos a, if_pos a]
  · rw [if_neg a, if_neg a]
    by_cases b : src - d < k ∧ k ≤ src
    · rw [if_pos b, if_pos b]
    · rw [if_neg b, if_neg b]
theorem bin_run (hu : Unlike n f) : ∀ (g k : Nat) (p : Array Nat), k + g = n → Up n f p k → ∃ q, Run (ansK f) n (kas_bin g p k) q ∧ Up n f q n
  | 0, k, p, hk, h => by
    have e : k = n := by omega
    rw [e] at h
    exact ⟨p, by rw [kas_bin.eq_1]; exact .ret _, h⟩
  | g + 1, k, p, hk, h => by
    have hs := perm_size h.perm
    obtain ⟨l, r1, r2, r3, r4⟩ := place_run (f := f) p h.perm k (by omega) k 0 k (Nat.le_refl _) (Nat.zero_le _) (by omega) (fun i hi => by omega) (fun i h1 h2 => by omega) (fun i j hij hj => h.lt_of hij hj)
    have hup : Up n f (bubble p k (k - l)) (k + 1) := by
      refine ⟨(bubble_perm p k (k - l)).trans h.perm, by omega, fun i hi => ?_⟩
      rw [key_bubble (by omega) (by omega), key_bubble (by omega) (by omega)]
      have ekl : k - (k - l) = l := by omega
      rw [ekl]
      by_cases e1 : i = l
      · rw [if_pos e1, if_neg (by omega), if_pos (by omega), Nat.add_sub_cancel]
        exact r4 i (by omega) (by omega)
      · rw [if_neg e1]
        by_cases e2 : l < i
        · rw [if_pos (by omega), if_neg (by omega), if_pos (by omega), Nat.add_sub_cancel]
          exact h.lt_of (by omega) (by omega)
        · rw [if_neg (by omega)]
          by_cases e3 : i + 1 = l
          · rw [if_pos e3]
            have h1 := r3 i (by omega)
            have h2 := key_ne hu h.perm (i := i) (j := k) (by omega) (by omega) (by omega)
            omega
          · rw [if_neg e3, if_neg (by omega)]
            exact h.lt_of (by omega) (by omega)
    obtain ⟨q, q1, q2⟩ := bin_run hu g (k + 1) (bubble p k (k - l)) (by omega) hup
    refine ⟨q, ?_, q2⟩
    rw [kas_bin.eq_2]
    exact Run.bind r1 q1
theorem sort_run (hu : Unlike n f) (hn : 2 ≤ n) : ∃ q, Run (ansK f) n (kas_sort n) q ∧ Up n f q n := by
  obtain ⟨m, p, h1, h2, h3⟩ := count_run hu hn (List.range n).toArray (Array.Perm.refl _)
  unfold kas_sort
  by_cases hm : m < n
  · obtain ⟨q, q1, q2⟩ := bin_run hu (n - m) m p (by omega) h3
    refine ⟨q, Run.bind h1 ?_, q2⟩
    rw [if_pos hm]
    show Run _ _ (kas_bin (n - max m 1) p (max m 1)) q
    rw [show max m 1 = m by omega]
    exact q1
  · have e : m = n := by have := h3.le; omega
    refine ⟨p, Run.bind h1 ?_, by rw [← e] at h3 ⊢; exact h3⟩
    rw [if_neg hm]
    exact .ret _
end
end L2


set_option Elab.async false
set_option linter.all false
set_option maxRecDepth 100000
set_option maxHeartbeats 1000000
namespace L2
open PySem PySem.Spec PyProof.Rows
/-! ### tuples of ints compared while a list is sorted -/
theorem kat_ints {prog : Program} {w : World} {A : Around} {s : Shared} {b : Bool} {Q : Bool → Shared → Prop} : ∀ {ns ms : List Int} {xs ys : List Value} (i : Nat), Vals (ns.map V.int) xs → Vals (ms.map V.int) ys → ns.length = ms.length → Q (HT.lexLt ns ms) s → W.KatLex prog w A b false Q (xs.zip ys) i s
  | [], [], _, _, i, hx, hy, _, q => by cases hx; cases hy; exact W.kat_nil q
  | [], _ :: _, _, _, _, _, _, h, _ => by simp at h
  | _ :: _, [], _, _, _, _, _, h, _ => by simp at h
  | a :: ns, c :: ms, _, _, i, hx, hy, hl, q => by
    cases hx with
    | cons r1 rr1 =>
      cases hy with
      | cons r2 rr2 =>
        obtain ⟨t, rfl⟩ := r1
        obtain ⟨u, rfl⟩ := r2
        rw [List.zip_cons_cons]
        have q' : Q (if a = c then HT.lexLt ns ms else decide (a < c)) s := q
        refine W.kat_cons (wpAny_eqBool_int ?_)
        by_cases e : a = c
        · rw [show (a == c) = true from by rw [e]; exact beq_self_eq_true c]
          rw [if_pos e] at q'
          exact W.kat_yes (kat_ints (i + 1) rr1 rr2 (by simpa using hl) q')
        · rw [show (a == c) = false from beq_false_of_ne e]
          rw [if_neg e] at q'
          refine W.kat_no ?_
          cases (b && i == 0) with
          | true => exact oneLt_int q'
          | false => exact W.kat_one _ _ (P.lt_int q')
theorem lex_irrefl : ∀ s : List Int, HT.lexLt s s = false
  | [] => rfl
  | a :: s => by
    show (if a = a then HT.lexLt s s else _) = false
    rw [if_pos rfl]
    exact lex_irrefl s
theorem lex_trans : ∀ {a b c : List Int}, a.length = b.length → b.length = c.length → HT.lexLt a b = true → HT.lexLt b c = true → HT.lexLt a c = true
  | [], [], [], _, _, h, _ => h
  | x :: a, y :: b, z :: c, h1, h2, h3, h4 => by
    have h3' : (if x = y then HT.lexLt a b else decide (x < y)) = true := h3
    have h4' : (if y = z then HT.lexLt b c else decide (y < z)) = true := h4
    show (if x = z then HT.lexLt a c else decide (x < z)) = true
    by_cases e1 : x = y
    · by_cases e2 : y = z
      · rw [if_pos e1] at h3'
        rw [if_pos e2] at h4'
        rw [if_pos (e1.trans e2)]
        exact lex_trans (by simpa using h1) (by simpa using h2) h3' h4'
      · rw [if_neg e2] at h4'
        rw [if_neg (by omega)]
        have := of_decide_eq_true h4'
        exact decide_eq_true (by omega)
    · rw [if_neg e1] at h3'
      have l1 := of_decide_eq_true h3'
      by_cases e2 : y = z
      · rw [if_neg (by omega)]
        exact decide_eq_true (by omega)
      · rw [if_neg e2] at h4'
        have l2 := of_decide_eq_true h4'
        rw [if_neg (by omega)]
        exact decide_eq_true (by omega)
  | [], _ :: _, _, h, _, _, _ => by simp at h
  | _ :: _, [], _, h, _, _, _ => by simp at h
  | [], [], _ :: _, _, h, _, _ => by simp at h
  | _ :: _, _ :: _, [], _, h, _, _ => by simp at h
theorem lex_total : ∀ {a b : List Int}, a.length = b.length → a = b ∨ HT.lexLt a b = true ∨ HT.lexLt b a = true
  | [], [], _ => .inl rfl
  | [], _ :: _, h => by simp at h
  | _ :: _, [], h => by simp at h
  | x :: a, y :: b, h => by
    show _ ∨ (if x = y then HT.lexLt a b else decide (x < y)) = true ∨ (if y = x then HT.lexLt b a else decide (y < x)) = true
    by_cases e : x = y
    · subst e
      rw [if_pos rfl, if_pos rfl]
      rcases lex_total (a := a) (b := b) (by simpa using h) with h1 | h1 | h1
      · exact .inl (by rw [h1])
      · exact .inr (.inl h1)
      · exact .inr (.inr h1)
    · rw [if_neg e, if_neg (Ne.symm e)]
      rcases Int.lt_or_gt_of_ne e with h1 | h1
      · exact .inr (.inl (decide_eq_true h1))
      · exact .inr (.inr (decide_eq_true h1))
theorem count_lt {α : Type} {p q : α → Bool} : ∀ {l : List α}, (∀ x ∈ l, p x = true → q x = true) → (∃ x ∈ l, p x = false ∧ q x = true) → l.countP p < l.countP q
  | [], _, h => by obtain ⟨x, hx, _⟩ := h; simp at hx
  | y :: l, h, k => by
    have hle : l.countP p ≤ l.countP q := List.countP_mono_left fun x hx hp => h x (List.mem_cons_of_mem _ hx) hp
    rw [List.countP_cons, List.countP_cons]
    obtain ⟨x, hx, hp, hq⟩ := k
    rcases List.mem_cons.mp hx with rfl | hx
    · rw [hp, hq]
      simp
      omega
    · have ih := count_lt (l := l) (fun z hz => h z (List.mem_cons_of_mem _ hz)) ⟨x, hx, hp, hq⟩
      have hy := h y List.mem_cons_self
      cases e : p y with
      | false =>
        simp
        cases q y <;> simp <;> omega
      | true =>
        rw [hy e]
        simp
        omega
/-- a key of each of some rows: how many are ahead of it -/
def lexKey (sts : List (List Int)) (i : Nat) : Int := (sts.countP fun c => HT.lexLt c (sts.getD i [])  : Nat)
theorem lexKey_lt {sts : List (List Int)} {m : Nat} (hm : ∀ st ∈ sts, st.length = m) {i j : Nat} (hi : i < sts.length) (hj : j < sts.length) : decide (lexKey sts i < lexKey sts j) = HT.lexLt (sts.getD i []) (sts.getD j []) := by
  have gi : sts.getD i [] ∈ sts := by rw [List.getD_eq_getElem?_getD, List.getElem?_eq_getElem hi]; exact List.getElem_mem hi
  have gj : sts.getD j [] ∈ sts := by rw [List.getD_eq_getElem?_getD, List.getElem?_eq_getElem hj]; exact List.getElem_mem hj
  have mono : ∀ {a b : List Int}, a ∈ sts → b ∈ sts → HT.lexLt a b = true → (sts.countP fun c => HT.lexLt c a) < (sts.countP fun c => HT.lexLt c b) := fun {a b} ha hb hab =>
    count_lt (fun x hx hp => lex_trans ((hm x hx).trans (hm a ha).symm) ((hm a ha).trans (hm b hb).symm) hp hab) ⟨a, ha, lex_irrefl a, hab⟩
  unfold lexKey
  generalize sts.getD i [] = a at gi
  generalize sts.getD j [] = b at gj
  rcases lex_total (a := a) (b := b) ((hm a gi).trans (hm b gj).symm) with h | h | h
  · subst h
    rw [lex_irrefl]
    exact decide_eq_false (Int.lt_irrefl _)
  · rw [h]
    have := mono gi gj h
    exact decide_eq_true (by omega)
  · have h1 := mono gj gi h
    have h2 : HT.lexLt a b = false := by
      rw [Bool.eq_false_iff]
      intro z
      have := mono gi gj z
      omega
    rw [h2]
    exact decide_eq_false (by omega)
/-! ### the frame: all that lies beside the locals stays -/
def restOf (h : Heap) (L : Addr) : List (Addr × Obj) := (List.range h.objs.size).filterMap fun b => if b = L then none else (h.get? b).map fun o => (b, o)
theorem mem_restOf {h : Heap} {L b : Addr} {o : Obj} : (b, o) ∈ restOf h L ↔ b ≠ L ∧ h.get? b = some o := by
  unfold restOf
  rw [List.mem_filterMap]
  constructor
  · rintro ⟨c, hc, e⟩
    by_cases hL : c = L
    · rw [if_pos hL] at e; cases e
    · rw [if_neg hL] at e
      obtain ⟨o', ho, e2⟩ := Option.map_eq_some_iff.mp e
      cases e2
      exact ⟨hL, ho⟩
  · rintro ⟨hL, ho⟩
    exact ⟨b, List.mem_range.mpr (Heap.lt_size ho), by rw [if_neg hL, ho]; rfl⟩
theorem ns_one {h : Heap} {L : Addr} {m m' : Str → Option Value} (a : h.Ns L m) (b : h.Ns L m') : m = m' := by
  obtain ⟨o, es, ep, ho, hd, hk, hf⟩ := a
  obtain ⟨o', es', ep', ho', hd', hk', hf'⟩ := b
  rw [ho] at ho'
  cases ho'
  rw [hd] at hd'
  cases hd'
  funext x
  rw [← hf, ← hf']
section
variable {X : Cx}
theorem objOk_get {P : Program} {w : World} {H : Hp} {h : Heap} {a : Addr} {o : HO} (x : ObjOk P w H h a o) : ∃ u, h.get? a = some u := by
  cases o with
  | lst xs => obtain ⟨_, _, _, _, e⟩ := x; exact ⟨_, e⟩
  | tup xs => obtain ⟨_, _, _, p⟩ := x; obtain ⟨o, e, _⟩ := p; exact ⟨o, e⟩
  | dK kvs => obtain ⟨_, _, _, _, o, _, _, e, _⟩ := x; exact ⟨_, e⟩
  | dT kvs => obtain ⟨_, _, _, _, o, _, _, e, _⟩ := x; exact ⟨_, e⟩
  | set S n => obtain ⟨o, _, _, _, e, _⟩ := x; exact ⟨_, e⟩
  | ins C dx fs => obtain ⟨_, _, _, e, _⟩ := x; exact ⟨_, e⟩
  | own y => exact x
  | xd fs => obtain ⟨_, ⟨_, _, _, e, _⟩, _⟩ := x; exact ⟨_, e⟩
  | met f y => exact ⟨_, x⟩
  | rng lo hi => obtain ⟨_, _, _, e⟩ := x; exact ⟨_, e⟩
  | frz o u => obtain ⟨e, _⟩ := x; exact ⟨_, e⟩
  | tbl ps => exact ⟨_, x⟩
  | ext φ => obtain ⟨_, e, _⟩ := x; exact e
theorem inv_put {pins : List (Addr × Obj)} {σ : St} {H : Hp} {s : Shared} (I : Inv X pins σ H s) {m : Str → Option Value} (hm : s.heap.Ns X.env.locals m) {h' : Heap} {D : Addr} {ys : List V} {its : List Value} {c : Nat}
    (kp : ∀ b o, b ≠ X.env.locals → s.heap.get? b = some o → h'.get? b = some o) (ns' : h'.Ns X.env.locals m) (hDn : s.heap.get? D = none) (hD : H D = none)
    (ho : h'.get? D = some { cls := .type "list", data := .seq its.toArray c }) (hv : Vals ys its) (hz : ys.length ≤ sizeLine) (tk : Nat) : Inv X pins σ (upd H D (.lst ys)) { s with heap := h', toks := tk } := by
  have nD : ∀ b o, s.heap.get? b = some o → b ≠ D := fun b o e z => by rw [z, hDn] at e; cases e
  have nL : ∀ b u, H b = some u → b ≠ X.env.locals := fun b u e => ne_of_none e I.free
  refine Inv.step (ch := []) (g' := s.gens) (d' := s.drawn) (t' := tk) I (fun b hb => by simp at hb) (fun b o h1 _ _ h4 _ => kp b o h1 h4) (fun b o h1 _ _ h4 _ => ⟨o.slots, kp b o h1 h4⟩) (fun b o _ h4 h5 => by rw [upd_ne (nD b o h4)]; exact h5) (fun b o _ h4 => ?_) (fun b ys q => by rw [upd_ne (ne_of_none q hD)]; exact q) (fun b o u q => by rw [upd_ne (ne_of_none q hD)]; exact q) (fun b ps q => ⟨#[], by rw [upd_ne (ne_of_none q hD), Array.append_empty]; exact q⟩) (fun m' hm' => by rw [← ns_one hm hm']; exact ns') (fun b u hb => ?_) I.bare
  · by_cases hL : b = X.env.locals
    · obtain ⟨o', _, _, h1, _⟩ := ns'
      exact ⟨o', by rw [hL]; exact h1⟩
    · exact ⟨o, kp b o hL h4⟩
  · by_cases hbD : b = D
    · subst hbD
      rw [upd_same] at hb
      cases hb
      exact ⟨hz, its, c, hv, ho⟩
    · rw [upd_ne hbD] at hb
      refine (I.hok b u hb).stay (fun c v hcv q => kp c v ?_ q) (fun c q => by rw [upd_ne (ne_of_none q hD)]; exact q) (fun c ys q => by rw [upd_ne (ne_of_none q hD)]; exact q)
      rcases hcv with rfl | hcv
      · exact nL _ _ hb
      · exact nL _ _ hcv
theorem range_pick {α : Type} (d : α) (l : List α) : (List.range l.length).map (fun i => l.getD i d) = l := by
  refine List.ext_getElem (by simp) fun i h1 h2 => ?_
  simp [h2]
end
end L2


set_option Elab.async false
set_option linter.all false
set_option maxRecDepth 100000
set_option maxHeartbeats 1000000
namespace L2
open PySem PySem.Spec PySem.Calls PyProof.Rows PySem.W
/-! ### a list of none or one, sorted -/
theorem short_list_sort {prog : Program} {w : World} {A : Around} {E : Value → Shared → Prop} {s : Shared} {a : Addr} {vs : List Value} {n : Nat} {P : PySem.Fin → Shared → Prop} (ho : s.heap.get? a = some (seqObj "list" vs.toArray n)) (h2 : vs.length < 2)
    (h : ∀ h' c, (∀ b o, b ≠ a → s.heap.get? b = some o → h'.get? b = some o) → h'.get? a = some (seqObj "list" vs.toArray c) → P (.done (.ret .none)) { s with heap := h' }) :
    wpAny (model prog w) A (Builtin.«list.sort» ⟨[.ref a], []⟩) P E s := by
  obtain ⟨e1, ho1⟩ : ∃ e1, (s.heap.update a (Obj.mapSeq fun _ => (#[] : Array Value))).get? a = some (seqObj "list" #[] e1) := ⟨_, get?_update_seq ho fun _ => #[]⟩
  rw [list_sort_plain]
  refine wpAny_bind (listItems_at ho rfl ?_)
  refine wpAny_bind (listUpdate_at ho rfl ?_ (by rw [List.size_toArray, sizeLine_eq]; omega) (Nat.zero_le _))
  refine wpAny_bind (seqEpoch_at ho1 rfl ?_)
  refine wpAny_bind (wpAny_newTuple ?_ (by show vs.length ≤ _; rw [sizeLine_eq]; omega))
  refine wpAny_bind (wpAny_newList ?_ (Nat.zero_le _))
  refine wpAny_holding ?_
  show wpAny (model prog w) A _ P E { s with heap := ((s.heap.update a (Obj.mapSeq fun _ => (#[] : Array Value))).push (seqObj "tuple" vs.toArray 0)).push (seqObj "list" #[] 0) }
  dsimp only
  have hn2 : vs.toArray.size < 2 := by rw [List.size_toArray]; omega
  rw [if_pos hn2, if_pos hn2]
  refine wpAny_bind (wpAny_pure ?_)
  refine wpAny_bind (m := (pure () : StateT SortSt _ _).run _) (wpAny_pure ?_)
  have hsnd : (arrOf (SortSt.mk' general' (vs.toArray.zip vs.toArray) #[] 7 none)).map (fun x => x.snd) = vs.toArray := by
    show (vs.toArray.zip vs.toArray).map (fun x => x.snd) = vs.toArray
    apply Array.toList_inj.mp
    rw [Array.toList_map, Array.toList_zip]
    exact List.map_snd_zip (Nat.le_refl _)
  have ha : a < s.heap.objs.size := Heap.lt_size ho
  have g3 : (((s.heap.update a (Obj.mapSeq fun _ => (#[] : Array Value))).push (seqObj "tuple" vs.toArray 0)).push (seqObj "list" #[] 0)).get? a = some (seqObj "list" #[] e1) := Heap.get?_push_of_some _ (Heap.get?_push_of_some _ ho1)
  refine wpAny_bind (seqEpoch_at g3 rfl ?_)
  refine wpAny_bind (listUpdate_at g3 rfl ?_ (Nat.zero_le _) ?_)
  · show wpAny _ _ _ _ _ _
    dsimp only
    rw [hsnd]
    simp only [bne_self_eq_false, Bool.false_eq_true, if_false]
    refine wpAny_pure (h _ _ (fun b o hb e => ?_) (get?_update_seq g3 fun _ => vs.toArray))
    rw [Heap.get?_update_ne _ _ _ _ hb]
    refine Heap.get?_push_of_some _ (Heap.get?_push_of_some _ ?_)
    rw [Heap.get?_update_ne _ _ _ _ hb]
    exact e
  · dsimp only
    rw [hsnd, List.size_toArray, sizeLine_eq]
    omega
section
variable {X : Cx}
end
end L2


set_option Elab.async false
set_option linter.all false
set_option maxRecDepth 100000
set_option maxHeartbeats 1000000
/-! the table of a set: where a search goes, that it ends, and what it meets -/
namespace L2
open PySem
/-- strictly rising -/
def Ris (xs : Array Nat) : Prop := ∀ i j : Nat, i < j → j < xs.size → xs.getD i 0 < xs.getD j 0
theorem below_go {xs : Array Nat} (hr : Ris xs) {j : Nat} : ∀ (fuel lo hi : Nat), lo ≤ hi → hi ≤ xs.size → hi - lo ≤ fuel → (∀ i, i < lo → xs.getD i 0 < j) → (∀ i, hi ≤ i → i < xs.size → j ≤ xs.getD i 0) →
    ∃ p, SetTable.below.go xs j fuel lo hi = p ∧ p ≤ xs.size ∧ (∀ i, i < p → xs.getD i 0 < j) ∧ (∀ i, p ≤ i → i < xs.size → j ≤ xs.getD i 0)
  | 0, lo, hi, h1, h2, h3, h4, h5 => by
    have : lo = hi := by omega
    subst this
    exact ⟨lo, rfl, h2, h4, h5⟩
  | fuel + 1, lo, hi, h1, h2, h3, h4, h5 => by
    show ∃ p, (if lo < hi then if xs.getD ((lo + hi) / 2) j < j then SetTable.below.go xs j fuel ((lo + hi) / 2 + 1) hi else SetTable.below.go xs j fuel lo ((lo + hi) / 2) else lo) = p ∧ _
    by_cases hl : lo < hi
    · rw [if_pos hl]
      have hm : (lo + hi) / 2 < xs.size := by omega
      have e : xs.getD ((lo + hi) / 2) j = xs.getD ((lo + hi) / 2) 0 := by simp [hm]
      rw [e]
      by_cases hc : xs.getD ((lo + hi) / 2) 0 < j
      · rw [if_pos hc]
        refine below_go hr fuel _ hi (by omega) h2 (by omega) (fun i hi' => ?_) h5
        by_cases q : i = (lo + hi) / 2
        · rw [q]; exact hc
        · have := hr i ((lo + hi) / 2) (by omega) hm
          omega
      · rw [if_neg hc]
        refine below_go hr fuel lo _ (by omega) (by omega) (by omega) h4 (fun i hi' hs => ?_)
        by_cases q : i = (lo + hi) / 2
        · rw [q]; omega
        · have := hr ((lo + hi) / 2) i (by omega) hs
          omega
    · rw [if_neg hl]
      have : lo = hi := by omega
      subst this
      exact ⟨lo, rfl, h2, h4, h5⟩
theorem below_spec {xs : Array Nat} (hr : Ris xs) (j : Nat) : SetTable.below xs j ≤ xs.size ∧ (∀ i, i < SetTable.below xs j → xs.getD i 0 < j) ∧ (∀ i, SetTable.below xs j ≤ i → i < xs.size → j ≤ xs.getD i 0) := by
  obtain ⟨p, e, h⟩ := below_go hr (j := j) xs.size 0 xs.size (Nat.zero_le _) (Nat.le_refl _) (Nat.le_refl _) (fun i h => absurd h (Nat.not_lt_zero _)) (fun i h1 h2 => by omega)
  have e' : SetTable.below xs j = p := e
  rw [e']
  exact h
theorem getD_of {xs : Array Nat} {i j : Nat} (h : xs[i]? = some j) : i < xs.size ∧ xs.getD i 0 = j := by
  obtain ⟨h1, h2⟩ := Array.getElem?_eq_some_iff.mp h
  exact ⟨h1, by simp [h1, h2]⟩
theorem getq_of {xs : Array Nat} {i : Nat} (h : i < xs.size) : xs[i]? = some (xs.getD i 0) := by simp [h]
theorem below_at {xs : Array Nat} (hr : Ris xs) {i j : Nat} (h : xs[i]? = some j) : SetTable.below xs j = i := by
  obtain ⟨h1, h2⟩ := getD_of h
  obtain ⟨b1, b2, b3⟩ := below_spec hr j
  rcases Nat.lt_trichotomy (SetTable.below xs j) i with q | q | q
  · have := b3 _ (Nat.le_refl _) (by omega)
    have := hr _ i q h1
    omega
  · exact q
  · have := b2 i q
    omega
/-- a slot of a table without gone ones -/
theorem slot_live {t : SetTable} (hr : Ris t.place) {i j : Nat} (h : t.place[i]? = some j) : t.slot j = .live i := by
  unfold SetTable.slot
  rw [below_at hr h]
  simp [h]
theorem slot_none {t : SetTable} (hd : t.dummies = #[]) {j : Nat} (h : ∀ i : Nat, t.place[i]? ≠ some j) : t.slot j = .empty := by
  unfold SetTable.slot
  have e : (t.place[SetTable.below t.place j]? == some j) = false := by
    rw [Bool.eq_false_iff]
    intro z
    exact h _ (eq_of_beq z)
  have e2 : SetTable.has t.dummies j = false := by rw [hd]; rfl
  simp only [e, e2, Bool.false_eq_true, if_false]
theorem slot_or {t : SetTable} (hr : Ris t.place) (hd : t.dummies = #[]) (j : Nat) : (t.slot j = .empty ∧ ∀ i : Nat, t.place[i]? ≠ some j) ∨ ∃ i, t.slot j = .live i ∧ t.place[i]? = some j := by
  by_cases h : ∃ i : Nat, t.place[i]? = some j
  · obtain ⟨i, hi⟩ := h
    exact .inr ⟨i, slot_live hr hi, hi⟩
  · have h' : ∀ i : Nat, t.place[i]? ≠ some j := fun i e => h ⟨i, e⟩
    exact .inl ⟨slot_none hd h', h'⟩
/-! ### the row of slots of a hash -/
/-- a table of which only the size is told -/
def tm (mask : Nat) : SetTable := ⟨mask, #[], #[], 0, true, 0, true⟩
def stp (mask : Nat) (h : Int) : Nat → SetTable.Probe
  | 0 => (tm mask).probeStart h
  | n + 1 => (tm mask).advance (stp mask h n)
def wk (mask : Nat) (h : Int) (n : Nat) : Nat := (stp mask h n).j
theorem adv_dummy (mask : Nat) (p : SetTable.Probe) : ((tm mask).advance p).dummy = p.dummy := by
  unfold SetTable.advance
  split <;> rfl
theorem stp_dummy (mask : Nat) (h : Int) : ∀ n, (stp mask h n).dummy = none
  | 0 => rfl
  | n + 1 => by show ((tm mask).advance _).dummy = none; rw [adv_dummy, stp_dummy mask h n]
theorem adv_more (mask : Nat) (p : SetTable.Probe) (h : 0 < p.more) : (tm mask).advance p = { p with j := p.j + 1, more := p.more - 1 } := by
  unfold SetTable.advance
  rw [if_pos h]
theorem adv_leap (mask : Nat) (p : SetTable.Probe) (h : p.more = 0) : (tm mask).advance p = { p with j := (p.i * 5 + 1 + p.perturb / 32) % (mask + 1), more := SetTable.runEnd mask ((p.i * 5 + 1 + p.perturb / 32) % (mask + 1)) - (p.i * 5 + 1 + p.perturb / 32) % (mask + 1), i := (p.i * 5 + 1 + p.perturb / 32) % (mask + 1), perturb := p.perturb / 32 } := by
  unfold SetTable.advance
  rw [if_neg (by omega)]
  rfl
/-- the leaps -/
def lp (mask : Nat) (h : Int) : Nat → Nat × Nat
  | 0 => (SetTable.bits h % (mask + 1), SetTable.bits h)
  | n + 1 => SetTable.leap mask (lp mask h n).1 (lp mask h n).2
theorem run_le (mask i : Nat) : SetTable.runEnd mask i - i ≤ 9 := by unfold SetTable.runEnd; split <;> omega
theorem stp_run (mask : Nat) (h : Int) {T i q : Nat} (e : stp mask h T = ⟨i, SetTable.runEnd mask i - i, i, q, none⟩) : ∀ k, k ≤ SetTable.runEnd mask i - i → stp mask h (T + k) = ⟨i + k, SetTable.runEnd mask i - i - k, i, q, none⟩
  | 0, _ => e
  | k + 1, hk => by
    show (tm mask).advance (stp mask h (T + k)) = _
    rw [stp_run mask h e k (by omega), adv_more mask _ (by show 0 < SetTable.runEnd mask i - i - k; omega)]
    show (⟨i + k + 1, SetTable.runEnd mask i - i - k - 1, i, q, none⟩ : SetTable.Probe) = ⟨i + (k + 1), SetTable.runEnd mask i - i - (k + 1), i, q, none⟩
    rw [Nat.add_assoc, Nat.sub_sub]
theorem leap_at (mask : Nat) (h : Int) : ∀ k, ∃ T, T ≤ 10 * k ∧ stp mask h T = ⟨(lp mask h k).1, SetTable.runEnd mask (lp mask h k).1 - (lp mask h k).1, (lp mask h k).1, (lp mask h k).2, none⟩
  | 0 => ⟨0, Nat.le_refl _, rfl⟩
  | k + 1 => by
    obtain ⟨T, hT, e⟩ := leap_at mask h k
    have hr := run_le mask (lp mask h k).1
    refine ⟨T + (SetTable.runEnd mask (lp mask h k).1 - (lp mask h k).1) + 1, by omega, ?_⟩
    show (tm mask).advance (stp mask h (T + _)) = _
    rw [stp_run mask h e _ (Nat.le_refl _), adv_leap mask _ (Nat.sub_self _)]
    rfl
theorem lp_perturb (mask : Nat) (h : Int) : ∀ k, (lp mask h k).2 = SetTable.bits h / 32 ^ k
  | 0 => by show SetTable.bits h = _; simp
  | k + 1 => by
    show (lp mask h k).2 / 32 = _
    rw [lp_perturb mask h k, Nat.div_div_eq_div_mul, Nat.pow_succ]
theorem bits_lt (h : Int) : SetTable.bits h < 2 ^ 64 := by
  unfold SetTable.bits
  have h0 := Int.emod_nonneg h (show (2 ^ 64 : Int) ≠ 0 by decide)
  have h1 := Int.emod_lt_of_pos h (show (0 : Int) < 2 ^ 64 by decide)
  omega
/-- behind thirteen leaps nothing of the hash is left -/
def lcg (m i : Nat) : Nat := (i * 5 + 1) % m
def orb (m : Nat) : Nat → Nat → Nat
  | 0, i => i
  | k + 1, i => lcg m (orb m k i)
theorem lp_orb (mask : Nat) (h : Int) : ∀ k, (lp mask h (13 + k)).1 = orb (mask + 1) k (lp mask h 13).1
  | 0 => rfl
  | k + 1 => by
    show ((lp mask h (13 + k)).1 * 5 + 1 + (lp mask h (13 + k)).2 / 32) % (mask + 1) = lcg (mask + 1) (orb (mask + 1) k _)
    rw [← lp_orb mask h k, lp_perturb]
    have hb := bits_lt h
    have e : SetTable.bits h / 32 ^ (13 + k) = 0 := by
      refine Nat.div_eq_of_lt (Nat.lt_of_lt_of_le hb ?_)
      calc 2 ^ 64 ≤ 32 ^ 13 := by decide
        _ ≤ 32 ^ (13 + k) := Nat.pow_le_pow_right (by decide) (by omega)
    rw [e]
    rfl
theorem orb_add (m : Nat) (a : Nat) : ∀ (b i : Nat), orb m (a + b) i = orb m b (orb m a i)
  | 0, i => rfl
  | b + 1, i => by show lcg m (orb m (a + b) i) = lcg m (orb m b _); rw [orb_add m a b i]
/-- all slots lie on one ring -/
def orbL (m : Nat) : Nat → Nat → List Nat
  | 0, _ => []
  | n + 1, i => i :: orbL m n (lcg m i)
theorem orb_succ (m : Nat) (k i : Nat) : orb m (k + 1) i = orb m k (lcg m i) := by
  rw [Nat.add_comm, orb_add]
  rfl
theorem orbL_get (m : Nat) : ∀ (n i k : Nat), k < n → (orbL m n i)[k]? = some (orb m k i)
  | n + 1, i, 0, _ => rfl
  | n + 1, i, k + 1, h => by
    rw [orb_succ]
    exact orbL_get m n (lcg m i) k (by omega)
theorem orbL_len (m : Nat) : ∀ (n i : Nat), (orbL m n i).length = n
  | 0, _ => rfl
  | n + 1, i => by show (orbL m n _).length + 1 = n + 1; rw [orbL_len m n]
structure Ring (m : Nat) : Prop where
  pos : 0 < m
  all : ∀ v, v < m → v ∈ orbL m m 0
  back : orb m m 0 = 0
theorem Ring.reach {m : Nat} (r : Ring m) {i j : Nat} (hi : i < m) (hj : j < m) : ∃ k, k < m ∧ orb m k i = j := by
  obtain ⟨a, ha, ea⟩ := List.mem_iff_getElem.mp (r.all i hi)
  obtain ⟨b, hb, eb⟩ := List.mem_iff_getElem.mp (r.all j hj)
  rw [orbL_len] at ha hb
  have ea' : orb m a 0 = i := by
    have := orbL_get m m 0 a ha
    rw [List.getElem?_eq_getElem (by rw [orbL_len]; exact ha), ea] at this
    exact (Option.some.inj this).symm
  have eb' : orb m b 0 = j := by
    have := orbL_get m m 0 b hb
    rw [List.getElem?_eq_getElem (by rw [orbL_len]; exact hb), eb] at this
    exact (Option.some.inj this).symm
  by_cases hab : a ≤ b
  · refine ⟨b - a, by omega, ?_⟩
    rw [← ea', ← orb_add, show a + (b - a) = b by omega]
    exact eb'
  · refine ⟨b + m - a, by omega, ?_⟩
    rw [← ea', ← orb_add, show a + (b + m - a) = m + b by omega, orb_add, r.back]
    exact eb'
def ringB (m : Nat) : Bool := ((List.range m).all fun v => (orbL m m 0).contains v) && orb m m 0 == 0
theorem ring_of {m : Nat} (h0 : 0 < m) (h : ringB m = true) : Ring m := by
  unfold ringB at h
  rw [Bool.and_eq_true] at h
  refine ⟨h0, fun v hv => ?_, eq_of_beq h.2⟩
  have := List.all_eq_true.mp h.1 v (List.mem_range.mpr hv)
  exact List.contains_iff_mem.mp this
theorem ring8 : Ring 8 := ring_of (by decide) (by decide +kernel)
theorem ring32 : Ring 32 := ring_of (by decide) (by decide +kernel)
theorem ring128 : Ring 128 := ring_of (by decide) (by decide +kernel)
theorem ring512 : Ring 512 := ring_of (by decide) (by decide +kernel)
/-- each slot is come to -/
theorem wk_reach {mask : Nat} (r : Ring (mask + 1)) (h : Int) {j : Nat} (hj : j ≤ mask) : ∃ n, n < 10 * SetTable.turns mask ∧ wk mask h n = j := by
  have hb : (lp mask h 13).1 < mask + 1 := Nat.mod_lt _ (Nat.succ_pos _)
  obtain ⟨k, hk, e⟩ := r.reach hb (Nat.lt_succ_of_le hj)
  obtain ⟨T, hT, eT⟩ := leap_at mask h (13 + k)
  refine ⟨T, by unfold SetTable.turns; omega, ?_⟩
  show (stp mask h T).j = j
  rw [eT]
  show (lp mask h (13 + k)).1 = j
  rw [lp_orb, e]
end L2


set_option Elab.async false
set_option linter.all false
set_option maxRecDepth 100000
set_option maxHeartbeats 1000000
namespace L2
open PySem PySem.Spec PyProof.Rows
theorem ris_idx {xs : Array Nat} (hr : Ris xs) {i j a b : Nat} (hi : xs[i]? = some a) (hj : xs[j]? = some b) (h : a < b) : i < j := by
  obtain ⟨h1, h2⟩ := getD_of hi
  obtain ⟨h3, h4⟩ := getD_of hj
  rcases Nat.lt_trichotomy i j with q | q | q
  · exact q
  · subst q; omega
  · have := hr j i q h1; omega
theorem ris_full {xs : Array Nat} (hr : Ris xs) : ∀ (M : Nat), (∀ j, j < M → ∃ i : Nat, xs[i]? = some j) → ∀ (j i : Nat), j < M → xs[i]? = some j → j ≤ i
  | _, _, 0, _, _, _ => Nat.zero_le _
  | M, h, j + 1, i, hj, e => by
    obtain ⟨i', e'⟩ := h j (by omega)
    have h1 := ris_idx hr e' e (Nat.lt_succ_self j)
    have h2 := ris_full hr M h j i' (by omega) e'
    omega
theorem ris_gap {xs : Array Nat} (hr : Ris xs) {M : Nat} (h : xs.size < M) : ∃ j, j < M ∧ ∀ i : Nat, xs[i]? ≠ some j := by
  refine Classical.byContradiction fun hn => ?_
  have all : ∀ j, j < M → ∃ i : Nat, xs[i]? = some j := fun j hj => Classical.byContradiction fun hc => hn ⟨j, hj, fun i e => hc ⟨i, e⟩⟩
  obtain ⟨i, e⟩ := all (M - 1) (by omega)
  have h1 := ris_full hr M all (M - 1) i (by omega) e
  have h2 := (getD_of e).1
  omega
section
variable {t : SetTable} {hashAt : Nat → Int} {h : Int}
theorem probe_go (hr : Ris t.place) (hd : t.dummies = #[]) : ∀ (fuel n : Nat), (∃ N, n ≤ N ∧ N < n + fuel ∧ ∀ i : Nat, t.place[i]? ≠ some (wk t.mask h N)) →
    ∃ N, n ≤ N ∧ (∀ m, n ≤ m → m < N → ∃ i, t.place[i]? = some (wk t.mask h m) ∧ hashAt i ≠ h) ∧
      (((∀ i : Nat, t.place[i]? ≠ some (wk t.mask h N)) ∧ SetTable.probe.go t hashAt h fuel (stp t.mask h n) = some (.empty (wk t.mask h N) none)) ∨
        ∃ i, t.place[i]? = some (wk t.mask h N) ∧ hashAt i = h ∧ SetTable.probe.go t hashAt h fuel (stp t.mask h n) = some (.candidate (wk t.mask h N) i (stp t.mask h (N + 1))))
  | 0, n, ⟨N, h1, h2, _⟩ => by omega
  | fuel + 1, n, ⟨N, h1, h2, h3⟩ => by
    rcases slot_or hr hd (wk t.mask h n) with ⟨e, hn⟩ | ⟨i, e, hi⟩
    · refine ⟨n, Nat.le_refl _, fun m a b => by omega, .inl ⟨hn, ?_⟩⟩
      show (match t.slot (wk t.mask h n) with | .empty => some (SetTable.Met.empty (wk t.mask h n) (stp t.mask h n).dummy) | .dummy => _ | .live i => _) = _
      rw [e, stp_dummy]
    · by_cases hh : hashAt i = h
      · refine ⟨n, Nat.le_refl _, fun m a b => by omega, .inr ⟨i, hi, hh, ?_⟩⟩
        show (match t.slot (wk t.mask h n) with | .empty => _ | .dummy => _ | .live i => if hashAt i == h then some (SetTable.Met.candidate (wk t.mask h n) i (t.advance (stp t.mask h n))) else _) = _
        rw [e]
        show (if (hashAt i == h) = true then _ else _) = _
        rw [if_pos (beq_iff_eq.mpr hh)]
        rfl
      · have hN : n ≠ N := fun z => by subst z; exact h3 i hi
        obtain ⟨N', a1, a2, a3⟩ := probe_go hr hd fuel (n + 1) ⟨N, by omega, by omega, h3⟩
        have e2 : SetTable.probe.go t hashAt h (fuel + 1) (stp t.mask h n) = SetTable.probe.go t hashAt h fuel (stp t.mask h (n + 1)) := by
          show (match t.slot (wk t.mask h n) with | .empty => _ | .dummy => _ | .live i => if hashAt i == h then _ else SetTable.probe.go t hashAt h fuel (t.advance (stp t.mask h n))) = _
          rw [e]
          show (if (hashAt i == h) = true then _ else _) = _
          rw [if_neg (fun z => hh (beq_iff_eq.mp z))]
          rfl
        refine ⟨N', by omega, fun m b1 b2 => ?_, ?_⟩
        · by_cases hm : m = n
          · subst hm; exact ⟨i, hi, hh⟩
          · exact a2 m (by omega) b2
        · rw [e2]
          exact a3
end
/-! ### a set of tuples -/
section
variable {prog : Program} {w : World}
abbrev tk (prog : Program) (w : World) : HeapKind prog w (List Key) := tupleKind (mixKind prog w)
def Reach (t : SetTable) (h : Int) (i : Nat) : Prop := ∃ n, n < 10 * SetTable.turns t.mask ∧ t.place[i]? = some (wk t.mask h n) ∧ ∀ m, m < n → ∃ i' : Nat, t.place[i']? = some (wk t.mask h m)
def okMask (m : Nat) : Prop := m = 7 ∨ m = 31 ∨ m = 127 ∨ m = 511
theorem okMask.ring {m : Nat} (h : okMask m) : Ring (m + 1) := by
  rcases h with rfl | rfl | rfl | rfl
  · exact ring8
  · exact ring32
  · exact ring128
  · exact ring512
theorem okMask.le {m : Nat} (h : okMask m) : 7 ≤ m ∧ m ≤ 511 := by rcases h with rfl | rfl | rfl | rfl <;> omega
theorem okMask.odd {m : Nat} (h : okMask m) : (m % 2 == 0) = false := by rcases h with rfl | rfl | rfl | rfl <;> rfl
structure Tb (prog : Program) (w : World) (t : SetTable) (es : Array (Int × Value)) (xs : List (List Key × Addr)) : Prop where
  eq : es.toList = xs.map fun q => ((tk prog w).hash q.1, Value.ref q.2)
  nd : (xs.map (·.1)).Nodup
  dm : t.dummies = #[]
  ris : Ris t.place
  le : ∀ (i j : Nat), t.place[i]? = some j → j ≤ t.mask
  sz : t.place.size = xs.length
  msk : okMask t.mask
  few : xs.length ≤ t.mask
  plain : t.plain = true
  led : t.led = !w.params.followText "set-order"
  reach : ∀ (i : Nat) (q : List Key × Addr), xs[i]? = some q → Reach t ((tk prog w).hash q.1) i
variable {t : SetTable} {es : Array (Int × Value)} {xs : List (List Key × Addr)}
theorem Tb.size (T : Tb prog w t es xs) : es.size = xs.length := by rw [← Array.length_toList, T.eq, List.length_map]
theorem Tb.get (T : Tb prog w t es xs) {i : Nat} {q : List Key × Addr} (h : xs[i]? = some q) : es[i]? = some ((tk prog w).hash q.1, Value.ref q.2) := by
  rw [← Array.getElem?_toList, T.eq, List.getElem?_map, h]
  rfl
theorem Tb.at' (T : Tb prog w t es xs) {i j : Nat} (h : t.place[i]? = some j) : ∃ q, xs[i]? = some q := by
  have := (getD_of h).1
  rw [T.sz] at this
  exact ⟨xs[i], List.getElem?_eq_getElem this⟩
theorem Tb.fits (T : Tb prog w t es xs) : t.fits es.size = true := by
  unfold SetTable.fits SetTable.fill
  rw [T.size, T.sz, T.dm]
  have := T.few
  simp
  omega
theorem Tb.empty (T : Tb prog w t es xs) (h : Int) : ∃ N, N < 10 * SetTable.turns t.mask ∧ ∀ i : Nat, t.place[i]? ≠ some (wk t.mask h N) := by
  have := T.few
  obtain ⟨j, hj, hn⟩ := ris_gap T.ris (M := t.mask + 1) (by rw [T.sz]; omega)
  obtain ⟨N, h1, h2⟩ := wk_reach T.msk.ring h (Nat.le_of_lt_succ hj)
  exact ⟨N, h1, by rw [h2]; exact hn⟩
variable {A : Around} {E : Value → Shared → Prop} {s : Shared}
theorem byVal_cases {k : Key} {v : Value} (h : (mixKind prog w).is k v = true) : (∃ i t, v = .int i t) ∨ ∃ x t, v = .str x t := by
  rcases keyIs_shape h with ⟨i, t, _, e⟩ | ⟨x, t, _, e⟩
  · exact .inl ⟨i, t, e⟩
  · exact .inr ⟨x, t, e⟩
theorem items_cases : ∀ {ks : List Key} {vs : List Value}, ItemsAre (mixKind prog w) ks vs → ∀ v ∈ vs, (∃ i t, v = .int i t) ∨ ∃ x t, v = .str x t
  | _, _, .nil, v, h => by simp at h
  | _, _, .cons h1 h2, v, h => by
    rcases List.mem_cons.mp h with rfl | h
    · exact byVal_cases h1
    · exact items_cases h2 v h
theorem ofClass_no {k : List Key} {b : Addr} {Q : Bool → Shared → Prop} (hk : (tk prog w).is s.heap k b) (h : Q false s) : wpAny (model prog w) A (ofAClassStatement 8 (.ref b)) Q E s := by
  have hk' : IsTupleKey (mixKind prog w) s.heap k b := hk
  have hT := hk'.typeIs
  obtain ⟨o, items, n, ho, _, hd, hi⟩ := hk'
  unfold ofAClassStatement
  refine wpAny_bind (wpAny_typeOf hT ?_)
  dsimp only
  rw [if_pos (by decide)]
  refine wpAny_bind (wpAny_pure ?_)
  simp only [Bool.not_true, Bool.false_eq_true, if_false]
  refine wpAny_bind (wpAny_seqItems ho hd ?_)
  refine wpAny_bind ?_
  show wpAny _ _ (forIn items _ _) _ _ s
  rw [← Array.forIn_toList]
  refine wpAny_forIn_list _ (fun rest r s' => r.1 = none ∧ s' = s ∧ ∀ v ∈ rest, (∃ i t, v = Value.int i t) ∨ ∃ x t, v = Value.str x t) _ ?_ ?_ _ _ ⟨rfl, rfl, items_cases hi⟩
  · rintro v rest r s' ⟨hr, rfl, hall⟩
    have e : ofAClassStatement 7 v = pure false := by
      rcases hall v List.mem_cons_self with ⟨i, t, rfl⟩ | ⟨x, t, rfl⟩ <;> rfl
    rw [e]
    refine wpAny_bind (wpAny_pure ?_)
    simp only [Bool.false_eq_true, if_false]
    exact wpAny_pure ⟨rfl, rfl, fun u hu' => hall u (List.mem_cons_of_mem _ hu')⟩
  · rintro ⟨r1, r2⟩ s' ⟨hr, rfl, _⟩
    simp only at hr
    subst hr
    exact wpAny_pure h
theorem unseen {k : List Key} {b : Addr} {Q : Bool → Shared → Prop} (hk : (tk prog w).is s.heap k b) : ∀ (l : List Value), (∀ v ∈ l, ∃ k' b', v = .ref b' ∧ (tk prog w).is s.heap k' b') → Q false s → wpAny (model prog w) A (searchCouldBeSeen (.ref b) l) Q E s := by
  intro l hl h
  unfold searchCouldBeSeen
  refine wpAny_bind ?_
  refine wpAny_forIn_list _ (fun rest r s' => r.1 = none ∧ s' = s ∧ ∀ v ∈ rest, ∃ k' b', v = Value.ref b' ∧ (tk prog w).is s.heap k' b') _ ?_ ?_ _ _ ⟨rfl, rfl, hl⟩
  · rintro v rest r s' ⟨hr, rfl, hall⟩
    obtain ⟨k', b', rfl, hk'⟩ := hall v List.mem_cons_self
    have next : ∀ u ∈ rest, ∃ k' b', u = Value.ref b' ∧ (tk prog w).is s'.heap k' b' := fun u hu' => hall u (List.mem_cons_of_mem _ hu')
    dsimp only
    split
    · exact wpAny_pure ⟨rfl, rfl, next⟩
    · refine wpAny_bind ((tk prog w).quiet hk ?_)
      simp only [Bool.not_true, Bool.false_eq_true, if_false]
      refine wpAny_bind ((tk prog w).quiet hk' ?_)
      simp only [Bool.not_true, Bool.false_eq_true, if_false]
      refine wpAny_bind (ofClass_no hk ?_)
      simp only [Bool.false_eq_true, if_false]
      refine wpAny_bind (ofClass_no hk' ?_)
      simp only [Bool.false_eq_true, if_false]
      exact wpAny_pure ⟨rfl, rfl, next⟩
  · rintro ⟨r1, r2⟩ s' ⟨hr, rfl, _⟩
    simp only at hr
    subst hr
    exact wpAny_pure h
end
end L2


set_option Elab.async false
set_option linter.all false
set_option maxRecDepth 100000
set_option maxHeartbeats 1000000
namespace L2
open PySem PySem.Spec PyProof.Rows
section
variable {prog : Program} {w : World} {t : SetTable} {es : Array (Int × Value)} {xs : List (List Key × Addr)} {A : Around} {E : Value → Shared → Prop} {s : Shared}
/-- up to place n of its row nothing is k -/
def Passed (t : SetTable) (xs : List (List Key × Addr)) (h : Int) (k : List Key) (n : Nat) : Prop := ∀ m, m < n → ∃ (i : Nat) (q : List Key × Addr), t.place[i]? = some (wk t.mask h m) ∧ xs[i]? = some q ∧ q.1 ≠ k
theorem search_wp {a b : Addr} {o : Obj} {ep : Nat} {k : List Key} {adding : Bool} {Q : SetFound → Shared → Prop} (hu : A.units < cLine) (T : Tb prog w t es xs) (hk : (tk prog w).is s.heap k b) (hel : ∀ q ∈ xs, (tk prog w).is s.heap q.1 q.2)
    (ho : s.heap.get? a = some o) (hd : o.data = .set es ep t)
    (found : ∀ r i q, xs[i]? = some q → q.1 = k → (r = none ∨ r = some i) → Q (.there r) s)
    (free : ∀ N, N < 10 * SetTable.turns t.mask → (∀ i : Nat, t.place[i]? ≠ some (wk t.mask ((tk prog w).hash k) N)) → Passed t xs ((tk prog w).hash k) k N → Q (.free (wk t.mask ((tk prog w).hash k) N) false) s) :
    ∀ (fuel n : Nat) (stand : Option SetTable.Probe), stand.getD (t.probeStart ((tk prog w).hash k)) = stp t.mask ((tk prog w).hash k) n → 10 * SetTable.turns t.mask < n + fuel → n ≤ 10 * SetTable.turns t.mask → Passed t xs ((tk prog w).hash k) k n →
      wpAny (model prog w) A (setSearchFrom a (.ref b) ((tk prog w).hash k) adding fuel stand) Q E s
  | 0, n, stand, _, h2, h3, _ => by omega
  | fuel + 1, n, stand, h1, h2, h3, h4 => by
    unfold setSearchFrom
    refine wpAny_bind (wpAny_setState_of ho hd T.fits ?_)
    dsimp only
    rw [show t.gaveWay = false from T.msk.odd]
    simp only [Bool.false_eq_true, if_false]
    rw [h1]
    -- the probe
    obtain ⟨N0, hN0, eN0⟩ := T.empty ((tk prog w).hash k)
    have hn0 : n ≤ N0 := by
      rcases Nat.lt_or_ge N0 n with q | q
      · obtain ⟨i, _, e, _⟩ := h4 N0 q
        exact absurd e (eN0 i)
      · exact q
    have pass : ∀ N, n ≤ N → (∀ m, n ≤ m → m < N → ∃ i : Nat, t.place[i]? = some (wk t.mask ((tk prog w).hash k) m) ∧ (es[i]?.map (·.1)).getD 0 ≠ (tk prog w).hash k) → Passed t xs ((tk prog w).hash k) k N := fun N hN hh m hm => by
      rcases Nat.lt_or_ge m n with q | q
      · exact h4 m q
      · obtain ⟨i, e1, e2⟩ := hh m q hm
        obtain ⟨q, hq⟩ := T.at' e1
        refine ⟨i, q, e1, hq, fun z => e2 ?_⟩
        rw [T.get hq, ← z]
        rfl
    obtain ⟨N, hN, hp, hc⟩ := probe_go (t := t) (hashAt := fun i => (es[i]?.map (·.1)).getD 0) (h := (tk prog w).hash k) T.ris T.dm (10 * SetTable.turns t.mask) n ⟨N0, hn0, by omega, eN0⟩
    have hNle : N ≤ N0 := by
      rcases Nat.lt_or_ge N0 N with q | q
      · obtain ⟨i, e, _⟩ := hp N0 hn0 q
        exact absurd e (eN0 i)
      · exact q
    rcases hc with ⟨he, hg⟩ | ⟨i, hi, hh, hg⟩
    · have hg' : t.probe (fun i => (es[i]?.map (·.1)).getD 0) ((tk prog w).hash k) (stp t.mask ((tk prog w).hash k) n) = some (.empty (wk t.mask ((tk prog w).hash k) N) none) := hg
      have fin := free N (by omega) he (pass N hN hp)
      generalize hm : SetTable.probe t _ _ _ = met
      have : met = some (.empty (wk t.mask ((tk prog w).hash k) N) none) := hm.symm.trans hg'
      rw [this]
      dsimp only
      exact wpAny_pure fin
    · have hg' : t.probe (fun i => (es[i]?.map (·.1)).getD 0) ((tk prog w).hash k) (stp t.mask ((tk prog w).hash k) n) = some (.candidate (wk t.mask ((tk prog w).hash k) N) i (stp t.mask ((tk prog w).hash k) (N + 1))) := hg
      generalize hm : SetTable.probe t _ _ _ = met
      have : met = some (.candidate (wk t.mask ((tk prog w).hash k) N) i (stp t.mask ((tk prog w).hash k) (N + 1))) := hm.symm.trans hg'
      rw [this]
      dsimp only
      obtain ⟨q, hq⟩ := T.at' hi
      have hqe := T.get hq
      have hqk := hel q (List.mem_of_getElem? hq)
      have stl : t.slot (wk t.mask ((tk prog w).hash k) N) = .live i := slot_live T.ris hi
      have core : wpAny (model prog w) A (do
          let some (_, y) := es[i]? | unsupported "internal:set-entry"
          let equal ← holding [y] (eqBool y (.ref b))
          let (es', _, t') ← setState a
          if adding && equal then return .there none
          let some same := t'.sameMemory t.moves t.mask | unsupported "set.changed-during-lookup:is-the-new-block-at-the-old-address"
          let still ← match (if same then t'.slot (wk t.mask ((tk prog w).hash k) N) else .empty) with
            | .live i' => match es'[i']? with
              | some (_, y') => do pure (if ← isSame y' y then some i' else none)
              | none => pure none
            | _ => pure none
          match still with
          | none => rule "set.search.anew"; setSearchFrom a (.ref b) ((tk prog w).hash k) adding fuel none
          | some i' => if equal then return .there (some i') else setSearchFrom a (.ref b) ((tk prog w).hash k) adding fuel (some (stp t.mask ((tk prog w).hash k) (N + 1)))) Q E s := by
        rw [hqe]
        dsimp only
        refine wpAny_bind (wpAny_holding ((tk prog w).eqBool hu hqk hk ?_))
        refine wpAny_bind (wpAny_setState_of ho hd T.fits ?_)
        dsimp only
        by_cases hkk : q.1 = k
        · rw [decide_eq_true hkk]
          cases adding with
          | true =>
            simp only [Bool.and_self, if_true]
            exact wpAny_pure (found none i q hq hkk (.inl rfl))
          | false =>
            simp only [Bool.false_and, Bool.false_eq_true, if_false]
            have e1 : t.sameMemory t.moves t.mask = some true := by unfold SetTable.sameMemory; simp
            rw [e1]
            dsimp only
            simp only [if_true]
            rw [stl]
            dsimp only
            rw [hqe]
            dsimp only
            refine wpAny_bind (wpAny_isSame_ref_self (wpAny_bind (wpAny_pure ?_)))
            simp only [if_true]
            exact wpAny_pure (found (some i) i q hq hkk (.inr rfl))
        · rw [decide_eq_false hkk]
          simp only [Bool.and_false, Bool.false_eq_true, if_false]
          have e1 : t.sameMemory t.moves t.mask = some true := by unfold SetTable.sameMemory; simp
          rw [e1]
          dsimp only
          simp only [if_true]
          rw [stl]
          dsimp only
          rw [hqe]
          dsimp only
          refine wpAny_bind (wpAny_isSame_ref_self (wpAny_bind (wpAny_pure ?_)))
          simp only [if_true]
          refine search_wp hu T hk hel ho hd found free fuel (N + 1) _ rfl (by omega) (by omega) fun m hm => ?_
          rcases Nat.lt_succ_iff_lt_or_eq.mp hm with z | z
          · exact pass N hN hp m z
          · subst z; exact ⟨i, q, hi, hq, hkk⟩
      split
      · refine wpAny_bind (unseen hk _ (fun v hv => ?_) ?_)
        · obtain ⟨e, he, rfl⟩ := List.mem_map.mp hv
          have he' : e ∈ es.toList := by
            have := Array.mem_toList_iff.mp he
            exact Array.mem_toList_iff.mpr (Array.mem_filter.mp this).1
          rw [T.eq] at he'
          obtain ⟨q', hq', rfl⟩ := List.mem_map.mp he'
          exact ⟨_, _, rfl, hel q' hq'⟩
        · simp only [Bool.false_eq_true, if_false]
          exact core
      · exact core
end
end L2


set_option Elab.async false
set_option linter.all false
set_option maxRecDepth 100000
set_option maxHeartbeats 1000000
namespace L2
open PySem PySem.Spec PyProof.Rows
/-! ### one more -/
def insL {α : Type} (l : List α) (p : Nat) (x : α) : List α := l.take p ++ x :: l.drop p
theorem insL_lt {α : Type} {l : List α} {p i : Nat} {x : α} (hp : p ≤ l.length) (h : i < p) : (insL l p x)[i]? = l[i]? := by
  unfold insL
  rw [List.getElem?_append_left (by rw [List.length_take]; omega), List.getElem?_take_of_lt h]
theorem insL_eq {α : Type} {l : List α} {p : Nat} {x : α} (hp : p ≤ l.length) : (insL l p x)[p]? = some x := by
  unfold insL
  rw [List.getElem?_append_right (by rw [List.length_take]; omega), List.length_take, show p - min p l.length = 0 by omega]
  rfl
theorem insL_gt {α : Type} {l : List α} {p i : Nat} {x : α} (hp : p ≤ l.length) (h : p ≤ i) : (insL l p x)[i + 1]? = l[i]? := by
  unfold insL
  rw [List.getElem?_append_right (by rw [List.length_take]; omega), List.length_take, show i + 1 - min p l.length = (i - p) + 1 by omega, List.getElem?_cons_succ, List.getElem?_drop, show p + (i - p) = i by omega]
theorem insL_len {α : Type} {l : List α} {p : Nat} {x : α} (hp : p ≤ l.length) : (insL l p x).length = l.length + 1 := by
  unfold insL
  rw [List.length_append, List.length_cons, List.length_take, List.length_drop]
  omega
theorem insL_map {α β : Type} (f : α → β) (l : List α) (p : Nat) (x : α) : (insL l p x).map f = insL (l.map f) p (f x) := by
  unfold insL
  rw [List.map_append, List.map_cons, List.map_take, List.map_drop]
theorem insL_perm {α : Type} (l : List α) (p : Nat) (x : α) : (insL l p x).Perm (x :: l) := by
  unfold insL
  refine List.perm_middle.trans ?_
  rw [List.take_append_drop]
theorem insertAt_toList {α : Type} (xs : Array α) {p : Nat} (x : α) : (SetTable.insertAt xs p x).toList = insL xs.toList p x := by
  unfold SetTable.insertAt insL
  rw [Array.toList_append, Array.toList_push, Array.toList_extract, Array.toList_extract, List.extract_eq_take_drop, List.extract_eq_take_drop]
  rw [Nat.sub_zero, List.drop_zero, List.append_assoc]
  congr 1
  show x :: _ = _
  congr 1
  show [] ++ List.take _ (List.drop p xs.toList) = _
  rw [List.nil_append]
  refine List.take_of_length_le ?_
  rw [List.length_drop, Array.length_toList]
  exact Nat.le_refl _
theorem arr_q {α : Type} (xs : Array α) (i : Nat) : xs[i]? = xs.toList[i]? := (Array.getElem?_toList).symm
/-- where old ones lie behind an insertion -/
theorem ins_old {xs : Array Nat} {p j i v : Nat} (hp : p ≤ xs.size) (h : xs[i]? = some v) : (SetTable.insertAt xs p j)[if i < p then i else i + 1]? = some v := by
  rw [arr_q, insertAt_toList]
  rw [arr_q] at h
  have hp' : p ≤ xs.toList.length := by rw [Array.length_toList]; exact hp
  split
  · rename_i hi
    rw [insL_lt hp' hi, h]
  · rename_i hi
    rw [insL_gt hp' (by omega), h]
theorem ins_back {xs : Array Nat} {p j i v : Nat} (hp : p ≤ xs.size) (h : (SetTable.insertAt xs p j)[i]? = some v) : (i = p ∧ v = j) ∨ (i < p ∧ xs[i]? = some v) ∨ ∃ i', i = i' + 1 ∧ p ≤ i' ∧ xs[i']? = some v := by
  rw [arr_q, insertAt_toList] at h
  have hp' : p ≤ xs.toList.length := by rw [Array.length_toList]; exact hp
  rcases Nat.lt_trichotomy i p with q | q | q
  · rw [insL_lt hp' q, ← arr_q] at h
    exact .inr (.inl ⟨q, h⟩)
  · subst q
    rw [insL_eq hp'] at h
    cases h
    exact .inl ⟨rfl, rfl⟩
  · obtain ⟨i', rfl⟩ : ∃ i', i = i' + 1 := ⟨i - 1, by omega⟩
    rw [insL_gt hp' (by omega), ← arr_q] at h
    exact .inr (.inr ⟨i', rfl, by omega, h⟩)
theorem ris_insert {xs : Array Nat} (hr : Ris xs) {j : Nat} (hn : ∀ i : Nat, xs[i]? ≠ some j) : Ris (SetTable.insertAt xs (SetTable.below xs j) j) := by
  obtain ⟨b1, b2, b3⟩ := below_spec hr j
  intro i i2 hlt h2
  have e1 := getq_of (xs := SetTable.insertAt xs (SetTable.below xs j) j) (i := i) (by omega)
  have e2 := getq_of h2
  generalize (SetTable.insertAt xs (SetTable.below xs j) j).getD i 0 = v at e1
  generalize (SetTable.insertAt xs (SetTable.below xs j) j).getD i2 0 = v2 at e2
  have big : ∀ i v, SetTable.below xs j ≤ i → xs[i]? = some v → j < v := fun i v h e => by
    obtain ⟨a1, a2⟩ := getD_of e
    have := b3 i h a1
    rcases Nat.lt_or_ge j v with q | q
    · exact q
    · have : v = j := by omega
      subst this
      exact absurd e (hn i)
  have small : ∀ i v, i < SetTable.below xs j → xs[i]? = some v → v < j := fun i v h e => by
    obtain ⟨a1, a2⟩ := getD_of e
    have := b2 i h
    omega
  have mono : ∀ i i2 v v2, i < i2 → xs[i]? = some v → xs[i2]? = some v2 → v < v2 := fun i i2 v v2 h e e2 => by
    obtain ⟨a1, a2⟩ := getD_of e
    obtain ⟨a3, a4⟩ := getD_of e2
    have := hr i i2 h a3
    omega
  rcases ins_back b1 e1 with ⟨rfl, rfl⟩ | ⟨q, e⟩ | ⟨i', rfl, q, e⟩
  · rcases ins_back b1 e2 with ⟨rfl, rfl⟩ | ⟨q', e'⟩ | ⟨i'', rfl, q', e'⟩
    · omega
    · omega
    · exact big _ _ q' e'
  · rcases ins_back b1 e2 with ⟨rfl, rfl⟩ | ⟨q', e'⟩ | ⟨i'', rfl, q', e'⟩
    · exact small _ _ q e
    · exact mono _ _ _ _ hlt e e'
    · exact mono _ _ _ _ (by omega) e e'
  · rcases ins_back b1 e2 with ⟨rfl, rfl⟩ | ⟨q', e'⟩ | ⟨i'', rfl, q', e'⟩
    · omega
    · omega
    · exact mono _ _ _ _ (by omega) e e'
section
variable {prog : Program} {w : World} {t : SetTable} {es : Array (Int × Value)} {xs : List (List Key × Addr)}
theorem has_nil {j : Nat} : SetTable.has #[] j = false := rfl
theorem Tb.put (T : Tb prog w t es xs) {k : List Key} {b : Addr} {N : Nat} (hN : N < 10 * SetTable.turns t.mask) (he : ∀ i : Nat, t.place[i]? ≠ some (wk t.mask ((tk prog w).hash k) N)) (hp : Passed t xs ((tk prog w).hash k) k N)
    (hk : k ∉ xs.map (·.1)) (hf : xs.length + 1 ≤ t.mask) (hle : wk t.mask ((tk prog w).hash k) N ≤ t.mask) :
    ∃ xs', Tb prog w (t.put (wk t.mask ((tk prog w).hash k) N)).1 (SetTable.insertAt es (t.put (wk t.mask ((tk prog w).hash k) N)).2 ((tk prog w).hash k, .ref b)) xs' ∧ xs'.Perm ((k, b) :: xs) := by
  generalize hj : wk t.mask ((tk prog w).hash k) N = j at *
  obtain ⟨b1, b2, b3⟩ := below_spec T.ris j
  have hp2 : (t.put j).2 = SetTable.below t.place j := rfl
  have ht : (t.put j).1 = { t with place := SetTable.insertAt t.place (SetTable.below t.place j) j } := by
    unfold SetTable.put
    dsimp only
    rw [T.dm, has_nil]
    simp only [Bool.false_eq_true, if_false]
  generalize hpp : SetTable.below t.place j = p at *
  have hpx : p ≤ xs.length := by rw [← T.sz]; exact b1
  have shift : ∀ {i v : Nat}, t.place[i]? = some v → ∃ i' : Nat, (SetTable.insertAt t.place p j)[i']? = some v := fun {i v} h => ⟨_, ins_old b1 h⟩
  have hxp := insL_perm xs p (k, b)
  refine ⟨insL xs p (k, b), ?_, hxp⟩
  rw [hp2, ht]
  refine ⟨?_, ?_, T.dm, ?_, ?_, ?_, T.msk, ?_, T.plain, T.led, ?_⟩
  · rw [insertAt_toList, T.eq, insL_map]
  · rw [(hxp.map (·.1)).nodup_iff, List.map_cons, List.nodup_cons]
    exact ⟨hk, T.nd⟩
  · have := ris_insert T.ris he
    rw [hpp] at this
    exact this
  · intro i v e
    rcases ins_back b1 e with ⟨_, rfl⟩ | ⟨_, e'⟩ | ⟨_, _, _, e'⟩
    · exact hle
    · exact T.le _ _ e'
    · exact T.le _ _ e'
  · show (SetTable.insertAt t.place p j).size = _
    rw [← Array.length_toList, insertAt_toList, insL_len (by rw [Array.length_toList]; exact b1), insL_len hpx, Array.length_toList, T.sz]
  · show (insL xs p (k, b)).length ≤ t.mask
    rw [insL_len hpx]
    exact hf
  · intro i q hq
    rcases Nat.lt_trichotomy i p with z | z | z
    · rw [insL_lt hpx z] at hq
      obtain ⟨n, h1, h2, h3⟩ := T.reach i q hq
      refine ⟨n, h1, ?_, fun m hm => ?_⟩
      · have := ins_old (j := j) b1 h2
        rw [if_pos z] at this
        exact this
      · obtain ⟨i', e⟩ := h3 m hm
        exact shift e
    · subst z
      rw [insL_eq hpx] at hq
      cases hq
      refine ⟨N, hN, ?_, fun m hm => ?_⟩
      · show (SetTable.insertAt t.place i j)[i]? = _
        rw [arr_q, insertAt_toList, insL_eq (by rw [Array.length_toList]; exact b1)]
        exact congrArg some hj.symm
      · obtain ⟨i', q', e, _⟩ := hp m hm
        exact shift e
    · obtain ⟨i', rfl⟩ : ∃ i', i = i' + 1 := ⟨i - 1, by omega⟩
      rw [insL_gt hpx (by omega)] at hq
      obtain ⟨n, h1, h2, h3⟩ := T.reach i' q hq
      refine ⟨n, h1, ?_, fun m hm => ?_⟩
      · have := ins_old (j := j) b1 h2
        rw [if_neg (by omega)] at this
        exact this
      · obtain ⟨i', e⟩ := h3 m hm
        exact shift e
end
end L2


set_option Elab.async false
set_option linter.all false
set_option maxRecDepth 100000
set_option maxHeartbeats 1000000
namespace L2
open PySem PySem.Spec PyProof.Rows
/-! ### laid anew -/
theorem nodup_lt : ∀ (n : Nat) {l : List Nat}, l.Nodup → (∀ x ∈ l, x < n) → l.length ≤ n
  | 0, l, _, h => by
    cases l with
    | nil => exact Nat.le_refl _
    | cons a _ => exact absurd (h a List.mem_cons_self) (Nat.not_lt_zero _)
  | n + 1, l, hn, h => by
    by_cases hm : n ∈ l
    · have h1 := nodup_lt n (hn.erase n) fun x hx => by
        have := (hn.mem_erase_iff).mp hx
        have := h x this.2
        omega
      rw [List.length_erase_of_mem hm] at h1
      omega
    · have := nodup_lt n hn fun x hx => by
        have h1 := h x hx
        have : x ≠ n := fun z => hm (z ▸ hx)
        omega
      omega
theorem perm_of_nodup {α : Type} [BEq α] [LawfulBEq α] : ∀ {l l' : List α}, l.Nodup → l'.Nodup → (∀ x, x ∈ l ↔ x ∈ l') → l.Perm l'
  | [], l', _, _, h => by
    cases l' with
    | nil => exact .nil
    | cons a _ => exact absurd ((h a).mpr List.mem_cons_self) (by simp)
  | a :: l, l', hn, hn', h => by
    have ha : a ∈ l' := (h a).mp List.mem_cons_self
    refine List.Perm.trans (List.Perm.cons a ?_) (List.perm_cons_erase ha).symm
    rw [List.nodup_cons] at hn
    refine perm_of_nodup hn.2 (hn'.erase a) fun x => ?_
    rw [hn'.mem_erase_iff]
    constructor
    · intro hx
      exact ⟨fun z => hn.1 (z ▸ hx), (h x).mp (List.mem_cons_of_mem _ hx)⟩
    · rintro ⟨h1, h2⟩
      rcases List.mem_cons.mp ((h x).mpr h2) with z | z
      · exact absurd z h1
      · exact z
def St0 (mask : Nat) (h : Int) (K : Nat) : SetTable.Probe := ⟨(lp mask h K).1, SetTable.runEnd mask (lp mask h K).1 - (lp mask h K).1, (lp mask h K).1, (lp mask h K).2, none⟩
theorem leap_next {mask : Nat} {h : Int} {T K : Nat} (e : stp mask h T = St0 mask h K) : stp mask h (T + (SetTable.runEnd mask (lp mask h K).1 - (lp mask h K).1) + 1) = St0 mask h (K + 1) := by
  show (tm mask).advance (stp mask h (T + _)) = _
  rw [stp_run mask h e _ (Nat.le_refl _), adv_leap mask _ (Nat.sub_self _)]
  rfl
theorem lp_le (mask : Nat) (h : Int) : ∀ K, (lp mask h K).1 ≤ mask
  | 0 => Nat.le_of_lt_succ (Nat.mod_lt _ (Nat.succ_pos _))
  | K + 1 => Nat.le_of_lt_succ (Nat.mod_lt _ (Nat.succ_pos _))
theorem runEnd_le {mask i : Nat} (h : i ≤ mask) : SetTable.runEnd mask i ≤ mask ∧ i ≤ SetTable.runEnd mask i := by unfold SetTable.runEnd; split <;> omega
theorem free_spec {mask : Nat} {h : Int} {owner : Array (Option Nat)} (hs : owner.size = mask + 1) : ∀ (fuel K T : Nat), T ≤ 10 * K → stp mask h T = St0 mask h K → (∀ m, m < T → ∃ i', owner[wk mask h m]? = some (some i')) →
    (∃ K', K ≤ K' ∧ K' < K + fuel ∧ owner[(lp mask h K').1]? = some none) →
    ∃ N, SetTable.layClean.free mask owner fuel (lp mask h K).1 (lp mask h K).2 = some (wk mask h N) ∧ N < 10 * (K + fuel) ∧ wk mask h N ≤ mask ∧ owner[wk mask h N]? = some none ∧ ∀ m, m < N → ∃ i', owner[wk mask h m]? = some (some i')
  | 0, K, T, _, _, _, ⟨K', h1, h2, _⟩ => by omega
  | fuel + 1, K, T, hT, eT, occ, ⟨K', h1, h2, h3⟩ => by
    have hle := lp_le mask h K
    obtain ⟨r1, r2⟩ := runEnd_le hle
    have r9 := run_le mask (lp mask h K).1
    have wkk : ∀ k, k ≤ SetTable.runEnd mask (lp mask h K).1 - (lp mask h K).1 → wk mask h (T + k) = (lp mask h K).1 + k := fun k hk => by
      show (stp mask h (T + k)).j = _
      rw [stp_run mask h eT k hk]
    have inR : ∀ k, k ≤ SetTable.runEnd mask (lp mask h K).1 - (lp mask h K).1 → ∃ u, owner[(lp mask h K).1 + k]? = some u ∧ owner.getD ((lp mask h K).1 + k) (some 0) = u := fun k hk => by
      have hlt : (lp mask h K).1 + k < owner.size := by omega
      exact ⟨owner[(lp mask h K).1 + k], Array.getElem?_eq_getElem hlt, by simp [hlt]⟩
    show ∃ N, (match (List.range (SetTable.runEnd mask (lp mask h K).1 + 1 - (lp mask h K).1)).find? fun k => (owner.getD ((lp mask h K).1 + k) (some 0)).isNone with
      | some k => some ((lp mask h K).1 + k)
      | none => SetTable.layClean.free mask owner fuel (lp mask h (K + 1)).1 (lp mask h (K + 1)).2) = some (wk mask h N) ∧ _
    cases hf : (List.range (SetTable.runEnd mask (lp mask h K).1 + 1 - (lp mask h K).1)).find? fun k => (owner.getD ((lp mask h K).1 + k) (some 0)).isNone with
    | some k =>
      obtain ⟨hp, i, hi, hik, hbef⟩ := List.find?_eq_some_iff_getElem.mp hf
      rw [List.getElem_range] at hik
      subst hik
      rw [List.length_range] at hi
      have hk : i ≤ SetTable.runEnd mask (lp mask h K).1 - (lp mask h K).1 := by omega
      obtain ⟨u, hu1, hu2⟩ := inR i hk
      rw [hu2] at hp
      have hun : u = none := by
        cases u with
        | none => rfl
        | some z => exact absurd hp (by simp)
      subst hun
      refine ⟨T + i, by rw [wkk i hk], by omega, by rw [wkk i hk]; omega, by rw [wkk i hk]; exact hu1, fun m hm => ?_⟩
      by_cases hmT : m < T
      · exact occ m hmT
      · obtain ⟨k', rfl⟩ : ∃ k', m = T + k' := ⟨m - T, by omega⟩
        obtain ⟨u, hu1, hu2⟩ := inR k' (by omega)
        have := hbef k' (by omega)
        rw [List.getElem_range, hu2] at this
        rw [wkk k' (by omega), hu1]
        cases u with
        | none => simp at this
        | some i' => exact ⟨i', rfl⟩
    | none =>
      have hall := List.find?_eq_none.mp hf
      have occR : ∀ k, k ≤ SetTable.runEnd mask (lp mask h K).1 - (lp mask h K).1 → ∃ i', owner[(lp mask h K).1 + k]? = some (some i') := fun k hk => by
        obtain ⟨u, hu1, hu2⟩ := inR k hk
        have := hall k (List.mem_range.mpr (by omega))
        rw [hu2] at this
        cases u with
        | none => simp at this
        | some i' => exact ⟨i', hu1⟩
      have hKK : K ≠ K' := fun z => by
        subst z
        obtain ⟨i', e⟩ := occR 0 (Nat.zero_le _)
        rw [Nat.add_zero, h3] at e
        cases e
      have occ' : ∀ m, m < T + (SetTable.runEnd mask (lp mask h K).1 - (lp mask h K).1) + 1 → ∃ i', owner[wk mask h m]? = some (some i') := fun m hm => by
        by_cases hmT : m < T
        · exact occ m hmT
        · obtain ⟨k', rfl⟩ : ∃ k', m = T + k' := ⟨m - T, by omega⟩
          rw [wkk k' (by omega)]
          exact occR k' (by omega)
      obtain ⟨N, a1, a2, a3⟩ := free_spec hs fuel (K + 1) _ (by omega) (leap_next eT) occ' ⟨K', by omega, by omega, h3⟩
      exact ⟨N, a1, by omega, a3⟩
/-- whose each slot is -/
structure Own (mask : Nat) (hs : List Int) (n : Nat) (owner : Array (Option Nat)) : Prop where
  size : owner.size = mask + 1
  lt : ∀ (j i : Nat), owner[j]? = some (some i) → i < n
  inj : ∀ (j j' i : Nat), owner[j]? = some (some i) → owner[j']? = some (some i) → j = j'
  reach : ∀ (i : Nat) (h : Int), i < n → hs[i]? = some h → ∃ N, N < 10 * SetTable.turns mask ∧ owner[wk mask h N]? = some (some i) ∧ ∀ m, m < N → ∃ i', owner[wk mask h m]? = some (some i')
theorem Own.gap {mask : Nat} {hs : List Int} {n : Nat} {owner : Array (Option Nat)} (o : Own mask hs n owner) (hn : n ≤ mask) : ∃ j, j ≤ mask ∧ owner[j]? = some none := by
  refine Classical.byContradiction fun hc => ?_
  have all : ∀ j, j < mask + 1 → ∃ i, owner[j]? = some (some i) := fun j hj => by
    have hlt : j < owner.size := by rw [o.size]; exact hj
    cases e : owner[j] with
    | none => exact absurd ⟨j, Nat.le_of_lt_succ hj, by rw [Array.getElem?_eq_getElem hlt, e]⟩ hc
    | some i => exact ⟨i, by rw [Array.getElem?_eq_getElem hlt, e]⟩
  have hl := nodup_lt n (l := (List.range (mask + 1)).map fun j => ((owner[j]?).join).getD 0) ?_ ?_
  · rw [List.length_map, List.length_range] at hl
    omega
  · refine List.pairwise_map.mpr (List.Pairwise.imp_of_mem ?_ List.nodup_range)
    intro a b ha hb hab e
    refine hab ?_
    obtain ⟨i, hi⟩ := all a (List.mem_range.mp ha)
    obtain ⟨i', hi'⟩ := all b (List.mem_range.mp hb)
    rw [hi, hi'] at e
    have : i = i' := e
    subst this
    exact o.inj _ _ _ hi hi'
  · intro x hx
    obtain ⟨j, hj, rfl⟩ := List.mem_map.mp hx
    obtain ⟨i, hi⟩ := all j (List.mem_range.mp hj)
    rw [hi]
    exact o.lt _ _ hi
end L2


set_option Elab.async false
set_option linter.all false
set_option maxRecDepth 100000
set_option maxHeartbeats 1000000
namespace L2
open PySem PySem.Spec PyProof.Rows
theorem Own.step {mask : Nat} {hs : List Int} {n : Nat} {owner : Array (Option Nat)} {h : Int} (o : Own mask hs n owner) (hr : Ring (mask + 1)) (hn : n ≤ mask) (hh : hs[n]? = some h) :
    ∃ j, SetTable.layClean.free mask owner (SetTable.turns mask) (SetTable.bits h % (mask + 1)) (SetTable.bits h) = some j ∧ Own mask hs (n + 1) (owner.setIfInBounds j (some n)) := by
  obtain ⟨g, hg, eg⟩ := o.gap hn
  have hb : (lp mask h 13).1 < mask + 1 := Nat.lt_succ_of_le (lp_le mask h 13)
  obtain ⟨k, hk, e⟩ := hr.reach hb (Nat.lt_succ_of_le hg)
  obtain ⟨N, h1, h2, h3, h4, h5⟩ := free_spec o.size (SetTable.turns mask) 0 0 (Nat.le_refl _) (h := h) rfl (fun m hm => absurd hm (Nat.not_lt_zero _)) ⟨13 + k, Nat.zero_le _, by unfold SetTable.turns; omega, by rw [lp_orb, e]; exact eg⟩
  have hj : wk mask h N < owner.size := by rw [o.size]; omega
  have set_at : (owner.setIfInBounds (wk mask h N) (some n))[wk mask h N]? = some (some n) := by
    rw [Array.getElem?_setIfInBounds]
    simp [hj]
  have set_ne : ∀ j, j ≠ wk mask h N → (owner.setIfInBounds (wk mask h N) (some n))[j]? = owner[j]? := fun j hne => by
    rw [Array.getElem?_setIfInBounds]
    rw [if_neg (fun z => hne z.symm)]
  have keep : ∀ j i, owner[j]? = some (some i) → (owner.setIfInBounds (wk mask h N) (some n))[j]? = some (some i) := fun j i e => by
    by_cases q : j = wk mask h N
    · rw [q, h4] at e; cases e
    · rw [set_ne j q]; exact e
  refine ⟨wk mask h N, h1, by simp [o.size], fun j i e => ?_, fun j j' i e e' => ?_, fun i h' hi hh' => ?_⟩
  · by_cases q : j = wk mask h N
    · subst q; rw [set_at] at e; cases e; omega
    · rw [set_ne j q] at e
      have := o.lt _ _ e
      omega
  · by_cases q : j = wk mask h N
    · subst q
      rw [set_at] at e
      cases e
      by_cases q' : j' = wk mask h N
      · exact q'.symm
      · rw [set_ne j' q'] at e'
        have := o.lt _ _ e'
        omega
    · rw [set_ne j q] at e
      by_cases q' : j' = wk mask h N
      · subst q'
        rw [set_at] at e'
        cases e'
        have := o.lt _ _ e
        omega
      · rw [set_ne j' q'] at e'
        exact o.inj _ _ _ e e'
  · by_cases q : i = n
    · subst q
      rw [hh] at hh'
      cases hh'
      refine ⟨N, by unfold SetTable.turns at *; omega, set_at, fun m hm => ?_⟩
      obtain ⟨i', e⟩ := h5 m hm
      exact ⟨i', keep _ _ e⟩
    · obtain ⟨M, m1, m2, m3⟩ := o.reach i h' (by omega) hh'
      refine ⟨M, m1, keep _ _ m2, fun m hm => ?_⟩
      obtain ⟨i', e⟩ := m3 m hm
      exact ⟨i', keep _ _ e⟩
theorem own_zero (mask : Nat) (hs : List Int) : Own mask hs 0 (Array.replicate (mask + 1) none) := by
  have no : ∀ j i, (Array.replicate (mask + 1) (none : Option Nat))[j]? ≠ some (some i) := fun j i e => by
    rw [Array.getElem?_replicate] at e
    split at e <;> cases e
  exact ⟨by simp, fun j i e => absurd e (no j i), fun j j' i e => absurd e (no j i), fun i h hi => absurd hi (Nat.not_lt_zero _)⟩
theorem fold_own {mask : Nat} (hr : Ring (mask + 1)) : ∀ (rest pre : List Int) (owner : Array (Option Nat)), (pre ++ rest).length ≤ mask → Own mask (pre ++ rest) pre.length owner →
    ∃ owner', rest.foldl (fun (acc : Option (Array (Option Nat) × Nat)) h => acc.bind fun x => (SetTable.layClean.free mask x.1 (SetTable.turns mask) (SetTable.bits h % (mask + 1)) (SetTable.bits h)).bind fun j => some (x.1.setIfInBounds j (some x.2), x.2 + 1)) (some (owner, pre.length)) = some (owner', (pre ++ rest).length) ∧ Own mask (pre ++ rest) (pre ++ rest).length owner'
  | [], pre, owner, _, o => by
    rw [List.append_nil] at o ⊢
    exact ⟨owner, rfl, o⟩
  | h :: rest, pre, owner, hl, o => by
    have hl' : pre.length + (rest.length + 1) ≤ mask := by rw [List.length_append, List.length_cons] at hl; exact hl
    obtain ⟨j, e, o'⟩ := o.step hr (by omega) (h := h) (by rw [List.getElem?_append_right (Nat.le_refl _), Nat.sub_self]; rfl)
    have e1 : pre ++ h :: rest = (pre ++ [h]) ++ rest := by rw [List.append_assoc]; rfl
    have e2 : pre.length + 1 = (pre ++ [h]).length := by rw [List.length_append]; rfl
    rw [e1, e2] at o'
    obtain ⟨owner', f1, f2⟩ := fold_own hr rest (pre ++ [h]) _ (by rw [← e1]; exact hl) o'
    refine ⟨owner', ?_, by rw [e1]; exact f2⟩
    rw [List.foldl_cons, e1, ← f1, ← e2]
    congr 1
    show (SetTable.layClean.free mask owner (SetTable.turns mask) (SetTable.bits h % (mask + 1)) (SetTable.bits h)).bind _ = _
    rw [e]
    rfl
theorem layClean_own {mask : Nat} (hr : Ring (mask + 1)) (hs : Array Int) (hl : hs.size ≤ mask) : ∃ owner, SetTable.layClean mask hs = some owner ∧ Own mask hs.toList hs.size owner := by
  obtain ⟨owner, h1, h2⟩ := fold_own hr hs.toList [] (Array.replicate (mask + 1) none) (by rw [List.nil_append, Array.length_toList]; exact hl) (own_zero mask _)
  rw [List.nil_append, Array.length_toList] at h2
  refine ⟨owner, ?_, h2⟩
  unfold SetTable.layClean
  have h1' : hs.toList.foldl (fun (acc : Option (Array (Option Nat) × Nat)) h => acc.bind fun x => (SetTable.layClean.free mask x.1 (SetTable.turns mask) (SetTable.bits h % (mask + 1)) (SetTable.bits h)).bind fun j => some (x.1.setIfInBounds j (some x.2), x.2 + 1)) (some (Array.replicate (mask + 1) none, 0)) = some (owner, ([] ++ hs.toList).length) := h1
  rw [← Array.foldl_toList]
  have : (hs.toList.foldl (init := some (Array.replicate (mask + 1) (none : Option Nat), 0)) fun acc h => do
    let (owner, k) ← acc
    let j ← SetTable.layClean.free mask owner (SetTable.turns mask) (SetTable.bits h % (mask + 1)) (SetTable.bits h)
    pure (owner.setIfInBounds j (some k), k + 1)) = some (owner, ([] ++ hs.toList).length) := h1'
  rw [this]
  rfl
/-! ### the table that is laid -/
def liveL (mask : Nat) (owner : Array (Option Nat)) : List (Nat × Nat) := (List.range (mask + 1)).filterMap fun j => (owner.getD j none).map (j, ·)
theorem live_mem {mask : Nat} {hs : List Int} {n : Nat} {owner : Array (Option Nat)} (o : Own mask hs n owner) {j i : Nat} : (j, i) ∈ liveL mask owner ↔ owner[j]? = some (some i) := by
  unfold liveL
  rw [List.mem_filterMap]
  constructor
  · rintro ⟨j', hj', e⟩
    obtain ⟨i', e1, e2⟩ := Option.map_eq_some_iff.mp e
    cases e2
    have hlt : j < owner.size := by rw [o.size]; exact List.mem_range.mp hj'
    have : owner.getD j none = owner[j] := by simp [hlt]
    rw [this] at e1
    rw [Array.getElem?_eq_getElem hlt, e1]
  · intro e
    obtain ⟨hlt, e1⟩ := Array.getElem?_eq_some_iff.mp e
    refine ⟨j, List.mem_range.mpr (by rw [← o.size]; exact hlt), ?_⟩
    have : owner.getD j none = owner[j] := by simp [hlt]
    rw [this, e1]
    rfl
theorem live_up (mask : Nat) (owner : Array (Option Nat)) : (liveL mask owner).Pairwise fun a b => a.1 < b.1 := by
  unfold liveL
  refine List.pairwise_filterMap.mpr ((List.pairwise_lt_range).imp ?_)
  intro a b hab x hx y hy
  obtain ⟨i, _, rfl⟩ := Option.map_eq_some_iff.mp hx
  obtain ⟨i', _, rfl⟩ := Option.map_eq_some_iff.mp hy
  exact hab
theorem live_perm {mask : Nat} {hs : List Int} {owner : Array (Option Nat)} (o : Own mask hs hs.length owner) : ((liveL mask owner).map (·.2)).Perm (List.range hs.length) := by
  refine perm_of_nodup ?_ List.nodup_range fun i => ?_
  · refine List.pairwise_map.mpr (List.Pairwise.imp_of_mem ?_ (live_up mask owner))
    intro a b ha hb hab e
    have h1 := (live_mem o).mp ha
    have h2 := (live_mem o).mp hb
    rw [e] at h1
    have := o.inj _ _ _ h1 h2
    omega
  · rw [List.mem_range]
    constructor
    · intro h
      obtain ⟨⟨j, i'⟩, h1, rfl⟩ := List.mem_map.mp h
      exact o.lt _ _ ((live_mem o).mp h1)
    · intro h
      obtain ⟨N, _, e, _⟩ := o.reach i hs[i] h (List.getElem?_eq_getElem h)
      exact List.mem_map.mpr ⟨(_, i), (live_mem o).mpr e, rfl⟩
theorem range_filterMap {α : Type} (l : List α) : (List.range l.length).filterMap (fun i => l[i]?) = l := by
  have : ∀ (n : Nat) (l : List α), n = l.length → (List.range n).filterMap (fun i => l[i]?) = l := by
    intro n
    induction n with
    | zero => intro l h; cases l with | nil => rfl | cons _ _ => simp at h
    | succ n ih =>
      intro l h
      cases l with
      | nil => simp at h
      | cons a l =>
        rw [List.range_succ_eq_map, List.filterMap_cons]
        show a :: _ = _
        rw [List.filterMap_map]
        congr 1
        exact ih l (by simpa using h)
  exact this _ l rfl
section
variable {prog : Program} {w : World} {t : SetTable} {es : Array (Int × Value)} {xs : List (List Key × Addr)}
theorem Tb.laid (T : Tb prog w t es xs) {mask : Nat} (hm : okMask mask) (hl : xs.length ≤ mask) (finger moves : Nat) :
    ∃ t' order xs', SetTable.laid mask finger moves t.led true (es.map (·.1)) = some (t', order) ∧ (order.filterMap (es[·]?)).size = es.size ∧ Tb prog w t' (order.filterMap (es[·]?)) xs' ∧ xs'.Perm xs ∧ t'.mask = mask := by
  obtain ⟨owner, e, o⟩ := layClean_own hm.ring (es.map (·.1)) (by rw [Array.size_map, T.size]; exact hl)
  have hh : (es.map (·.1)).toList = xs.map fun q => (tk prog w).hash q.1 := by
    rw [Array.toList_map, T.eq, List.map_map]
    rfl
  have hsz : (es.map (·.1)).size = xs.length := by rw [Array.size_map, T.size]
  rw [hh, hsz] at o
  have o' : Own mask (xs.map fun q => (tk prog w).hash q.1) (xs.map fun q => (tk prog w).hash q.1).length owner := by rw [List.length_map]; exact o
  have hp := live_perm o'
  rw [List.length_map] at hp
  have hes : ((((liveL mask owner).map (·.2)).toArray).filterMap (es[·]?)).toList = ((liveL mask owner).map (·.2)).filterMap (es.toList[·]?) := by
    rw [Array.toList_filterMap]
    congr 1
    funext i
    exact arr_q es i
  have hxp : (((liveL mask owner).map (·.2)).filterMap (xs[·]?)).Perm xs := by
    have := hp.filterMap (xs[·]?)
    rw [range_filterMap] at this
    exact this
  have heq : ((liveL mask owner).map (·.2)).filterMap (es.toList[·]?) = (((liveL mask owner).map (·.2)).filterMap (xs[·]?)).map fun q => ((tk prog w).hash q.1, Value.ref q.2) := by
    rw [List.map_filterMap]
    congr 1
    funext i
    rw [T.eq, List.getElem?_map]
  -- places in step
  have hgetx : ∀ {c : Nat} {q : List Key × Addr}, (((liveL mask owner).map (·.2)).filterMap (xs[·]?))[c]? = some q → ∃ j i, (liveL mask owner)[c]? = some (j, i) ∧ xs[i]? = some q := by
    have gen : ∀ (l : List (Nat × Nat)), (∀ p ∈ l, p.2 < xs.length) → ∀ {c : Nat} {q : List Key × Addr}, ((l.map (·.2)).filterMap (xs[·]?))[c]? = some q → ∃ j i, l[c]? = some (j, i) ∧ xs[i]? = some q := by
      intro l
      induction l with
      | nil => intro _ c q h; simp at h
      | cons p l ih =>
        intro hlt c q h
        have hp2 := hlt p List.mem_cons_self
        rw [List.map_cons, List.filterMap_cons, List.getElem?_eq_getElem hp2] at h
        cases c with
        | zero =>
          refine ⟨p.1, p.2, rfl, ?_⟩
          rw [List.getElem?_eq_getElem hp2]
          exact h
        | succ c => exact ih (fun p' hp' => hlt p' (List.mem_cons_of_mem _ hp')) (by simpa using h)
    intro c q h
    refine gen _ (fun p hp => ?_) h
    obtain ⟨j, i⟩ := p
    exact o.lt _ _ ((live_mem o).mp hp)
  have hplace : ∀ {c j i : Nat}, (liveL mask owner)[c]? = some (j, i) → (((liveL mask owner).map (·.1)).toArray)[c]? = some j := fun {c j i} h => by
    rw [arr_q]
    show ((liveL mask owner).map (·.1))[c]? = _
    rw [List.getElem?_map, h]
    rfl
  refine ⟨_, _, ((liveL mask owner).map (·.2)).filterMap (xs[·]?), by unfold SetTable.laid; rw [e]; rfl, ?_, ⟨?_, ?_, rfl, ?_, ?_, ?_, hm, ?_, rfl, by exact T.led, ?_⟩, hxp, rfl⟩
  · show ((((liveL mask owner).map (·.2)).toArray).filterMap (es[·]?)).size = es.size
    rw [← Array.length_toList, hes, heq, List.length_map, hxp.length_eq, T.size]
  · exact hes.trans heq
  · rw [(hxp.map (·.1)).nodup_iff]
    exact T.nd
  · intro i j hij hj
    have hj' : j < (liveL mask owner).length := by
      have : (((liveL mask owner).map (·.1)).toArray).size = (liveL mask owner).length := by simp
      rw [← this]; exact hj
    have hi' : i < (liveL mask owner).length := Nat.lt_trans hij hj'
    have := List.pairwise_iff_getElem.mp (live_up mask owner) i j hi' hj' hij
    show (((liveL mask owner).map (·.1)).toArray).getD i 0 < (((liveL mask owner).map (·.1)).toArray).getD j 0
    have g : ∀ {c : Nat} (hc : c < (liveL mask owner).length), (((liveL mask owner).map (·.1)).toArray).getD c 0 = (liveL mask owner)[c].1 := fun {c} hc => (getD_of (hplace (c := c) (j := (liveL mask owner)[c].1) (i := (liveL mask owner)[c].2) (List.getElem?_eq_getElem hc))).2
    rw [g hi', g hj']
    exact this
  · intro c j hc
    have hc' : ((liveL mask owner).map (·.1))[c]? = some j := by rw [arr_q] at hc; exact hc
    rw [List.getElem?_map] at hc'
    obtain ⟨⟨j', i'⟩, h1, rfl⟩ := Option.map_eq_some_iff.mp hc'
    have h2 := (live_mem o).mp (List.mem_of_getElem? h1)
    have := (Array.getElem?_eq_some_iff.mp h2).1
    rw [o.size] at this
    show j' ≤ mask
    omega
  · show (((liveL mask owner).map (·.1)).toArray).size = _
    have h1 : (((liveL mask owner).map (·.1)).toArray).size = (liveL mask owner).length := by simp
    rw [h1, hxp.length_eq]
    have := hp.length_eq
    rw [List.length_map, List.length_range] at this
    exact this
  · rw [hxp.length_eq]
    exact hl
  · intro c q hq
    obtain ⟨j, i, h1, h2⟩ := hgetx hq
    have hi := (List.getElem?_eq_some_iff.mp h2).1
    obtain ⟨N, n1, n2, n3⟩ := o.reach i ((tk prog w).hash q.1) hi (by rw [List.getElem?_map, h2]; rfl)
    have hj := o.inj _ _ _ ((live_mem o).mp (List.mem_of_getElem? h1)) n2
    subst hj
    refine ⟨N, n1, hplace h1, fun m hm' => ?_⟩
    obtain ⟨i', e'⟩ := n3 m hm'
    obtain ⟨c', hc', ec'⟩ := List.mem_iff_getElem.mp ((live_mem o).mpr e')
    exact ⟨c', hplace (by rw [List.getElem?_eq_getElem hc', ec'])⟩
end
end L2


set_option Elab.async false
set_option linter.all false
set_option maxRecDepth 100000
set_option maxHeartbeats 1000000
namespace L2
open PySem PySem.Spec PyProof.Rows
section
variable {prog : Program} {w : World} {t : SetTable} {es : Array (Int × Value)} {xs : List (List Key × Addr)} {A : Around} {E : Value → Shared → Prop} {s : Shared}
/-- at a lies a set of these, room for one more -/
def SetIn (prog : Program) (w : World) (h : Heap) (a : Addr) (xs : List (List Key × Addr)) : Prop := ∃ o es ep t, h.get? a = some o ∧ o.ExactSet ∧ o.data = .set es ep t ∧ Tb prog w t es xs ∧ xs.length * 5 < t.mask * 3
theorem hashByValue_ints {ns : List Int} {b : Addr} {Q : Bool → Shared → Prop} (hk : (tk prog w).is s.heap (ns.map Sum.inl) b) (h : Q true s) : wpAny (model prog w) A (hashByValue 8 (.ref b)) Q E s := by
  have hk' : IsTupleKey (mixKind prog w) s.heap (ns.map Sum.inl) b := hk
  have hT := hk'.typeIs
  obtain ⟨o, items, n, ho, _, hd, hi⟩ := hk'
  have hints : ∀ {ns : List Int} {vs : List Value}, ItemsAre (mixKind prog w) (ns.map Sum.inl) vs → ∀ v ∈ vs, ∃ i t, v = Value.int i t := by
    intro ns
    induction ns with
    | nil => intro vs h v hv; cases h; simp at hv
    | cons n ns ih =>
      intro vs h v hv
      cases h with
      | cons h1 h2 =>
        rcases List.mem_cons.mp hv with rfl | hv
        · have h1' : keyIs (Sum.inl n) v = true := h1
          rcases keyIs_shape h1' with ⟨i, t, _, e⟩ | ⟨x, t, z, _⟩
          · exact ⟨i, t, e⟩
          · cases z
        · exact ih h2 v hv
  unfold hashByValue
  refine wpAny_bind (wpAny_specialOf hT F.slot_tuple_hash.lookup ?_)
  dsimp only
  refine wpAny_bind (wpAny_seqItems ho hd ?_)
  refine wpAny_bind ?_
  show wpAny _ _ (forIn items _ _) _ _ s
  rw [← Array.forIn_toList]
  refine wpAny_forIn_list _ (fun rest r s' => r.1 = none ∧ s' = s ∧ ∀ v ∈ rest, ∃ i t, v = Value.int i t) _ ?_ ?_ _ _ ⟨rfl, rfl, hints hi⟩
  · rintro v rest r s' ⟨hr, rfl, hall⟩
    obtain ⟨i, t, rfl⟩ := hall v List.mem_cons_self
    have e : hashByValue 7 (Value.int i t) = pure true := rfl
    rw [e]
    refine wpAny_bind (wpAny_pure ?_)
    simp only [Bool.not_true, Bool.false_eq_true, if_false]
    exact wpAny_pure ⟨rfl, rfl, fun u hu' => hall u (List.mem_cons_of_mem _ hu')⟩
  · rintro ⟨r1, r2⟩ s' ⟨hr, rfl, _⟩
    simp only at hr
    subst hr
    exact wpAny_pure h
theorem putSet_get {h : Heap} {a : Addr} {o : Obj} {es : Array (Int × Value)} {ep : Nat} {t : SetTable} {es' : Array (Int × Value)} {t' : SetTable} (ho : h.get? a = some o) (hd : o.data = .set es ep t) :
    (h.update a (Obj.putSet es' t')).get? a = some { o with data := .set es' (ep + 1) t' } := by
  have := Heap.get?_update_self (Obj.putSet es' t') ho (by rw [putSet_of es' t' hd]; rfl)
  rw [putSet_of es' t' hd] at this
  exact this
theorem relay_wp {a : Addr} {o : Obj} {ep wanted mask : Nat} {Q : Unit → Shared → Prop} (T : Tb prog w t es xs) (ho : s.heap.get? a = some o) (hx : o.ExactSet) (hd : o.data = .set es ep t) (hw : SetTable.sizeAbove wanted = mask + 1) (hm : okMask mask) (hl : xs.length * 5 < mask * 3)
    (h : ∀ h' xs', Heap.SameBut a s.heap h' → SetIn prog w h' a xs' → xs'.Perm xs → Q () { s with heap := h' }) : wpAny (model prog w) A (setRelay a wanted) Q E s := by
  unfold setRelay
  refine wpAny_bind (wpAny_setState_of ho hd T.fits ?_)
  dsimp only
  have := hm.le
  rw [if_neg (by rw [hw, sizeLine_eq]; omega)]
  obtain ⟨t', order, xs', e, hsz, T', hp, hmk⟩ := T.laid hm (by omega) t.finger (t.movedTo mask)
  have e' : t.relaid (es.map (·.1)) wanted = some (t', order) := by
    unfold SetTable.relaid
    rw [hw, T.plain]
    exact e
  have core : ∀ {R : Array (Int × Value) × SetTable → Shared → Prop}, R (order.filterMap (es[·]?), t') s → wpAny (model prog w) A (do
      let some (t, order) := t.relaid (es.map (·.1)) wanted | unsupported "internal:set-table-without-room"
      let es' := order.filterMap (es[·]?)
      if es'.size != es.size then unsupported "internal:set-table-lost-an-element"
      pure (es', t)) R E s := fun {R} hR => by
    rw [e']
    dsimp only
    rw [hsz]
    simp only [bne_self_eq_false, Bool.false_eq_true, if_false]
    first | exact wpAny_pure hR | exact wpAny_bind (wpAny_pure (wpAny_pure hR))
  refine wpAny_bind (core ?_)
  refine wpAny_storeSet_of ho hd ?_ (by rw [hsz, T.size, sizeLine_eq]; omega)
  refine h _ xs' (Heap.SameBut.update _ a _) ⟨_, _, _, t', putSet_get ho hd, hx, rfl, T', ?_⟩ hp
  rw [hp.length_eq, hmk]
  exact hl
theorem add_wp {a b : Addr} {ns : List Int} {Q : Bool → Shared → Prop} (hu : A.units < cLine) (S : SetIn prog w s.heap a xs) (hk : (tk prog w).is s.heap (ns.map Sum.inl) b) (hel : ∀ q ∈ xs, (tk prog w).is s.heap q.1 q.2) (hn : xs.length < 300)
    (h : ∀ r h' n xs', Heap.SameBut a s.heap h' → SetIn prog w h' a xs' → ((ns.map Sum.inl) ∈ xs.map (·.1) → xs' = xs) → ((ns.map Sum.inl) ∉ xs.map (·.1) → xs'.Perm ((ns.map Sum.inl, b) :: xs)) → Q r { s with heap := h', toks := n }) :
    wpAny (model prog w) A (setAdd a (.ref b)) Q E s := by
  obtain ⟨o, es, ep, t, ho, hx, hd, T, hroom⟩ := S
  unfold setAdd
  refine wpAny_holding (wpAny_bind ((tk prog w).pyHash hu hk ?_))
  unfold setAddHashed
  refine wpAny_holding ?_
  rw [show (100000 : Nat) = 99999 + 1 from rfl]
  unfold setAddHashedIn
  refine wpAny_bind (wpAny_setState_of (s := { s with toks := s.toks + (tk prog w).draws (ns.map Sum.inl) }) ho hd T.fits ?_)
  dsimp only
  rw [show byScan (.ref b) es = false from rfl]
  simp only [Bool.false_eq_true, if_false]
  unfold setSearch
  have hm := T.msk.le
  have htl : t.fill = xs.length := by unfold SetTable.fill; rw [T.sz, T.dm]; rfl
  refine wpAny_bind (search_wp (s := { s with toks := s.toks + (tk prog w).draws (ns.map Sum.inl) }) hu T hk hel ho hd ?found ?free 100000 0 none rfl (by unfold SetTable.turns; omega) (Nat.zero_le _) (fun m hm => absurd hm (Nat.not_lt_zero _)))
  case found =>
    intro r i q hq hqk _
    dsimp only
    have hmem : (ns.map Sum.inl) ∈ xs.map (·.1) := List.mem_map.mpr ⟨q, List.mem_of_getElem? hq, hqk⟩
    exact wpAny_pure (h false s.heap _ xs (Heap.SameBut.refl a s.heap) ⟨o, es, ep, t, ho, hx, hd, T, hroom⟩ (fun _ => rfl) (fun z => absurd hmem z))
  case free =>
    intro N hN he hp
    have hnm : (ns.map Sum.inl) ∉ xs.map (·.1) := fun z => by
      obtain ⟨q, hq, hqk⟩ := List.mem_map.mp z
      obtain ⟨i, hi⟩ := List.mem_iff_getElem?.mp hq
      obtain ⟨n, h1, h2, h3⟩ := T.reach i q hi
      rw [hqk] at h2 h3
      rcases Nat.lt_trichotomy N n with z | z | z
      · obtain ⟨i', e⟩ := h3 N z
        exact he i' e
      · subst z; exact he i h2
      · obtain ⟨i', q', e1, e2, e3⟩ := hp n z
        have : i' = i := by
          have a1 := slot_live T.ris e1
          have a2 := slot_live T.ris h2
          rw [a1] at a2
          cases a2
          rfl
        subst this
        rw [hi] at e2
        cases e2
        exact e3 hqk
    dsimp only
    refine wpAny_bind (wpAny_setState_of (s := { s with toks := s.toks + (tk prog w).draws (ns.map Sum.inl) }) ho hd T.fits ?_)
    dsimp only
    have hwle : wk t.mask ((tk prog w).hash (ns.map Sum.inl)) N ≤ t.mask := by
      have : ∀ (h : Int) (n : Nat), wk t.mask h n ≤ t.mask ∧ (stp t.mask h n).j + (stp t.mask h n).more ≤ t.mask := by
        intro h n
        induction n with
        | zero =>
          have h0 : SetTable.bits h % (t.mask + 1) ≤ t.mask := Nat.le_of_lt_succ (Nat.mod_lt _ (Nat.succ_pos _))
          obtain ⟨r1, r2⟩ := runEnd_le h0
          refine ⟨h0, ?_⟩
          show SetTable.bits h % (t.mask + 1) + (SetTable.runEnd t.mask (SetTable.bits h % (t.mask + 1)) - SetTable.bits h % (t.mask + 1)) ≤ t.mask
          omega
        | succ n ih =>
          show ((tm t.mask).advance (stp t.mask h n)).j ≤ t.mask ∧ ((tm t.mask).advance (stp t.mask h n)).j + ((tm t.mask).advance (stp t.mask h n)).more ≤ t.mask
          by_cases hmr : 0 < (stp t.mask h n).more
          · rw [adv_more _ _ hmr]
            show (stp t.mask h n).j + 1 ≤ t.mask ∧ (stp t.mask h n).j + 1 + ((stp t.mask h n).more - 1) ≤ t.mask
            omega
          · rw [adv_leap _ _ (by omega)]
            have h0 : ((stp t.mask h n).i * 5 + 1 + (stp t.mask h n).perturb / 32) % (t.mask + 1) ≤ t.mask := Nat.le_of_lt_succ (Nat.mod_lt _ (Nat.succ_pos _))
            obtain ⟨r1, r2⟩ := runEnd_le h0
            refine ⟨h0, ?_⟩
            dsimp only
            omega
      exact (this _ _).1
    obtain ⟨xs1, T1, hp1⟩ := T.put (b := b) hN he hp hnm (by omega) hwle
    generalize hput : t.put (wk t.mask ((tk prog w).hash (ns.map Sum.inl)) N) = tp at T1
    obtain ⟨t1, p⟩ := tp
    dsimp only at T1 ⊢
    have hmk : t1.mask = t.mask := by
      have : t1 = (t.put (wk t.mask ((tk prog w).hash (ns.map Sum.inl)) N)).1 := by rw [hput]
      rw [this]
      rfl
    rw [T1.plain]
    simp only [if_true]
    refine wpAny_bind (hashByValue_ints (s := { s with toks := s.toks + (tk prog w).draws (ns.map Sum.inl) }) hk ?_)
    simp only [if_true]
    have hl1 := hp1.length_eq
    rw [List.length_cons] at hl1
    refine wpAny_bind (wpAny_storeSet_of (s := { s with toks := s.toks + (tk prog w).draws (ns.map Sum.inl) }) ho hd ?_ (by rw [T1.size, sizeLine_eq]; omega))
    have g1 := putSet_get (es' := SetTable.insertAt es p ((tk prog w).hash (ns.map Sum.inl), .ref b)) (t' := t1) ho hd
    have sb1 := Heap.SameBut.update s.heap a (Obj.putSet (SetTable.insertAt es p ((tk prog w).hash (ns.map Sum.inl), .ref b)) t1)
    simp only [Bool.not_false, Bool.true_and]
    have htl1 : t1.fill = xs.length + 1 := by unfold SetTable.fill; rw [T1.sz, T1.dm, hl1]; rfl
    by_cases hf : t1.tooFull = true
    · rw [if_pos hf]
      unfold SetTable.tooFull at hf
      rw [htl1, hmk] at hf
      have hf' := of_decide_eq_true hf
      rw [T.size]
      have next : ∃ mask, SetTable.sizeAbove (SetTable.grown (xs.length + 1)) = mask + 1 ∧ okMask mask ∧ (xs.length + 1) * 5 < mask * 3 := by
        rcases T.msk with e | e | e | e
        · rw [e] at hf' hroom
          have : xs.length = 4 := by omega
          rw [this]
          exact ⟨31, by decide, .inr (.inl rfl), by omega⟩
        · rw [e] at hf' hroom
          have : xs.length = 18 := by omega
          rw [this]
          exact ⟨127, by decide, .inr (.inr (.inl rfl)), by omega⟩
        · rw [e] at hf' hroom
          have : xs.length = 76 := by omega
          rw [this]
          exact ⟨511, by decide, .inr (.inr (.inr rfl)), by omega⟩
        · rw [e] at hf' hroom
          omega
      obtain ⟨mask, m1, m2, m3⟩ := next
      refine wpAny_bind (relay_wp (s := { s with heap := s.heap.update a (Obj.putSet (SetTable.insertAt es p ((tk prog w).hash (ns.map Sum.inl), .ref b)) t1), toks := s.toks + (tk prog w).draws (ns.map Sum.inl) }) T1 g1 hx rfl m1 m2 (by rw [hl1]; exact m3) fun h' xs2 sb2 S2 hp2 => ?_)
      exact wpAny_pure (h true h' _ xs2 (sb1.trans sb2) S2 (fun z => absurd z hnm) fun _ => hp2.trans hp1)
    · rw [if_neg hf]
      unfold SetTable.tooFull at hf
      rw [htl1, hmk] at hf
      have hf' : ¬ ((xs.length + 1) * 5 ≥ t.mask * 3) := fun z => hf (decide_eq_true z)
      refine wpAny_pure (h true _ _ xs1 sb1 ⟨_, _, _, t1, g1, hx, rfl, T1, ?_⟩ (fun z => absurd z hnm) fun _ => hp1)
      rw [hl1, hmk]
      omega
end
end L2


set_option Elab.async false
set_option linter.all false
set_option maxRecDepth 100000
set_option maxHeartbeats 1000000
namespace L2
open PySem PySem.Spec PyProof.Rows PySem.W
/-! ### going over a set -/
theorem slot_setiter_next : Slot "set_iterator" "__next__" "set_iterator.__next__" :=
  .of (owner := "set_iterator") (n := "__next__") (by rw [typeLookup_type, builtinLookup_eq_fast]; kernel_rfl) (by decide +kernel) (by decide +kernel) (by decide +kernel)
    (by first | exact .inl (by decide +kernel) | exact .inr (by decide +kernel)) (by rw [isSubtype_type]; kernel_rfl)
theorem slot_setiter_iter : Slot "set_iterator" "__iter__" "set_iterator.__iter__" :=
  .of (owner := "set_iterator") (n := "__iter__") (by rw [typeLookup_type, builtinLookup_eq_fast]; kernel_rfl) (by decide +kernel) (by decide +kernel) (by decide +kernel)
    (by first | exact .inl (by decide +kernel) | exact .inr (by decide +kernel)) (by rw [isSubtype_type]; kernel_rfl)
theorem entry_setiter_next : entryFor table "set_iterator.__next__" = some Builtin.«set_iterator.__next__» := entryFor_of_tree (by kernel_rfl)
theorem entry_setiter_iter : entryFor table "set_iterator.__iter__" = some Builtin.«dict_keyiterator.__iter__» := entryFor_alias (id' := "dict_keyiterator.__iter__") (by kernel_rfl) rfl (by decide +kernel) (by kernel_rfl)
theorem entry_set_iter : entryFor table "set.__iter__" = some Builtin.«frozenset.__iter__» := entryFor_alias (id' := "frozenset.__iter__") (by kernel_rfl) rfl (by decide +kernel) (by kernel_rfl)
theorem args_setiter_next (a : Value) : argsOk "set_iterator.__next__" ⟨[a], []⟩ := by unfold argsOk; kernel_rfl
theorem args_setiter_iter (a : Value) : argsOk "set_iterator.__iter__" ⟨[a], []⟩ := by unfold argsOk; kernel_rfl
end L2


set_option Elab.async false
set_option linter.all false
set_option maxRecDepth 100000
set_option maxHeartbeats 1000000
namespace L2
open PySem PySem.Spec PyProof.Rows PySem.W
theorem go_perm {α : Type} (next : Nat → Nat) : ∀ (n k : Nat) (left : List α) (out : Array α), left.length = n → (pickOrder.go next n k left out).toList.Perm (out.toList ++ left)
  | 0, k, left, out, h => by
    have : left = [] := List.eq_nil_of_length_eq_zero h
    subst this
    show out.toList.Perm (out.toList ++ [])
    rw [List.append_nil]
  | n + 1, k, left, out, h => by
    have hlt : next k % left.length < left.length := Nat.mod_lt _ (by omega)
    show (match left[next k % left.length]? with
      | some x => pickOrder.go next n (k + 1) (left.eraseIdx (next k % left.length)) (out.push x)
      | none => out).toList.Perm _
    rw [List.getElem?_eq_getElem hlt]
    refine (go_perm next n (k + 1) _ _ (by rw [List.length_eraseIdx_of_lt hlt]; omega)).trans ?_
    rw [Array.toList_push, List.append_assoc]
    refine List.Perm.append_left _ ?_
    have e : left = left.take (next k % left.length) ++ left[next k % left.length] :: left.drop (next k % left.length + 1) := by
      rw [← List.drop_eq_getElem_cons hlt]
      exact (List.take_append_drop _ _).symm
    rw [List.eraseIdx_eq_take_drop_succ]
    refine List.Perm.trans ?_ (List.Perm.of_eq e.symm)
    rw [List.singleton_append]
    exact List.perm_middle.symm
theorem pick_perm {α : Type} (next : Nat → Nat) (xs : Array α) : (pickOrder next xs).toList.Perm xs.toList := by
  show (pickOrder.go next xs.size 0 xs.toList #[]).toList.Perm _
  have := go_perm next xs.size 0 xs.toList #[] (Array.length_toList)
  rwa [show (#[] : Array α).toList ++ xs.toList = xs.toList from rfl] at this
section
variable {prog : Program} {w : World} {t : SetTable} {es : Array (Int × Value)} {xs : List (List Key × Addr)} {A : Around} {E : Value → Shared → Prop} {s : Shared}
/-- the order in which it is gone over -/
def ordE (w : World) (a : Addr) (ep : Nat) (es : Array (Int × Value)) : Array (Int × Value) := if w.params.followText "set-order" then pickOrder (w.params.setOrder a ep) es else es
theorem ordE_perm (a : Addr) (ep : Nat) : (ordE w a ep es).toList.Perm es.toList := by
  unfold ordE
  split
  · exact pick_perm _ _
  · exact List.Perm.refl _
def IsSetIter (h : Heap) (it a : Addr) (slot i n ep : Nat) : Prop := ∃ o, h.get? it = some o ∧ o.cls = .type "set_iterator" ∧ o.data = .fields #[.int slot 0, .int i 0, .ref a, .int n 0, .int ep 0]
theorem IsSetIter.typeIs {it a : Addr} {slot i n ep : Nat} (x : IsSetIter s.heap it a slot i n ep) : s.TypeIs (.ref it) "set_iterator" := let ⟨o, ho, hc, _⟩ := x; ⟨o, ho, hc⟩
/-- the set as it is -/
structure SetIs (prog : Program) (w : World) (h : Heap) (a : Addr) (es : Array (Int × Value)) (ep : Nat) (t : SetTable) (xs : List (List Key × Addr)) : Prop where
  ob : ∃ o, h.get? a = some o ∧ o.ExactSet ∧ o.data = .set es ep t
  tb : Tb prog w t es xs
theorem next_item {it a : Addr} {slot i ep : Nat} {e : Int × Value} {Q : Option Value → Shared → Prop} (hit : IsSetIter s.heap it a slot i es.size ep) (S : SetIs prog w s.heap a es ep t xs)
    (hs : w.params.followText "set-order" = true ∨ SetTable.below t.place slot = i) (hx : (ordE w a ep es)[i]? = some e)
    (hQ : ∀ h' slot', IsSetIter h' it a slot' (i + 1) es.size ep → (w.params.followText "set-order" = true ∨ SetTable.below t.place slot' = i + 1) → Heap.SameBut it s.heap h' → Q (some e.2) { s with heap := h' }) : wpAny (model prog w) A (pyNext (.ref it)) Q E s := by
  obtain ⟨o, ho, hc, hd⟩ := id hit
  obtain ⟨⟨os, hos, _, hds⟩, T⟩ := S
  have hf := T.fits
  unfold pyNext
  refine wpAny_bind (wpAny_attempt (wpAny_callSpecial?_slot (name := Str.ofString "__next__") hit.typeIs slot_setiter_next
    (wpAny_call_entry slot_setiter_next hit.typeIs entry_setiter_next ?_ (args_setiter_next _))))
  refine wpAny_bind (wpAny_pure ?_)
  refine wpAny_bind (wpAny_fieldsOf ho hd ?_)
  dsimp only
  refine wpAny_bind (wpAny_setEntries_of hos hds hf ?_)
  rw [if_neg (by simp)]
  have upd2 : ∀ slot' : Nat, ∃ h', IsSetIter h' it a slot' (i + 1) es.size ep ∧ Heap.SameBut it s.heap h' ∧ ∀ {A' : Around} {E' : Value → Shared → Prop} {α : Type} {f : Sem α} {R : α → Shared → Prop}, wpAny (model prog w) A' f R E' { s with heap := h' } → wpAny (model prog w) A' (do setField (.ref it) 0 (rawInt slot'); setField (.ref it) 1 (rawInt ((i : Int) + 1)); f) R E' s := by
    intro slot'
    have h1 : (s.heap.update it (Obj.mapFields (·.setIfInBounds 0 (rawInt slot')))).get? it = some (Obj.mapFields (·.setIfInBounds 0 (rawInt slot')) o) := Heap.get?_update_self _ ho (Obj.isFreed_of_fields (Obj.data_mapFields hd _))
    have hd1 : (Obj.mapFields (·.setIfInBounds 0 (rawInt slot')) o).data = .fields #[.int slot' 0, .int i 0, .ref a, .int es.size 0, .int ep 0] := by rw [Obj.data_mapFields hd]; simp [rawInt]
    refine ⟨(s.heap.update it (Obj.mapFields (·.setIfInBounds 0 (rawInt slot')))).update it (Obj.mapFields (·.setIfInBounds 1 (rawInt ((i : Int) + 1)))), ⟨_, Heap.get?_update_self _ h1 (Obj.isFreed_of_fields (Obj.data_mapFields hd1 _)), ?_, ?_⟩, (Heap.SameBut.update ..).trans (Heap.SameBut.update ..), fun {A' E' α f R} hR => ?_⟩
    · rw [Obj.cls_mapFields, Obj.cls_mapFields]; exact hc
    · rw [Obj.data_mapFields hd1]; simp [rawInt]
    · exact wpAny_bind (wpAny_setField ho hd (by simp) (wpAny_bind (wpAny_setField (s := { s with heap := s.heap.update it (Obj.mapFields (·.setIfInBounds 0 (rawInt slot'))) }) h1 hd1 (by simp) hR)))
  unfold setNext
  cases hb : w.params.followText "set-order" with
  | true =>
    have hx' : (pickOrder (w.params.setOrder a ep) es)[i]? = some e := by
      unfold ordE at hx
      rw [if_pos hb] at hx
      exact hx
    obtain ⟨h', hi', sb', step⟩ := upd2 slot
    refine wpAny_bind ?_
    refine wpAny_bind (wpAny_setState_of hos hds hf ?_)
    dsimp only
    unfold setsByText
    refine wpAny_bind (wpAny_bind (wpAny_askSetting (wpAny_pure ?_)))
    rw [show (model prog w).w = w from rfl, hb]
    simp only [if_true]
    rw [if_neg (by simp)]
    unfold setWalk
    refine wpAny_bind ?_
    refine wpAny_bind (wpAny_setState_of hos hds hf ?_)
    dsimp only
    unfold setsByText
    refine wpAny_bind (wpAny_bind (wpAny_askSetting (wpAny_pure ?_)))
    rw [show (model prog w).w = w from rfl, hb]
    simp only [if_true]
    refine wpAny_bind (wpAny_askSetting (wpAny_pure ?_))
    refine wpAny_pure ?_
    rw [show (model prog w).w = w from rfl]
    simp only [Int.toNat_natCast]
    rw [hx']
    dsimp only [Option.map]
    exact step (wpAny_pure ⟨_, rfl, wpAny_pure (hQ h' slot hi' (.inl hb) sb')⟩)
  | false =>
    have hx' : es[i]? = some e := by
      unfold ordE at hx
      rw [if_neg (by rw [hb]; exact Bool.false_ne_true)] at hx
      exact hx
    have hsl : SetTable.below t.place slot = i := by
      rcases hs with z | z
      · rw [hb] at z; cases z
      · exact z
    have hi : i < es.size := (Array.getElem?_eq_some_iff.mp hx').1
    have hpl : t.place[i]? = some (t.place.getD i 0) := getq_of (by rw [T.sz, ← T.size]; exact hi)
    obtain ⟨h', hi', sb', step⟩ := upd2 (t.place.getD i 0 + 1)
    refine wpAny_bind ?_
    refine wpAny_bind (wpAny_setState_of hos hds hf ?_)
    dsimp only
    unfold setsByText
    refine wpAny_bind (wpAny_bind (wpAny_askSetting (wpAny_pure ?_)))
    rw [show (model prog w).w = w from rfl, hb]
    simp only [Bool.false_eq_true, if_false]
    rw [if_neg (by show ¬ ((!t.plain && decide (es.size > 1)) = true); rw [T.plain]; simp)]
    refine wpAny_bind ?_
    show wpAny _ _ (if (!t.led && !es.isEmpty) = true then unsupported "set:maker-not-led" else pure ()) _ _ s
    rw [if_neg (by rw [T.led, hb]; simp)]
    refine wpAny_pure ?_
    simp only [Int.toNat_natCast]
    rw [hsl, hx', hpl]
    refine wpAny_pure ?_
    dsimp only
    refine step (wpAny_pure ⟨_, rfl, wpAny_pure (hQ h' _ hi' (.inr ?_) sb')⟩)
    -- the next slot
    obtain ⟨b1, b2, b3⟩ := below_spec T.ris (t.place.getD i 0 + 1)
    have hi2 := (getD_of hpl).1
    rcases Nat.lt_trichotomy (SetTable.below t.place (t.place.getD i 0 + 1)) (i + 1) with z | z | z
    · have := b3 i (by omega) hi2
      omega
    · exact z
    · have h1 := b2 (i + 1) z
      have h2 := T.ris i (i + 1) (Nat.lt_succ_self i) (by omega)
      omega
theorem next_end {it a : Addr} {slot ep : Nat} {Q : Option Value → Shared → Prop} (hh : A.handled = none) (hit : IsSetIter s.heap it a slot es.size es.size ep) (S : SetIs prog w s.heap a es ep t xs)
    (hs : w.params.followText "set-order" = true ∨ SetTable.below t.place slot = es.size)
    (hQ : ∀ h', Heap.ExtBut it s.heap h' → Q none { s with heap := h' }) : wpAny (model prog w) A (pyNext (.ref it)) Q E s := by
  obtain ⟨o, ho, hc, hd⟩ := id hit
  obtain ⟨⟨os, hos, _, hds⟩, T⟩ := S
  have hf := T.fits
  unfold pyNext
  refine wpAny_bind (wpAny_attempt (wpAny_callSpecial?_slot (name := Str.ofString "__next__") hit.typeIs slot_setiter_next
    (wpAny_call_entry slot_setiter_next hit.typeIs entry_setiter_next ?_ (args_setiter_next _))))
  refine wpAny_bind (wpAny_pure ?_)
  refine wpAny_bind (wpAny_fieldsOf ho hd ?_)
  dsimp only
  refine wpAny_bind (wpAny_setEntries_of hos hds hf ?_)
  rw [if_neg (by simp)]
  unfold setNext
  refine wpAny_bind ?_
  refine wpAny_bind (wpAny_setState_of hos hds hf ?_)
  dsimp only
  unfold setsByText
  refine wpAny_bind (wpAny_bind (wpAny_askSetting (wpAny_pure ?_)))
  cases hb : w.params.followText "set-order" with
  | true =>
    rw [show (model prog w).w = w from rfl, hb]
    simp only [if_true]
    rw [if_neg (by simp)]
    unfold setWalk
    refine wpAny_bind ?_
    refine wpAny_bind (wpAny_setState_of hos hds hf ?_)
    dsimp only
    unfold setsByText
    refine wpAny_bind (wpAny_bind (wpAny_askSetting (wpAny_pure ?_)))
    rw [show (model prog w).w = w from rfl, hb]
    simp only [if_true]
    refine wpAny_bind (wpAny_askSetting (wpAny_pure ?_))
    refine wpAny_pure ?_
    rw [show (model prog w).w = w from rfl]
    simp only [Int.toNat_natCast]
    have hn : (pickOrder (w.params.setOrder a ep) es)[es.size]? = none := by
      rw [arr_q]
      refine List.getElem?_eq_none ?_
      rw [(pick_perm _ es).length_eq, Array.length_toList]
      exact Nat.le_refl _
    rw [hn]
    dsimp only [Option.map]
    refine wpAny_bind (wpAny_setField ho hd (by simp) ?_)
    show wpAny _ _ (newExc (.type "StopIteration") [] >>= _) _ _ _
    refine wpAny_bind ?_
    simp only [newExc, newTuple]
    refine wpAny_bind (wpAny_newObj_type ?_ (by size_fits))
    refine wpAny_bind (m := firstArgMember _ _) (wpAny_of_eq (a := Value.none) (by first | rfl | (simp only [firstArgMember]; rfl)) ?_)
    refine wpAny_newObj_type ?_ (by size_fits)
    simp only [raiseNew]
    refine wpAny_bind (wpAny_handled ?_)
    rw [show A.in1.handled = none from hh]
    refine wpAny_bind (wpAny_pure (wpAny_throw ?_))
    refine wpAny_bind (wpAny_isInstance (T := "StopIteration") (b := true) ⟨_, Heap.get?_push_size _ rfl, rfl⟩ isSubtype_stop ?_)
    exact wpAny_pure (hQ _ (((Heap.SameBut.update ..).extBut.push _).push _))
  | false =>
    have hsl : SetTable.below t.place slot = es.size := by
      rcases hs with z | z
      · rw [hb] at z; cases z
      · exact z
    rw [show (model prog w).w = w from rfl, hb]
    simp only [Bool.false_eq_true, if_false]
    rw [if_neg (by show ¬ ((!t.plain && decide (es.size > 1)) = true); rw [T.plain]; simp)]
    refine wpAny_bind ?_
    show wpAny _ _ (if (!t.led && !es.isEmpty) = true then unsupported "set:maker-not-led" else pure ()) _ _ s
    rw [if_neg (by rw [T.led, hb]; simp)]
    refine wpAny_pure ?_
    simp only [Int.toNat_natCast]
    rw [hsl, Array.getElem?_eq_none (Nat.le_refl _)]
    refine wpAny_pure ?_
    dsimp only
    refine wpAny_bind (wpAny_setField ho hd (by simp) ?_)
    show wpAny _ _ (newExc (.type "StopIteration") [] >>= _) _ _ _
    refine wpAny_bind ?_
    simp only [newExc, newTuple]
    refine wpAny_bind (wpAny_newObj_type ?_ (by size_fits))
    refine wpAny_bind (m := firstArgMember _ _) (wpAny_of_eq (a := Value.none) (by first | rfl | (simp only [firstArgMember]; rfl)) ?_)
    refine wpAny_newObj_type ?_ (by size_fits)
    simp only [raiseNew]
    refine wpAny_bind (wpAny_handled ?_)
    rw [show A.in1.handled = none from hh]
    refine wpAny_bind (wpAny_pure (wpAny_throw ?_))
    refine wpAny_bind (wpAny_isInstance (T := "StopIteration") (b := true) ⟨_, Heap.get?_push_size _ rfl, rfl⟩ isSubtype_stop ?_)
    exact wpAny_pure (hQ _ (((Heap.SameBut.update ..).extBut.push _).push _))
theorem iter_self {it a : Addr} {slot i n ep : Nat} {Q : Value → Shared → Prop} (hit : IsSetIter s.heap it a slot i n ep) (h : Q (.ref it) s) : wpAny (model prog w) A (pyIter (.ref it)) Q E s := by
  refine wpAny_pyIter_slot hit.typeIs slot_setiter_iter (wpAny_call_entry slot_setiter_iter hit.typeIs entry_setiter_iter ?_ (args_setiter_iter _))
  show wpAny _ _ (ret (.ref it)) _ _ s
  exact wpAny_pure ⟨_, rfl, "set_iterator", _, hit.typeIs, slot_setiter_next.lookup, h⟩
theorem SetIs.typeIs {a : Addr} {ep : Nat} (S : SetIs prog w s.heap a es ep t xs) : s.TypeIs (.ref a) "set" := let ⟨o, ho, hc, _⟩ := S.ob; ⟨o, ho, hc.1⟩
theorem iter_new {a : Addr} {ep : Nat} {Q : Value → Shared → Prop} (S : SetIs prog w s.heap a es ep t xs)
    (h : Q (.ref s.heap.objs.size) { s with heap := s.heap.push { cls := .type "set_iterator", data := .fields #[.int 0 0, .int 0 0, .ref a, .int es.size 0, .int ep 0] } }) : wpAny (model prog w) A (pyIter (.ref a)) Q E s := by
  have hT := S.typeIs
  obtain ⟨⟨os, hos, hx, hds⟩, T⟩ := S
  have hf := T.fits
  refine wpAny_pyIter_slot hT F.slot_set_iter (wpAny_call_entry F.slot_set_iter hT entry_set_iter ?_ (F.args_set_iter_1 _))
  unfold Builtin.«frozenset.__iter__»
  refine wpAny_bind (m := Builtin.Frozenset.slot0 "__iter__" ⟨[.ref a], []⟩) (wpAny_pure ?_)
  refine wpAny_bind ?_
  unfold Builtin.Frozenset.sizeOf
  refine wpAny_bind (wpAny_setEntries_of hos hds hf (wpAny_pure ?_))
  refine wpAny_bind ?_
  unfold setDrawn
  refine wpAny_bind (wpAny_setState_of hos hds hf ?_)
  dsimp only
  unfold setsByText
  refine wpAny_bind (wpAny_bind (wpAny_askSetting (wpAny_pure ?_)))
  refine wpAny_pure ?_
  rw [if_neg (by show ¬ ((!_ && (!t.plain && decide (es.size > 1))) = true); rw [T.plain]; simp)]
  refine wpAny_bind (wpAny_pure ?_)
  refine wpAny_bind (wpAny_setEpoch_of hos hds hf ?_)
  refine wpAny_bind (wpAny_newObj_type (wpAny_pure ⟨_, rfl, "set_iterator", _, ⟨_, Heap.get?_push_size _ rfl, rfl⟩, slot_setiter_next.lookup, ?_⟩))
  simpa [rawInt] using h
end
end L2


set_option Elab.async false
set_option linter.all false
set_option maxRecDepth 100000
set_option maxHeartbeats 1000000
namespace L2
open PySem PySem.Spec PyProof.Rows PySem.W PySem.Calls
section
variable {prog : Program} {w : World} {t : SetTable} {es : Array (Int × Value)} {xs : List (List Key × Addr)} {A : Around} {E : Value → Shared → Prop} {s : Shared}
theorem set_hint {r : Addr} {Q : Bool → Shared → Prop} (hT : s.TypeIs (.ref r) "set") (h : Q false s) : wpAny (model prog w) A (Builtin.List.listLengthHint (.ref r)) Q E s := by
  unfold Builtin.List.listLengthHint
  refine wpAny_bind (wpAny_specialOf hT PySem.F.slot_set_len.lookup ?_)
  generalize hid : ("set.__len__" : String) = id0
  wp_delta
  rw [show splitId id0 = some ("set", "__len__") from by subst hid; decide +kernel]
  subst hid
  refine wpAny_bind (wpAny_isInstance (T := "set") (b := true) hT (by rw [isSubtype_type]; kernel_rfl) ?_)
  refine wpAny_ite_split (fun hab => absurd hab (by decide)) (fun _ => ?_)
  refine wpAny_ite_split (fun _ => ?_) (fun hab => absurd (by decide +kernel) hab)
  refine wpAny_bind (wpAny_typeOf hT ?_)
  exact wpAny_pure h
theorem SetIs.keep {h h' : Heap} {a : Addr} {ep : Nat} (S : SetIs prog w h a es ep t xs) (k : ∀ o, h.get? a = some o → h'.get? a = some o) : SetIs prog w h' a es ep t xs := let ⟨⟨o, ho, r⟩, T⟩ := S; ⟨⟨o, k o ho, r⟩, T⟩
theorem IsSetIter.keep {h h' : Heap} {it a : Addr} {slot i n ep : Nat} (S : IsSetIter h it a slot i n ep) (k : ∀ o, h.get? it = some o → h'.get? it = some o) : IsSetIter h' it a slot i n ep := let ⟨o, ho, r⟩ := S; ⟨o, k o ho, r⟩
theorem SetIs.lt {h : Heap} {a : Addr} {ep : Nat} (S : SetIs prog w h a es ep t xs) : a < h.objs.size := let ⟨⟨o, ho, _⟩, _⟩ := S; Heap.lt_size ho
theorem set_walks (hh : A.handled = none) (I a : Addr) (hne : a ≠ I) (ep : Nat) :
    Walks prog w A I [I, a] [I] es.size (fun i v => ∃ e, (ordE w a ep es)[i]? = some e ∧ v = e.2) (fun i h => (∃ slot, IsSetIter h I a slot i es.size ep ∧ (w.params.followText "set-order" = true ∨ SetTable.below t.place slot = i)) ∧ SetIs prog w h a es ep t xs) where
  sub := fun b hb => by simp at hb; simp [hb]
  frame := fun _ _ _ st hk => ⟨let ⟨sl, x, y⟩ := st.1; ⟨sl, x.keep fun o e => hk I (by simp) o e, y⟩, st.2.keep fun o e => hk a (by simp) o e⟩
  item := fun i s Q E hi st hQ => by
    obtain ⟨⟨sl, hit, hs⟩, S⟩ := st
    have hlt : i < (ordE w a ep es).size := by
      have := (ordE_perm (w := w) (es := es) a ep).length_eq
      rw [Array.length_toList, Array.length_toList] at this
      omega
    refine next_item hit S hs (e := (ordE w a ep es)[i]) (Array.getElem?_eq_getElem hlt) fun h' slot' hit' hs' sb => ?_
    exact hQ _ h' s.toks ⟨_, Array.getElem?_eq_getElem hlt, rfl⟩ ⟨⟨slot', hit', hs'⟩, S.keep fun o e => (sb.2 a hne).trans e⟩ fun b o hb e => sb.extBut b o (fun h => hb (by simp [h])) e
  done := fun s Q E st hQ => by
    obtain ⟨⟨sl, hit, hs⟩, S⟩ := st
    exact next_end hh hit S hs fun h' he' => hQ h' s.toks fun b o hb e => he' b o (fun h => hb (by simp [h])) e
  self := fun _ _ _ _ st hQ => let ⟨sl, x, _⟩ := st.1; iter_self x hQ
theorem set_src (a : Addr) (ep : Nat) : KdlSrc prog w "set" a a es.size (fun i v => ∃ e, (ordE w a ep es)[i]? = some e ∧ v = e.2) (fun h => SetIs prog w h a es ep t xs) where
  type := fun s S => S.typeIs
  there := fun _ S => ⟨S.lt, S.lt⟩
  keep := fun _ _ S hk => S.keep fun o e => hk a (.inl rfl) o e
  notList := by decide
  notTuple := by decide
  hint := fun _ _ _ _ S hq => set_hint S.typeIs hq
  iter := fun A s hh S => ⟨_, _, (fun _ _ hq => iter_new S hq), set_walks hh _ a (Nat.ne_of_lt S.lt) ep, ⟨⟨0, ⟨_, Heap.get?_push_size _ rfl, rfl, rfl⟩, .inr ?_⟩, S.keep fun o e => Heap.get?_push_of_some _ e⟩⟩
where finally
  have b := below_spec S.tb.ris 0
  rcases Nat.eq_zero_or_pos (SetTable.below t.place 0) with z | z
  · exact z
  · exact absurd (b.2.1 0 z) (Nat.not_lt_zero _)
end
end L2


set_option Elab.async false
set_option linter.all false
set_option maxRecDepth 100000
set_option maxHeartbeats 1000000
namespace L2
open PySem PySem.Spec PyProof.Rows PySem.W PySem.Calls
/-- the i-th thing is a tuple of these ints -/
def RowAt (h : Heap) (L D : Addr) (v : Value) (st : List Int) : Prop := ∃ (a : Addr) (items : List Value), v = .ref a ∧ IsTup h a items.toArray ∧ Vals (st.map V.int) items ∧ a ≠ L ∧ a ≠ D
theorem RowAt.keep {h h' : Heap} {L D : Addr} {v : Value} {st : List Int} (r : RowAt h L D v st) (kp : ∀ b o, b ≠ L → b ≠ D → h.get? b = some o → h'.get? b = some o) : RowAt h' L D v st := by
  obtain ⟨a, items, e, ⟨o, ho, hc⟩, hv, h1, h2⟩ := r
  exact ⟨a, items, e, ⟨o, kp a o h1 h2 ho, hc⟩, hv, h1, h2⟩
theorem katTups_of {h : Heap} {L D : Addr} : ∀ {vs : List Value} {sts : List (List Int)}, Paired (RowAt h L D) vs sts → (∀ st ∈ sts, 1 ≤ st.length) → ∃ fs, W.KatTups h vs fs ∧ fs.length = sts.length ∧ ∀ f ∈ fs, ∃ a t, f = Value.int a t
  | _, _, .nil, _ => ⟨[], trivial, rfl, fun _ h => by simp at h⟩
  | _, _, .cons (b := st) r rr, h1 => by
    obtain ⟨a, items, rfl, ⟨o, ho, hc, n, hd⟩, rv, _⟩ := r
    obtain ⟨fs, f1, f2, f3⟩ := katTups_of rr fun z hz => h1 z (List.mem_cons_of_mem _ hz)
    have hst := h1 st List.mem_cons_self
    match st, rv, hst with
    | z :: zs, rv, _ =>
      cases rv with
      | cons q1 qq =>
        obtain ⟨t, rfl⟩ := q1
        refine ⟨_ :: fs, ⟨⟨a, o, _, n, rfl, ho, hc, hd, rfl⟩, f1⟩, by rw [List.length_cons, f2]; rfl, fun f hf => ?_⟩
        rcases List.mem_cons.mp hf with rfl | hf
        · exact ⟨_, _, rfl⟩
        · exact f3 f hf
theorem paired_get {α β : Type} {R : α → β → Prop} : ∀ {l : List α} {l' : List β}, Paired R l l' → ∀ {i : Nat} (d : α) (d' : β), i < l'.length → R (l.getD i d) (l'.getD i d')
  | _, _, .nil, i, _, _, h => by simp at h
  | _, _, .cons r _, 0, _, _, _ => r
  | _, _, .cons _ t, i + 1, d, d', h => by
    have := paired_get t (i := i) d d' (by simpa using h)
    simpa using this
theorem paired_len {α β : Type} {R : α → β → Prop} : ∀ {l : List α} {l' : List β}, Paired R l l' → l.length = l'.length
  | _, _, .nil => rfl
  | _, _, .cons _ t => by rw [List.length_cons, List.length_cons, paired_len t]
section
variable {prog : Program} {w : World} {A : Around} {E : Value → Shared → Prop} {s : Shared}
theorem lsort_wp {L D : Addr} {m0 : Str → Option Value} {vs : List Value} {n m : Nat} {sts : List (List Int)} {Q : Value → Shared → Prop} (hns : s.heap.Ns L m0) (hDL : D ≠ L) (ho : s.heap.get? D = some (seqObj "list" vs.toArray n))
    (hv : Paired (RowAt s.heap L D) vs sts) (h64 : sts.length < 64) (hm1 : 1 ≤ m) (hm : ∀ st ∈ sts, st.length = m) (hnd : sts.Nodup)
    (h : ∀ h' c p, List.Perm p (List.range sts.length) → ((p.map fun i => sts.getD i []).Pairwise fun a b => HT.lexLt a b = true) → (∀ b o, b ≠ L → b ≠ D → s.heap.get? b = some o → h'.get? b = some o) → h'.Ns L m0 →
      h'.get? D = some (seqObj "list" (p.map fun i => vs.getD i .none).toArray c) → Q .none { s with heap := h' }) :
    wpAny (model prog w) A (call (.builtin "list.sort") [.ref D]) Q E s := by
  have hvl := paired_len hv
  by_cases h2 : 2 ≤ sts.length
  · have hrest : ∀ p ∈ (restOf s.heap L).filter (fun q => decide (q.1 ≠ D)), s.heap.get? p.1 = some p.2 ∧ p.1 ≠ L ∧ p.1 ≠ D := fun p hp => by
      have h1 := List.mem_filter.mp hp
      have h2 := mem_restOf.mp (show (p.1, p.2) ∈ restOf s.heap L from h1.1)
      exact ⟨h2.2, h2.1, of_decide_eq_true h1.2⟩
    have none0 : ∀ b, (⟨#[], {}⟩ : Heap).get? b = none := fun b => by
      cases e : (⟨#[], {}⟩ : Heap).get? b with
      | none => rfl
      | some o' =>
        have := Heap.lt_size e
        simp at this
    refine W.kat_lsort (h₀ := (⟨#[], {}⟩ : Heap)) (L := L) (m := m0) (D := D) (its := vs.toArray) (n := n) (news := (D, seqObj "list" vs.toArray n) :: (restOf s.heap L).filter (fun q => decide (q.1 ≠ D))) (g := fun o => (D, o) :: (restOf s.heap L).filter (fun q => decide (q.1 ≠ D))) ⟨hns, fun b o e => ?_, Nat.zero_le _⟩ (fun p hp => ?_) (W.UpdF.head fun q hq => (hrest q hq).2.2) (vs := vs) rfl (by omega) (by omega) fun e1 h' F N => ?_
    · rw [none0] at e; cases e
    · rcases List.mem_cons.mp hp with rfl | hp
      · exact ⟨ho, hDL, none0 _⟩
      · exact ⟨(hrest p hp).1, (hrest p hp).2.1, none0 _⟩
    · have kp : ∀ b o, b ≠ L → b ≠ D → s.heap.get? b = some o → h'.get? b = some o := fun b o hb hD e => (N (b, o) (List.mem_cons_of_mem _ (List.mem_filter.mpr ⟨mem_restOf.mpr ⟨hb, e⟩, decide_eq_true hD⟩))).1
      have hv' : Paired (RowAt h' L D) vs sts := Paired.mapP hv fun v st r => r.keep kp
      obtain ⟨fs, k1, k2, k3⟩ := katTups_of hv' fun st hst => by rw [hm st hst]; exact hm1
      refine W.kat_kind (T := .type "int") (s := { s with heap := h' }) k1 (by omega) (fun f hf => ?_) (by decide) ?_
      · obtain ⟨a, t, rfl⟩ := k3 f hf
        intro A' Q' E' s' _ hq
        exact wpAny_typeOf (typeIs_int s' a t) hq
      · have hu : Unlike sts.length (lexKey sts) := fun i j hi hj e => by
          have e1 := lexKey_lt hm hi hj
          have e2 := lexKey_lt hm hj hi
          rw [e, decide_eq_false (Int.lt_irrefl _)] at e1
          rw [e, decide_eq_false (Int.lt_irrefl _)] at e2
          have gi : sts.getD i [] = sts[i] := by simp [hi]
          have gj : sts.getD j [] = sts[j] := by simp [hj]
          rcases lex_total (a := sts.getD i []) (b := sts.getD j []) (by rw [gi, gj, hm _ (List.getElem_mem hi), hm _ (List.getElem_mem hj)]) with h | h | h
          · rw [gi, gj] at h
            exact (List.getElem_inj hnd).mp h
          · rw [h] at e1; cases e1
          · rw [h] at e2; cases e2
        obtain ⟨p, hrun, hup⟩ := sort_run hu h2
        rw [show vs.length = sts.length by omega]
        refine hrun.wp (S := fun s' => s' = { s with heap := h' }) (fun i j C s' hi hj hs' hC => ?_) (fun s' hs' => ?_) _ rfl
        · subst hs'
          obtain ⟨a1, it1, b1, c1, d1, _⟩ := paired_get hv' .none [] hi
          obtain ⟨a2, it2, b2, c2, d2, _⟩ := paired_get hv' .none [] hj
          obtain ⟨o1, ho1, _, n1, hd1⟩ := c1
          obtain ⟨o2, ho2, _, n2, hd2⟩ := c2
          show wpAny _ _ (keyLt' _ (vs.getD i .none) (vs.getD j .none)) C _ _
          rw [b1, b2]
          have gi : (sts.getD i []).length = m := by
            have : sts.getD i [] = sts[i] := by simp [hi]
            rw [this]; exact hm _ (List.getElem_mem hi)
          have gj : (sts.getD j []).length = m := by
            have : sts.getD j [] = sts[j] := by simp [hj]
            rw [this]; exact hm _ (List.getElem_mem hj)
          have l1 := d1.length
          have l2 := d2.length
          rw [List.length_map] at l1 l2
          refine W.kat_lt (s := { s with heap := h' }) ho1 hd1 ho2 hd2 ?_
          rw [show decide (it1.toArray.size < it2.toArray.size) = false from decide_eq_false (by simp; omega)]
          refine kat_ints 0 d1 d2 (by rw [gi, gj]) ?_
          have := hC { s with heap := h' } rfl
          rw [show ansK (lexKey sts) i j = HT.lexLt (sts.getD i []) (sts.getD j []) from lexKey_lt hm hi hj] at this
          exact this
        · subst hs'
          have hpl : p.toList.Perm (List.range sts.length) := by
            have := hup.perm.toList
            simpa using this
          have hpi : ∀ i ∈ p.toList, i < sts.length := fun i hi => List.mem_range.mp ((hpl.mem_iff).mp hi)
          refine W.KasFin.intro F N (W.UpdF.head fun q' hq' => (hrest q' hq').2.2) fun h'' c F'' N'' => ?_
          refine h h'' c p.toList hpl ?_ (fun b o hb hD e => (N'' (b, o) (List.mem_cons_of_mem _ (List.mem_filter.mpr ⟨mem_restOf.mpr ⟨hb, e⟩, decide_eq_true hD⟩))).1) F''.ns (N'' (D, _) List.mem_cons_self).1
          have hps : p.size = sts.length := perm_size hup.perm
          rw [List.pairwise_iff_getElem]
          intro i j hi hj hij
          rw [List.length_map, Array.length_toList] at hi hj
          have hk := hup.lt_of hij (by omega)
          rw [List.getElem_map, List.getElem_map, Array.getElem_toList, Array.getElem_toList]
          have e1 : p.getD i 0 = p[i] := by simp [hi]
          have e2 : p.getD j 0 = p[j] := by simp [hj]
          unfold key at hk
          rw [e1, e2] at hk
          rw [← lexKey_lt hm (hpi _ (by simp)) (hpi _ (by simp))]
          exact decide_eq_true hk
  · refine wpAny_call_entry slot_list_sort ⟨_, ho, rfl⟩ entry_list_sort ?_ (args_list_sort _)
    refine short_list_sort ho (by omega) fun h' c kp hD => ⟨_, rfl, ?_⟩
    refine h h' c (List.range sts.length) (List.Perm.refl _) ?_ (fun b o _ hb e => kp b o hb e) ?_ ?_
    · rw [range_pick]
      match sts, h2 with
      | [], _ => exact .nil
      | [_], _ => exact List.pairwise_singleton _ _
      | _ :: _ :: _, h2 => exact absurd (by simp) h2
    · obtain ⟨o, es, ep, g, k⟩ := hns
      exact ⟨o, es, ep, kp _ _ (Ne.symm hDL) g, k⟩
    · rw [← hvl, range_pick]
      exact hD
end
end L2


set_option Elab.async false
set_option linter.all false
set_option maxRecDepth 100000
set_option maxHeartbeats 1000000
namespace L2
open PySem PySem.Spec PyProof.Rows PySem.W PySem.Calls
theorem perm_map_inv {α β : Type} {f : α → β} {l m : List β} (h : l.Perm m) : ∀ {xs : List α}, m = xs.map f → ∃ xs' : List α, xs'.Perm xs ∧ l = xs'.map f := by
  induction h with
  | nil =>
    intro xs e
    have : xs = [] := by cases xs with | nil => rfl | cons _ _ => cases e
    subst this
    exact ⟨[], .nil, rfl⟩
  | cons x _ ih =>
    intro xs e
    cases xs with
    | nil => cases e
    | cons y ys =>
      rw [List.map_cons] at e
      injection e with e1 e2
      obtain ⟨xs', h1, h2⟩ := ih e2
      exact ⟨y :: xs', h1.cons y, by rw [List.map_cons, ← h2, e1]⟩
  | swap x y l =>
    intro xs e
    match xs, e with
    | [], e => cases e
    | [_], e => cases e
    | a :: b :: r, e =>
      rw [List.map_cons, List.map_cons] at e
      injection e with e1 e2
      injection e2 with e2 e3
      exact ⟨b :: a :: r, .swap _ _ _, by rw [List.map_cons, List.map_cons, e1, e2, e3]⟩
  | trans _ _ ih1 ih2 =>
    intro xs e
    obtain ⟨xs', h1, h2⟩ := ih2 e
    obtain ⟨xs'', h3, h4⟩ := ih1 h2
    exact ⟨xs'', h3.trans h1, h4⟩
/-- a set of int tuples at a -/
def setO (P : Program) (w : World) (a : Addr) (xs : List (List Key × Addr)) : HO := .ext fun h => SetIn P w h a xs
def keyed (xs : List (List Int × Addr)) : List (List Key × Addr) := xs.map fun q => (q.1.map Sum.inl, q.2)
theorem setO_ok {P : Program} {w : World} {H : Hp} {h : Heap} {a : Addr} {xs : List (List Key × Addr)} (S : SetIn P w h a xs) : ObjOk P w H h a (setO P w a xs) := by
  refine ⟨S, ?_, fun h1 h2 q k => ?_⟩
  · obtain ⟨o, _, _, _, ho, _⟩ := S
    exact ⟨o, ho⟩
  · obtain ⟨o, es, ep, t, ho, r⟩ := q
    exact ⟨o, es, ep, t, k o ho, r⟩
/-- at a lies a set: its members, in some order, each once -/
def SetV (P : Program) (w : World) (H : Hp) (a : Addr) (ks : List (List Int)) : Prop := ∃ xs : List (List Int × Addr), H a = some (setO P w a (keyed xs)) ∧ (∀ q ∈ xs, H q.2 = some (.tup (q.1.map V.int))) ∧ ks = xs.map (·.1) ∧ ks.Nodup
theorem SetV.same {P : Program} {w : World} {H H' : Hp} {a : Addr} {ks : List (List Int)} (S : SetV P w H a ks) (h : Same H H') : SetV P w H' a ks := by
  obtain ⟨xs, h1, h2, h3, h4⟩ := S
  exact ⟨xs, h _ _ h1, fun q hq => h _ _ (h2 q hq), h3, h4⟩
theorem SetV.stay {P : Program} {w : World} {H H' : Hp} {a : Addr} {ks : List (List Int)} (S : SetV P w H a ks) (h : Stay H H') : SetV P w H' a ks := by
  obtain ⟨xs, h1, h2, h3, h4⟩ := S
  exact ⟨xs, h _ _ h1 (fun _ e => by cases e), fun q hq => h.tup (h2 q hq), h3, h4⟩
theorem ints_kV : ∀ ns : List Int, (ns.map Sum.inl).map kV = ns.map V.int
  | [] => rfl
  | n :: ns => by rw [List.map_cons, List.map_cons, List.map_cons, ints_kV ns]; rfl
section
variable {X : Cx}
/-- a tuple of ints is a key -/
theorem keyI_of {pins : List (Addr × Obj)} {σ : St} {H : Hp} {s : Shared} (I : Inv X pins σ H s) {b : Addr} {ns : List Int} (h : H b = some (.tup (ns.map V.int))) : (tk X.prog X.w).is s.heap (ns.map Sum.inl) b := by
  obtain ⟨its, rv, ⟨o, ho, hc, n, hd⟩, _⟩ := I.tuple (.of h)
  refine ⟨o, its.toArray, n, ho, hc, hd, ?_⟩
  have gen : ∀ {ns : List Int} {its : List Value}, Vals (ns.map V.int) its → ItemsAre (mixKind X.prog X.w) (ns.map Sum.inl) its := by
    intro ns
    induction ns with
    | nil => intro its r; cases r; exact .nil
    | cons n ns ih =>
      intro its r
      cases r with
      | cons r1 r2 =>
        obtain ⟨t, rfl⟩ := r1
        exact .cons (keyIs_int n t) (ih r2)
  exact gen rv
/-- sorted of a set -/
def rSortS (P : Program) (w : World) : List V → Hp → VK → Prop := fun xs H Q => ∃ (a : Addr) (ks : List (List Int)) (m : Nat), xs = [.ref a] ∧ SetV P w H a ks ∧ ks.length < 64 ∧ 1 ≤ m ∧ (∀ st ∈ ks, st.length = m) ∧
  ∀ (ys : List V) (sts' : List (List Int)), IsL H (sts'.map stD) ys → sts'.Perm ks → (sts'.Pairwise fun a b => HT.lexLt a b = true) → New H (.lst ys) Q
theorem isL_refs {H : Hp} : ∀ {xs : List (List Int × Addr)}, (∀ q ∈ xs, H q.2 = some (.tup (q.1.map V.int))) → IsL H ((xs.map (·.1)).map stD) (xs.map fun q => V.ref q.2)
  | [], _ => rfl
  | q :: xs, h => ⟨_, _, rfl, ⟨q.2, _, rfl, h q List.mem_cons_self, IsL.ints⟩, isL_refs fun r hr => h r (List.mem_cons_of_mem _ hr)⟩
theorem vals_refs : ∀ (xs : List (List Int × Addr)), Vals (xs.map fun q => V.ref q.2) (xs.map fun q => Value.ref q.2)
  | [] => .nil
  | q :: xs => .cons rfl (vals_refs xs)
theorem cq_sortS (hc : X.calm = true) : CallQ X (.builtin "sorted") (rSortS X.prog X.w) := ⟨by
  intro pins s σ H xs us Q I r h
  obtain ⟨a, ks, m, rfl, ⟨xs, hH, hel, rfl, hnd⟩, h64, hm1, hm, q⟩ := h
  obtain ⟨u, rfl, ru⟩ := vals1 r
  cases ru
  obtain ⟨⟨o, es, ep, t, ho, hx, hd, T, _⟩, _⟩ := (show ObjOk X.prog X.w H s.heap a (setO X.prog X.w a (keyed xs)) from I.hok a _ hH)
  have S : SetIs X.prog X.w s.heap a es ep t (keyed xs) := ⟨⟨o, ho, hx, hd⟩, T⟩
  obtain ⟨m0, hns, _⟩ := id I.loc
  have hsz : es.size = xs.length := by rw [T.size]; unfold keyed; rw [List.length_map]
  rw [List.length_map] at h64
  have none0 : ∀ b, (⟨#[], {}⟩ : Heap).get? b = none := fun b => by
    cases e : (⟨#[], {}⟩ : Heap).get? b with
    | none => rfl
    | some o' =>
      have := Heap.lt_size e
      simp at this
  -- the order in which it is gone over
  have hpo := ordE_perm (w := X.w) (es := es) a ep
  have heq : es.toList = xs.map fun q => ((tk X.prog X.w).hash (q.1.map Sum.inl), Value.ref q.2) := by rw [T.eq]; unfold keyed; rw [List.map_map]; rfl
  rw [heq] at hpo
  obtain ⟨xs2, hp2, he2⟩ := perm_map_inv hpo rfl
  refine kdu_sorted (h₀ := (⟨#[], {}⟩ : Heap)) (L := X.env.locals) (m := m0) (news := restOf s.heap X.env.locals) (set_src (t := t) (xs := keyed xs) a ep) (I.ok.hd hc) ⟨hns, fun b o e => (by rw [none0] at e; cases e), Nat.zero_le _⟩ (fun p hp => ?_) S (by rw [hsz, sizeLine_eq]; omega) fun D h' tk' vs F N hlt hl hP => ?_
  · obtain ⟨b, o⟩ := p
    have := mem_restOf.mp hp
    exact ⟨this.2, this.1, none0 b⟩
  · have hvs : vs = xs2.map fun q => Value.ref q.2 := by
      have hl2 := hp2.length_eq
      refine List.ext_getElem (by rw [hl, List.length_map, hl2, hsz]) fun j h1 h2 => ?_
      obtain ⟨e, he, hv⟩ := hP j vs[j] (List.getElem?_eq_getElem h1)
      rw [arr_q, he2, List.getElem?_map] at he
      rw [List.length_map] at h2
      rw [List.getElem?_eq_getElem h2] at he
      rw [hv, List.getElem_map, ← Option.some.inj he]
    have kp : ∀ b o, b ≠ X.env.locals → s.heap.get? b = some o → h'.get? b = some o := fun b o hb e => (N (b, o) (List.mem_cons_of_mem _ (mem_restOf.mpr ⟨hb, e⟩))).1
    have hDL : D ≠ X.env.locals := (N (D, _) List.mem_cons_self).2.1
    have hDn : s.heap.get? D = none := by
      cases e : s.heap.get? D with
      | none => rfl
      | some o => exact absurd (hlt (D, o) (mem_restOf.mpr ⟨hDL, e⟩)) (Nat.lt_irrefl _)
    have hHD : H D = none := by
      cases e : H D with
      | none => rfl
      | some o =>
        obtain ⟨o', ho'⟩ := objOk_get (I.hok D o e)
        rw [hDn] at ho'; cases ho'
    have hel2 : ∀ q ∈ xs2, H q.2 = some (.tup (q.1.map V.int)) := fun q hq => hel q ((hp2.mem_iff).mp hq)
    have rows : Paired (RowAt h' X.env.locals D) vs (xs2.map (·.1)) := by
      rw [hvs]
      have gen : ∀ (l : List (List Int × Addr)), (∀ q ∈ l, H q.2 = some (.tup (q.1.map V.int))) → Paired (RowAt h' X.env.locals D) (l.map fun q => Value.ref q.2) (l.map (·.1)) := by
        intro l
        induction l with
        | nil => intro _; exact .nil
        | cons q l ih =>
          intro hl
          have hq := hl q List.mem_cons_self
          obtain ⟨items, rv, ⟨o', ho', hc'⟩, _⟩ := I.tuple (.of hq)
          have hqL := ne_of_none hq I.free
          exact .cons ⟨q.2, items, rfl, ⟨o', kp _ _ hqL ho', hc'⟩, rv, hqL, ne_of_none hq hHD⟩ (ih fun r hr => hl r (List.mem_cons_of_mem _ hr))
      exact gen xs2 hel2
    have hpk := hp2.map (·.1)
    refine lsort_wp (s := { s with heap := h', toks := tk' }) F.ns hDL (N (D, _) List.mem_cons_self).1 rows (by rw [List.length_map, hp2.length_eq]; exact h64) hm1 (fun st hst => hm st ((hpk.mem_iff).mp hst)) (hpk.nodup_iff.mpr hnd) fun h'' c p hp hup kp2 ns2 hD2 => ?_
    have hpi : ∀ i ∈ p, i < xs2.length := fun i hi => by have := List.mem_range.mp ((hp.mem_iff).mp hi); rwa [List.length_map] at this
    -- what is told
    have pickd : (p.map fun i => (xs2.map (·.1)).getD i []) = (p.map fun i => xs2.getD i ([], 0)).map (·.1) := by
      rw [List.map_map]
      refine List.map_congr_left fun i hi => ?_
      have := hpi i hi
      simp [this]
    have pickv : (p.map fun i => vs.getD i .none) = (p.map fun i => xs2.getD i ([], 0)).map fun q => Value.ref q.2 := by
      rw [hvs, List.map_map]
      refine List.map_congr_left fun i hi => ?_
      have := hpi i hi
      simp [this]
    have pin : ∀ q ∈ (p.map fun i => xs2.getD i ([], 0)), H q.2 = some (.tup (q.1.map V.int)) := fun q hq => by
      obtain ⟨i, hi, rfl⟩ := List.mem_map.mp hq
      have h1 := hpi i hi
      have : xs2.getD i ([], 0) = xs2[i] := by simp [h1]
      rw [this]
      exact hel2 _ (List.getElem_mem h1)
    rw [pickv] at hD2
    rw [pickd] at hup
    have hplen : p.length = xs.length := by rw [hp.length_eq, List.length_range, List.length_map, hp2.length_eq]
    have I' := inv_put I hns (ys := (p.map fun i => xs2.getD i ([], 0)).map fun q => V.ref q.2) (fun b o hb e => kp2 b o hb (fun z => by rw [z, hDn] at e; cases e) (kp b o hb e)) ns2 hDn hHD hD2 (vals_refs _) (by rw [List.length_map, List.length_map, hplen, sizeLine_eq]; omega) tk'
    refine ⟨.ref D, _, I', rfl, (q _ ((p.map fun i => xs2.getD i ([], 0)).map (·.1)) (isL_refs pin) ?_ hup).at hHD⟩
    refine List.Perm.trans ?_ hpk
    rw [← pickd]
    have := hp.map fun i => (xs2.map (·.1)).getD i []
    rwa [range_pick] at this⟩
end
end L2


set_option Elab.async false
set_option linter.all false
set_option maxRecDepth 100000
set_option maxHeartbeats 1000000
namespace L2
open PySem PySem.Spec PyProof.Rows
theorem compTurn_set (elt target iter : Expr) (ifs : List Expr) (scope : Scope) (pos : Pos) (it acc : Value) (env : Env) :
    compTurn (.SetComp elt [⟨target, iter, ifs, 0⟩] scope pos) 0 it acc env = (do
      standAt iter.pos
      match ← pyNext it with
      | none => pure (.done .next)
      | some v =>
        letOwnedTupleGo target it v
        assign target env v
        let mut ok := true
        for c in ifs do
          if ok then ok ← isTrue c env (eval c env)
        if ok then
          (do let v ← eval elt env; standAt elt.pos; let _ ← call (.builtin "set.add") [acc, v])
        again (.compLoop (.SetComp elt [⟨target, iter, ifs, 0⟩] scope pos) 0 it acc env)) := by rfl
section
variable {prog : Program} {w : World} {A : Around} {E : Value → Shared → Prop} {R : Result → Shared → Prop} {s : Shared}
theorem codeAny_compStart_set {elt target iter ifs rest scope pos it acc env}
    (h0 : codeAny (model prog w) A (.compLoop (.SetComp elt (⟨target, iter, ifs, 0⟩ :: rest) scope pos) 0 it acc env) R s)
    (h : wpAny (model prog w) A (pyIter it) (fun it' s' => codeAny (model prog w) A (.compLoop (.SetComp elt (⟨target, iter, ifs, 0⟩ :: rest) scope pos) 0 it' acc env) R s')
      (notedBy (model prog w) A env fun x s' => R (.error x) s') s) :
    codeAny (model prog w) A (.compStart (.SetComp elt (⟨target, iter, ifs, 0⟩ :: rest) scope pos) 0 it acc env) R s := by
  refine codeAny_of_tree ?_
  show wpAny _ _ ((compStart (.SetComp elt (⟨target, iter, ifs, 0⟩ :: rest) scope pos) 0 it acc env).onRaise (fun x => do noteFrame x env; standAt theWindowsPlace)) _ _ s
  refine wpAny_notedAt ?_
  unfold compStart
  show wpAny _ _ (ask >>= _) _ _ s
  refine wpAny_bind (wpAny_askSetting (wpAny_ite ?_))
  split
  · first
      | exact wpAny_bind (wpAny_pure (wpAny_pure (And.intro rfl h0)))
      | exact wpAny_pure (And.intro rfl h0)
  · first
      | exact wpAny_bind (wpAny_rule (wpAny_bind (wpAny_standAt (wpAny_bind (wpAny_mono h (fun it' s' h' => wpAny_pure (And.intro rfl h')) fun _ _ x => x)))))
      | (refine wpAny_bind (wpAny_rule ?_); show wpAny _ _ (standAt iter.pos >>= _) _ _ s; exact wpAny_bind (wpAny_standAt (wpAny_bind (wpAny_mono h (fun it' s' h' => wpAny_pure (And.intro rfl h')) fun _ _ x => x))))
theorem codeAny_setComp1 {elt target iter : Expr} {ifs : List Expr} {scope : Scope} {pos : Pos} {it acc : Value} {env : Env} (I : Nat → Shared → Prop)
    (turn : ∀ n s, I n s → wpAny (model prog w) A (pyNext it) (fun r s₁ => match r with
      | none => R (.ok .next) s₁
      | some v => wpAny (model prog w) A (letOwnedTupleGo target it v) (fun _ s₂ => wpAny (model prog w) A (assign target env v) (fun _ s₃ =>
          wpAny (model prog w) A (forIn ifs true fun c r => if r = true then do let ok ← isTrue c env (eval c env); pure (ForInStep.yield ok) else pure (ForInStep.yield r)) (fun ok s₄ =>
            if ok = true then wpAny (model prog w) A (eval elt env) (fun x s₅ =>
              wpAny (model prog w) A (call (.builtin "set.add") [acc, x]) (fun _ s₆ => ∃ m, m < n ∧ I m s₆) (fun _ _ => False) s₅) (fun _ _ => False) s₄
            else ∃ m, m < n ∧ I m s₄) (fun _ _ => False) s₃) (fun _ _ => False) s₂) (fun _ _ => False) s₁) (fun _ _ => False) s)
    (n : Nat) (h : I n s) :
    codeAny (model prog w) A (.compLoop (.SetComp elt [⟨target, iter, ifs, 0⟩] scope pos) 0 it acc env) R s := by
  refine codeAny_loop rfl I (fun n s hI => ?_) n h
  show wpAny _ A ((compTurn (.SetComp elt [⟨target, iter, ifs, 0⟩] scope pos) 0 it acc env).onRaise (fun x => do noteFrame x env; theTreesLotGoes x)) _ _ s
  refine wpAny_noted ?_
  rw [compTurn_set]
  refine wpAny_bind (wpAny_standAt (wpAny_bind (wpAny_mono (turn n s hI) (fun r s₁ h₁ => ?_) fun _ _ h' => h'.elim)))
  cases r with
  | none => exact wpAny_pure h₁
  | some v =>
    refine wpAny_bind (wpAny_mono h₁ (fun _ s₂ h₂ => ?_) fun _ _ h' => h'.elim)
    refine wpAny_bind (wpAny_mono h₂ (fun _ s₃ h₃ => wpAny_bind (wpAny_mono h₃ (fun ok s₄ h₄ => ?_) fun _ _ h' => h'.elim)) fun _ _ h' => h'.elim)
    cases ok with
    | false => exact wpAny_pure ⟨rfl, h₄⟩
    | true =>
      exact wpAny_bind (wpAny_bind (wpAny_mono h₄ (fun x s₅ h₅ => wpAny_bind (wpAny_standAt (wpAny_bind (wpAny_mono h₅ (fun _ s₆ h₆ => wpAny_pure (wpAny_pure ⟨rfl, h₆⟩)) fun _ _ h' => h'.elim)))) fun _ _ h' => h'.elim))
theorem newSet_wp {Q : Value → Shared → Prop} (h : Q (.ref s.heap.objs.size) { s with heap := s.heap.push { cls := .type "set", dict := none, data := .set #[] 0 (.fresh 0 0 (!w.params.followText "set-order")) } }) : wpAny (model prog w) A (newSet (.type "set")) Q E s := by
  unfold newSet setsByText
  refine wpAny_bind (wpAny_bind (wpAny_askSetting (wpAny_pure ?_)))
  dsimp only
  simp only [newObj]
  exact wpAny_bind (wpAny_alloc (wpAny_pure h))
theorem setIn_new (h : Heap) : SetIn prog w (h.push { cls := .type "set", dict := none, data := .set #[] 0 (.fresh 0 0 (!w.params.followText "set-order")) }) h.objs.size [] := by
  refine ⟨_, #[], 0, _, Heap.get?_push_size _ rfl, ⟨rfl, rfl, rfl⟩, rfl, ⟨rfl, List.nodup_nil, rfl, fun i j _ hj => ?_, fun i j e => ?_, rfl, .inl rfl, Nat.zero_le _, rfl, rfl, fun i q e => ?_⟩, by show 0 * 5 < 7 * 3; decide⟩
  · exact absurd hj (Nat.not_lt_zero _)
  · simp [SetTable.fresh] at e
  · simp at e
end
theorem map_inl_inj : ∀ {ns ms : List Int}, ns.map (Sum.inl : Int → Key) = ms.map Sum.inl → ns = ms
  | [], [], _ => rfl
  | [], _ :: _, e => by cases e
  | _ :: _, [], e => by cases e
  | n :: ns, m :: ms, e => by
    rw [List.map_cons, List.map_cons] at e
    injection e with e1 e2
    rw [Sum.inl.inj e1, map_inl_inj e2]
section
variable {X : Cx}
/-- one more member -/
theorem setadd_run {pins : List (Addr × Obj)} {σ : St} {H : Hp} {s : Shared} {acc b : Addr} {ns : List Int} {ks : List (List Int)} {Q : Value → Shared → Prop} (hu : X.A.units + 1 < cLine) (I : Inv X pins σ H s) (S : SetV X.prog X.w H acc ks) (hb : H b = some (.tup (ns.map V.int))) (hn : ks.length < 300)
    (h : ∀ o ks' s', SetV X.prog X.w (upd H acc o) acc ks' → (∀ x, x ∈ ks' ↔ x = ns ∨ x ∈ ks) → ks'.length ≤ ks.length + 1 → Inv X pins σ (upd H acc o) s' → Q .none s') :
    wpAny (model X.prog X.w) X.A (call (.builtin "set.add") [.ref acc, .ref b]) Q X.xe s := by
  obtain ⟨xs, hH, hel, rfl, hnd⟩ := S
  have hS := (show ObjOk X.prog X.w H s.heap acc (setO X.prog X.w acc (keyed xs)) from I.hok acc _ hH).1
  obtain ⟨o, es, ep, t, ho, hx, hd, T, hroom⟩ := id hS
  refine wpAny_call_entry F.slot_set_add ⟨o, ho, hx.1⟩ F.entry_set_add ?_ (F.args_set_add_2 _ _)
  unfold Builtin.«set.add»
  refine wpAny_bind (m := Builtin.Frozenset.oneOther "add" ⟨[.ref acc, .ref b], []⟩) (wpAny_pure ?_)
  have hba : b ≠ acc := ne_of hb hH (by intro z; cases z)
  have hea : ∀ q ∈ xs, q.2 ≠ acc := fun q hq => ne_of (hel q hq) hH (by intro z; cases z)
  rw [List.length_map] at hn
  refine wpAny_bind (add_wp (A := X.A.in1) (xs := keyed xs) (ns := ns) (Nat.lt_of_le_of_lt (Nat.le_refl _) hu) hS (keyI_of I hb) (fun q hq => ?_) (by unfold keyed; rw [List.length_map]; exact hn) fun r h' n xs' sb S' hin hout => ?_)
  · unfold keyed at hq
    obtain ⟨q', hq', rfl⟩ := List.mem_map.mp hq
    exact keyI_of I (hel q' hq')
  · -- the members
    have mem_key : ∀ {l : List (List Int × Addr)}, (ns.map Sum.inl) ∈ (keyed l).map (·.1) ↔ ns ∈ l.map (·.1) := by
      intro l
      unfold keyed
      rw [List.map_map, List.mem_map, List.mem_map]
      constructor
      · rintro ⟨q, hq, e⟩
        refine ⟨q, hq, ?_⟩
        have e' : q.1.map (Sum.inl : Int → Key) = ns.map Sum.inl := e
        exact map_inl_inj e'
      · rintro ⟨q, hq, rfl⟩
        exact ⟨q, hq, rfl⟩
    have fin : ∀ xs2 : List (List Int × Addr), xs' = keyed xs2 → (∀ q ∈ xs2, q ∈ xs ∨ q = (ns, b)) → (∀ x, x ∈ xs2.map (·.1) ↔ x = ns ∨ x ∈ xs.map (·.1)) → (xs2.map (·.1)).Nodup → xs2.length ≤ xs.length + 1 → wpAny (model X.prog X.w) X.A.in1 (do ret .none) (fun fin s' => ∃ v, fin = .done (.ret v) ∧ Q v s') X.xe { s with heap := h', toks := n } := by
      rintro xs2 rfl hsub hmem hnd2 hlen
      have hel2 : ∀ q ∈ xs2, H q.2 = some (.tup (q.1.map V.int)) := fun q hq => by
        rcases hsub q hq with z | z
        · exact hel q z
        · rw [z]; exact hb
      have hea2 : ∀ q ∈ xs2, q.2 ≠ acc := fun q hq => ne_of (hel2 q hq) hH (by intro z; cases z)
      refine wpAny_pure ⟨.none, rfl, h (setO X.prog X.w acc (keyed xs2)) (xs2.map (·.1)) _ ⟨xs2, upd_same, fun q hq => by rw [upd_ne (hea2 q hq)]; exact hel2 q hq, rfl, hnd2⟩ hmem (by rw [List.length_map, List.length_map]; exact hlen) ?_⟩
      refine I.write (e := acc) (by rw [hH]; trivial) (.inl rfl) (fun c u hc q => sb.extBut c u hc q) ?_ (setO_ok S')
      obtain ⟨o', _, _, _, ho', _⟩ := S'
      exact ⟨o', ho'⟩
    by_cases hm : ns ∈ xs.map (·.1)
    · have := hin (mem_key.mpr hm)
      refine fin xs this (fun q hq => .inl hq) (fun x => ⟨.inr, fun z => z.elim (fun e => e ▸ hm) id⟩) hnd (Nat.le_succ _)
    · have hp := hout fun z => hm (mem_key.mp z)
      have hk : ((ns.map Sum.inl, b) :: keyed xs) = keyed ((ns, b) :: xs) := rfl
      rw [hk] at hp
      obtain ⟨xs2, hp2, e2⟩ := perm_map_inv hp rfl
      refine fin xs2 e2 (fun q hq => ?_) (fun x => ?_) ?_ ?_
      · rcases List.mem_cons.mp ((hp2.mem_iff).mp hq) with z | z
        · exact .inr z
        · exact .inl z
      · rw [(hp2.map (·.1)).mem_iff, List.map_cons, List.mem_cons]
      · rw [(hp2.map (·.1)).nodup_iff, List.map_cons, List.nodup_cons]
        exact ⟨hm, hnd⟩
      · rw [hp2.length_eq, List.length_cons]
        exact Nat.le_refl _
end
end L2


set_option Elab.async false
set_option linter.all false
set_option maxRecDepth 100000
set_option maxHeartbeats 1000000
namespace L2
open PySem PySem.Spec PyProof.Rows
theorem eval_SetComp {env : Env} (elt gens scope pos) : eval (.SetComp elt gens scope pos) env = comprehension (.SetComp elt gens scope pos) scope env (firstIterPos gens pos) (newSet (.type "set")) (firstAsync gens) (firstIter gens env) := rfl
/-- a turn of a comprehension that makes a set -/
def setT (P : Program) (w : World) (g : TG) (ti : TT) (te : TE) (acc : Addr) (N : St → Hp → Prop) (x : V) (σ : St) (H : Hp) : Prop :=
  g x σ H fun σ3 H3 => ti σ3 H3 fun ok H4 => if ok = true then te σ3 H4 fun v H5 => ∃ b ns ks, v = .ref b ∧ H5 b = some (.tup (ns.map V.int)) ∧ SetV P w H5 acc ks ∧ ks.length < 300 ∧
    (∀ o ks', SetV P w (upd H5 acc o) acc ks' → (∀ x, x ∈ ks' ↔ x = ns ∨ x ∈ ks) → ks'.length ≤ ks.length + 1 → N σ3 (upd H5 acc o)) else N σ3 H4
def setG (P : Program) (w : World) (J : It) (g : TG) (ti : TT) (te : TE) (acc : Addr) (Q : VK) (σ : St) (H : Hp) : Prop := ∃ W : Nat → Nat → St → Hp → Prop, (∃ m, W 0 m σ H) ∧
  ∀ i m σ' H', W i m σ' H' → (J.stop i H' ∧ Q (.ref acc) H') ∨ (J.go i H' ∧ ∃ N : St → Hp → Prop, (∀ σ2 H2, N σ2 H2 → ∃ m', m' < m ∧ W (i + 1) m' σ2 H2) ∧ ∀ x H2, J.yld i H' x H2 → setT P w g ti te acc N x σ' H2)
def tSetC (P : Program) (w : World) (wi : TI) (g : TG) (ti : TT) (te : TE) (cix : List (Option Nat)) : TE := fun σ H Q => wi σ H fun J H1 => ∀ acc, H1 acc = none → SetV P w (upd H1 acc (setO P w acc [])) acc [] → setG P w J g ti te acc Q (capS σ cix) (upd H1 acc (setO P w acc []))
theorem pe_setcomp {X : Cx} {elt tg iter : Expr} {ifs : List Expr} {scope : Scope} {pos : Pos} {wi : TI} {g : TG} {ti : TT} {te : TE} {N : List Str} {cix : List (Option Nat)} (hu : X.A.units + 1 < cLine) (hc : X.calm = true) (c : CompOk X scope N cix)
    (hi : PI X tg iter wi) (hg : ∀ C s H ex, PG (compCx X scope N C s H ex) tg g) (ht : ∀ C s H ex, PTs (compCx X scope N C s H ex) ifs ti) (he : ∀ C s H ex, PE (compCx X scope N C s H ex) elt te)
    (hs : ∀ x, foldedSetIterable iter X.env x = pure x := by intro _; rfl) : PE X (.SetComp elt [⟨tg, iter, ifs, 0⟩] scope pos) (tSetC X.prog X.w wi g ti te cix) := by
  intro pins s σ H Q I h
  rw [eval_SetComp]
  refine wpAny_comprehension_free (use := none) rfl hs (closure_of (c.cells I.ok)) c.kind c.names (thn (hi pins s σ H _ I h) fun xv s1 h1 => thn h1 fun itv s2 h2 => ?_)
  obtain ⟨it, fp, tn, J, H2, e, I2, T, st2, f2, q2⟩ := h2
  subst e
  generalize hob : ({ cls := .type "set", dict := none, data := .set #[] 0 (.fresh 0 0 (!X.w.params.followText "set-order")) } : Obj) = ob
  refine newSet_wp ?_
  rw [hob]
  refine wpAny_newFunctionEnv c.cell (by intro y hy; simp at hy) (fun h4 hns4 hsb4 => ?_) c.kind
  dsimp only at hns4 hsb4 ⊢
  have hnone := I2.hok.fresh (Nat.le_refl s2.heap.objs.size)
  have hnew : SetIn X.prog X.w (s2.heap.push ob) s2.heap.objs.size [] := by rw [← hob]; exact setIn_new _
  have I3 : Inv X pins σ (upd H2 s2.heap.objs.size (setO X.prog X.w s2.heap.objs.size [])) { s2 with heap := s2.heap.push ob, toks := s2.toks } := I2.laid (t' := s2.toks) (fun b u e => Heap.get?_push_of_some _ e) (Nat.le_refl _) (setO_ok hnew)
  obtain ⟨W, ⟨m0, w0⟩, turn⟩ := q2 s2.heap.objs.size hnone ⟨[], upd_same, fun q hq => by simp at hq, rfl, List.nodup_nil⟩
  have ltF : ∀ b ∈ fp, b < s2.heap.objs.size := fun b hb => by
    obtain ⟨o, ho, _⟩ := T.obj _ _ st2 b hb
    exact Heap.lt_size ho
  have f3 : ∀ b ∈ fp, FpOk X pins (upd H2 s2.heap.objs.size (setO X.prog X.w s2.heap.objs.size [])) b := fun b hb => ⟨by rw [upd_ne (Nat.ne_of_lt (ltF b hb))]; exact (f2 b hb).1, (f2 b hb).2⟩
  have kp : ∀ b o, (s2.heap.push ob).get? b = some o → h4.get? b = some o := fun b o e =>
    hsb4.extBut b o (Nat.ne_of_lt (Heap.lt_size e)) (Heap.get?_push_of_some _ e)
  have sz3 : s2.heap.objs.size < (s2.heap.push ob).objs.size := by rw [Heap.size_push]; exact Nat.lt_succ_self _
  have I4 := inv_comp (tk := s2.toks + ([] : List (Str × Value)).length) I3 c f3 (fun b hb => Nat.lt_trans (ltF b hb) sz3) hns4 kp
  have st4 : tn 0 h4 := T.keep _ _ _ st2 fun b hb o e => kp b o (Heap.get?_push_of_some _ e)
  generalize hX : compCx X scope N (s2.heap.push ob).objs.size { s2 with heap := s2.heap.push ob, toks := s2.toks } (upd H2 s2.heap.objs.size (setO X.prog X.w s2.heap.objs.size [])) fp = X' at I4
  have pX : X'.prog = X.prog := by rw [← hX]; rfl
  have wX : X'.w = X.w := by rw [← hX]; rfl
  have KX : X'.K = X.K := by rw [← hX]; rfl
  have AX : X'.A = X.A := by rw [← hX]; rfl
  have cX : X'.calm = true := by rw [← hX]; exact hc
  have xX : X'.xe = fun _ _ => False := by rw [← hX]; rfl
  have eX : X'.env = compEnvC scope (capL X.env scope.names []) (s2.heap.push ob).objs.size X.env := by rw [← hX]; rfl
  have hg' : PG X' tg g := by rw [← hX]; exact hg _ _ _ _
  have ht' : PTs X' ifs ti := by rw [← hX]; exact ht _ _ _ _
  have he' : PE X' elt te := by rw [← hX]; exact he _ _ _ _
  have f4 : ∀ {H' : Hp}, (∀ b ∈ fp, H' b = none) → ∀ b ∈ fp, FpOk X' [] H' b := fun {H'} hn b hb => by
    refine ⟨hn b hb, ?_, ?_, .inl ?_, ?_, ?_⟩
    · rw [eX]; exact Nat.ne_of_lt (Nat.lt_trans (ltF b hb) sz3)
    · have e1 : X'.fs = frs X.stack := by rw [← hX]; rfl
      rw [e1]
      intro z
      rcases List.mem_cons.mp (I2.stkSub b z) with e | e
      · exact (f2 b hb).2.1 e
      · exact (f2 b hb).2.2.1 e
    · rw [← hX]; exact hb
    · rw [eX]
      intro x a e
      rcases capL_some (c.cells I.ok) e with z | z
      · exact (f2 b hb).2.2.2.2.1 x a z
      · simp at z
    · intro p hp
      have e1 : X'.pn ++ ([] : List (Addr × Obj)) = [] := by rw [← hX]; rfl
      rw [e1] at hp
      simp at hp
  have loop : ∀ s4 : Shared, s4 = { s2 with heap := h4, toks := s2.toks + ([] : List (Str × Value)).length } →
      codeAny (model X.prog X.w) X.A (.compLoop (.SetComp elt [⟨tg, iter, ifs, 0⟩] scope pos) 0 (.ref it) (.ref s2.heap.objs.size) X'.env)
        (compPost (model X.prog X.w) X.A X.xe none (EP X pins σ Q) (.ref s2.heap.objs.size) (s2.heap.push ob).objs.size) s4 := by
    rintro s4 rfl
    refine codeAny_setComp1 (fun n s' => ∃ i σ' H', Inv X' [] σ' H' s' ∧ tn i s'.heap ∧ (∀ b ∈ fp, H' b = none) ∧ W i n σ' H') ?_ m0 ⟨0, capS σ cix, _, I4, st4, fun b hb => (f3 b hb).1, w0⟩
    rintro n s5 ⟨i, σ5, H5, I5, st5, fr5, w5⟩
    rcases turn i n σ5 H5 w5 with ⟨stop, qn⟩ | ⟨go, Nx, hN, step⟩
    · have := T.done X' pX wX KX cX i [] s5 σ5 H5 (fun _ _ => False) I5 (f4 fr5) st5 stop
      rw [AX] at this
      refine thn this fun r s6 ⟨hr, I6⟩ => ?_
      subst hr
      obtain ⟨m6, hn6, _⟩ := I6.loc
      rw [eX] at hn6
      refine ⟨m6, hn6, fun h7 hs7 => ?_⟩
      have I6' := I6
      rw [← hX] at I6'
      exact ⟨.ref s2.heap.objs.size, H5, inv_uncomp I3 f3 I6' hs7, rfl, qn⟩
    · have := T.item X' pX wX KX cX i [] s5 σ5 H5 (fun _ _ => False) I5 (f4 fr5) st5 go
      rw [AX] at this
      refine thn this fun r s6 ⟨u, hr, h6⟩ => ?_
      subst hr
      refine thn h6 fun _ s7 ⟨x, H7, I7, r7, y7, st7, fr7⟩ => ?_
      have I7' := I7.pinned (f4 fr7) (T.obj _ _ st7)
      have a7 := hg' _ s7 σ5 H7 x u _ I7' r7 (step x H7 y7)
      rw [pX, wX, AX, xX] at a7
      refine thn a7 fun _ s8 ⟨σ8, H8, I8, q8⟩ => ?_
      have t8 := ht' _ s8 σ8 H8 _ I8 q8
      rw [pX, wX, AX, xX] at t8
      refine thn t8 fun ok s9 ⟨H9, I9, q9⟩ => ?_
      have again : ∀ {s' : Shared} {σ' : St} {H' : Hp}, Inv X' ([] ++ pinsAt fp s7.heap) σ' H' s' → Nx σ' H' → ∃ m, m < n ∧ ∃ i σ' H', Inv X' [] σ' H' s' ∧ tn i s'.heap ∧ (∀ b ∈ fp, H' b = none) ∧ W i m σ' H' := fun {s' σ' H'} J' n' => by
        obtain ⟨m', hm, w'⟩ := hN σ' H' n'
        refine ⟨m', hm, i + 1, σ', H', J'.unpinned, T.keep _ _ _ st7 fun b hb o e => (J'.pin (b, o) (List.mem_append_right _ (List.mem_append_right _ (mem_pinsAt hb e)))).1, fun b hb => ?_, w'⟩
        obtain ⟨o, e, d⟩ := T.obj _ _ st7 b hb
        exact (J'.pin (b, o) (List.mem_append_right _ (List.mem_append_right _ (mem_pinsAt hb e)))).2.1
      cases ok with
      | false => exact again I9 q9
      | true =>
        have e9 := he' _ s9 σ8 H9 _ I9 q9
        rw [pX, wX, AX, xX] at e9
        refine thn e9 fun u2 s10 ⟨v, H10, I10, r10, q10⟩ => ?_
        obtain ⟨b, ns, ks, rfl, hb, S, hn, nx⟩ := q10
        cases r10
        have m10 := setadd_run (X := X') (Q := fun _ s' => ∃ m, m < n ∧ ∃ i σ' H', Inv X' [] σ' H' s' ∧ tn i s'.heap ∧ (∀ b ∈ fp, H' b = none) ∧ W i m σ' H') (by rw [AX]; exact hu) I10 (by rw [pX, wX]; exact S) hb hn fun o ks' s' S' hm hl I' => again I' (nx o ks' (by rw [pX, wX] at S'; exact S') hm hl)
        rw [pX, wX, AX, xX] at m10
        exact m10
  have l0 := loop _ rfl
  rw [eX] at l0
  exact codeAny_compStart_set l0 (T.self X.A 0 _ _ _ st4 l0)
theorem qe_setcomp {X : Cx} {pos : Pos} {te : TE} {elt tg iter : Expr} {ifs : List Expr} {scope : Scope} {wi : TI} {g : TG} {ti : TT} {N : List Str} {cix : List (Option Nat)} (hu : X.A.units + 1 < cLine) (hc : X.calm = true) (c : CompOk X scope N cix)
    (hi : QI X tg iter wi) (hg : ∀ C s H ex, QG (compCx X scope N C s H ex) tg g) (ht : ∀ C s H ex, QTs (compCx X scope N C s H ex) ifs ti) (he : ∀ C s H ex, QE (compCx X scope N C s H ex) elt te)
    (hs : ∀ x, foldedSetIterable iter X.env x = pure x := by intro _; rfl) : QE X (.SetComp elt [⟨tg, iter, ifs, 0⟩] scope pos) (tSetC X.prog X.w wi g ti te cix) :=
  ⟨pe_setcomp hu hc c hi.run (fun C s H ex => (hg C s H ex).run) (fun C s H ex => (ht C s H ex).run) (fun C s H ex => (he C s H ex).run) hs⟩
section
variable {P : Program} {w : World} {K : PySem.W.Frag} {a acc : Addr} {xs : List V} {g : TG} {ti : TT} {te : TE} {σ : St} {H : Hp} {Q : VK}
theorem setc_tup {o : HO} (hacc : H acc = none) (S0 : SetV P w (upd H acc o) acc []) (Pv : Nat → St → Hp → Prop) (h0 : ∀ H', SetV P w H' acc [] → Same H H' → Pv 0 σ H') (hl : ∀ i σ H, i ≤ xs.length → Pv i σ H → SqT K H a xs)
    (hs : ∀ i x σ H, xs[i]? = some x → Pv i σ H → setT P w g ti te acc (Pv (i + 1)) x σ H) (hd : ∀ σ H, Pv xs.length σ H → Q (.ref acc) H) : setG P w (Itt K a) g ti te acc Q σ (upd H acc o) := by
  refine ⟨fun i m σ H => m = xs.length - i ∧ i ≤ xs.length ∧ Pv i σ H, ⟨xs.length, by simp, Nat.zero_le _, h0 _ S0 (Same.upd hacc)⟩, ?_⟩
  rintro i m σ H ⟨rfl, hi, p⟩
  have q := hl i σ H hi p
  by_cases hlt : i < xs.length
  · refine .inr ⟨⟨xs, xs[i], q, by simp [hlt]⟩, Pv (i + 1), fun σ' H' p' => ⟨xs.length - (i + 1), by omega, rfl, hlt, p'⟩, fun x H' y => ?_⟩
    obtain ⟨e, y⟩ := y
    subst e
    exact hs i x σ _ (y xs q) p
  · have e : i = xs.length := by omega
    subst e
    exact .inl ⟨⟨xs, q, Nat.le_refl _⟩, hd σ H p⟩
end
end L2


set_option Elab.async false
set_option linter.all false
set_option maxRecDepth 100000
/-! what is known of an earlier heap holds of a later one: the lemmas by which it goes up -/
namespace L2
open PySem
theorem up_eq {A B : Hp} (s : Same A B) {b : Addr} {o : HO} (h : A b = some o) : B b = some o := s _ _ h
theorem up_tup {A B : Hp} (s : Stay A B) {b : Addr} {xs : List V} (h : A b = some (.tup xs)) : B b = some (.tup xs) := s.tup h
theorem up_lst {A B : Hp} (s : Stay A B) {b : Addr} {xs : List V} (h : A b = some (.lst xs)) : B b = some (.lst xs) := s.lst h
theorem up_any {A B : Hp} (s : Stay A B) {b : Addr} {o : HO} (h : A b = some o) (n : ∀ kvs, o = .dK kvs → valV kvs (Sum.inr "at" : Key) = none) : B b = some o := s _ _ h n
theorem up_is {A B : Hp} (s : Stay A B) {d : Dt} {v : V} (h : Is A d v) : Is B d v := h.stay s
theorem up_isL {A B : Hp} (s : Stay A B) {d : List Dt} {v : List V} (h : IsL A d v) : IsL B d v := h.stay s
theorem up_room {A B : Hp} (s : Stay A B) {ra : Addr} {rm : List Int} (h : RoomAt A ra rm) : RoomAt B ra rm := h.stay s
theorem up_book {A B : Hp} (s : Stay A B) {rm : List Int} {ba : Addr} {xs : List V} {bk : List Wi} (h : BookAt A rm ba xs bk) : BookAt B rm ba xs bk := h.stay s
theorem up_all {A B : Hp} (s : Stay A B) {R : Dt → Prop} {xs : List V} (h : AllOf A R xs) : AllOf B R xs := h.stay s
theorem up_set {A B : Hp} (s : Stay A B) {P : Program} {w : World} {a : Addr} {ks : List (List Int)} (h : SetV P w A a ks) : SetV P w B a ks := h.stay s
theorem up_pen {A B : Hp} (s : Same A B) {p c : Addr} {ns : List Int} {n : Nat} (h : Pen A p c ns n) : Pen B p c ns n := h.same s
theorem up_ss {A B : Hp} (h : Same A B) : Stay A B := Stay.same h
theorem nk_dT {xs : List (List Key × V)} : ∀ kvs, HO.dT xs = .dK kvs → valV kvs (Sum.inr "at" : Key) = none := fun _ e => by cases e
theorem nk_ext {φ : Heap → Prop} : ∀ kvs, HO.ext φ = .dK kvs → valV kvs (Sum.inr "at" : Key) = none := fun _ e => by cases e
theorem nk_ins {C dx : Addr} {fs : List (Str × V)} : ∀ kvs, HO.ins C dx fs = .dK kvs → valV kvs (Sum.inr "at" : Key) = none := fun _ e => by cases e
theorem same_refl (H : Hp) : Same H H := fun _ _ z => z
end L2


set_option Elab.async false
set_option linter.all false
set_option maxRecDepth 100000
/-! defs with defaults at the end of their parameters -/
namespace L2
open PySem PySem.Spec PyProof.Rows
structure FunD (K : PySem.W.Frag) (x qual : Str) (st : Stmt) (f : Addr) (fd : FuncData) : Prop where
  ex : ∃ (oc : Value) (od : Option Addr) (dV kV doc pm : Value) (an : Option Addr) (cdv ct : Value) (osl : Array (Option Value)),
    fd = PySem.W.fnOf x qual (defArgs st) (defBody st) (defScope st) dV kV doc pm an cdv ct ∧ K.lookup f = some ⟨oc, od, .func fd, osl⟩ ∧ PySem.W.codeIn K cdv qual = true
  kp : PySem.W.keepIn K (.ref f) = true
theorem FunD.okQ {P : Program} {w : World} {K : PySem.W.Frag} {mg : Str → Option Value} {base : Heap} {x qual : Str} {st : Stmt} {f : Addr} {fd : FuncData} {N ps : List Str} {k : Nat} {sp : Sp} (F : FunD K x qual st f fd) (S : FnScope N ps (defScope st)) (len : ∀ vs H Q E, sp vs H Q E → vs.length = ps.length)
    (hbody : ∀ (cdv : Value) (A : Around) (outer : List Env) (s : Shared) (H : Hp) (vs : List V) (Q : VK) (E : XK), Room k (A.deeper (envOfC qual (defScope st) s.heap.objs.size f cdv)) → sp vs H Q E →
      ∃ t, QSs (cxOf CX0 P w K mg base N qual (defScope st) f cdv A outer s H E).nox (defBody st) t ∧ t { nx := fun _ H' => Q .non H', rt := Q } (start N vs) H) : FnOk P w K mg base CX0 (k + 1) f fd ps sp := by
  obtain ⟨oc, od, dV, kV, doc, pm, an, cdv, ct, osl, rfl, lk, hcd⟩ := F.ex
  refine fn_of lk hcd S len fun A outer s H vs Q E hr hsp => ?_
  obtain ⟨t, h, q⟩ := hbody cdv A outer s H vs Q E hr hsp
  exact ⟨t, h.run.nox, q⟩
structure DfnD (K : PySem.W.Frag) (mg : Str → Option Value) (x : Str) (st : Stmt) (ps : List Str) (ds : List Value) (f : Addr) (fd : FuncData) : Prop where
  F : FunD K x x st f fd
  b : Binds K fd ps []
  bd : Binds K fd ps ds
  m : mg x = some (.ref f)
section
variable {X : Cx}
/-- all arguments are given -/
theorem qe_fnF {x : Str} {st : Stmt} {ps : List Str} {ds : List Value} {f : Addr} {fd : FuncData} {sp : Sp} {j k : Nat} {e : Expr} {es : List Expr} {t : TA} {p pos : Pos} (D : DfnD X.K X.mg x st ps ds f fd) (G : FnOk X.prog X.w X.K X.mg X.base CX0 j f fd ps sp) (hr : Room k X.A)
    (ha : QA X (e :: es) t) (hjk : j ≤ k := by decide) (hg : Gl X x := by rfl) (hdb : (x == ("__debug__" : Str)) = false := by decide) (he : starEach (e :: es) X.env = (false, eval e X.env) :: starEach es X.env := by rfl) (hpl : (backTo pos (starEach es X.env)).any (·.1) = false := by rfl) :
    QE X (.Call (.Name x p) (e :: es) [] pos) (tCall sp [] E0 t) :=
  ⟨pe_call G (hr.mono hjk) hg D.m D.F.kp D.b .nil pass0 ha.run hdb he hpl⟩
/-- the last ones are left out -/
theorem qe_fnD {x : Str} {st : Stmt} {ps : List Str} {ds : List Value} {dv : List V} {f : Addr} {fd : FuncData} {sp : Sp} {j k : Nat} {e : Expr} {es : List Expr} {t : TA} {p pos : Pos} (D : DfnD X.K X.mg x st ps ds f fd) (hv : Vals dv ds) (G : FnOk X.prog X.w X.K X.mg X.base CX0 j f fd ps sp) (hr : Room k X.A)
    (ha : QA X (e :: es) t) (hjk : j ≤ k := by decide) (hg : Gl X x := by rfl) (hdb : (x == ("__debug__" : Str)) = false := by decide) (he : starEach (e :: es) X.env = (false, eval e X.env) :: starEach es X.env := by rfl) (hpl : (backTo pos (starEach es X.env)).any (·.1) = false := by rfl) :
    QE X (.Call (.Name x p) (e :: es) [] pos) (tCall sp dv E0 t) :=
  ⟨pe_call G (hr.mono hjk) hg D.m D.F.kp D.bd hv pass0 ha.run hdb he hpl⟩
end
theorem funD_mk {K : PySem.W.Frag} {x qual : Str} {st : Stmt} {f : Addr} {oc : Value} {od an : Option Addr} {osl : Array (Option Value)} {dV kV doc pm cdv ct : Value} (l : K.lookup f = some ⟨oc, od, .func (PySem.W.fnOf x qual (defArgs st) (defBody st) (defScope st) dV kV doc pm an cdv ct), osl⟩)
    (c : PySem.W.codeIn K cdv qual = true) (k : PySem.W.keepIn K (.ref f) = true) : FunD K x qual st f (PySem.W.fnOf x qual (defArgs st) (defBody st) (defScope st) dV kV doc pm an cdv ct) := ⟨⟨oc, od, dV, kV, doc, pm, an, cdv, ct, osl, rfl, l, c⟩, k⟩
/-- how they bind -/
theorem bindsD {K : PySem.W.Frag} {fd : FuncData} {f : Addr} {oc : Value} {od' : Option Addr} {osl : Array (Option Value)} (l : K.lookup f = some ⟨oc, od', .func fd, osl⟩) {ps : List Str} {ds : List Value} {T : Addr} {ot : Value} {od : Option Addr} {items : Array Value} {n : Nat} {sl : Array (Option Value)} (hd : fd.defaults = .ref T) (ht : K.lookup T = some ⟨ot, od, .seq items n, sl⟩)
    (h : ∀ us : List Value, (us ++ ds).length = ps.length → ∃ k : Option (Array Value) → Sem (List (Str × Value)), bindArgs fd ⟨us, []⟩ = seqItems? fd.defaults >>= k ∧ k (some items) = pure (ps.zip (us ++ ds))) : Binds K fd ps ds := fun s us KX hl => by
  obtain ⟨k, h1, h2⟩ := h us hl
  exact .of_defaults hd (KX _ _ ht) rfl h1 h2
end L2


set_option Elab.async false
set_option linter.all false
set_option maxRecDepth 100000
set_option maxHeartbeats 1000000
/-! going over the keys of a dict, whatever they are -/
namespace L2
open PySem PySem.Spec PyProof.Rows PySem.W PySem.Calls
section
variable {prog : Program} {w : World} {A : Around} {E : Value → Shared → Prop} {s : Shared} {es : Array DictEntry}
def EntAt (h : Heap) (d : Addr) (es : Array DictEntry) (ep : Nat) : Prop := ∃ o, h.get? d = some o ∧ o.ExactDict ∧ o.data = .dict es ep
theorem EntAt.keep {h h' : Heap} {d : Addr} {ep : Nat} (x : EntAt h d es ep) (k : ∀ o, h.get? d = some o → h'.get? d = some o) : EntAt h' d es ep := let ⟨o, ho, r⟩ := x; ⟨o, k o ho, r⟩
theorem EntAt.typeIs {d : Addr} {ep : Nat} (x : EntAt s.heap d es ep) : s.TypeIs (.ref d) "dict" := let ⟨o, ho, hc, _⟩ := x; ⟨o, ho, hc.1⟩
theorem EntAt.lt {h : Heap} {d : Addr} {ep : Nat} (x : EntAt h d es ep) : d < h.objs.size := let ⟨o, ho, _⟩ := x; Heap.lt_size ho
end
end L2


set_option Elab.async false
set_option linter.all false
set_option maxRecDepth 100000
set_option maxHeartbeats 1000000
namespace L2
open PySem PySem.Spec PyProof.Rows PySem.W PySem.Calls
/-! ### tuple(range(n)) -/
section
variable {prog : Program} {w : World} {A : Around} {E : Value → Shared → Prop} {s : Shared}
end
section
variable {X : Cx}
end
/-! ### dicts whose keys are tuples of ints -/
def keyT (kvs : List (List Int × V)) : List (List Key × V) := kvs.map fun q => (q.1.map Sum.inl, q.2)
def dtO (kvs : List (List Int × V)) : HO := .dT (keyT kvs)
theorem keyT_val (kvs : List (List Int × V)) (st : List Int) : valV (keyT kvs) (st.map Sum.inl) = valV kvs st := by
  unfold keyT
  induction kvs with
  | nil => rfl
  | cons q r ih =>
    rw [List.map_cons]
    by_cases e : q.1 = st
    · rw [valV_pos (p := q) e, valV_pos (p := (q.1.map Sum.inl, q.2)) (by rw [e])]
    · rw [valV_neg (p := q) e, valV_neg (p := (q.1.map Sum.inl, q.2)) (fun z => e (map_inl_inj z)), ih]
theorem keyT_put (kvs : List (List Int × V)) (st : List Int) (v : V) : putK (keyT kvs) (st.map Sum.inl) v = keyT (putK kvs st v) := by
  have hd : ∀ q : List Int × V, decide ((q.1.map (Sum.inl : Int → Key)) = st.map Sum.inl) = decide (q.1 = st) := fun q => by
    rw [Bool.eq_iff_iff, decide_eq_true_eq, decide_eq_true_eq]
    exact ⟨map_inl_inj, fun z => by rw [z]⟩
  have ha : ((keyT kvs).any fun kv => decide (kv.1 = st.map Sum.inl)) = kvs.any fun kv => decide (kv.1 = st) := by
    unfold keyT
    rw [List.any_map]
    congr 1
    funext q
    exact hd q
  unfold putK
  rw [ha]
  by_cases h : (kvs.any fun kv => decide (kv.1 = st)) = true
  · rw [if_pos h, if_pos h]
    unfold keyT
    rw [List.map_map, List.map_map]
    refine List.map_congr_left fun q _ => ?_
    by_cases e : q.1 = st
    · show (if (q.1.map Sum.inl) = st.map Sum.inl then _ else _) = _
      rw [if_pos (by rw [e])]
      show _ = (fun q : List Int × V => (q.1.map (Sum.inl : Int → Key), q.2)) (if q.1 = st then (q.1, v) else q)
      rw [if_pos e]
    · show (if (q.1.map Sum.inl) = st.map Sum.inl then _ else _) = _
      rw [if_neg fun z => e (map_inl_inj z)]
      show _ = (fun q : List Int × V => (q.1.map (Sum.inl : Int → Key), q.2)) (if q.1 = st then (q.1, v) else q)
      rw [if_neg e]
  · rw [if_neg h, if_neg h]
    unfold keyT
    rw [List.map_append]
    rfl
theorem DGet.i {H : Hp} {a b : Addr} {kvs : List (List Int × V)} {st : List Int} (e : H a = some (dtO kvs)) (eb : H b = some (.tup (st.map V.int))) : DGet H a (.ref b) (valV kvs st) := by
  have := DGet.t (k := st.map Sum.inl) e (by rw [ints_kV]; exact eb)
  rwa [keyT_val] at this
theorem DPut.i {H : Hp} {a b : Addr} {kvs : List (List Int × V)} {st : List Int} {v : V} (e : H a = some (dtO kvs)) (eb : H b = some (.tup (st.map V.int))) (hl : kvs.length < sizeLine) : DPut H a (.ref b) v (upd H a (dtO (putK kvs st v))) := by
  have := DPut.t (k := st.map Sum.inl) (v := v) e (by rw [ints_kV]; exact eb) (by unfold keyT; rw [List.length_map]; exact hl)
  rwa [keyT_put] at this
section
variable {X : Cx}
end
end L2


set_option Elab.async false
set_option linter.all false
set_option maxRecDepth 100000
/-! rising lists of standings -/
namespace L2
open PySem PySem.Spec PyProof.Rows
abbrev Up' (l : List (List Int)) : Prop := l.Pairwise fun a b => HT.lexLt a b = true
def insU (x : List Int) : List (List Int) → List (List Int)
  | [] => [x]
  | y :: r => if HT.lexLt x y then x :: y :: r else if x = y then y :: r else y :: insU x r
def sortU (l : List (List Int)) : List (List Int) := l.foldr insU []
theorem insU_mem {x z : List Int} : ∀ {l : List (List Int)}, z ∈ insU x l ↔ z = x ∨ z ∈ l
  | [] => by show z ∈ [x] ↔ _; simp
  | y :: r => by
    unfold insU
    split
    · simp
    · split
      · rename_i e
        subst e
        simp
      · rw [List.mem_cons, insU_mem, List.mem_cons]
        constructor
        · rintro (h | h | h)
          · exact .inr (.inl h)
          · exact .inl h
          · exact .inr (.inr h)
        · rintro (h | h | h)
          · exact .inr (.inl h)
          · exact .inl h
          · exact .inr (.inr h)
theorem sortU_mem {z : List Int} : ∀ {l : List (List Int)}, z ∈ sortU l ↔ z ∈ l
  | [] => Iff.rfl
  | x :: l => by
    show z ∈ insU x (sortU l) ↔ _
    rw [insU_mem, sortU_mem, List.mem_cons]
theorem insU_up {x : List Int} {m : Nat} (hx : x.length = m) : ∀ {l : List (List Int)}, (∀ y ∈ l, y.length = m) → Up' l → Up' (insU x l)
  | [], _, _ => List.pairwise_singleton _ _
  | y :: r, hl, hu => by
    have hy := hl y List.mem_cons_self
    rw [Up', List.pairwise_cons] at hu
    unfold insU
    split
    · rename_i h
      refine List.pairwise_cons.mpr ⟨fun z hz => ?_, List.pairwise_cons.mpr hu⟩
      rcases List.mem_cons.mp hz with rfl | hz
      · exact h
      · exact lex_trans (hx.trans hy.symm) (hy.trans (hl z (List.mem_cons_of_mem _ hz)).symm) h (hu.1 z hz)
    · rename_i h
      split
      · exact List.pairwise_cons.mpr hu
      · rename_i hne
        refine List.pairwise_cons.mpr ⟨fun z hz => ?_, insU_up hx (fun z hz => hl z (List.mem_cons_of_mem _ hz)) hu.2⟩
        rcases insU_mem.mp hz with rfl | hz
        · rcases lex_total (a := z) (b := y) (hx.trans hy.symm) with e | e | e
          · exact absurd e hne
          · exact absurd e h
          · exact e
        · exact hu.1 z hz
theorem sortU_len {m : Nat} {l : List (List Int)} (h : ∀ y ∈ l, y.length = m) : ∀ y ∈ sortU l, y.length = m := fun y hy => h y (sortU_mem.mp hy)
theorem sortU_up {m : Nat} : ∀ {l : List (List Int)}, (∀ y ∈ l, y.length = m) → Up' (sortU l)
  | [], _ => .nil
  | x :: l, h => insU_up (h x List.mem_cons_self) (sortU_len fun y hy => h y (List.mem_cons_of_mem _ hy)) (sortU_up fun y hy => h y (List.mem_cons_of_mem _ hy))
theorem up_uniq {m : Nat} : ∀ {l l' : List (List Int)}, (∀ y ∈ l, y.length = m) → Up' l → Up' l' → (∀ z, z ∈ l ↔ z ∈ l') → l = l'
  | [], [], _, _, _, _ => rfl
  | [], y :: r, _, _, _, h => absurd ((h y).mpr List.mem_cons_self) (by simp)
  | x :: l, [], _, _, _, h => absurd ((h x).mp List.mem_cons_self) (by simp)
  | x :: l, y :: r, hm, hu, hu', h => by
    rw [Up', List.pairwise_cons] at hu hu'
    have hm' : ∀ z ∈ y :: r, z.length = m := fun z hz => hm z ((h z).mpr hz)
    have e : x = y := by
      rcases List.mem_cons.mp ((h x).mp List.mem_cons_self) with e | e
      · exact e
      · rcases List.mem_cons.mp ((h y).mpr List.mem_cons_self) with e' | e'
        · exact e'.symm
        · have h1 := hu'.1 x e
          have h2 := hu.1 y e'
          have h3 := lex_trans ((hm x List.mem_cons_self).trans (hm' y List.mem_cons_self).symm) ((hm' y List.mem_cons_self).trans (hm x List.mem_cons_self).symm) h2 h1
          rw [lex_irrefl] at h3
          cases h3
    subst e
    have notin : ∀ {l : List (List Int)}, (∀ z ∈ l, HT.lexLt x z = true) → x ∉ l := fun hl z => by
      have := hl x z
      rw [lex_irrefl] at this
      cases this
    congr 1
    refine up_uniq (fun z hz => hm z (List.mem_cons_of_mem _ hz)) hu.2 hu'.2 fun z => ?_
    constructor
    · intro hz
      rcases List.mem_cons.mp ((h z).mp (List.mem_cons_of_mem _ hz)) with e | e
      · subst e; exact absurd hz (notin hu.1)
      · exact e
    · intro hz
      rcases List.mem_cons.mp ((h z).mpr (List.mem_cons_of_mem _ hz)) with e | e
      · subst e; exact absurd hz (notin hu'.1)
      · exact e
theorem sortU_of {m : Nat} {l l' : List (List Int)} (hm : ∀ y ∈ l, y.length = m) (hu : Up' l') (h : ∀ z, z ∈ l' ↔ z ∈ l) : l' = sortU l :=
  up_uniq (fun y hy => hm y ((h y).mp hy)) hu (sortU_up hm) fun z => (h z).trans sortU_mem.symm
theorem up_nodup {l : List (List Int)} (h : Up' l) : l.Nodup := h.imp fun {a b} hab e => by
  subst e
  rw [lex_irrefl] at hab
  cases hab
/-! ### what a standing is bettered to -/
def goals (bk : List Wi) (st hs : List Int) : List (List Int) := (bk.filter fun x => goalB st x && !hs.contains x.b).map fun x => chg st x.b x.r
def betF (bk : List Wi) (st hs : List Int) : List (List Int) := sortU (goals bk st hs)
theorem goals_mem {bk : List Wi} {st hs z : List Int} : z ∈ goals bk st hs ↔ ∃ x ∈ bk, goalB st x = true ∧ x.b ∉ hs ∧ z = chg st x.b x.r := by
  unfold goals
  rw [List.mem_map]
  constructor
  · rintro ⟨x, hx, rfl⟩
    rw [List.mem_filter, Bool.and_eq_true] at hx
    refine ⟨x, hx.1, hx.2.1, fun z => ?_, rfl⟩
    have := hx.2.2
    rw [List.contains_iff_mem.mpr z] at this
    cases this
  · rintro ⟨x, h1, h2, h3, rfl⟩
    refine ⟨x, List.mem_filter.mpr ⟨h1, ?_⟩, rfl⟩
    rw [h2, Bool.true_and]
    cases e : hs.contains x.b with
    | false => rfl
    | true => exact absurd (List.contains_iff_mem.mp e) h3
theorem goals_len {rm : List Int} {bk : List Wi} {st hs : List Int} (hok : ∀ x ∈ bk, WishOk rm x) (hl : st.length = rm.length) : ∀ z ∈ goals bk st hs, z.length = rm.length := fun z hz => by
  obtain ⟨x, hx, _, _, rfl⟩ := goals_mem.mp hz
  have h1 := (hok x hx).b1
  rw [chg_len (hok x hx).b0 (by omega)]
  exact hl
/-- held boxes: none, or a tuple of some -/
def HeldV (H : Hp) (v : V) (hs : List Int) : Prop := (v = .non ∧ hs = []) ∨ ∃ p, v = .ref p ∧ H p = some (.tup (hs.map V.int))
theorem HeldV.stay {H H' : Hp} {v : V} {hs : List Int} (h : HeldV H v hs) (s : Stay H H') : HeldV H' v hs := by
  rcases h with h | ⟨p, e, h⟩
  · exact .inl h
  · exact .inr ⟨p, e, s.tup h⟩
theorem up_HeldV {A B : Hp} (s : Stay A B) {v : V} {hs : List Int} (h : HeldV A v hs) : HeldV B v hs := h.stay s
/-- a list of standings lies at l -/
def StsAt (H : Hp) (l : Addr) (sts : List (List Int)) : Prop := ∃ ys, H l = some (.lst ys) ∧ IsL H (sts.map stD) ys
theorem StsAt.stay {H H' : Hp} {l : Addr} {sts : List (List Int)} (h : StsAt H l sts) (s : Stay H H') : StsAt H' l sts := let ⟨ys, h1, h2⟩ := h; ⟨ys, s.lst h1, h2.stay s⟩
theorem up_StsAt {A B : Hp} (s : Stay A B) {l : Addr} {sts : List (List Int)} (h : StsAt A l sts) : StsAt B l sts := h.stay s
theorem StsAt.ne {H : Hp} {l d : Addr} {sts : List (List Int)} (h : StsAt H d sts) (n : H l = none) : l ≠ d := by
  obtain ⟨ys, h1, _⟩ := h
  exact (ne_of_none h1 n).symm
theorem IsL.reverse {H : Hp} : ∀ {ds : List Dt} {xs : List V}, IsL H ds xs → IsL H ds.reverse xs.reverse
  | [], _, h => by cases h; rfl
  | d :: ds, xs, h => by
    obtain ⟨x, r, rfl, h1, h2⟩ := h
    rw [List.reverse_cons, List.reverse_cons]
    exact IsL.append h2.reverse (IsL.one h1)
/-- at most twenty-four: eight boxes, three other worths -/
def spBett : Sp := fun vs H Q _ => ∃ (v0 vh : V) (ba a : Addr) (rm : List Int) (xs : List V) (bk : List Wi) (st hs : List Int), vs = [v0, .ref ba, .ref a, vh] ∧ 1 ≤ rm.length ∧ rm.length ≤ 8 ∧ BookAt H rm ba xs bk ∧ (∀ r ∈ rm, 2 ≤ r ∧ r ≤ 4) ∧ H a = some (.tup (st.map V.int)) ∧ st.length = rm.length ∧ HeldV H vh hs ∧
  ∀ (l : Addr) (H' : Hp), H l = none → StsAt H' l (betF bk st hs) → Same H H' → Q (.ref l) H'
/-! few: a box and a worth tell a bettering -/
theorem nodup_sub {α : Type} [BEq α] [LawfulBEq α] : ∀ {l l' : List α}, l.Nodup → (∀ x ∈ l, x ∈ l') → l.length ≤ l'.length
  | [], _, _, _ => Nat.zero_le _
  | a :: l, l', hn, h => by
    rw [List.nodup_cons] at hn
    have ha := h a List.mem_cons_self
    have := nodup_sub (l := l) (l' := l'.erase a) hn.2 fun x hx => by
      have hne : x ≠ a := fun z => hn.1 (by rw [← z]; exact hx)
      exact (List.mem_erase_of_ne hne).mpr (h x (List.mem_cons_of_mem _ hx))
    rw [List.length_erase_of_mem ha] at this
    have : 0 < l'.length := List.length_pos_of_mem ha
    rw [List.length_cons]
    omega
theorem goals_few {rm : List Int} {bk : List Wi} {st hs : List Int} {ks : List (List Int)} (hok : ∀ x ∈ bk, WishOk rm x) (h8 : rm.length ≤ 8) (hb : ∀ r ∈ rm, 2 ≤ r ∧ r ≤ 4) (hn : ks.Nodup) (hk : ∀ z ∈ ks, z ∈ goals bk st hs) : ks.length ≤ 32 := by
  have := nodup_sub (l' := (List.range 32).map fun c => chg st ((c / 4 : Nat) : Int) ((c % 4 : Nat) : Int)) hn fun z hz => by
    obtain ⟨x, hx, _, _, rfl⟩ := goals_mem.mp (hk z hz)
    have o := hok x hx
    have h1 := o.b1
    have h2 := o.b0
    have h3 := o.r0
    have h4 := o.r1
    have h5 := (room_many hb h2 h1).2
    refine List.mem_map.mpr ⟨4 * x.b.toNat + x.r.toNat, List.mem_range.mpr (by omega), ?_⟩
    rw [show (4 * x.b.toNat + x.r.toNat) / 4 = x.b.toNat by omega, show (4 * x.b.toNat + x.r.toNat) % 4 = x.r.toNat by omega, Int.toNat_of_nonneg h2, Int.toNat_of_nonneg h3]
  rw [List.length_map, List.length_range] at this
  exact this
theorem bet_few {rm : List Int} {bk : List Wi} {st hs : List Int} (hok : ∀ x ∈ bk, WishOk rm x) (h8 : rm.length ≤ 8) (hb : ∀ r ∈ rm, 2 ≤ r ∧ r ≤ 4) (hl : st.length = rm.length) : (betF bk st hs).length ≤ 32 :=
  goals_few (hs := hs) hok h8 hb (up_nodup (sortU_up (goals_len hok hl))) fun z hz => sortU_mem.mp hz
end L2
namespace L2
open PySem
end L2


set_option Elab.async false
set_option linter.all false
set_option maxRecDepth 100000
/-! x in a list or tuple of data -/
namespace L2
open PySem PySem.Spec PyProof.Rows PySem.SeqAt
theorem toWs_map : ∀ ds : List Dt, Dt.toWs ds = ds.map Dt.toW
  | [] => rfl
  | d :: ds => by rw [Dt.toWs, List.map_cons, toWs_map ds]
theorem kqdPs_map : ∀ ds : List PySem.W.Dat, PySem.W.kqdPs ds = ds.map PySem.W.kqdP
  | [] => by simp [PySem.W.kqdPs]
  | d :: ds => by rw [List.map_cons, ← kqdPs_map ds]; simp [PySem.W.kqdPs]
def rInD (neg : Bool) : R2 := fun x y H Q => ∃ d ds, Is H d x ∧ (Is H (.lst ds) y ∨ Is H (.tup ds) y) ∧ d.eqOk ∧ (Dt.lst ds).eqOk ∧ ∀ b : Bool, (b = true ↔ d ∈ ds) → Q (.bl (if neg then !b else b)) H
section
variable {X : Cx}
theorem items_ok {ds : List Dt} (h : (Dt.lst ds).eqOk) : ∀ d ∈ ds, PySem.W.kqdOk 7 d.toW = true := fun d hd => by
  have h' : PySem.W.kqdOk 8 (Dt.lst ds).toW = true := h
  simp only [Dt.toW, PySem.W.kqdOk, List.all_eq_true, toWs_map] at h'
  exact h' _ (List.mem_map.mpr ⟨d, hd, rfl⟩)
theorem any_mem {d : Dt} {ds : List Dt} (hd : d.eqOk) (hs : (Dt.lst ds).eqOk) : ((PySem.W.kqdPs (Dt.toWs ds)).any fun y => PyData.eqv y (PySem.W.kqdP d.toW)) = true ↔ d ∈ ds := by
  rw [kqdPs_map, toWs_map, List.map_map, List.any_map, List.any_eq_true]
  constructor
  · rintro ⟨e, he, h⟩
    have := (PySem.W.kqd_eqv 7 e.toW d.toW 8 (items_ok hs e he) hd).mp h
    rw [← toW_inj this]
    exact he
  · intro h
    exact ⟨d, h, (PySem.W.kqd_eqv 7 d.toW d.toW 8 (items_ok hs d h) hd).mpr rfl⟩
theorem kqd_mono {d : PySem.W.Dat} (h : PySem.W.kqdOk 7 d = true) : PySem.W.kqdOk 8 d = true := by
  have gen : ∀ (n : Nat) (d : PySem.W.Dat), PySem.W.kqdOk n d = true → PySem.W.kqdOk (n + 1) d = true := by
    intro n
    induction n with
    | zero => intro d h; cases d <;> simp_all [PySem.W.kqdOk]
    | succ n ih =>
      intro d h
      cases d <;> simp_all [PySem.W.kqdOk]
  exact gen 7 d h
theorem lay_of {d : Dt} {ds : List Dt} {u : Nat} (hd : d.eqOk) (hs : (Dt.lst ds).eqOk) (hu : u + 64 < cLine) : PyData.canLayAll0 (PySem.W.kqdPs (Dt.toWs ds)) = true ∧ (PySem.W.kqdP d.toW).canLay0 = true ∧ u + 1 + min (PyData.depthAll (PySem.W.kqdPs (Dt.toWs ds))) (PySem.W.kqdP d.toW).depth < cLine := by
  have l1 := PySem.W.kqd_lay 8 _ hd
  have l2 := PySem.W.kqd_layL (ds := Dt.toWs ds) fun e he => by
    rw [toWs_map] at he
    obtain ⟨e', he', rfl⟩ := List.mem_map.mp he
    exact kqd_mono (items_ok hs e' he')
  refine ⟨l2.1, l1.1, ?_⟩
  have : min (PyData.depthAll (PySem.W.kqdPs (Dt.toWs ds))) (PySem.W.kqdP d.toW).depth ≤ 8 := Nat.le_trans (Nat.min_le_right _ _) l1.2
  omega
theorem oq_inD (hu : X.A.units + 64 < cLine) : OpQ X (compareOp .In) (rInD false) := ⟨by
  intro pins s σ H x y v u Q I rx ry h
  obtain ⟨d, ds, hd, hy, kd, ks, q⟩ := h
  obtain ⟨as, ra⟩ := is_reads I.hok 8 hd rx kd
  obtain ⟨l1, l2, l3⟩ := lay_of kd ks hu
  rcases hy with hy | hy
  · obtain ⟨bs, rb⟩ := is_reads I.hok 8 hy ry ks
    exact in_list_reads rb ra l1 l2 l3 ⟨.bl _, H, I, rfl, q _ (any_mem kd ks)⟩
  · obtain ⟨bs, rb⟩ := is_reads I.hok 8 hy ry (show (Dt.tup ds).eqOk from ks)
    exact in_tuple_reads rb ra l1 l2 l3 ⟨.bl _, H, I, rfl, q _ (any_mem kd ks)⟩⟩
end
end L2


set_option Elab.async false
set_option linter.all false
set_option maxRecDepth 100000
/-! local pairs -/
namespace L2
open PySem PySem.Spec PyProof.Rows
def pairsL (bk : List Wi) (box : Int) (st : List Int) : List (List Int) := (bk.filter fun x => decide (x.b = box) && keepsB st x.g).map fun x => [x.w, x.r]
def lpF (bk : List Wi) (box : Int) (st : List Int) : List (List Int) := sortU (pairsL bk box st)
theorem pairsL_mem {bk : List Wi} {box : Int} {st z : List Int} : z ∈ pairsL bk box st ↔ ∃ x ∈ bk, x.b = box ∧ keepsB st x.g = true ∧ z = [x.w, x.r] := by
  unfold pairsL
  rw [List.mem_map]
  constructor
  · rintro ⟨x, hx, rfl⟩
    rw [List.mem_filter, Bool.and_eq_true] at hx
    exact ⟨x, hx.1, of_decide_eq_true hx.2.1, hx.2.2, rfl⟩
  · rintro ⟨x, h1, h2, h3, rfl⟩
    exact ⟨x, List.mem_filter.mpr ⟨h1, by rw [h3, decide_eq_true h2]; rfl⟩, rfl⟩
theorem pairsL_len {bk : List Wi} {box : Int} {st : List Int} : ∀ z ∈ pairsL bk box st, z.length = 2 := fun z hz => by
  obtain ⟨x, _, _, _, rfl⟩ := pairsL_mem.mp hz
  rfl
theorem pairsL_few {rm : List Int} {bk : List Wi} {box : Int} {st : List Int} {ks : List (List Int)} (hok : ∀ x ∈ bk, WishOk rm x) (hb : ∀ r ∈ rm, 2 ≤ r ∧ r ≤ 4) (hn : ks.Nodup) (hk : ∀ z ∈ ks, z ∈ pairsL bk box st) : ks.length ≤ 16 := by
  have := nodup_sub (l' := (List.range 16).map fun c => [((c / 4 : Nat) : Int), ((c % 4 : Nat) : Int)]) hn fun z hz => by
    obtain ⟨x, hx, _, _, rfl⟩ := pairsL_mem.mp (hk z hz)
    have o := hok x hx
    have h3 := o.r0
    have h4 := o.r1
    have h5 := (room_many hb o.b0 o.b1).2
    have h6 := o.w0
    have h7 := o.w1
    refine List.mem_map.mpr ⟨4 * x.w.toNat + x.r.toNat, List.mem_range.mpr (by omega), ?_⟩
    rw [show (4 * x.w.toNat + x.r.toNat) / 4 = x.w.toNat by omega, show (4 * x.w.toNat + x.r.toNat) % 4 = x.r.toNat by omega, Int.toNat_of_nonneg h6, Int.toNat_of_nonneg h3]
  rw [List.length_map, List.length_range] at this
  exact this
theorem lp_len {bk : List Wi} {box : Int} {st : List Int} : ∀ z ∈ lpF bk box st, z.length = 2 := sortU_len pairsL_len
/-! pairs tried one by one -/
def triedRow (C : Nat → Nat → Bool) (w j : Nat) : List (List Int) := ((List.range j).filter (C w)).map fun b : Nat => [(w : Int), (b : Int)]
def tried (C : Nat → Nat → Bool) (n : Nat) : Nat → List (List Int)
  | 0 => []
  | i + 1 => tried C n i ++ triedRow C i n
/-! what a wish leads to, or None -/
theorem stD_inj {a b : List Int} (h : stD a = stD b) : a = b := by
  have := congrArg (List.map Dt.val) (Dt.tup.inj h)
  rwa [vals_ints_map, vals_ints_map] at this
def spLocal : Sp := fun vs H Q _ => ∃ (v0 : V) (ba a : Addr) (box : Int) (rm : List Int) (xs : List V) (bk : List Wi) (st : List Int), vs = [v0, .ref ba, .int box, .ref a] ∧ BookAt H rm ba xs bk ∧ (∀ r ∈ rm, 2 ≤ r ∧ r ≤ 4) ∧ H a = some (.tup (st.map V.int)) ∧ st.length = rm.length ∧
  ∀ (l : Addr) (H' : Hp), H l = none → StsAt H' l (lpF bk box st) → Same H H' → Q (.ref l) H'
end L2


set_option Elab.async false
set_option linter.all false
set_option maxRecDepth 100000
set_option maxHeartbeats 3200000
/-! set(list of int tuples) -/
namespace L2
open PySem PySem.Spec PyProof.Rows PySem.W PySem.Calls
section
variable {prog : Program} {w : World} {A : Around} {E : Value → Shared → Prop} {s : Shared} {R : Result → Shared → Prop}
theorem mem_keyed {ns : List Int} {l : List (List Int × Addr)} : (ns.map Sum.inl) ∈ (keyed l).map (·.1) ↔ ns ∈ l.map (·.1) := by
  unfold keyed
  rw [List.map_map, List.mem_map, List.mem_map]
  constructor
  · rintro ⟨q, hq, e⟩
    refine ⟨q, hq, ?_⟩
    have e' : q.1.map (Sum.inl : Int → Key) = ns.map Sum.inl := e
    exact map_inl_inj e'
  · rintro ⟨q, hq, rfl⟩
    exact ⟨q, hq, rfl⟩
theorem add_keyed {a b : Addr} {ns : List Int} {xs : List (List Int × Addr)} {Q : Bool → Shared → Prop} (hu : A.units < cLine) (S : SetIn prog w s.heap a (keyed xs)) (hk : (tk prog w).is s.heap (ns.map Sum.inl) b) (hel : ∀ q ∈ xs, (tk prog w).is s.heap (q.1.map Sum.inl) q.2) (hnd : (xs.map (·.1)).Nodup) (hn : xs.length < 300)
    (h : ∀ r h' n xs2, Heap.SameBut a s.heap h' → SetIn prog w h' a (keyed xs2) → (∀ q ∈ xs2, q ∈ xs ∨ q = (ns, b)) → (∀ x, x ∈ xs2.map (·.1) ↔ x = ns ∨ x ∈ xs.map (·.1)) → (xs2.map (·.1)).Nodup → xs2.length ≤ xs.length + 1 → Q r { s with heap := h', toks := n }) :
    wpAny (model prog w) A (setAdd a (.ref b)) Q E s := by
  refine add_wp (xs := keyed xs) (ns := ns) hu S hk (fun q hq => ?_) (by unfold keyed; rw [List.length_map]; exact hn) fun r h' n xs' sb S' hin hout => ?_
  · unfold keyed at hq
    obtain ⟨q', hq', rfl⟩ := List.mem_map.mp hq
    exact hel q' hq'
  · by_cases hm : ns ∈ xs.map (·.1)
    · obtain rfl := hin (mem_keyed.mpr hm)
      exact h r h' n xs sb S' (fun q hq => .inl hq) (fun x => ⟨.inr, fun z => z.elim (fun e => e ▸ hm) id⟩) hnd (Nat.le_succ _)
    · have hp := hout fun z => hm (mem_keyed.mp z)
      have hk : ((ns.map Sum.inl, b) :: keyed xs) = keyed ((ns, b) :: xs) := rfl
      rw [hk] at hp
      obtain ⟨xs2, hp2, rfl⟩ := perm_map_inv hp rfl
      refine h r h' n xs2 sb S' (fun q hq => ?_) (fun x => ?_) ?_ ?_
      · rcases List.mem_cons.mp ((hp2.mem_iff).mp hq) with z | z
        · exact .inr z
        · exact .inl z
      · rw [(hp2.map (·.1)).mem_iff, List.map_cons, List.mem_cons]
      · rw [(hp2.map (·.1)).nodup_iff, List.map_cons, List.nodup_cons]
        exact ⟨hm, hnd⟩
      · rw [hp2.length_eq, List.length_cons]
        exact Nat.le_refl _
theorem SetIn.keep {h h' : Heap} {a : Addr} {xs : List (List Key × Addr)} (S : SetIn prog w h a xs) (k : ∀ o, h.get? a = some o → h'.get? a = some o) : SetIn prog w h' a xs := by
  obtain ⟨o, es, ep, t, ho, r⟩ := S
  exact ⟨o, es, ep, t, k o ho, r⟩
theorem tk_keep {h h' : Heap} {k : List Key} {b : Addr} (x : (tk prog w).is h k b) (kp : ∀ o, h.get? b = some o → h'.get? b = some o) : (tk prog w).is h' k b := by
  obtain ⟨o, its, n, ho, r⟩ := x
  exact ⟨o, its, n, kp o ho, r⟩
theorem set_loop {S I l : Addr} {items : Array Value} {ns : List (List Int × Addr)} (hh : A.in1.handled = none) (hu : A.in1.units < cLine) (hit : items.toList = ns.map fun q => Value.ref q.2) (hSI : S ≠ I) (hlS : l ≠ S) (hlI : l ≠ I) (hq : ∀ q ∈ ns, q.2 ≠ S ∧ q.2 ≠ I) (hn : ns.length < 300) :
    ∀ (k i : Nat) (s : Shared) (xs : List (List Int × Addr)), ns.length - i = k → i ≤ ns.length → s.heap.IsListIter I l i → s.heap.IsList l items → (∀ q ∈ ns, (tk prog w).is s.heap (q.1.map Sum.inl) q.2) → SetIn prog w s.heap S (keyed xs) →
      (∀ q ∈ xs, q ∈ ns) → (∀ st, st ∈ xs.map (·.1) ↔ st ∈ (ns.take i).map (·.1)) → (xs.map (·.1)).Nodup → xs.length ≤ i →
      (∀ h' tk' xs', SetIn prog w h' S (keyed xs') → (∀ q ∈ xs', q ∈ ns) → (∀ st, st ∈ xs'.map (·.1) ↔ st ∈ ns.map (·.1)) → (xs'.map (·.1)).Nodup → xs'.length ≤ ns.length → (∀ b o, b ≠ S → b ≠ I → s.heap.get? b = some o → h'.get? b = some o) → R (.ok (.ret .none)) { s with heap := h', toks := tk' }) →
      codeAny (model prog w) A (.builtin "set.update.loop" ⟨[.ref S, .ref I], []⟩) R s := by
  intro k
  induction k with
  | zero =>
    intro i s xs hk hi hI hl hel hS hsub hmem hnd hlen hR
    have hin : i = ns.length := by omega
    subst hin
    refine codeAny_builtin PyProof.Rows.F.entry_set_update_loop ?_
    rw [Around.under_plainId PyProof.Rows.F.plain_set_update_loop _]
    show wpAny _ A.in1 (pyNext (.ref I) >>= _) _ _ s
    refine wpAny_bind (wpAny_pyNext_list_end hh hI hl ?_ fun h' hx => ?_)
    · rw [arr_q, hit, List.getElem?_map, List.getElem?_eq_none (Nat.le_refl _)]
      rfl
    show wpAny _ A.in1 (ret Value.none) _ _ _
    refine wpAny_pure (hR h' s.toks xs (hS.keep fun o e => hx S o hSI e) hsub (fun st => ?_) hnd hlen fun b o _ hb e => hx b o hb e)
    rw [hmem, List.take_length]
  | succ k ih =>
    intro i s xs hk hi hI hl hel hS hsub hmem hnd hlen hR
    have hlt : i < ns.length := by omega
    refine codeAny_builtin PyProof.Rows.F.entry_set_update_loop ?_
    rw [Around.under_plainId PyProof.Rows.F.plain_set_update_loop _]
    show wpAny _ A.in1 (pyNext (.ref I) >>= _) _ _ s
    have hx : items[i]? = some (Value.ref ns[i].2) := by rw [arr_q, hit, List.getElem?_map, List.getElem?_eq_getElem hlt]; rfl
    have hmi : ns[i] ∈ ns := List.getElem_mem hlt
    refine wpAny_bind (wpAny_pyNext_list_item hI hl hx fun h1 hI1 hs1 => ?_)
    show wpAny _ A.in1 (holding [Value.ref ns[i].2] (setAdd S (.ref ns[i].2)) >>= _) _ _ _
    have kp1 : ∀ b o, b ≠ I → s.heap.get? b = some o → h1.get? b = some o := fun b o hb e => by rw [hs1.2 b hb]; exact e
    have hel1 : ∀ q ∈ ns, (tk prog w).is h1 (q.1.map Sum.inl) q.2 := fun q z => tk_keep (hel q z) fun o e => kp1 _ _ (hq q z).2 e
    refine wpAny_bind (wpAny_holding ?_)
    refine add_keyed (s := { s with heap := h1 }) (xs := xs) (ns := ns[i].1) hu (hS.keep fun o e => kp1 _ _ hSI e) (hel1 _ hmi) (fun q z => hel1 q (hsub q z)) hnd (by omega) fun r h2 n xs2 sb S2 hsub2 hmem2 hnd2 hlen2 => ?_
    have kp2 : ∀ b o, b ≠ S → h1.get? b = some o → h2.get? b = some o := fun b o hb e => by rw [sb.2 b hb]; exact e
    refine wpAny_pure ⟨plainId_quiet PyProof.Rows.F.plain_set_update_loop _, ih (i + 1) _ xs2 (by omega) hlt ?_ ?_ ?_ S2 ?_ ?_ hnd2 (by omega) ?_⟩
    · obtain ⟨o, ho, r⟩ := hI1
      exact ⟨o, kp2 _ _ hSI.symm ho, r⟩
    · obtain ⟨o, ho, r⟩ := hl
      exact ⟨o, kp2 _ _ hlS (kp1 _ _ hlI ho), r⟩
    · exact fun q z => tk_keep (hel1 q z) fun o e => kp2 _ _ (hq q z).1 e
    · intro q z
      rcases hsub2 q z with z | z
      · exact hsub q z
      · rw [z]; exact hmi
    · intro st
      rw [hmem2, hmem, List.take_succ, List.getElem?_eq_getElem hlt, List.map_append, List.mem_append]
      constructor
      · rintro (z | z)
        · exact .inr (by rw [z]; exact List.mem_singleton.mpr rfl)
        · exact .inl z
      · rintro (z | z)
        · exact .inr z
        · exact .inl (List.mem_singleton.mp z)
    · intro h' tk' xs' S' a1 a2 a3 a4 kp
      exact hR h' tk' xs' S' a1 a2 a3 a4 fun b o b1 b2 e => kp b o b1 b2 (kp2 b o b1 (kp1 b o b2 e))
theorem code_set_newT (a : Value) {Q₁ : Value → Shared → Prop}
    (h : Q₁ (.ref s.heap.objs.size) { s with heap := s.heap.push { cls := .type "set", dict := none, data := .set #[] 0 (.fresh 0 0 (!w.params.followText "set-order")) } }) :
    codeAny (model prog w) A (.call (.builtin "set.__new__") ⟨[.type "set", a], []⟩) (wants Q₁ E) s := by
  refine codeAny_of_tree ?_
  show wpAny _ A.in1 (do checkBuiltinCall "set.__new__" ⟨[.type "set", a], []⟩; again (.builtin "set.__new__" ⟨[.type "set", a], []⟩)) _ _ s
  refine wpAny_bind (wpAny_of_eq (PySem.F.newCall_set_1 a) (wpAny_pure ⟨plainId_quiet PySem.F.plain_set_new _, codeAny_builtin PySem.F.entry_set_new ?_⟩))
  rw [Around.under_plainId PySem.F.plain_set_new _]
  unfold Builtin.«set.__new__» Builtin.Frozenset.newClass
  have hsub := sub_set_self
  obtain ⟨hp, g, d, tk, os⟩ := s
  dsimp only
  wp_walk
  refine wpAny_askSetting (wpAny_pure ?_)
  dsimp only
  simp only [newObj]
  refine wpAny_bind (wpAny_alloc (wpAny_pure ?_))
  exact wpAny_pure h
theorem call_set_tups {l : Addr} {items : Array Value} {ns : List (List Int × Addr)} {Q : Value → Shared → Prop}
    (hh : A.handled = none) (hu : A.units + 10 < cLine) (hl : s.heap.IsList l items) (hit : items.toList = ns.map fun q => Value.ref q.2) (hel : ∀ q ∈ ns, (tk prog w).is s.heap (q.1.map Sum.inl) q.2) (hn : ns.length < 300)
    (h : ∀ (h' : Heap) (tk : Nat) (xs : List (List Int × Addr)), SetIn prog w h' s.heap.objs.size (keyed xs) → (∀ q ∈ xs, q ∈ ns) → (∀ st, st ∈ xs.map (·.1) ↔ st ∈ ns.map (·.1)) → (xs.map (·.1)).Nodup → xs.length ≤ ns.length →
      (∀ b o, b < s.heap.objs.size → s.heap.get? b = some o → h'.get? b = some o) → Q (.ref s.heap.objs.size) { s with heap := h', toks := tk }) :
    wpAny (model prog w) A (call (.type "set") [.ref l]) Q E s := by
  obtain ⟨c, tl, hmro⟩ := PySem.F.called_set.mro
  have hmade := PySem.F.called_set.made
  have hsub := PySem.F.called_set.sub
  refine wpAny_call (codeAny_of_tree ?_)
  show wpAny _ _ (callAny (.type "set") _) _ _ _
  refine wpAny_pure ⟨Code.quiet_builtin _ (by decide +kernel), codeAny_builtin PySem.F.entry_type_call ?_⟩
  rw [Around.under_plain (weight_type_call_type "set" [.ref l] []) rfl]
  have h1 := PySem.F.called_set.notType
  have h2 := PySem.F.called_set.canCreate
  have hct := PySem.F.typeCall_set_1 (.ref l)
  repeat (any_goals (first | assumption | wp_step))
  generalize hled : (!w.params.followText "set-order") = led at *
  refine codeAny_mono (code_set_newT (.ref l) (E := E) (Q₁ := fun obj s₁ => obj = .ref s.heap.objs.size ∧ s₁ = { s with heap := s.heap.push { cls := .type "set", dict := none, data := .set #[] 0 (.fresh 0 0 led) } }) ⟨rfl, by rw [hled]⟩) fun r s₁ hr => ?_
  cases r with
  | error e => exact hr
  | ok fl =>
    cases fl with
    | ret obj =>
      obtain ⟨rfl, rfl⟩ := hr
      have hS : (s.heap.push { cls := .type "set", dict := none, data := .set #[] 0 (.fresh 0 0 led) }).get? s.heap.objs.size = some { cls := .type "set", dict := none, data := .set #[] 0 (.fresh 0 0 led) } := Heap.get?_push_size _ rfl
      have hT : Shared.TypeIs { s with heap := s.heap.push { cls := .type "set", dict := none, data := .set #[] 0 (.fresh 0 0 led) } } (.ref s.heap.objs.size) "set" := ⟨_, hS, rfl⟩
      have hli := PySem.F.called_set.init.lookup
      have hbi := PySem.F.called_set.init.bind (.ref s.heap.objs.size)
      repeat (any_goals (first | assumption | wp_step))
      refine codeAny_mono (codeAny_call_builtin (R := wants (fun r s₂ => r = .none ∧ ∃ h' tk, s₂ = { s with heap := h', toks := tk } ∧
          ∃ xs : List (List Int × Addr), SetIn prog w h' s.heap.objs.size (keyed xs) ∧ (∀ q ∈ xs, q ∈ ns) ∧ (∀ st, st ∈ xs.map (·.1) ↔ st ∈ ns.map (·.1)) ∧ (xs.map (·.1)).Nodup ∧ xs.length ≤ ns.length ∧
          (∀ b o, b < s.heap.objs.size → s.heap.get? b = some o → h'.get? b = some o)) E) PySem.F.called_set.init.plain PySem.F.entry_set_init (check_set_init_1 hT ?_)) fun r₂ s₂ hr₂ => ?_
      · obtain ⟨ol, hol, hcl, nl, hdl⟩ := hl
        obtain ⟨ocls, odict, odata, oslots⟩ := ol
        simp only at hcl hdl
        subst hcl; subst hdl
        have hol' : (s.heap.push { cls := .type "set", dict := none, data := .set #[] 0 (.fresh 0 0 led) }).get? l = some { cls := .type "list", dict := odict, data := .seq items nl, slots := oslots } := Heap.get?_push_of_some _ hol
        have hsls := PySem.F.sub_list_set
        have hslf := PySem.F.sub_list_frozenset
        have hne : (Value.type "list" == Value.type "dict") = false := by decide
        have hl1 : (s.heap.push { cls := .type "set", dict := none, data := .set #[] 0 (.fresh 0 0 led) }).IsList l items := ⟨_, hol', rfl, nl, rfl⟩
        unfold Builtin.«set.__init__» noKeywords Builtin.Frozenset.updateFrom
        generalize hPI : pyIter = PI
        wp_walk
        subst hPI
        refine wpAny_pyIter_list hl1 ?_
        refine wpAny_bind (wpAny_runValue ?_)
        have hlS : l < s.heap.objs.size := Heap.lt_size hol
        have hqS : ∀ q ∈ ns, q.2 < s.heap.objs.size := fun q hq => by
          obtain ⟨o, _, _, ho, _⟩ := hel q hq
          exact Heap.lt_size ho
        refine set_loop (items := items) (ns := ns) (l := l) (by simp [hh]) (by simp; omega) hit ?_ ?_ ?_ ?_ hn (ns.length - 0) 0 _ [] (by omega) (Nat.zero_le _) ⟨_, Heap.get?_push_size _ rfl, rfl, rfl⟩ (hl1.push _) ?_ ?_ ?_ ?_ ?_ ?_ ?_
        · rw [Heap.size_push]; exact Nat.ne_of_lt (Nat.lt_succ_self _)
        · exact Nat.ne_of_lt hlS
        · rw [Heap.size_push]; exact Nat.ne_of_lt (Nat.lt_succ_of_lt hlS)
        · intro q hq
          have := hqS q hq
          rw [Heap.size_push]
          exact ⟨Nat.ne_of_lt this, Nat.ne_of_lt (Nat.lt_succ_of_lt this)⟩
        · exact fun q hq => tk_keep (hel q hq) fun o e => Heap.get?_push_of_some _ (Heap.get?_push_of_some _ e)
        · refine SetIn.keep (h := s.heap.push { cls := .type "set", dict := none, data := .set #[] 0 (.fresh 0 0 led) }) ?_ fun o e => Heap.get?_push_of_some _ e
          rw [← hled]
          exact setIn_new _
        · exact fun q hq => by simp at hq
        · intro st; simp
        · exact List.nodup_nil
        · exact Nat.le_refl _
        · intro h' tk' xs' S' a1 a2 a3 a4 kp
          show wpAny _ _ _ _ _ _
          refine wpAny_pure ?_
          show wpAny _ _ (ret Value.none) _ _ _
          refine wpAny_pure ⟨rfl, h', tk', rfl, xs', S', a1, a2, a3, a4, fun b o hb e => ?_⟩
          refine kp b o (Nat.ne_of_lt hb) (by rw [Heap.size_push]; exact Nat.ne_of_lt (Nat.lt_succ_of_lt hb)) (Heap.get?_push_of_some _ (Heap.get?_push_of_some _ e))
      · cases r₂ with
        | error e => exact hr₂
        | ok fl₂ =>
          cases fl₂ with
          | ret r =>
            obtain ⟨rfl, h', tk, rfl, xs, S', a1, a2, a3, a4, hk'⟩ := hr₂
            repeat (any_goals (first | assumption | wp_step))
            exact h _ _ xs S' a1 a2 a3 a4 hk'
          | _ => exact hr₂.elim
    | _ => exact hr.elim
end
end L2


set_option Elab.async false
set_option linter.all false
set_option maxRecDepth 100000
set_option maxHeartbeats 1000000
namespace L2
open PySem PySem.Spec PyProof.Rows PySem.W PySem.Calls
section
variable {X : Cx}
/-- set of a list of int tuples -/
def rSetLT (P : Program) (w : World) : List V → Hp → VK → Prop := fun xs H Q => ∃ (a : Addr) (ys : List V) (sts : List (List Int)), xs = [.ref a] ∧ H a = some (.lst ys) ∧ IsL H (sts.map stD) ys ∧ sts.length < 300 ∧
  ∀ (l : Addr) (H' : Hp) (ks : List (List Int)), H l = none → SetV P w H' l ks → (∀ st, st ∈ ks ↔ st ∈ sts) → Same H H' → Q (.ref l) H'
theorem cq_setL (hu : X.A.units + 64 < cLine) (hc : X.calm = true) : CallQ X (.type "set") (rSetLT X.prog X.w) := ⟨by
  intro pins s σ H xs us Q I r h
  obtain ⟨a, ys, sts, rfl, ha, hys, hn, q⟩ := h
  obtain ⟨u, rfl, ru⟩ := vals1 r
  cases ru
  have gen : ∀ {sts : List (List Int)} {ys : List V}, IsL H (sts.map stD) ys → ∃ ns : List (List Int × Addr), ys = ns.map (fun q => V.ref q.2) ∧ ns.map (·.1) = sts ∧ ∀ q ∈ ns, H q.2 = some (.tup (q.1.map V.int)) := by
    intro sts
    induction sts with
    | nil => intro ys h; cases h; exact ⟨[], rfl, rfl, fun _ h => by simp at h⟩
    | cons st sts ih =>
      intro ys h
      · obtain ⟨y, ys', rfl, h1, h2⟩ := h
        obtain ⟨ns, rfl, e2, e3⟩ := ih h2
        obtain ⟨b, us, rfl, hb, hus⟩ := h1
        obtain rfl := hus.of_ints
        refine ⟨(st, b) :: ns, rfl, by rw [List.map_cons, e2], fun q hq => ?_⟩
        rcases List.mem_cons.mp hq with rfl | hq
        · exact hb
        · exact e3 q hq
  obtain ⟨ns, rfl, rfl, e3⟩ := gen hys
  obtain ⟨hz, its, n, hv, hg⟩ := (show ObjOk X.prog X.w H s.heap a (.lst _) from I.hok a _ ha)
  have hits : its = ns.map fun q => Value.ref q.2 := by
    have g2 : ∀ {ns : List (List Int × Addr)} {its : List Value}, Vals (ns.map fun q => V.ref q.2) its → its = ns.map fun q => Value.ref q.2 := by
      intro ns
      induction ns with
      | nil => intro its r; cases r; rfl
      | cons q ns ih =>
        intro its r
        cases r with
        | cons r1 r2 =>
          cases r1
          rw [List.map_cons, ← ih r2]
    exact g2 hv
  rw [List.length_map] at hn
  refine call_set_tups (items := its.toArray) (ns := ns) (I.ok.hd hc) (by omega) ⟨_, hg, rfl, n, rfl⟩ (by simpa using hits) (fun q hq => keyI_of I (e3 q hq)) hn fun h' tk xs S' a1 a2 a3 a4 kp => ?_
  have hf : H s.heap.objs.size = none := I.hok.fresh (Nat.le_refl _)
  refine ⟨.ref s.heap.objs.size, _, I.laid (t' := tk) (o := setO X.prog X.w s.heap.objs.size (keyed xs)) (fun b o e => kp b o (Heap.lt_size e) e) (Nat.le_refl _) (setO_ok S'), rfl, ?_⟩
  refine q s.heap.objs.size _ (xs.map (·.1)) hf ⟨xs, upd_same, fun z hz => ?_, rfl, a3⟩ (fun st => a2 st) (fun b o e => by rw [upd_ne (ne_of_none e hf)]; exact e)
  have := e3 z (a1 z hz)
  rw [upd_ne (ne_of_none this hf)]
  exact this⟩
end
end L2


set_option Elab.async false
set_option linter.all false
set_option maxRecDepth 100000
/-! xs[::k] of a list, k from 1 on -/
namespace L2
open PySem PySem.Spec PyProof.Rows
section
variable {X : Cx} {e st : Expr} {te tk : TE} {pos p2 : Pos}
theorem vals_fm {xs : List V} {us : List Value} (r : Vals xs us) : ∀ l : List Nat, Vals (l.filterMap fun i => xs[i]?) (l.filterMap fun i => us.toArray[i]?)
  | [] => .nil
  | i :: l => by
    have ih := vals_fm r l
    have hl := r.length
    cases h : xs[i]? with
    | some x =>
      obtain ⟨u, hu, rx⟩ := r.get h
      rw [List.filterMap_cons_some h, List.filterMap_cons_some (show us.toArray[i]? = some u by simpa using hu)]
      exact .cons rx ih
    | none =>
      have h' := r.none_of h
      rw [List.filterMap_cons_none h, List.filterMap_cons_none (show us.toArray[i]? = none by simpa using h')]
      exact ih
theorem pick_step {us : Array Value} {n : Int} (hn : 1 ≤ n) : ∃ l : List Nat, l.length ≤ us.size ∧ slicePick us none none (some n) = (l.filterMap fun i => us[i]?).toArray := by
  have e1 : sliceBounds none none (some n) us.size = (0, (us.size : Int), n) := by
    simp [sliceBounds]
    omega
  refine ⟨sliceRange 0 us.size n, ?_, ?_⟩
  · unfold sliceRange
    rw [List.length_map, List.length_range]
    rw [if_pos (by omega)]
    split
    · rename_i h
      have h1 : 1 ≤ (us.size : Int) := by omega
      have h2 := Int.mul_nonneg (show 0 ≤ (us.size : Int) - 1 by omega) (show 0 ≤ n - 1 by omega)
      rw [Int.sub_mul, Int.mul_sub] at h2
      have h3 : ((us.size : Int) - 0 + n - 1) / n ≤ us.size := Int.ediv_le_of_le_mul (by omega) (by omega)
      omega
    · exact Nat.zero_le _
  · unfold slicePick
    rw [e1]
def tStepL (te tk : TE) : TE := fun σ H Q => te σ H fun x H1 => ∃ a xs, x = .ref a ∧ H1 a = some (.lst xs) ∧ tk σ H1 fun y H2 => ∃ n, y = .int n ∧ 1 ≤ n ∧ H2 a = some (.lst xs) ∧ ∀ ys : List V, (∀ y ∈ ys, y ∈ xs) → ys.length ≤ xs.length → New H2 (.lst ys) Q
theorem pe_stepL (he : PE X e te) (hk : PE X st tk) : PE X (.Subscript e (.Slice none none (some st) p2) pos) (tStepL te tk) := by
  intro pins s σ H Q I h
  refine Subscript_ (thn (he pins s σ H _ I h) fun v s1 ⟨x, H1, I1, r1, q1⟩ => ?_)
  obtain ⟨a, xs, rfl, ha1, q2⟩ := q1
  cases r1
  refine wpAny_Slice ?_
  rw [evalPart_none]
  refine wpAny_pure (wpAny_pure ?_)
  rw [evalPart_some]
  refine thn (hk pins s1 σ H1 _ I1 q2) fun u s2 ⟨z, H2, I2, r2, q3⟩ => ?_
  obtain ⟨n, rfl, hn, ha, q⟩ := q3
  obtain ⟨tk, rfl⟩ := r2
  have I3 : Inv X pins σ H2 { s2 with heap := s2.heap.push { cls := .type "slice", data := .fields #[.none, .none, .int n tk] } } := I2.kept (t' := s2.toks) fun b ob q => Heap.get?_push_of_some _ q
  obtain ⟨its, r, ht, hz⟩ := I3.list (.of ha)
  have hlen := r.length
  show wpAny (model X.prog X.w) X.A (subscriptTail e _ (.ref a) (.ref s2.heap.objs.size)) (EP X pins σ Q) X.xe { s2 with heap := s2.heap.push { cls := .type "slice", data := .fields #[.none, .none, .int n tk] } }
  refine tail_any (ops := [.ref a, .ref s2.heap.objs.size]) ht.isList.typeIs slot_list_getitem.lookup ?_ (by with_unfolding_all rfl)
  obtain ⟨l, hl, hp⟩ := pick_step (us := its.toArray) hn
  rw [List.size_toArray] at hl
  have hle : (l.filterMap fun i => xs[i]?).length ≤ xs.length := by
    have := List.length_filterMap_le (fun i => xs[i]?) l
    omega
  refine wpAny_getItem_list_slice ht.isList (Heap.IsSliceOf.new ..) .none .none (.int n tk) (by simp; omega) ?_ (by rw [List.size_toArray] <;> omega)
  rw [hp]
  refine ⟨.ref _, _, I3.laid (t' := s2.toks) (o := .lst (l.filterMap fun i => xs[i]?)) (fun b ob q => Heap.get?_push_of_some _ q) (Nat.le_refl _) ?_, rfl, (q _ (fun y hy => ?_) hle).at (I3.hok.fresh (Nat.le_refl _))⟩
  · exact ⟨by omega, _, 0, vals_fm r l, Heap.get?_push_size _ rfl⟩
  · obtain ⟨i, _, hi⟩ := List.mem_filterMap.mp hy
    exact List.mem_of_getElem? hi
theorem qe_stepL (he : QE X e te) (hk : QE X st tk) : QE X (.Subscript e (.Slice none none (some st) p2) pos) (tStepL te tk) := ⟨pe_stepL he.run hk.run⟩
end
end L2


set_option Elab.async false
set_option linter.all false
set_option maxRecDepth 100000
/-! why, betterings and local pairs hang together -/
namespace L2
open PySem PySem.Spec PyProof.Rows
theorem whyF_none {one other : List Int} : ∀ {bk : List Wi} {i : Nat}, whyF one other i bk = none ↔ ∀ x ∈ bk, hits one other x = false
  | [], i => ⟨fun _ _ h => by simp at h, fun _ => rfl⟩
  | x :: bk, i => by
    show (if hits one other x then some i else whyF one other (i + 1) bk) = none ↔ _
    by_cases h : hits one other x = true
    · rw [if_pos h]
      constructor
      · intro z; cases z
      · intro z; rw [z x List.mem_cons_self] at h; cases h
    · rw [if_neg h, whyF_none]
      constructor
      · intro z y hy
        rcases List.mem_cons.mp hy with rfl | hy
        · exact Bool.eq_false_iff.mpr h
        · exact z y hy
      · exact fun z y hy => z y (List.mem_cons_of_mem _ hy)
theorem whyF_shift {one other : List Int} : ∀ {bk : List Wi} (i n : Nat), whyF one other (i + n) bk = (whyF one other i bk).map (· + n)
  | [], _, _ => rfl
  | x :: bk, i, n => by
    show (if hits one other x then some (i + n) else whyF one other (i + n + 1) bk) = (if hits one other x then some i else whyF one other (i + 1) bk).map (· + n)
    by_cases h : hits one other x = true
    · rw [if_pos h, if_pos h]; rfl
    · rw [if_neg h, if_neg h, show i + n + 1 = (i + 1) + n by omega, whyF_shift]
theorem whyF_app {one other : List Int} {bk2 : List Wi} : ∀ {bk : List Wi} (i : Nat), whyF one other i (bk ++ bk2) = match whyF one other i bk with | some j => some j | none => whyF one other (i + bk.length) bk2
  | [], i => by simp [whyF]
  | x :: bk, i => by
    show (if hits one other x then some i else whyF one other (i + 1) (bk ++ bk2)) = match (if hits one other x then some i else whyF one other (i + 1) bk) with | some j => some j | none => whyF one other (i + (bk.length + 1)) bk2
    by_cases h : hits one other x = true
    · rw [if_pos h, if_pos h]
    · rw [if_neg h, if_neg h, whyF_app, show i + 1 + bk.length = i + (bk.length + 1) by omega]
theorem whyF_some {one other : List Int} : ∀ {bk : List Wi} {i j : Nat}, whyF one other i bk = some j → ∃ k x, j = i + k ∧ bk[k]? = some x ∧ hits one other x = true ∧ ∀ y ∈ bk.take k, hits one other y = false
  | [], _, _, h => by cases h
  | x :: bk, i, j, h => by
    have h : (if hits one other x then some i else whyF one other (i + 1) bk) = some j := h
    by_cases hx : hits one other x = true
    · rw [if_pos hx] at h
      exact ⟨0, x, (Option.some.inj h).symm, rfl, hx, fun y hy => by simp at hy⟩
    · rw [if_neg hx] at h
      obtain ⟨k, y, e, h1, h2, h3⟩ := whyF_some h
      refine ⟨k + 1, y, by omega, h1, h2, fun z hz => ?_⟩
      rw [List.take_succ_cons] at hz
      rcases List.mem_cons.mp hz with rfl | hz
      · exact Bool.eq_false_iff.mpr hx
      · exact h3 z hz
theorem hits_iff {one other : List Int} {x : Wi} : hits one other x = true ↔ goalB one x = true ∧ chg one x.b x.r = other := by
  unfold hits
  rw [Bool.and_eq_true, decide_eq_true_eq]
theorem bet_mem {bk : List Wi} {one other : List Int} : other ∈ betF bk one [] ↔ ∃ x ∈ bk, hits one other x = true := by
  unfold betF
  rw [sortU_mem, goals_mem]
  constructor
  · rintro ⟨x, hx, h1, _, h2⟩
    exact ⟨x, hx, hits_iff.mpr ⟨h1, h2.symm⟩⟩
  · rintro ⟨x, hx, h⟩
    obtain ⟨h1, h2⟩ := hits_iff.mp h
    exact ⟨x, hx, h1, List.not_mem_nil, h2.symm⟩
theorem bet_why {bk : List Wi} {one other : List Int} {i : Nat} : other ∈ betF bk one [] ↔ whyF one other i bk ≠ none := by
  rw [bet_mem, Ne, whyF_none]
  constructor
  · rintro ⟨x, hx, h⟩ z
    rw [z x hx] at h
    cases h
  · intro h
    apply Classical.byContradiction
    intro z
    exact h fun x hx => Bool.eq_false_iff.mpr fun e => z ⟨x, hx, e⟩
theorem bet_turn {rm : List Int} {bk : List Wi} {one other : List Int} (hok : ∀ x ∈ bk, WishOk rm x) (h1 : one.length = rm.length) (h2 : other.length = rm.length) : one ∈ betF (bk.map turnW) other [] ↔ other ∈ betF bk one [] := by
  rw [bet_why (i := 0), bet_why (i := 0), whyF_turn h1 h2 0 hok]
theorem lp_bet {rm : List Int} {bk : List Wi} {one : List Int} {box wo : Int} (hok : ∀ x ∈ bk, WishOk rm x) (h1 : one.length = rm.length) (b0 : 0 ≤ box) (b1 : box < rm.length) : [many one box, wo] ∈ lpF bk box one ↔ chg one box wo ∈ betF bk one [] := by
  unfold lpF
  rw [sortU_mem, pairsL_mem, bet_mem]
  constructor
  · rintro ⟨x, hx, rfl, hk, e⟩
    injection e with e1 e2
    injection e2 with e2 _
    subst e2
    refine ⟨x, hx, hits_iff.mpr ⟨?_, rfl⟩⟩
    unfold goalB
    rw [hk, decide_eq_true e1]
    rfl
  · rintro ⟨x, hx, h⟩
    obtain ⟨hg, he⟩ := hits_iff.mp h
    have o := hok x hx
    have o0 := o.b0
    have o1 := o.b1
    unfold goalB at hg
    rw [Bool.and_eq_true, decide_eq_true_eq] at hg
    have e1 : many (chg one x.b x.r) x.b = x.r := by rw [chg_get o0 (by omega) o0, if_pos rfl]
    by_cases hb : x.b = box
    · subst hb
      rw [he, chg_get b0 (by omega) b0, if_pos rfl] at e1
      exact ⟨x, hx, rfl, hg.2, by rw [hg.1, e1]⟩
    · exfalso
      rw [he, chg_get b0 (by omega) o0, if_neg hb, hg.1] at e1
      exact o.ne e1.symm
theorem bet_app {rm : List Int} {bk bk2 : List Wi} {one other : List Int} : other ∈ betF (bk ++ bk2) one [] ↔ other ∈ betF bk one [] ∨ other ∈ betF bk2 one [] := by
  rw [bet_mem, bet_mem, bet_mem]
  constructor
  · rintro ⟨x, hx, h⟩
    rcases List.mem_append.mp hx with z | z
    · exact .inl ⟨x, z, h⟩
    · exact .inr ⟨x, z, h⟩
  · rintro (⟨x, hx, h⟩ | ⟨x, hx, h⟩)
    · exact ⟨x, List.mem_append_left _ hx, h⟩
    · exact ⟨x, List.mem_append_right _ hx, h⟩
theorem bet_lenD {rm : List Int} {bk : List Wi} {one hs : List Int} (hok : ∀ x ∈ bk, WishOk rm x) (hl : one.length = rm.length) : ∀ z ∈ betF bk one hs, z.length = rm.length := sortU_len (goals_len hok hl)
theorem bet_upD {rm : List Int} {bk : List Wi} {one hs : List Int} (hok : ∀ x ∈ bk, WishOk rm x) (hl : one.length = rm.length) : Up' (betF bk one hs) := sortU_up (goals_len hok hl)
/-- what is gained without touching the held boxes -/
def unlike (one z hs : List Int) : List Int := hs.filter fun b => decide (many one b ≠ many z b)
theorem bet_free {rm : List Int} {bk : List Wi} {one hs : List Int} (hok : ∀ x ∈ bk, WishOk rm x) (hl : one.length = rm.length) (hh : ∀ b ∈ hs, 0 ≤ b ∧ b < (rm.length : Int)) : (betF bk one []).filter (fun z => decide (unlike one z hs = [])) = betF bk one hs := by
  refine sortU_of (goals_len hok hl) ((bet_upD hok hl).filter _) fun z => ?_
  rw [List.mem_filter, bet_mem, goals_mem, decide_eq_true_eq]
  unfold unlike
  rw [List.filter_eq_nil_iff]
  constructor
  · rintro ⟨⟨x, hx, h⟩, hu⟩
    obtain ⟨hg, rfl⟩ := hits_iff.mp h
    have o := hok x hx
    have o0 := o.b0
    have o1 := o.b1
    refine ⟨x, hx, hg, fun hb => ?_, rfl⟩
    have := hu x.b hb
    rw [decide_eq_true_eq, Classical.not_not, chg_get o0 (by omega) o0, if_pos rfl] at this
    unfold goalB at hg
    rw [Bool.and_eq_true, decide_eq_true_eq] at hg
    exact o.ne (this.symm.trans hg.1)
  · rintro ⟨x, hx, hg, hb, rfl⟩
    have o := hok x hx
    have o0 := o.b0
    have o1 := o.b1
    refine ⟨⟨x, hx, hits_iff.mpr ⟨hg, rfl⟩⟩, fun b hb' => ?_⟩
    rw [decide_eq_true_eq, Classical.not_not, chg_get o0 (by omega) (hh b hb').1, if_neg]
    rintro rfl
    exact hb hb'
/-- one box alone is changed -/
theorem bet_one {rm : List Int} {bk : List Wi} {one z : List Int} (hok : ∀ x ∈ bk, WishOk rm x) (hl : one.length = rm.length) (hz : z ∈ betF bk one []) : (unlike one z ((List.range rm.length).map fun i : Nat => (i : Int))).length = 1 := by
  obtain ⟨x, hx, h⟩ := bet_mem.mp hz
  obtain ⟨hg, rfl⟩ := hits_iff.mp h
  have o := hok x hx
  have o0 := o.b0
  have o1 := o.b1
  unfold goalB at hg
  rw [Bool.and_eq_true, decide_eq_true_eq] at hg
  unfold unlike
  rw [List.filter_map, List.length_map]
  have e : (List.range rm.length).filter ((fun b : Int => decide (many one b ≠ many (chg one x.b x.r) b)) ∘ fun i : Nat => (i : Int)) = (List.range rm.length).filter fun i => i == x.b.toNat := by
    refine List.filter_congr fun i hi => ?_
    show decide (many one (i : Int) ≠ many (chg one x.b x.r) (i : Int)) = _
    rw [chg_get o0 (by omega) (by omega)]
    by_cases hb : (i : Int) = x.b
    · have : i = x.b.toNat := by omega
      have hne : x.w ≠ x.r := fun q => o.ne q.symm
      rw [if_pos hb, hb, hg.1]
      simp [this, hne]
    · have : i ≠ x.b.toNat := by omega
      rw [if_neg hb]
      simp [this]
  rw [e, ← List.count_eq_length_filter]
  exact List.nodup_range.count (a := x.b.toNat) |>.trans (by rw [if_pos (List.mem_range.mpr (by omega))])
/-- a standing bettered stays a standing -/
theorem bet_stand {rm : List Int} {bk : List Wi} {one z : List Int} (hok : ∀ x ∈ bk, WishOk rm x) (hv : Valid rm one) (hz : z ∈ betF bk one []) : standB rm (stD z) = true := by
  obtain ⟨x, hx, h⟩ := bet_mem.mp hz
  obtain ⟨hg, rfl⟩ := hits_iff.mp h
  have o := hok x hx
  have o0 := o.b0
  have o1 := o.b1
  have hl := hv.len
  refine stand_ok (by rw [chg_len o0 (by omega)]; exact hl) fun b b0 b1 => ?_
  rw [chg_get o0 (by omega) b0]
  split
  · rename_i e
    subst e
    exact ⟨o.r0, o.r1⟩
  · exact hv.st b b0 b1
end L2
namespace L2
open PySem PySem.Spec PyProof.Rows
section
variable {X : Cx} {pos : Pos}
theorem qs_continue : QS X (.Continue pos) tCont := ⟨ps_continue⟩
end
def beyondF (o1 o2 : Option Nat) (n : Nat) : Option Nat := match o1 with
  | some j => some j
  | none => o2.map (· + n)
def spBeyond : Sp := fun vs H Q _ => ∃ (o1 o2 : Option Nat) (n : Nat), vs = [optV o1, optV o2, .int n] ∧ Q (optV (beyondF o1 o2 n)) H
def spPairR : Sp := fun vs H Q _ => ∃ (ra ba ma oa : Addr) (box wo : Int) (rm one : List Int) (xs xs2 : List V) (bk bk2 : List Wi), vs = [.ref ra, .ref ba, .ref ma, .ref oa, .int box, .int wo] ∧ RoomAt H ra rm ∧ BookAt H rm ba xs bk ∧ BookAt H rm ma xs2 bk2 ∧ xs.length ≤ 300 ∧ xs2.length ≤ 300 ∧ H oa = some (.tup (one.map V.int)) ∧ one.length = rm.length ∧ 0 ≤ box ∧ box < rm.length ∧ ∀ H', Same H H' → Q (.bl true) H'
def spOneR : Sp := fun vs H Q _ => ∃ (ra ba ma oa ha : Addr) (rm one hs : List Int) (xs xs2 : List V) (bk bk2 : List Wi), vs = [.ref ra, .ref ba, .ref ma, .ref oa, .ref ha] ∧ RoomAt H ra rm ∧ BookAt H rm ba xs bk ∧ BookAt H rm ma xs2 bk2 ∧ xs.length ≤ 300 ∧ xs2.length ≤ 300 ∧ H oa = some (.tup (one.map V.int)) ∧ Valid rm one ∧ H ha = some (.tup (hs.map V.int)) ∧ hs.length ≤ 8 ∧ (∀ b ∈ hs, 0 ≤ b ∧ b < (rm.length : Int)) ∧ ∀ H', Same H H' → Q (.bl true) H'
theorem BookAt.cat {H : Hp} {rm : List Int} {ba ma t : Addr} {xs ys : List V} {bk bk2 : List Wi} (h : BookAt H rm ba xs bk) (h2 : BookAt H rm ma ys bk2) (ht : H t = some (.tup (xs ++ ys))) : BookAt H rm t (xs ++ ys) (bk ++ bk2) :=
  ⟨ht, by rw [List.map_append]; exact h.is.append h2.is, fun x hx => (List.mem_append.mp hx).elim (h.ok x) (h2.ok x)⟩
theorem eqOk_bet {rm : List Int} {bk : List Wi} {one hs : List Int} (hok : ∀ x ∈ bk, WishOk rm x) (hl : one.length = rm.length) (h8 : rm.length ≤ 8) : (Dt.lst ((betF bk one hs).map stD)).eqOk := eqOk_sts (n := rm.length) fun e he => by
  obtain ⟨z, hz, rfl⟩ := List.mem_map.mp he
  exact ⟨z, rfl, bet_lenD hok hl z hz⟩
theorem mem_stD {z : List Int} {l : List (List Int)} : stD z ∈ l.map stD ↔ z ∈ l := by
  rw [List.mem_map]
  exact ⟨fun ⟨y, hy, e⟩ => stD_inj e ▸ hy, fun h => ⟨z, h, rfl⟩⟩
end L2
namespace L2
open PySem PySem.Spec PyProof.Rows
theorem isL_take {H : Hp} : ∀ {l : List Dt} {ys : List V} (n : Nat), IsL H l ys → IsL H (l.take n) (ys.take n)
  | _, _, 0, _ => rfl
  | [], ys, n + 1, h => by cases h; rfl
  | d :: l, ys, n + 1, h => by
    obtain ⟨y, r, rfl, h1, h2⟩ := h
    exact ⟨y, r.take n, rfl, h1, isL_take n h2⟩
theorem BookAt.takeB {H : Hp} {rm : List Int} {ba t : Addr} {xs : List V} {bk : List Wi} {j : Nat} (h : BookAt H rm ba xs bk) (ht : H t = some (.tup (xs.take j))) : BookAt H rm t (xs.take j) (bk.take j) :=
  ⟨ht, by rw [List.map_take]; exact isL_take j h.is, fun x hx => h.ok x (List.mem_of_mem_take hx)⟩
theorem BookAt.oneB {H : Hp} {rm : List Int} {ba t : Addr} {xs : List V} {bk : List Wi} {j : Nat} {x : Wi} {v : V} (h : BookAt H rm ba xs bk) (hx : bk[j]? = some x) (hv : xs[j]? = some v) (ht : H t = some (.tup [v])) : BookAt H rm t [v] [x] := by
  obtain ⟨x', hx', hi, ho⟩ := h.get hv
  rw [hx] at hx'
  cases hx'
  exact ⟨ht, ⟨v, [], rfl, hi, rfl⟩, fun y hy => by rw [List.mem_singleton.mp hy]; exact ho⟩
end L2
namespace L2
open PySem PySem.Spec PyProof.Rows
theorem scal_opt {a b : Option Nat} : scal (optV a) (optV b) = true := by cases a <;> cases b <;> rfl
end L2
namespace L2
open PySem PySem.Spec PyProof.Rows
theorem optV_non (o : Option Nat) : (!decide (optV o = V.non)) = o.isSome := by cases o <;> rfl
end L2


set_option Elab.async false
set_option linter.all false
set_option maxRecDepth 100000
set_option maxHeartbeats 4000000
/-! comprehensions one of whose own names is a cell (a comprehension within looks at it) -/
namespace L2
open PySem PySem.Spec PyProof.Rows
section
variable {M : Model} {A : Around} {E : Value → Shared → Prop} {s : Shared}
theorem cells_loop0 {α : Type} {f : List (Str × Addr) → Sem α} {Q : α → Shared → Prop} : ∀ (names : List (Str × NameKind)) (cells : List (Str × Addr)), (∀ y ∈ names, y.2 ≠ .cell) → wpAny M A (f cells) Q E s →
    wpAny M A ((forIn names cells fun x r => match x with | (name, kind) => if (kind == NameKind.cell) = true then do let a ← alloc { cls := .type "cell", data := .cell none }; pure (ForInStep.yield ((name, a) :: r)) else pure (ForInStep.yield r)) >>= f) Q E s
  | [], cells, _, h => h
  | (n, k) :: r, cells, hn, h => by
    have hk : (k == NameKind.cell) = false := by simpa using hn (n, k) List.mem_cons_self
    rw [List.forIn_cons]
    simp only [hk, Bool.false_eq_true, if_false, pure_bind]
    exact cells_loop0 r cells (fun y hy => hn y (List.mem_cons_of_mem _ hy)) h
theorem cells_loop1 {α : Type} {z : Str} {f : List (Str × Addr) → Sem α} {Q : α → Shared → Prop} : ∀ (names : List (Str × NameKind)) (cells : List (Str × Addr)), names.filter (fun y => y.2 == .cell) = [(z, .cell)] →
    wpAny M A (f ((z, s.heap.objs.size) :: cells)) Q E { s with heap := s.heap.push { cls := .type "cell", data := .cell none } } →
    wpAny M A ((forIn names cells fun x r => match x with | (name, kind) => if (kind == NameKind.cell) = true then do let a ← alloc { cls := .type "cell", data := .cell none }; pure (ForInStep.yield ((name, a) :: r)) else pure (ForInStep.yield r)) >>= f) Q E s
  | [], cells, hn, h => by cases hn
  | (n, k) :: r, cells, hn, h => by
    rw [List.forIn_cons]
    by_cases hk : (k == NameKind.cell) = true
    · rw [List.filter_cons_of_pos (p := fun y : Str × NameKind => y.2 == .cell) (a := (n, k)) hk] at hn
      injection hn with h1 h2
      cases h1
      simp only [hk, if_true, bind_assoc, pure_bind]
      refine wpAny_bind (wpAny_alloc ?_)
      refine cells_loop0 r _ (fun y hy e => ?_) h
      have : y ∈ r.filter (fun y => y.2 == .cell) := List.mem_filter.mpr ⟨hy, by rw [e]; rfl⟩
      rw [h2] at this
      cases this
    · rw [List.filter_cons_of_neg (p := fun y : Str × NameKind => y.2 == .cell) (a := (n, k)) hk] at hn
      simp only [hk, Bool.false_eq_true, if_false, pure_bind]
      exact cells_loop1 r cells hn h
theorem newEnv_cell {scope : Scope} {z : Str} {globals : Addr} {closure : List (Str × Addr)} {qual : Str} {o : Env} {Q : Env → Shared → Prop} (hn : scope.names.filter (fun y => y.2 == .cell) = [(z, .cell)])
    (h : Q { scope, locals := s.heap.objs.size, globals, cells := (z, (s.heap.push { cls := .type "dict", data := .dict #[] }).objs.size) :: closure, qual, func := none, code := o.code, frame := o.frame, builtins := o.builtins } { s with heap := (s.heap.push { cls := .type "dict", data := .dict #[] }).push { cls := .type "cell", data := .cell none } }) :
    wpAny M A (newFunctionEnv scope globals closure [] qual none .none (some o)) Q E s := by
  unfold newFunctionEnv
  simp only [Option.isSome_some, if_true]
  refine wpAny_bind (wpAny_alloc ?_)
  refine cells_loop1 scope.names closure hn ?_
  exact wpAny_bind (wpAny_pure (wpAny_pure h))
end
def compCxC (X : Cx) (scope : Scope) (N : List Str) (z : Str) (C D : Addr) (s : Shared) (H : Hp) (ex : List Addr) : Cx :=
  { compCx X scope N C s H ex with env := { compEnvC scope (capL X.env scope.names []) C X.env with cells := (z, D) :: capL X.env scope.names [] }, fn := fun y => y == z }
def capsC (XN : List Str) (Xnames names : List (Str × NameKind)) (N : List Str) (z : Str) (cix : List (Option Nat)) : Bool :=
  N.length == cix.length && (names.filter (fun y => y.2 == .cell) == [(z, NameKind.cell)] && names.lookup z == some .cell) && ((N.zip cix).all fun p => match p.2 with
    | none => true
    | some i => XN[i]? == some p.1 && names.lookup p.1 == some .free && (Xnames.lookup p.1 == some .cell || Xnames.lookup p.1 == some .free)) &&
  (names.all fun y => y.2 != .free || (Xnames.lookup y.1 == some .cell || Xnames.lookup y.1 == some .free))
structure CompOkC (X : Cx) (scope : Scope) (N : List Str) (z : Str) (cix : List (Option Nat)) : Prop where
  kind : scope.kind = .function
  names : ∀ x ∈ scope.names, x.2 = .local → scope.names.lookup x.1 = some .local
  caps : capsC X.N X.env.scope.names scope.names N z cix = true
theorem mem_of_lookup {α β : Type} [BEq α] [LawfulBEq α] {x : α} {k : β} : ∀ {l : List (α × β)}, l.lookup x = some k → (x, k) ∈ l
  | [], h => by simp at h
  | (n, q) :: r, h => by
    rw [List.lookup_cons] at h
    cases e : x == n with
    | true =>
      rw [e] at h
      have := eq_of_beq e
      subst this
      have h' : some q = some k := h
      cases h'
      exact List.mem_cons_self
    | false =>
      rw [e] at h
      exact List.mem_cons_of_mem _ (mem_of_lookup h)
theorem lookup_relabel_or {env : Env} : ∀ {names : List (Str × NameKind)} {x : Str} {k : NameKind},
    (names.map fun (n, k) => if (k == NameKind.free && env.scope.kind == .function && env.kindOf n == some .cell) then (n, NameKind.cell) else (n, k)).lookup x = some k → (k = .cell ∨ k = .free) → names.lookup x = some .free ∨ names.lookup x = some .cell
  | [], _, _, h, _ => by simp at h
  | (n, k) :: r, x, k', h, hk => by
    have ih := @lookup_relabel_or env r x k'
    rw [List.map_cons] at h
    rw [List.lookup_cons]
    by_cases hcond : (k == NameKind.free && env.scope.kind == .function && env.kindOf n == some .cell) = true
    · have h' : List.lookup x ((n, NameKind.cell) :: r.map fun (n, k) => if (k == NameKind.free && env.scope.kind == .function && env.kindOf n == some .cell) then (n, NameKind.cell) else (n, k)) = some k' := by
        have := h
        simp only [hcond, if_true] at this
        exact this
      rw [List.lookup_cons] at h'
      cases e : x == n with
      | true =>
        have : k = .free := by
          rw [Bool.and_eq_true, Bool.and_eq_true] at hcond
          exact eq_of_beq hcond.1.1
        subst this
        exact .inl rfl
      | false =>
        rw [e] at h'
        exact ih h' hk
    · have h' : List.lookup x ((n, k) :: r.map fun (n, k) => if (k == NameKind.free && env.scope.kind == .function && env.kindOf n == some .cell) then (n, NameKind.cell) else (n, k)) = some k' := by
        have := h
        simp only [hcond] at this
        exact this
      rw [List.lookup_cons] at h'
      cases e : x == n with
      | true =>
        rw [e] at h'
        have h2 : some k = some k' := h'
        cases h2
        rcases hk with hk | hk
        · subst hk; exact .inr rfl
        · subst hk; exact .inl rfl
      | false =>
        rw [e] at h'
        exact ih h' hk
section
variable {X : Cx} {pins : List (Addr × Obj)} {σ : St} {H : Hp} {s : Shared} {scope : Scope} {N : List Str} {z : Str} {cix : List (Option Nat)}
theorem CompOkC.parts (c : CompOkC X scope N z cix) : N.length = cix.length ∧ scope.names.filter (fun y => y.2 == .cell) = [(z, .cell)] := by
  have h := c.caps
  unfold L2.capsC at h
  rw [Bool.and_eq_true, Bool.and_eq_true, Bool.and_eq_true, Bool.and_eq_true] at h
  exact ⟨eq_of_beq h.1.1.1, eq_of_beq h.1.1.2.1⟩
theorem CompOkC.lk (c : CompOkC X scope N z cix) : scope.names.lookup z = some .cell := by
  have h := c.caps
  unfold L2.capsC at h
  rw [Bool.and_eq_true, Bool.and_eq_true, Bool.and_eq_true, Bool.and_eq_true] at h
  exact eq_of_beq h.1.1.2.2
theorem CompOkC.cells (c : CompOkC X scope N z cix) (ok : X.Ok) : ∀ x ∈ scope.names, x.2 = .free → ∃ a, X.env.cells.lookup x.1 = some a := fun x hx e => by
  have h := c.caps
  unfold L2.capsC at h
  rw [Bool.and_eq_true] at h
  have q := List.all_eq_true.mp h.2 x hx
  rw [e] at q
  have q' : (X.env.scope.names.lookup x.1 == some NameKind.cell || X.env.scope.names.lookup x.1 == some NameKind.free) = true := by simpa using q
  rcases Bool.or_eq_true_iff.mp q' with q | q
  · exact ok.has _ (.inl (eq_of_beq q))
  · exact ok.has _ (.inr (eq_of_beq q))
theorem CompOkC.cap (c : CompOkC X scope N z cix) {j i : Nat} {x : Str} (h1 : N[j]? = some x) (h2 : cix[j]? = some (some i)) : X.N[i]? = some x ∧ scope.names.lookup x = some .free ∧ (X.env.scope.names.lookup x = some .cell ∨ X.env.scope.names.lookup x = some .free) := by
  have h := c.caps
  unfold L2.capsC at h
  rw [Bool.and_eq_true, Bool.and_eq_true] at h
  have hm : (x, some i) ∈ N.zip cix := by
    refine List.mem_of_getElem? (i := j) ?_
    rw [List.getElem?_zip_eq_some]
    exact ⟨h1, h2⟩
  have q := List.all_eq_true.mp h.1.2 _ hm
  simp only [Bool.and_eq_true] at q
  refine ⟨eq_of_beq q.1.1, eq_of_beq q.1.2, ?_⟩
  rcases Bool.or_eq_true_iff.mp q.2 with q | q
  · exact .inl (eq_of_beq q)
  · exact .inr (eq_of_beq q)
theorem CompOkC.isZ (c : CompOkC X scope N z cix) {x : Str} (h : scope.names.lookup x = some .cell) : x = z := by
  have : (x, NameKind.cell) ∈ scope.names.filter (fun y => y.2 == .cell) := List.mem_filter.mpr ⟨mem_of_lookup h, rfl⟩
  rw [c.parts.2, List.mem_singleton] at this
  exact (Prod.mk.inj this).1
/-- the frame of a comprehension has been made, with its cell -/
theorem inv_compC {fp : List Addr} {h' : Heap} {tk : Nat} {m : Str → Option Value} {D : Addr} (I : Inv X pins σ H s) (c : CompOkC X scope N z cix) (hf : ∀ b ∈ fp, FpOk X pins H b) (hfo : ∀ b ∈ fp, b < s.heap.objs.size)
    (hn : h'.Ns s.heap.objs.size m) (hD : s.heap.objs.size ≤ D) (hcd : h'.IsCell D none) (hk : ∀ b o, s.heap.get? b = some o → h'.get? b = some o) :
    Inv (compCxC X scope N z s.heap.objs.size D s H fp) [] (capS σ cix) H { s with heap := h', toks := tk } := by
  have hcl := c.cells I.ok
  have back : ∀ x a, ((z, D) :: capL X.env scope.names []).lookup x = some a → (x = z ∧ a = D) ∨ (x ≠ z ∧ (capL X.env scope.names []).lookup x = some a ∧ X.env.cells.lookup x = some a ∧ a < s.heap.objs.size) := fun x a e => by
    rw [List.lookup_cons] at e
    cases q : x == z with
    | true =>
      rw [q] at e
      have e' : some D = some a := e
      exact .inl ⟨eq_of_beq q, (Option.some.inj e').symm⟩
    | false =>
      rw [q] at e
      have e' : (capL X.env scope.names []).lookup x = some a := e
      have hl : X.env.cells.lookup x = some a := by
        rcases capL_some hcl e' with z | z
        · exact z
        · simp at z
      obtain ⟨v, oc, hoc, _⟩ := I.cell x a hl
      exact .inr ⟨fun z => by subst z; simp at q, e', hl, Heap.lt_size hoc⟩
  refine ⟨⟨I.mod, c.kind, I.ok.glob, I.ok.blt, Nat.le_refl _, fun x y a e1 e2 => ?_, fun x hx => ?_, fun x a hz e => ?_, I.ok.hd, I.ok.frames, .inl rfl,
    fun b hb => ⟨Nat.ne_of_lt (hfo b hb), fun x a e => ?_⟩, I.bs, Nat.le_trans I.ok.bsz I.sz, fun b o e hb => ?_, fun b hb z => ?_, I.stack, I.stkFree⟩,
    I.os ▸ rfl, I.bare, Un.kept hk, ⟨m, hn, fun j x v h1 h2 h3 => ?_⟩, fun x a e => ?_, I.hok.fresh (Nat.le_refl _), fun x a e => ?_, fun p hp => absurd (show p ∈ ([] : List (Addr × Obj)) from hp) (by simp), I.hok.kept hk, ?_⟩
  · rcases back x a e1 with ⟨r1, r2⟩ | ⟨_, _, r1, r2⟩ <;> rcases back y a e2 with ⟨q1, q2⟩ | ⟨_, _, q1, q2⟩
    · exact r1.trans q1.symm
    · exact absurd (Nat.lt_of_lt_of_le q2 (r2 ▸ hD)) (Nat.lt_irrefl _)
    · exact absurd (Nat.lt_of_lt_of_le r2 (q2 ▸ hD)) (Nat.lt_irrefl _)
    · exact I.ok.inj x y a r1 q1
  · have hx' : ((relabel scope X.env).names.lookup x = some .cell ∨ (relabel scope X.env).names.lookup x = some .free) := hx
    have hx2 : scope.names.lookup x = some .free ∨ scope.names.lookup x = some .cell := by
      rcases hx' with q | q
      · exact lookup_relabel_or q (.inl rfl)
      · exact lookup_relabel_or q (.inr rfl)
    show ∃ a, ((z, D) :: capL X.env scope.names []).lookup x = some a
    rw [List.lookup_cons]
    cases q : x == z with
    | true => exact ⟨D, rfl⟩
    | false =>
      rcases hx2 with e | e
      · exact capL_has e
      · exact absurd (c.isZ e) fun w => by subst w; simp at q
  · have hz' : (x == z) = true := hz
    rcases back x a e with ⟨_, r⟩ | ⟨r, _⟩
    · rw [r]; exact hD
    · exact absurd (eq_of_beq hz') r
  · rcases back x a e with ⟨_, r⟩ | ⟨_, _, r, _⟩
    · rw [r]
      exact Nat.ne_of_gt (Nat.lt_of_lt_of_le (hfo b hb) hD)
    · exact (hf b hb).2.2.2.2.1 x a r
  · rcases (hf b hb).2.2.2.1 with z | z
    · exact I.ok.noex b o e z
    · exact absurd (Nat.lt_of_lt_of_le (Heap.lt_size e) (Nat.le_trans I.ok.bsz z)) (Nat.lt_irrefl _)
  · rcases List.mem_cons.mp (I.stkSub b z) with e | e
    · exact (hf b hb).2.1 e
    · exact (hf b hb).2.2.1 e
  · have h1' : N[j]? = some x := h1
    unfold capS at h2
    rw [List.getElem?_map] at h2
    cases e : cix[j]? with
    | none => rw [e] at h2; cases h2
    | some o =>
      rw [e] at h2
      cases o with
      | none => cases h2
      | some i =>
        have h2' : (σ[i]?).join = some v := Option.some.inj h2
        have h2'' : σ[i]? = some (some v) := by
          cases q : σ[i]? with
          | none => rw [q] at h2'; cases h2'
          | some z => rw [q] at h2'; have : z = some v := h2'; rw [this]
        obtain ⟨q1, q2, q3⟩ := c.cap h1' e
        obtain ⟨m0, hn0, hl0⟩ := I.loc
        obtain ⟨u, ru, hu⟩ := hl0 i x v q1 h2'' (q3.elim (fun z => .inr (.inl z)) fun z => .inr (.inr z))
        refine ⟨u, ru, .inr ⟨lookup_relabel_free q2, ?_⟩⟩
        rcases hu with ⟨z, _⟩ | ⟨_, a, ha, hcell⟩
        · have z' : X.env.scope.names.lookup x = some .local := z
          rcases q3 with q3 | q3 <;> rw [z'] at q3 <;> cases q3
        · obtain ⟨a', ha'⟩ := capL_has (env := X.env) (cs := []) q2
          have hxz : (x == z) = false := by
            cases q : x == z with
            | false => rfl
            | true =>
              have := eq_of_beq q
              subst this
              rw [c.lk] at q2
              cases q2
          have hlk : ((z, D) :: capL X.env scope.names []).lookup x = some a' := by rw [List.lookup_cons, hxz]; exact ha'
          have : a' = a := by
            rcases back x a' hlk with ⟨r, _⟩ | ⟨_, _, r, _⟩
            · subst r; simp at hxz
            · exact Option.some.inj (r.symm.trans ha)
          subst this
          obtain ⟨oc, hoc, hd⟩ := hcell
          exact ⟨a', hlk, oc, hk _ _ hoc, hd⟩
  · rcases back x a e with ⟨_, r⟩ | ⟨_, _, r, _⟩
    · rw [r]
      exact ⟨none, hcd⟩
    · obtain ⟨v, oc, hoc, hd⟩ := I.cell x a r
      exact ⟨v, oc, hk _ _ hoc, hd⟩
  · rcases back x a e with ⟨_, r⟩ | ⟨_, _, r, _⟩
    · rw [r]
      exact I.hok.fresh hD
    · exact I.freeC x a r
  · show (capS σ cix).length = N.length
    unfold capS
    rw [List.length_map, c.parts.1]
theorem inv_uncompC {fp : List Addr} {σ' : St} {H' : Hp} {s' : Shared} {h'' : Heap} {D : Addr} (I : Inv X pins σ H s) (hf : ∀ b ∈ fp, FpOk X pins H b) (I' : Inv (compCxC X scope N z s.heap.objs.size D s H fp) [] σ' H' s') (hs : Heap.SameBut s.heap.objs.size s'.heap h'') :
    Inv X pins σ H' { s' with heap := h'' } := by
  have ne : ∀ b o, s.heap.get? b = some o → b ≠ s.heap.objs.size := fun b o e => Nat.ne_of_lt (Heap.lt_size e)
  have u := I'.base
  refine Inv.call' (ch := fp) I I'.os ⟨fun b o e n hb hx => ?_, fun b o e n hb hx => ?_, u.free, fun b o e hx => ?_, u.tups, u.frzs, u.tbls⟩ (hok_sameBut I'.hok I'.free hs) I'.bare fun b hb => ⟨(hf b hb).2.2.2.1, (hf b hb).2.1, (hf b hb).2.2.2.2.1, (hf b hb).2.2.2.2.2⟩
  · exact (hs.2 b (ne b o e)).trans (u.keep b o e n hb hx)
  · obtain ⟨sl, q⟩ := u.slot b o e n hb hx
    exact ⟨sl, (hs.2 b (ne b o e)).trans q⟩
  · obtain ⟨o', q⟩ := u.there b o e hx
    exact ⟨o', (hs.2 b (ne b o e)).trans q⟩
end
end L2


set_option Elab.async false
set_option linter.all false
set_option maxRecDepth 100000
set_option maxHeartbeats 4000000
namespace L2
open PySem PySem.Spec PyProof.Rows
theorem ps_setCC {X : Cx} {elt tg iter : Expr} {ifs : List Expr} {scope : Scope} {pos spos : Pos} {wi : TI} {g : TG} {ti : TT} {te : TE} {N : List Str} {z : Str} {cix : List (Option Nat)} {ix : Nat} {nx : Str} {px : Pos} (hNd : X.N.Nodup) (hix : X.N[ix]? = some nx) (hlx : X.env.scope.names.lookup nx = some .local) (hc : X.calm = true) (c : CompOkC X scope N z cix)
    (hi : PI X tg iter wi) (hg : ∀ C D s H ex, PG (compCxC X scope N z C D s H ex) tg g) (ht : ∀ C D s H ex, PTs (compCxC X scope N z C D s H ex) ifs ti) (he : ∀ C D s H ex, PE (compCxC X scope N z C D s H ex) elt te)
    (hsw : swapsWithSole [.Name nx px] (.ListComp elt [⟨tg, iter, ifs, 0⟩] scope pos) spos.line X.env = pure true)
    (hs : ∀ x, foldedSetIterable iter X.env x = pure x := by intro _; rfl)
    (h1a : (assignEach [.Name nx px] X.env).map (·.2) = [assign (.Name nx px) X.env] := by rfl) : PS X (.Assign [.Name nx px] (.ListComp elt [⟨tg, iter, ifs, 0⟩] scope pos) spos) (tAsg (tComp wi g ti te cix) (gName ix)) := by
  intro pins s σ H D I h0
  have h : tComp wi g ti te cix σ H (fun x H1 => D.nx (σ.set ix (some x)) H1) := h0
  rw [exec_Assign_arm]
  refine wpAny_bind (wpAny_standAt ?_)
  rw [hsw]
  refine wpAny_bind (wpAny_pure ?_)
  rw [if_pos rfl]
  refine wpAny_bind ?_
  rw [evalThenUse.eq_1]
  refine wpAny_bind ?_
  generalize hU : (fun v => assignAll v ((assignEach [.Name nx px] X.env).map (·.2))) = U
  refine wpAny_comprehension_free (g := ⟨tg, iter, ifs, 0⟩) (gs := []) (use := some U) rfl hs (closure_of (c.cells I.ok)) c.kind c.names ?_
  refine (thn (hi pins s σ H _ I h) fun xv s1 h1 => thn h1 fun itv s2 h2 => ?_)
  obtain ⟨it, fp, tn, J, H2, e, I2, T, st2, f2, q2⟩ := h2
  subst e
  refine wpAny_newObj_type (newEnv_cell c.parts.2 ?_)
  dsimp only
  obtain ⟨h4, hh4⟩ : ∃ h4, h4 = ((s2.heap.push { cls := .type "list", dict := none, data := .seq ([] : List Value).toArray }).push { cls := .type "dict", data := .dict #[] }).push { cls := .type "cell", data := .cell none } := ⟨_, rfl⟩
  rw [← hh4]
  obtain ⟨D4, hD4⟩ : ∃ D4, D4 = ((s2.heap.push { cls := .type "list", dict := none, data := .seq ([] : List Value).toArray }).push { cls := .type "dict", data := .dict #[] }).objs.size := ⟨_, rfl⟩
  rw [← hD4]
  have hCD : (s2.heap.push { cls := .type "list", dict := none, data := .seq ([] : List Value).toArray }).objs.size ≤ D4 := by rw [hD4, Heap.size_push (h := s2.heap.push { cls := .type "list", dict := none, data := .seq ([] : List Value).toArray })]; exact Nat.le_succ _
  have hcd4 : h4.IsCell D4 none := by rw [hh4, hD4]; exact ⟨_, Heap.get?_push_size _ rfl, rfl⟩
  have hns4 : h4.Ns (s2.heap.push { cls := .type "list", dict := none, data := .seq ([] : List Value).toArray }).objs.size (fun x => ([] : List (Str × Value)).reverse.lookup x) := by
    rw [hh4]
    exact (Heap.Ns.new ..).at' fun o e => Heap.get?_push_of_some _ e
  have hnone := I2.hok.fresh (Nat.le_refl s2.heap.objs.size)
  -- the new list
  have I3 : Inv X pins σ (upd H2 s2.heap.objs.size (.lst [])) { s2 with heap := s2.heap.push { cls := .type "list", dict := none, data := .seq ([] : List Value).toArray }, toks := s2.toks } := I2.lnew (t' := s2.toks) .nil (by simp)
  obtain ⟨W, ⟨m0, w0⟩, turn⟩ := q2 s2.heap.objs.size hnone
  have ltF : ∀ b ∈ fp, b < s2.heap.objs.size := fun b hb => by
    obtain ⟨o, ho, _⟩ := T.obj _ _ st2 b hb
    exact Heap.lt_size ho
  have f3 : ∀ b ∈ fp, FpOk X pins (upd H2 s2.heap.objs.size (.lst [])) b := fun b hb => ⟨by rw [upd_ne (Nat.ne_of_lt (ltF b hb))]; exact (f2 b hb).1, (f2 b hb).2⟩
  have kp : ∀ b o, (s2.heap.push { cls := .type "list", dict := none, data := .seq ([] : List Value).toArray }).get? b = some o → h4.get? b = some o := fun b o e => by
    rw [hh4]
    exact Heap.get?_push_of_some _ (Heap.get?_push_of_some _ e)
  have sz3 : s2.heap.objs.size < (s2.heap.push { cls := .type "list", dict := none, data := .seq ([] : List Value).toArray }).objs.size := by rw [Heap.size_push]; exact Nat.lt_succ_self _
  have I4 := inv_compC (tk := s2.toks) I3 c f3 (fun b hb => Nat.lt_trans (ltF b hb) sz3) hns4 hCD hcd4 kp
  have st4 : tn 0 h4 := T.keep _ _ _ st2 fun b hb o e => kp b o (Heap.get?_push_of_some _ e)
  generalize hX : compCxC X scope N z (s2.heap.push { cls := .type "list", dict := none, data := .seq ([] : List Value).toArray }).objs.size D4
    { s2 with heap := s2.heap.push { cls := .type "list", dict := none, data := .seq ([] : List Value).toArray }, toks := s2.toks } (upd H2 s2.heap.objs.size (.lst [])) fp = X' at I4
  have pX : X'.prog = X.prog := by rw [← hX]; rfl
  have wX : X'.w = X.w := by rw [← hX]; rfl
  have KX : X'.K = X.K := by rw [← hX]; rfl
  have AX : X'.A = X.A := by rw [← hX]; rfl
  have cX : X'.calm = true := by rw [← hX]; exact hc
  have xX : X'.xe = fun _ _ => False := by rw [← hX]; rfl
  have eX : X'.env = { compEnvC scope (capL X.env scope.names []) (s2.heap.push { cls := .type "list", dict := none, data := .seq ([] : List Value).toArray }).objs.size X.env with cells := (z, D4) :: capL X.env scope.names [] } := by rw [← hX]; rfl
  have hg' : PG X' tg g := by rw [← hX]; exact hg _ _ _ _ _
  have ht' : PTs X' ifs ti := by rw [← hX]; exact ht _ _ _ _ _
  have he' : PE X' elt te := by rw [← hX]; exact he _ _ _ _ _
  have f4 : ∀ {H' : Hp}, (∀ b ∈ fp, H' b = none) → ∀ b ∈ fp, FpOk X' [] H' b := fun {H'} hn b hb => by
    refine ⟨hn b hb, ?_, ?_, .inl ?_, ?_, ?_⟩
    · rw [eX]; exact Nat.ne_of_lt (Nat.lt_trans (ltF b hb) sz3)
    · have e1 : X'.fs = frs X.stack := by rw [← hX]; rfl
      rw [e1]
      intro z
      rcases List.mem_cons.mp (I2.stkSub b z) with e | e
      · exact (f2 b hb).2.1 e
      · exact (f2 b hb).2.2.1 e
    · rw [← hX]; exact hb
    · rw [eX]
      intro x a e
      have e' : ((z, D4) :: capL X.env scope.names []).lookup x = some a := e
      rw [List.lookup_cons] at e'
      cases q : x == z with
      | true =>
        rw [q] at e'
        have e2 : some D4 = some a := e'
        cases e2
        exact Nat.ne_of_gt (Nat.lt_of_lt_of_le (Nat.lt_trans (ltF b hb) sz3) hCD)
      | false =>
        rw [q] at e'
        rcases capL_some (c.cells I.ok) e' with z | z
        · exact (f2 b hb).2.2.2.2.1 x a z
        · simp at z
    · intro p hp
      have e1 : X'.pn ++ ([] : List (Addr × Obj)) = [] := by rw [← hX]; rfl
      rw [e1] at hp
      simp at hp
  -- the loop
  have loop : ∀ s4 : Shared, s4 = { s2 with heap := h4, toks := s2.toks } →
      codeAny (model X.prog X.w) X.A (.compLoop (.ListComp elt [⟨tg, iter, ifs, 0⟩] scope pos) 0 (.ref it) (.ref s2.heap.objs.size) X'.env)
        (compPost (model X.prog X.w) X.A X.xe (some U) (fun _ s => wpAny (model X.prog X.w) X.A (pure ()) (fun _ s => wpAny (model X.prog X.w) X.A (pure Flow.next) (SP X pins D) X.xe s) X.xe s) (.ref s2.heap.objs.size) (s2.heap.push { cls := .type "list", dict := none, data := .seq ([] : List Value).toArray }).objs.size) s4 := by
    rintro s4 rfl
    refine codeAny_comp1 (fun n s' => ∃ i σ' H', Inv X' [] σ' H' s' ∧ tn i s'.heap ∧ (∀ b ∈ fp, H' b = none) ∧ W i n σ' H') ?_ m0 ⟨0, capS σ cix, _, I4, st4, fun b hb => (f3 b hb).1, w0⟩
    rintro n s5 ⟨i, σ5, H5, I5, st5, fr5, w5⟩
    rcases turn i n σ5 H5 w5 with ⟨stop, qn⟩ | ⟨go, Nx, hN, step⟩
    · have := T.done X' pX wX KX cX i [] s5 σ5 H5 (fun _ _ => False) I5 (f4 fr5) st5 stop
      rw [AX] at this
      refine thn this fun r s6 ⟨hr, I6⟩ => ?_
      subst hr
      obtain ⟨m6, hn6, _⟩ := I6.loc
      have hfr : H5 (s2.heap.push { cls := .type "list", dict := none, data := .seq ([] : List Value).toArray }).objs.size = none := by
        have := I6.free
        rw [eX] at this
        exact this
      rw [eX] at hn6
      have I6' := I6
      rw [← hX] at I6'
      have IX := inv_uncompC I3 f3 I6' ⟨rfl, fun _ _ => rfl⟩
      have fC := I3.fpOk (Nat.le_refl _) hfr
      have hUv : U (.ref s2.heap.objs.size) = assignAll (.ref s2.heap.objs.size) [assign (.Name nx px) X.env] := by
        rw [← hU, ← h1a]
      show wpAny _ _ (U (.ref s2.heap.objs.size)) _ _ s6
      rw [hUv]
      refine wpAny_assign_Name (x := nx) (pos := px) ?_
      refine store_ok2 IX hNd hix (Or.inl hlx) (v := .ref s2.heap.objs.size) rfl (fun s7 I7 ⟨a7, hs7, ha7⟩ => ?_) (.inr hlx)
      have hCa : (s2.heap.push { cls := .type "list", dict := none, data := .seq ([] : List Value).toArray }).objs.size ≠ a7 := by
        intro z
        rcases ha7 with e | e
        · exact fC.2.1 (z.trans e)
        · exact fC.2.2.2.2.1 nx a7 e z.symm
      obtain ⟨oC, esC, epC, hoC, rC⟩ := hn6
      refine ⟨m6, ⟨oC, esC, epC, (hs7.2 _ hCa).trans hoC, rC⟩, fun h8 hs8 => ?_⟩
      refine wpAny_pure (wpAny_pure ?_)
      exact ⟨_, H5, I7.turned (t' := s7.toks) (fun b o hb e => (hs8.2 b hb).trans e) hfr fC.2.1 fC.2.2.2.1 fC.2.2.2.2.1 fC.2.2.2.2.2, qn⟩
    · have := T.item X' pX wX KX cX i [] s5 σ5 H5 (fun _ _ => False) I5 (f4 fr5) st5 go
      rw [AX] at this
      refine thn this fun r s6 ⟨u, hr, h6⟩ => ?_
      subst hr
      refine thn h6 fun _ s7 ⟨x, H7, I7, r7, y7, st7, fr7⟩ => ?_
      have I7' := I7.pinned (f4 fr7) (T.obj _ _ st7)
      have a7 := hg' _ s7 σ5 H7 x u _ I7' r7 (step x H7 y7)
      rw [pX, wX, AX, xX] at a7
      refine thn a7 fun _ s8 ⟨σ8, H8, I8, q8⟩ => ?_
      have t8 := ht' _ s8 σ8 H8 _ I8 q8
      rw [pX, wX, AX, xX] at t8
      refine thn t8 fun ok s9 ⟨H9, I9, q9⟩ => ?_
      have again : ∀ {s' : Shared} {σ' : St} {H' : Hp}, Inv X' ([] ++ pinsAt fp s7.heap) σ' H' s' → Nx σ' H' → ∃ m, m < n ∧ ∃ i σ' H', Inv X' [] σ' H' s' ∧ tn i s'.heap ∧ (∀ b ∈ fp, H' b = none) ∧ W i m σ' H' := fun {s' σ' H'} J' n' => by
        obtain ⟨m', hm, w'⟩ := hN σ' H' n'
        refine ⟨m', hm, i + 1, σ', H', J'.unpinned, T.keep _ _ _ st7 fun b hb o e => (J'.pin (b, o) (List.mem_append_right _ (List.mem_append_right _ (mem_pinsAt hb e)))).1, fun b hb => ?_, w'⟩
        obtain ⟨o, e, d⟩ := T.obj _ _ st7 b hb
        exact (J'.pin (b, o) (List.mem_append_right _ (List.mem_append_right _ (mem_pinsAt hb e)))).2.1
      cases ok with
      | false => exact again I9 q9
      | true =>
        have e9 := he' _ s9 σ8 H9 _ I9 q9
        rw [pX, wX, AX, xX] at e9
        refine thn e9 fun u2 s10 ⟨v, H10, I10, r10, q10⟩ => ?_
        obtain ⟨xs, hxs, hlt, nx⟩ := q10
        have m10 := mt_append (X := X') _ s10 σ8 H10 (.ref s2.heap.objs.size) [v] (.ref s2.heap.objs.size) [u2] (fun _ H' => Nx σ8 H') I10 rfl (.cons r10 .nil) ⟨_, xs, v, rfl, rfl, hxs, hlt, nx⟩
        rw [pX, wX, AX, xX] at m10
        refine thn m10 fun _ s11 ⟨_, H11, I11, _, n11⟩ => again I11 n11
  have l0 := loop _ rfl
  rw [eX] at l0
  exact codeAny_compStart_list l0 (T.self X.A 0 _ _ _ st4 l0)

theorem qs_setCC {X : Cx} {elt tg iter : Expr} {ifs : List Expr} {scope : Scope} {pos spos : Pos} {wi : TI} {g : TG} {ti : TT} {te : TE} {N : List Str} {z : Str} {cix : List (Option Nat)} {ix : Nat} {nx : Str} {px : Pos} (hNd : X.N.Nodup) (hix : X.N[ix]? = some nx) (hlx : X.env.scope.names.lookup nx = some .local) (hc : X.calm = true) (c : CompOkC X scope N z cix)
    (hi : QI X tg iter wi) (hg : ∀ C D s H ex, QG (compCxC X scope N z C D s H ex) tg g) (ht : ∀ C D s H ex, QTs (compCxC X scope N z C D s H ex) ifs ti) (he : ∀ C D s H ex, QE (compCxC X scope N z C D s H ex) elt te)
    (hsw : swapsWithSole [.Name nx px] (.ListComp elt [⟨tg, iter, ifs, 0⟩] scope pos) spos.line X.env = pure true := by rfl)
    (hs : ∀ x, foldedSetIterable iter X.env x = pure x := by intro _; rfl)
    (h1a : (assignEach [.Name nx px] X.env).map (·.2) = [assign (.Name nx px) X.env] := by rfl) : QS X (.Assign [.Name nx px] (.ListComp elt [⟨tg, iter, ifs, 0⟩] scope pos) spos) (tAsg (tCompG wi g ti te cix) (gName ix)) :=
  ⟨ps_setCC hNd hix hlx hc c hi.run (fun C D s H ex => (hg C D s H ex).run) (fun C D s H ex => (ht C D s H ex).run) (fun C D s H ex => (he C D s H ex).run) hsw hs h1a⟩
end L2
namespace L2
open PySem PySem.Spec PyProof.Rows
theorem unlike_snoc {one z l : List Int} {b : Int} : unlike one z (l ++ [b]) = if many one b ≠ many z b then unlike one z l ++ [b] else unlike one z l := by
  unfold unlike
  rw [List.filter_append]
  by_cases h : many one b = many z b
  · rw [if_neg (fun q => q h), List.filter_cons_of_neg (by simp [h])]
    simp
  · rw [if_pos h, List.filter_cons_of_pos (by simp [h])]
    rfl
theorem unlike_le {one z l : List Int} : (unlike one z l).length ≤ l.length := List.length_filter_le _ _
theorem bet_both {rm : List Int} {bk bk2 : List Wi} {one : List Int} {ks sts : List (List Int)} (h1 : ∀ x ∈ bk, WishOk rm x) (h2 : ∀ x ∈ bk2, WishOk rm x) (hl : one.length = rm.length) (hp : sts.Perm ks) (hu : Up' sts) (hm : ∀ st, st ∈ ks ↔ st ∈ betF bk one [] ++ betF bk2 one []) : sts = betF (bk ++ bk2) one [] ∧ sts = betF (bk2 ++ bk) one [] := by
  constructor
  · refine sortU_of (goals_len (fun x hx => (List.mem_append.mp hx).elim (h1 x) (h2 x)) hl) hu fun z => ?_
    rw [hp.mem_iff, hm, List.mem_append, ← sortU_mem (l := goals (bk ++ bk2) one [])]
    exact (bet_app (rm := rm)).symm
  · refine sortU_of (goals_len (fun x hx => (List.mem_append.mp hx).elim (h2 x) (h1 x)) hl) hu fun z => ?_
    rw [hp.mem_iff, hm, List.mem_append, ← sortU_mem (l := goals (bk2 ++ bk) one [])]
    exact Or.comm.trans (bet_app (rm := rm)).symm
end L2


set_option Elab.async false
set_option linter.all false
set_option maxRecDepth 100000
set_option maxHeartbeats 4000000
local macro_rules | `(tactic| walk_at "up") => `(tactic| first | assumption | ((with_reducible refine (?_ : L2.Same _ _)); (first | exact L2.same_refl _ | (intro _ _ _; ((repeat (first | assumption | refine L2.up_eq (by assumption) ?_ | refine L2.up_tup (by assumption) ?_ | refine L2.up_lst (by assumption) ?_ | refine L2.up_any (by assumption) ?_ (by assumption) | refine L2.up_any (by assumption) ?_ L2.nk_dT | refine L2.up_any (by assumption) ?_ L2.nk_ext | refine L2.up_any (by assumption) ?_ L2.nk_ins | refine L2.up_pen (by assumption) ?_ | refine L2.up_is (by assumption) ?_ | refine L2.up_is (L2.up_ss (by assumption)) ?_ | refine L2.up_isL (by assumption) ?_ | refine L2.up_isL (L2.up_ss (by assumption)) ?_ | refine L2.up_room (by assumption) ?_ | refine L2.up_room (L2.up_ss (by assumption)) ?_ | refine L2.up_book (by assumption) ?_ | refine L2.up_book (L2.up_ss (by assumption)) ?_ | refine L2.up_all (by assumption) ?_ | refine L2.up_all (L2.up_ss (by assumption)) ?_ | refine L2.up_set (by assumption) ?_ | refine L2.up_set (L2.up_ss (by assumption)) ?_ | refine L2.up_StsAt (by assumption) ?_ | refine L2.up_StsAt (L2.up_ss (by assumption)) ?_ | refine L2.up_HeldV (by assumption) ?_ | refine L2.up_HeldV (L2.up_ss (by assumption)) ?_)); done)))) | ((with_reducible refine (?_ : L2.Stay _ _)); (first | exact L2.Stay.refl _ | (intro _ _ _ _; ((repeat (first | assumption | refine L2.up_eq (by assumption) ?_ | refine L2.up_tup (by assumption) ?_ | refine L2.up_lst (by assumption) ?_ | refine L2.up_any (by assumption) ?_ (by assumption) | refine L2.up_any (by assumption) ?_ L2.nk_dT | refine L2.up_any (by assumption) ?_ L2.nk_ext | refine L2.up_any (by assumption) ?_ L2.nk_ins | refine L2.up_pen (by assumption) ?_ | refine L2.up_is (by assumption) ?_ | refine L2.up_is (L2.up_ss (by assumption)) ?_ | refine L2.up_isL (by assumption) ?_ | refine L2.up_isL (L2.up_ss (by assumption)) ?_ | refine L2.up_room (by assumption) ?_ | refine L2.up_room (L2.up_ss (by assumption)) ?_ | refine L2.up_book (by assumption) ?_ | refine L2.up_book (L2.up_ss (by assumption)) ?_ | refine L2.up_all (by assumption) ?_ | refine L2.up_all (L2.up_ss (by assumption)) ?_ | refine L2.up_set (by assumption) ?_ | refine L2.up_set (L2.up_ss (by assumption)) ?_ | refine L2.up_StsAt (by assumption) ?_ | refine L2.up_StsAt (L2.up_ss (by assumption)) ?_ | refine L2.up_HeldV (by assumption) ?_ | refine L2.up_HeldV (L2.up_ss (by assumption)) ?_)); done)))) | ((repeat (first | assumption | refine L2.up_eq (by assumption) ?_ | refine L2.up_tup (by assumption) ?_ | refine L2.up_lst (by assumption) ?_ | refine L2.up_any (by assumption) ?_ (by assumption) | refine L2.up_any (by assumption) ?_ L2.nk_dT | refine L2.up_any (by assumption) ?_ L2.nk_ext | refine L2.up_any (by assumption) ?_ L2.nk_ins | refine L2.up_pen (by assumption) ?_ | refine L2.up_is (by assumption) ?_ | refine L2.up_is (L2.up_ss (by assumption)) ?_ | refine L2.up_isL (by assumption) ?_ | refine L2.up_isL (L2.up_ss (by assumption)) ?_ | refine L2.up_room (by assumption) ?_ | refine L2.up_room (L2.up_ss (by assumption)) ?_ | refine L2.up_book (by assumption) ?_ | refine L2.up_book (L2.up_ss (by assumption)) ?_ | refine L2.up_all (by assumption) ?_ | refine L2.up_all (L2.up_ss (by assumption)) ?_ | refine L2.up_set (by assumption) ?_ | refine L2.up_set (L2.up_ss (by assumption)) ?_ | refine L2.up_StsAt (by assumption) ?_ | refine L2.up_StsAt (L2.up_ss (by assumption)) ?_ | refine L2.up_HeldV (by assumption) ?_ | refine L2.up_HeldV (L2.up_ss (by assumption)) ?_)); done))
namespace Law
open PySem L2
def top (i : Nat) : Stmt := PySem.Challenge.pw_allelse_k13_whole_betterings_hang_togeth.main.body.getD i (.Pass ⟨0, 0, 0, 0⟩)
abbrev s_is_whole : Stmt := top 1
abbrev s_is_box : Stmt := top 2
abbrev s_is_worth : Stmt := top 3
abbrev s_is_standing : Stmt := top 4
abbrev s_combined : Stmt := top 5
abbrev s_standings : Stmt := top 6
abbrev s_changed : Stmt := top 7
abbrev s_is_choice : Stmt := top 9
abbrev s_is_given : Stmt := top 10
abbrev s_keeps : Stmt := top 11
abbrev s_why : Stmt := top 13
abbrev s_betterings : Stmt := top 14
abbrev s_local_pairs : Stmt := top 15
abbrev s_is_wish : Stmt := top 18
abbrev s_is_book : Stmt := top 19
abbrev s_turned : Stmt := top 20
abbrev s__law_pen : Stmt := top 22
abbrev s__law_draw : Stmt := top 23
abbrev s__law_size : Stmt := top 24
abbrev s__law_room : Stmt := top 25
abbrev s__law_given : Stmt := top 26
abbrev s__law_wish : Stmt := top 27
abbrev s__law_book : Stmt := top 28
abbrev s__law_beyond : Stmt := top 29
abbrev s__law_pair_right : Stmt := top 30
abbrev s__law_one_right : Stmt := top 31
abbrev s_law : Stmt := top 32
theorem sc_is_whole : FnScope ["thing"] ["thing"] (defScope s_is_whole) := ⟨rfl, rfl, rfl, by decide +kernel, rfl, by decide +kernel, by decide +kernel⟩
theorem sc_is_box : FnScope ["room", "thing"] ["room", "thing"] (defScope s_is_box) := ⟨rfl, rfl, rfl, by decide +kernel, rfl, by decide +kernel, by decide +kernel⟩
theorem sc_is_worth : FnScope ["room", "box", "thing"] ["room", "box", "thing"] (defScope s_is_worth) := ⟨rfl, rfl, rfl, by decide +kernel, rfl, by decide +kernel, by decide +kernel⟩
theorem sc_is_standing : FnScope ["room", "thing", "box", "worth"] ["room", "thing"] (defScope s_is_standing) := ⟨rfl, rfl, rfl, by decide +kernel, rfl, by decide +kernel, by decide +kernel⟩
theorem sc_combined : FnScope ["choices", "rows", "worths"] ["choices"] (defScope s_combined) := ⟨rfl, rfl, rfl, by decide +kernel, rfl, by decide +kernel, by decide +kernel⟩
theorem sc_standings : FnScope ["room"] ["room"] (defScope s_standings) := ⟨rfl, rfl, rfl, by decide +kernel, rfl, by decide +kernel, by decide +kernel⟩
theorem sc_changed : FnScope ["standing", "box", "worth"] ["standing", "box", "worth"] (defScope s_changed) := ⟨rfl, rfl, rfl, by decide +kernel, rfl, by decide +kernel, by decide +kernel⟩
theorem sc_is_choice : FnScope ["room", "thing", "box", "worth"] ["room", "thing"] (defScope s_is_choice) := ⟨rfl, rfl, rfl, by decide +kernel, rfl, by decide +kernel, by decide +kernel⟩
theorem sc_is_given : FnScope ["room", "thing", "last", "choice"] ["room", "thing"] (defScope s_is_given) := ⟨rfl, rfl, rfl, by decide +kernel, rfl, by decide +kernel, by decide +kernel⟩
theorem sc_keeps : FnScope ["standing", "given", "box", "worth"] ["standing", "given"] (defScope s_keeps) := ⟨rfl, rfl, rfl, by decide +kernel, rfl, by decide +kernel, by decide +kernel⟩
theorem sc_why : FnScope ["book", "one", "other", "at", "given", "box", "better", "worse"] ["book", "one", "other"] (defScope s_why) := ⟨rfl, rfl, rfl, by decide +kernel, rfl, by decide +kernel, by decide +kernel⟩
theorem sc_betterings : FnScope ["room", "book", "standing", "held", "left_alone"] ["room", "book", "standing", "held"] (defScope s_betterings) := ⟨rfl, rfl, rfl, by decide +kernel, rfl, by decide +kernel, by decide +kernel⟩
theorem sc_local_pairs : FnScope ["room", "book", "box", "standing"] ["room", "book", "box", "standing"] (defScope s_local_pairs) := ⟨rfl, rfl, rfl, by decide +kernel, rfl, by decide +kernel, by decide +kernel⟩
theorem sc_is_wish : FnScope ["room", "thing", "given", "box", "better", "worse"] ["room", "thing"] (defScope s_is_wish) := ⟨rfl, rfl, rfl, by decide +kernel, rfl, by decide +kernel, by decide +kernel⟩
theorem sc_is_book : FnScope ["room", "thing", "wish"] ["room", "thing"] (defScope s_is_book) := ⟨rfl, rfl, rfl, by decide +kernel, rfl, by decide +kernel, by decide +kernel⟩
theorem sc_turned : FnScope ["book"] ["book"] (defScope s_turned) := ⟨rfl, rfl, rfl, by decide +kernel, rfl, by decide +kernel, by decide +kernel⟩
theorem sc__law_pen : FnScope ["_law_script"] ["_law_script"] (defScope s__law_pen) := ⟨rfl, rfl, rfl, by decide +kernel, rfl, by decide +kernel, by decide +kernel⟩
theorem sc__law_draw : FnScope ["_law_pen_here", "_law_many", "_law_found", "_law_at", "_law_cell", "_law_prime", "_law_mixed"] ["_law_pen_here", "_law_many"] (defScope s__law_draw) := ⟨rfl, rfl, rfl, by decide +kernel, rfl, by decide +kernel, by decide +kernel⟩
theorem sc__law_size : FnScope ["_law_room_here", "_law_found", "_law_many"] ["_law_room_here"] (defScope s__law_size) := ⟨rfl, rfl, rfl, by decide +kernel, rfl, by decide +kernel, by decide +kernel⟩
theorem sc__law_room : FnScope ["_law_pen_here", "_law_most", "_law_way", "_law_many", "_law_found", "_law_k", "_law_one"] ["_law_pen_here", "_law_most"] (defScope s__law_room) := ⟨rfl, rfl, rfl, by decide +kernel, rfl, by decide +kernel, by decide +kernel⟩
theorem sc__law_given : FnScope ["_law_pen_here", "_law_room_here", "_law_apart", "_law_way", "_law_lone", "_law_found", "_law_box", "_law_many", "_law_worth", "_law_some"] ["_law_pen_here", "_law_room_here", "_law_apart"] (defScope s__law_given) := ⟨rfl, rfl, rfl, by decide +kernel, rfl, by decide +kernel, by decide +kernel⟩
theorem sc__law_wish : FnScope ["_law_pen_here", "_law_room_here", "_law_box", "_law_worse", "_law_better"] ["_law_pen_here", "_law_room_here"] (defScope s__law_wish) := ⟨rfl, rfl, rfl, by decide +kernel, rfl, by decide +kernel, by decide +kernel⟩
theorem sc__law_book : FnScope ["_law_pen_here", "_law_room_here", "_law_most", "_law_way", "_law_many", "_law_found", "_law_k", "_law_like", "_law_wish_here", "_law_base", "_law_box", "_law_better", "_law_worse"] ["_law_pen_here", "_law_room_here", "_law_most"] (defScope s__law_book) := ⟨rfl, rfl, rfl, by decide +kernel, rfl, by decide +kernel, by decide +kernel⟩
theorem sc__law_beyond : FnScope ["_law_first", "_law_second", "_law_many"] ["_law_first", "_law_second", "_law_many"] (defScope s__law_beyond) := ⟨rfl, rfl, rfl, by decide +kernel, rfl, by decide +kernel, by decide +kernel⟩
theorem sc__law_pair_right : FnScope ["_law_room_here", "_law_book_here", "_law_more", "_law_one", "_law_box", "_law_worth", "_law_other", "_law_first", "_law_among", "_law_second"] ["_law_room_here", "_law_book_here", "_law_more", "_law_one", "_law_box", "_law_worth"] (defScope s__law_pair_right) := ⟨rfl, rfl, rfl, by decide +kernel, rfl, by decide +kernel, by decide +kernel⟩
theorem sc__law_one_right : FnScope ["_law_room_here", "_law_book_here", "_law_more", "_law_one", "_law_held", "_law_heard", "_law_other", "_law_unlike", "_law_free", "_law_both"] ["_law_room_here", "_law_book_here", "_law_more", "_law_one", "_law_held"] (defScope s__law_one_right) := ⟨rfl, rfl, rfl, by decide +kernel, rfl, by decide +kernel, by decide +kernel⟩
theorem sc_law : FnScope ["_law_script", "_law_pen_here", "_law_k", "_law_room_here", "_law_book_here", "_law_more", "_law_held", "_law_rows", "_law_step", "_law_one", "_law_box", "_law_worth"] ["_law_script"] (defScope s_law) := ⟨rfl, rfl, rfl, by decide +kernel, rfl, by decide +kernel, by decide +kernel⟩
structure Ad where
  f_is_whole : Addr
  d_is_whole : FuncData
  f_is_box : Addr
  d_is_box : FuncData
  f_is_worth : Addr
  d_is_worth : FuncData
  f_is_standing : Addr
  d_is_standing : FuncData
  f_combined : Addr
  d_combined : FuncData
  f_standings : Addr
  d_standings : FuncData
  f_changed : Addr
  d_changed : FuncData
  f_is_choice : Addr
  d_is_choice : FuncData
  f_is_given : Addr
  d_is_given : FuncData
  f_keeps : Addr
  d_keeps : FuncData
  f_why : Addr
  d_why : FuncData
  f_betterings : Addr
  d_betterings : FuncData
  f_local_pairs : Addr
  d_local_pairs : FuncData
  f_is_wish : Addr
  d_is_wish : FuncData
  f_is_book : Addr
  d_is_book : FuncData
  f_turned : Addr
  d_turned : FuncData
  f__law_pen : Addr
  d__law_pen : FuncData
  f__law_draw : Addr
  d__law_draw : FuncData
  f__law_size : Addr
  d__law_size : FuncData
  f__law_room : Addr
  d__law_room : FuncData
  f__law_given : Addr
  d__law_given : FuncData
  f__law_wish : Addr
  d__law_wish : FuncData
  f__law_book : Addr
  d__law_book : FuncData
  f__law_beyond : Addr
  d__law_beyond : FuncData
  f__law_pair_right : Addr
  d__law_pair_right : FuncData
  f__law_one_right : Addr
  d__law_one_right : FuncData
  f_law : Addr
  d_law : FuncData
structure Txt (K : PySem.W.Frag) (mg : Str → Option Value) (t : Ad) : Prop where
  is_whole : Dfn K mg "is_whole" s_is_whole ["thing"] t.f_is_whole t.d_is_whole
  is_box : Dfn K mg "is_box" s_is_box ["room", "thing"] t.f_is_box t.d_is_box
  is_worth : Dfn K mg "is_worth" s_is_worth ["room", "box", "thing"] t.f_is_worth t.d_is_worth
  is_standing : Dfn K mg "is_standing" s_is_standing ["room", "thing"] t.f_is_standing t.d_is_standing
  combined : Dfn K mg "combined" s_combined ["choices"] t.f_combined t.d_combined
  standings : Dfn K mg "standings" s_standings ["room"] t.f_standings t.d_standings
  changed : Dfn K mg "changed" s_changed ["standing", "box", "worth"] t.f_changed t.d_changed
  is_choice : Dfn K mg "is_choice" s_is_choice ["room", "thing"] t.f_is_choice t.d_is_choice
  is_given : Dfn K mg "is_given" s_is_given ["room", "thing"] t.f_is_given t.d_is_given
  keeps : Dfn K mg "keeps" s_keeps ["standing", "given"] t.f_keeps t.d_keeps
  why : Dfn K mg "why" s_why ["book", "one", "other"] t.f_why t.d_why
  betterings : DfnD K mg "betterings" s_betterings ["room", "book", "standing", "held"] [Value.none] t.f_betterings t.d_betterings
  local_pairs : Dfn K mg "local_pairs" s_local_pairs ["room", "book", "box", "standing"] t.f_local_pairs t.d_local_pairs
  is_wish : Dfn K mg "is_wish" s_is_wish ["room", "thing"] t.f_is_wish t.d_is_wish
  is_book : Dfn K mg "is_book" s_is_book ["room", "thing"] t.f_is_book t.d_is_book
  turned : Dfn K mg "turned" s_turned ["book"] t.f_turned t.d_turned
  _law_pen : Dfn K mg "_law_pen" s__law_pen ["_law_script"] t.f__law_pen t.d__law_pen
  _law_draw : Dfn K mg "_law_draw" s__law_draw ["_law_pen_here", "_law_many"] t.f__law_draw t.d__law_draw
  _law_size : Dfn K mg "_law_size" s__law_size ["_law_room_here"] t.f__law_size t.d__law_size
  _law_room : Dfn K mg "_law_room" s__law_room ["_law_pen_here", "_law_most"] t.f__law_room t.d__law_room
  _law_given : Dfn K mg "_law_given" s__law_given ["_law_pen_here", "_law_room_here", "_law_apart"] t.f__law_given t.d__law_given
  _law_wish : Dfn K mg "_law_wish" s__law_wish ["_law_pen_here", "_law_room_here"] t.f__law_wish t.d__law_wish
  _law_book : Dfn K mg "_law_book" s__law_book ["_law_pen_here", "_law_room_here", "_law_most"] t.f__law_book t.d__law_book
  _law_beyond : Dfn K mg "_law_beyond" s__law_beyond ["_law_first", "_law_second", "_law_many"] t.f__law_beyond t.d__law_beyond
  _law_pair_right : Dfn K mg "_law_pair_right" s__law_pair_right ["_law_room_here", "_law_book_here", "_law_more", "_law_one", "_law_box", "_law_worth"] t.f__law_pair_right t.d__law_pair_right
  _law_one_right : Dfn K mg "_law_one_right" s__law_one_right ["_law_room_here", "_law_book_here", "_law_more", "_law_one", "_law_held"] t.f__law_one_right t.d__law_one_right
  law : Dfn K mg "law" s_law ["_law_script"] t.f_law t.d_law
  b_enumerate : mg "enumerate" = none
  b_sorted : mg "sorted" = none
  b_tuple : mg "tuple" = none
  b_range : mg "range" = none
  b_isinstance : mg "isinstance" = none
  b_int : mg "int" = none
  b_len : mg "len" = none
  b_set : mg "set" = none
  b_bool : mg "bool" = none
  b_list : mg "list" = none
  b_abs : mg "abs" = none
  b_min : mg "min" = none
  c_MOST_WISHES : ∃ u, RelV (.int 600) u ∧ mg "MOST_WISHES" = some u
section
variable {P : Program} {w : World} {K : PySem.W.Frag} {mg : Str → Option Value} {base : Heap} {t : Ad}
theorem ok_is_whole (T : Txt K mg t) : FnOk P w K mg base CX0 1 t.f_is_whole t.d_is_whole ["thing"] spWhole := by
  refine T.is_whole.F.okQ sc_is_whole (fun vs H Q E h => ?_) (fun cdv A outer s H vs Q E hr h => ?_)
  · obtain ⟨v, d, rfl, _⟩ := h
    rfl
  · obtain ⟨v, d, rfl, hd, k⟩ := h
    refine ⟨_, (qss_one (qs_ret (qe_and (qe_callB cq_isinst (by rfl) T.b_isinstance PyProof.Rows.boot_isinstance (qa_cons (qv 0) (qa_cons (qe_bltn (v := .ty "int") rfl T.b_int PyProof.Rows.boot_int rfl) qa_nil))) (qe_one (qe_not (qe_callB cq_isinst (by rfl) T.b_isinstance PyProof.Rows.boot_isinstance (qa_cons (qv 0) (qa_cons (qe_bltn (v := .ty "bool") rfl T.b_bool PyProof.Rows.boot_bool rfl) qa_nil)))))))), ?_⟩
    refine ⟨_, rfl, v, "int", _, _, rfl, hd.ty, kit_int _ d, _, rfl, ?_⟩
    cases d with
    | int i => exact iteT ⟨_, rfl, v, "bool", _, _, rfl, hd.ty, kit_bl _ _, _, rfl, k⟩
    | bl b => exact iteT ⟨_, rfl, v, "bool", _, _, rfl, hd.ty, kit_bl _ _, _, rfl, k⟩
    | _ => exact iteF k
theorem ok_is_box (T : Txt K mg t) : FnOk P w K mg base CX0 2 t.f_is_box t.d_is_box ["room", "thing"] spBox := by
  have G_is_whole : FnOk P w K mg base CX0 1 t.f_is_whole t.d_is_whole ["thing"] spWhole := ok_is_whole T
  refine T.is_box.F.okQ sc_is_box (fun vs H Q E h => ?_) (fun cdv A outer s H vs Q E hr h => ?_)
  · obtain ⟨ra, rm, v, d, rfl, _⟩ := h
    rfl
  · obtain ⟨ra, rm, v, d, rfl, hR, hd, k⟩ := h
    refine ⟨_, (qss_one (qs_ret (qe_and (qe_fn T.is_whole G_is_whole hr (qa_cons (qv 1) qa_nil)) (qe_one (qe_chain oq_le oq_lt qe_int (qv 1) (qe_callB cq_len (by rfl) T.b_len PySem.boot_len (qa_cons (qv 0) qa_nil))))))), ?_⟩
    refine ⟨_, rfl, v, d, rfl, hd, _, rfl, ?_⟩
    cases d with
    | int i =>
      cases hd
      refine iteT ⟨_, rfl, _, _, rfl, rfl, _, rfl, ite2 (fun h1 => ?_) (fun h1 => ?_)⟩
      · refine ⟨_, rfl, _, _, rfl, .inr ⟨_, .of hR.at', rfl⟩, _, _, rfl, rfl, ?_⟩
        have e : boxOk rm (.int i) = decide (i < ((rm.map V.int).length : Int)) := by
          show (decide (0 ≤ i) && decide (i < (rm.length : Int))) = _
          rw [h1, Bool.true_and, List.length_map]
        rw [e] at k
        exact k
      · have e : boxOk rm (.int i) = false := by
          show (decide (0 ≤ i) && decide (i < (rm.length : Int))) = _
          rw [Bool.eq_false_iff.mpr h1, Bool.false_and]
        rw [e] at k
        exact k
    | _ => exact iteF k
theorem ok_is_worth (T : Txt K mg t) : FnOk P w K mg base CX0 2 t.f_is_worth t.d_is_worth ["room", "box", "thing"] spWorth := by
  have G_is_whole : FnOk P w K mg base CX0 1 t.f_is_whole t.d_is_whole ["thing"] spWhole := ok_is_whole T
  refine T.is_worth.F.okQ sc_is_worth (fun vs H Q E h => ?_) (fun cdv A outer s H vs Q E hr h => ?_)
  · obtain ⟨ra, rm, i, v, d, rfl, _⟩ := h
    rfl
  · obtain ⟨ra, rm, i, v, d, rfl, hR, h0, h1, hd, k⟩ := h
    refine ⟨_, (qss_one (qs_ret (qe_and (qe_fn T.is_whole G_is_whole hr (qa_cons (qv 2) qa_nil)) (qe_one (qe_chain oq_le oq_lt qe_int (qv 2) (qe_ix xq_tup (qv 0) (qv 1) (fun _ _ => rfl))))))), ?_⟩
    refine ⟨_, rfl, v, d, rfl, hd, _, rfl, ?_⟩
    cases d with
    | int j =>
      cases hd
      refine iteT ⟨_, rfl, _, _, rfl, rfl, _, rfl, ite2 (fun h2 => ?_) (fun h2 => ?_)⟩
      · refine ⟨_, rfl, _, rfl, ra, _, _, _, rfl, rfl, .of hR.at', (hR.get h0 h1).1, _, _, rfl, rfl, ?_⟩
        have e : worthOk rm i (.int j) = decide (j < many rm i) := by
          show (decide (0 ≤ j) && decide (j < many rm i)) = _
          rw [h2, Bool.true_and]
        rw [e] at k
        exact k
      · have e : worthOk rm i (.int j) = false := by
          show (decide (0 ≤ j) && decide (j < many rm i)) = _
          rw [Bool.eq_false_iff.mpr h2, Bool.false_and]
        rw [e] at k
        exact k
    | _ => exact iteF k
theorem ok_is_standing (T : Txt K mg t) : FnOk P w K mg base CX0 3 t.f_is_standing t.d_is_standing ["room", "thing"] spStand := by
  have G_is_worth : FnOk P w K mg base CX0 2 t.f_is_worth t.d_is_worth ["room", "box", "thing"] spWorth := ok_is_worth T
  refine T.is_standing.F.okQ sc_is_standing (fun vs H Q E h => ?_) (fun cdv A outer s H vs Q E hr h => ?_)
  · obtain ⟨ra, rm, v, d, rfl, _⟩ := h
    rfl
  · obtain ⟨ra, rm, v, d, rfl, hR, hd, k⟩ := h
    refine ⟨_, (qss_cons (qs_if (QW.pt (qw_or (qt_not (qt_val (qe_callB cq_isinst (by rfl) T.b_isinstance PyProof.Rows.boot_isinstance (qa_cons (qv 1) (qa_cons (qe_bltn (v := .ty "tuple") rfl T.b_tuple PyProof.Rows.boot_tuple rfl) qa_nil))))) (qw_or1 (qt_cmpR oq_ne (qe_callB cq_len (by rfl) T.b_len PySem.boot_len (qa_cons (qv 1) qa_nil)) (qe_callB cq_len (by rfl) T.b_len PySem.boot_len (qa_cons (qv 0) qa_nil)) (nomark _))))) (qss_one (qs_ret qe_bl)) qss_nil)
      (qss_cons (qs_for PassesOwn.never rfl (qi_enum rfl T.b_enumerate (qa_cons (qv 1) qa_nil)) (qg_tup rfl (qgs_cons (qg_name (i := 2) sc_is_standing.nd rfl (Or.inl rfl)) (qgs_cons (qg_name (i := 3) sc_is_standing.nd rfl (Or.inl rfl)) qgs_nil))) (qss_one (qs_if (qt_not (qt_val (qe_fn T.is_worth G_is_worth hr (qa_cons (qv 0) (qa_cons (qv 2) (qa_cons (qv 3) qa_nil)))))) (qss_one (qs_ret qe_bl)) qss_nil)))
      (qss_one (qs_ret qe_bl)))), ?_⟩
    refine ⟨_, rfl, v, "tuple", _, _, rfl, hd.ty, kit_tup _ d, _, rfl, ?_⟩
    cases d with
    | tup l =>
      refine iteF ?_
      obtain ⟨a, xs, rfl, ha, hl⟩ := hd
      have hlen := hl.length
      refine ⟨_, rfl, _, _, rfl, .inr ⟨xs, .of ha, rfl⟩, _, rfl, _, _, rfl, .inr ⟨_, .of hR.at', rfl⟩, rfl, _, rfl, ?_⟩
      have ed : (!decide (V.int (xs.length : Int) = V.int ((rm.map V.int).length : Int))) = !decide (l.length = rm.length) := by
        rw [dec_int, List.length_map, hlen]
        congr 1
        rw [Bool.eq_iff_iff]
        simp
        omega
      rw [ed]
      refine ite2 (fun h1 => ?_) (fun h1 => ?_)
      · have h1' : l.length ≠ rm.length := by simpa using h1
        have e : standB rm (.tup l) = false := stand_len h1'
        rw [e] at k
        exact k _ fun _ _ z => z
      · have h1' : l.length = rm.length := by simpa using h1
        refine ⟨_, rfl, a, rfl, ⟨xs, .of ha⟩, for_enumN (K := K) (xs := xs) (fun i σ H2 => Same H H2 ∧ (∃ v1 v2, σ = [some (.ref ra), some (.ref a), v1, v2]) ∧ standF rm 0 l = standF rm i (l.drop i)) ⟨fun _ _ z => z, ⟨none, none, rfl⟩, rfl⟩ (fun i σ H2 _ ⟨S, _⟩ => .of (S _ _ ha)) ?_ ?_⟩
        · rintro i y TT σ H2 H3 hi ⟨S2, ⟨v1, v2, rfl⟩, hw⟩ hT S3
          have S03 : Same H H3 := fun b o e => S3 _ _ (S2 _ _ e)
          obtain ⟨d', hd', his⟩ := (hl.stay (Stay.same S03)).get hi
          have hlt := (List.getElem?_eq_some_iff.mp hd').1
          have hdr : l.drop i = d' :: l.drop (i + 1) := by
            obtain ⟨hlt, e⟩ := List.getElem?_eq_some_iff.mp hd'
            rw [List.drop_eq_getElem_cons hlt, e]
          rw [hdr] at hw
          have hw' : standF rm 0 l = (worthOk rm (i : Int) d' && standF rm (i + 1) (l.drop (i + 1))) := hw
          refine ⟨TT, _, rfl, .of hT, rfl, _, _, rfl, _, _, rfl, rfl, ?_⟩
          refine ⟨_, rfl, _, rfl, _, rfl, ra, rm, (i : Int), y, d', rfl, hR.stay (Stay.same S03), by omega, by omega, his, _, rfl, ite2 (fun h2 => ?_) (fun h2 => ?_)⟩
          · have e1 : worthOk rm (i : Int) d' = false := by simpa using h2
            have e : standB rm (.tup l) = false := stand_at hd' e1
            rw [e] at k
            exact k _ S03
          · have e1 : worthOk rm (i : Int) d' = true := by simpa using h2
            exact ⟨S03, ⟨_, _, rfl⟩, by rw [hw', e1]; rfl⟩
        · rintro σ H2 ⟨S2, ⟨v1, v2, rfl⟩, hw⟩
          rw [hlen, List.drop_length] at hw
          have e : standB rm (.tup l) = true := by
            show (decide (l.length = rm.length) && standF rm 0 l) = true
            rw [decide_eq_true h1', hw]
            rfl
          rw [e] at k
          exact k _ S2
    | _ => exact iteT (iteT (k _ fun _ _ z => z))
theorem ok_combined (T : Txt K mg t) : FnOk P w K mg base CX0 1 t.f_combined t.d_combined ["choices"] (spCombined K) := by
  refine T.combined.F.okQ sc_combined (fun vs H Q E h => ?_) (fun cdv A outer s H vs Q E hr h => ?_)
  · obtain ⟨ca, xs, cs, rfl, _⟩ := h
    rfl
  · obtain ⟨ca, xs, cs, rfl, hca, hL, hc8, hc4, k⟩ := h
    have hall := allC_few hc8 hc4
    refine ⟨_, (qss_cons (qs_set (i := 1) sc_combined.nd rfl (Or.inl rfl) (qe_lstN (qa_cons (qe_tupN qa_nil) qa_nil)))
      (qss_cons (qs_for PassesOwn.never rfl (qi_list (qv 0)) (qg_name (i := 2) sc_combined.nd rfl (Or.inr rfl)) (qss_one (qs_setC2 (ix := 1) sc_combined.nd rfl rfl (N := ["row", "worth", "worths"]) (cix := [none, none, some 2]) rfl ⟨rfl, by decide +kernel, rfl⟩ (qi_list (qv 1)) (fun _ _ _ _ => (qg_name (i := 0) (show (["row", "worth", "worths"] : List Str).Nodup by decide +kernel) rfl (Or.inl rfl))) (fun _ _ _ _ => qts_nil) (fun _ _ _ _ => (qi_listK K rfl (qv 2))) (fun _ _ _ _ => (qg_name (i := 1) (show (["row", "worth", "worths"] : List Str).Nodup by decide +kernel) rfl (Or.inl rfl))) (fun _ _ _ _ => qts_nil) (fun _ _ _ _ => (qe_op (oq_catAK K rfl) (qv 0) (qe_tupN (qa_cons (qv 1) qa_nil)))))))
      (qss_one (qs_ret (qv 1))))), ?_⟩
    refine ⟨(by show 0 ≤ sizeLine; decide), fun e0 H1 _ g1 S1 => ⟨(by show 1 ≤ sizeLine; decide), fun r0 H2 n2 g2 S2 => ?_⟩⟩
    have S02 : Same H H2 := fun b o e => S2 _ _ (S1 _ _ e)
    have nr0 : H r0 = none := by
      cases e : H r0 with
      | none => rfl
      | some o => rw [S1 _ _ e] at n2; cases n2
    refine ⟨_, rfl, ca, rfl, ⟨xs, .of (S02 _ _ hca)⟩, for_list (K := K) (xs := xs) (fun i σ H3 => ∃ (ra : Addr) (ys : List V) (v2 : Option V), σ = [some (.ref ca), some (.ref ra), v2] ∧ H ra = none ∧ H3 ra = some (.lst ys) ∧ IsL H3 ((allC (cs.take i)).map stD) ys ∧ Same H H3)
      ⟨r0, _, none, rfl, nr0, g2, ⟨_, _, rfl, ⟨e0, _, rfl, S2 _ _ g1, rfl⟩, rfl⟩, S02⟩ (fun i σ H3 _ ⟨_, _, _, _, _, _, _, S⟩ => .of (S _ _ hca)) ?_ ?_⟩
    · rintro i x σ H3 hi ⟨ra, ys, v2, rfl, nra, hra, hys, S3⟩
      have hil := (List.getElem?_eq_some_iff.mp hi).1
      have hicl : i < cs.length := by rw [← hL.1]; exact hil
      obtain ⟨wa, hwa, hwl⟩ := hL.2 i cs[i] (List.getElem?_eq_getElem hicl)
      rw [hi] at hwa
      cases hwa
      have hws4 := hc4 cs[i] (List.getElem_mem hicl)
      have htk : cs.take (i + 1) = cs.take i ++ [cs[i]] := take_succ_get (List.getElem?_eq_getElem hicl)
      have hl1 := hall i
      have hl2 := hall (i + 1)
      rw [htk, allC_snoc] at hl2
      have hyl := hys.length
      rw [List.length_map] at hyl
      have hrow : ∀ row ∈ allC (cs.take i), row.length ≤ 8 := fun row hr => by
        rw [allC_row _ _ hr, List.length_take]
        omega
      generalize cs[i] = ws at hwl hws4 htk hl2
      generalize hrows : allC (cs.take i) = rows at hys hl1 hl2 hyl hrow
      have hwl3 := S3 _ _ hwl
      refine ⟨_, rfl, ra, rfl, ⟨_, .of hra⟩, fun acc hacc => ?_⟩
      refine comp2_list (xs := ys) hacc (fun j σ' H' => (∃ v0 v1, σ' = [v0, v1, some (.ref wa)]) ∧ (∃ zs, H' acc = some (.lst zs) ∧ IsL H' ((crossI (rows.take j) ws).map stD) zs) ∧ Same H3 H') (fun H' z1 z2 => ⟨⟨_, _, rfl⟩, ⟨[], z1, rfl⟩, z2⟩) (fun _ _ _ _ ⟨_, _, S⟩ => .of (S _ _ hra)) ?_ ?_
      · rintro j y σ' H4 hy ⟨⟨v0, v1, rfl⟩, ⟨zs, hac, hzs⟩, S4⟩
        obtain ⟨d, hd, his⟩ := (hys.stay (Stay.same S4)).get hy
        rw [List.getElem?_map] at hd
        obtain ⟨row, hrw, rfl⟩ := Option.map_eq_some_iff.mp hd
        obtain ⟨rwa, rv, rfl, hrwa, hrv⟩ := his
        obtain rfl := hrv.of_ints
        have hjl := (List.getElem?_eq_some_iff.mp hrw).1
        have hr8 := hrow row (List.mem_of_getElem? hrw)
        show comp2T _ tNoTest _ _ _ _ _ _ _ _ _
        refine noTest ?_
        refine ⟨_, rfl, wa, rfl, ⟨_, .of (S4 _ _ hwl3)⟩, ?_⟩
        refine inner_list (xs := ws.map V.int) (fun m σ' H' => (∃ v1, σ' = [some (.ref rwa), v1, some (.ref wa)]) ∧ (∃ zs, H' acc = some (.lst zs) ∧ IsL H' ((crossI (rows.take j) ws ++ (ws.take m).map fun w => row ++ [w]).map stD) zs) ∧ Same H3 H' ∧ H' rwa = some (.tup (row.map V.int))) ⟨⟨_, rfl⟩, ⟨zs, hac, by simpa using hzs⟩, S4, hrwa⟩ (fun _ _ _ _ ⟨_, _, S, _⟩ => .of (S _ _ hwl3)) ?_ ?_
        · rintro m u σ' H5 hu ⟨⟨v1, rfl⟩, ⟨zs, hac, hzs⟩, S5, hrw5⟩
          rw [List.getElem?_map] at hu
          obtain ⟨wv, hwv, rfl⟩ := Option.map_eq_some_iff.mp hu
          have hml := (List.getElem?_eq_some_iff.mp hwv).1
          refine compNo ⟨_, rfl, _, rfl, (by show 1 ≤ sizeLine; decide), fun t1 H6 _ g6 S6 => ?_⟩
          refine ⟨rwa, t1, _, _, rfl, rfl, S6 _ _ hrw5, g6, Nat.le_of_lt (small1000 (by rw [List.length_map]; show row.length + 1 ≤ 1000; omega)), fun t2 H7 g7 S7 => ?_⟩
          have S57 : Same H5 H7 := fun b o e => S7 _ _ (S6 _ _ e)
          have hzl := hzs.length
          rw [List.length_map, List.length_append, crossI_len, List.length_map, List.length_take, List.length_take] at hzl
          have hcr := crossI_len rows ws
          have hprod : (min j rows.length) * ws.length ≤ 65536 * 4 := Nat.mul_le_mul (by omega) hws4
          refine ⟨zs, S57 _ _ hac, Nat.lt_of_le_of_lt (show zs.length ≤ 500000 by omega) (by decide), ⟨_, rfl⟩, ⟨_, upd_same, ?_⟩, same_acc hacc fun b o e => S57 _ _ (S5 _ _ e), ?_⟩
          · refine IsL.stayT (StayT.app (S57 _ _ hac)) (noLs_sts _) ?_
            rw [take_succ_get hwv, List.map_append (l₁ := ws.take m), ← List.append_assoc, List.map_append]
            refine (hzs.stay (Stay.same S57)).append (IsL.one ⟨t2, _, rfl, g7, ?_⟩)
            rw [List.map_append]
            exact IsL.ints.append (IsL.ints (ns := [wv]))
          · rw [upd_ne (ne_of (S57 _ _ hrw5) (S57 _ _ hac) (by intro z; cases z))]
            exact S57 _ _ hrw5
        · rintro σ' H5 ⟨⟨v1, rfl⟩, ⟨zs, hac, hzs⟩, S5, hrw5⟩
          rw [List.length_map, List.take_length] at hzs
          refine ⟨⟨_, _, rfl⟩, ⟨zs, hac, ?_⟩, S5⟩
          rw [take_succ_get hrw, crossI_snoc]
          exact hzs
      · rintro σ' H4 ⟨⟨v0, v1, rfl⟩, ⟨zs, hac, hzs⟩, S4⟩
        rw [hyl, List.take_length] at hzs
        refine ⟨acc, zs, _, rfl, ?_, hac, ?_, fun b o e => S4 _ _ (S3 _ _ e)⟩
        · cases e : H acc with
          | none => rfl
          | some o => rw [S3 _ _ e] at hacc; cases hacc
        · rw [htk, allC_snoc, hrows]
          exact hzs
    · rintro σ H3 ⟨ra, ys, v2, rfl, nra, hra, hys, S3⟩
      rw [hL.1, List.take_length] at hys
      exact ⟨_, rfl, k ra ys H3 nra hra hys S3⟩
theorem ok_standings (T : Txt K mg t) : FnOk P w K mg base CX0 2 t.f_standings t.d_standings ["room"] (spStandings K) := by
  have G_combined : FnOk P w K mg base CX0 1 t.f_combined t.d_combined ["choices"] (spCombined K) := ok_combined T
  refine T.standings.F.okQ sc_standings (fun vs H Q E h => ?_) (fun cdv A outer s H vs Q E hr h => ?_)
  · obtain ⟨ra, rm, rfl, _⟩ := h
    rfl
  · obtain ⟨ra, rm, rfl, hR, k⟩ := h
    have hlf := hR.few
    refine ⟨_, (qss_one (qs_ret (qe_fn T.combined G_combined hr (qa_cons (qe_compG (N := ["worths"]) (cix := [none]) rfl ⟨rfl, by decide +kernel, rfl⟩ (qi_tup (qv 0)) (fun _ _ _ _ => (qg_name (i := 0) (show (["worths"] : List Str).Nodup by decide +kernel) rfl (Or.inl rfl))) (fun _ _ _ _ => qts_nil) (fun _ _ _ _ => (qe_callTy (cq_list_rng rfl) (by rfl) T.b_list PyProof.Rows.boot_list (qa_cons (qe_callTy cq_range (by rfl) T.b_range PyProof.Rows.boot_range (qa_cons (qv 0) qa_nil)) qa_nil)))) qa_nil)))), ?_⟩
    refine ⟨_, rfl, ra, rfl, ⟨_, .of hR.at'⟩, fun acc hacc => ?_⟩
    refine comp_tup (xs := rm.map V.int) hacc (fun i σ' H' => (∃ v, σ' = [v]) ∧ (∃ zs : List V, H' acc = some (.lst zs) ∧ zs.length = i ∧ ∀ (j : Nat) c, ((rm.take i).map rangeI)[j]? = some c → ∃ a, zs[j]? = some (.ref a) ∧ a ≠ acc ∧ H' a = some (.lst (c.map V.int))) ∧ Same H H') (fun H' z1 z2 => ⟨⟨_, rfl⟩, ⟨[], z1, rfl, fun j c h => by simp at h⟩, z2⟩) (fun _ _ _ _ ⟨_, _, S⟩ => .of (S _ _ hR.at')) ?_ ?_
    · rintro i y σ' H1 hy ⟨⟨v, rfl⟩, ⟨zs, hac, hzl, hzs⟩, S1⟩
      rw [List.getElem?_map] at hy
      obtain ⟨m, hm, rfl⟩ := Option.map_eq_some_iff.mp hy
      have hmb := hR.box m (List.mem_of_getElem? hm)
      have hi := (List.getElem?_eq_some_iff.mp hm).1
      refine compNo ⟨_, rfl, m, rfl, fun p1 H2 _ g2 S2 => ⟨p1, m.toNat, rfl, by rw [show ((m.toNat : Nat) : Int) = m by omega]; exact g2, by omega, fun p2 H3 n3 g3 S3 => ?_⟩⟩
      have S13 : Same H1 H3 := fun b o e => S3 _ _ (S2 _ _ e)
      rw [← rangeI_map] at g3
      have hpa : p2 ≠ acc := fun e => by
        subst e
        rw [S2 _ _ hac] at n3
        cases n3
      refine ⟨zs, S13 _ _ hac, small1000 (by omega), ⟨_, rfl⟩, ⟨_, upd_same, by rw [List.length_append, hzl]; rfl, fun j c hc => ?_⟩, same_acc hacc fun b o e => S13 _ _ (S1 _ _ e)⟩
      rw [take_succ_get hm, List.map_append] at hc
      have htl : ((rm.take i).map rangeI).length = i := by rw [List.length_map, List.length_take]; omega
      by_cases hj : j < i
      · rw [List.getElem?_append_left (by rw [htl]; exact hj)] at hc
        obtain ⟨a, h1, h2, h3⟩ := hzs j c hc
        exact ⟨a, by rw [List.getElem?_append_left (by omega)]; exact h1, h2, by rw [upd_ne h2]; exact S13 _ _ h3⟩
      · rw [List.getElem?_append_right (by rw [htl]; omega), htl] at hc
        have hj0 : j - i = 0 := by
          have := (List.getElem?_eq_some_iff.mp hc).1
          simp at this
          omega
        rw [hj0] at hc
        have : rangeI m = c := by simpa using hc
        subst this
        have hji : j = i := by omega
        subst hji
        refine ⟨p2, ?_, hpa, by rw [upd_ne hpa]; exact g3⟩
        rw [List.getElem?_append_right (by omega), hzl, Nat.sub_self]
        rfl
    · rintro σ' H1 ⟨⟨v, rfl⟩, ⟨zs, hac, hzl, hzs⟩, S1⟩
      rw [List.length_map, List.take_length] at hzs
      rw [List.length_map] at hzl
      refine ⟨acc, zs, rm.map rangeI, rfl, hac, ⟨by rw [List.length_map]; exact hzl, fun j c hc => ?_⟩, by rw [List.length_map]; exact hlf, fun c hc => ?_, fun a ys H2 na ha hys S2 => ?_⟩
      · obtain ⟨a, h1, _, h3⟩ := hzs j c hc
        exact ⟨a, h1, h3⟩
      · obtain ⟨m, hm, rfl⟩ := List.mem_map.mp hc
        rw [rangeI_len]
        have := hR.box m hm
        omega
      · exact k a ys H2 (S1.none na) ha hys fun b o e => S2 _ _ (S1 _ _ e)
theorem ok_changed (T : Txt K mg t) : FnOk P w K mg base CX0 1 t.f_changed t.d_changed ["standing", "box", "worth"] spChanged := by
  refine T.changed.F.okQ sc_changed (fun vs H Q E h => ?_) (fun cdv A outer s H vs Q E hr h => ?_)
  · obtain ⟨a, st, b, wo, rfl, _⟩ := h
    rfl
  · obtain ⟨a, st, b, wo, rfl, ha, hl, b0, k⟩ := h
    refine ⟨_, (qss_one (qs_ret (qe_op oq_catA (qe_op oq_catA (qe_slice sq_tupA (qv 0) qo_none (qo_some (qv 1))) (qe_tupN (qa_cons (qv 2) qa_nil))) (qe_slice sq_tupA (qv 0) (qo_some (qe_op oq_add (qv 1) qe_int)) qo_none)))), ?_⟩
    have cl : ∀ lo hi, (cutV (st.map V.int) lo hi).length ≤ 400 := fun lo hi => Nat.le_trans (cutV_length _ _ _) (by rw [List.length_map]; exact hl)
    refine ⟨_, rfl, _, rfl, _, rfl, a, _, rfl, ha, fun t1 H1 g1 S1 => ?_⟩
    refine ⟨_, rfl, (by show 1 ≤ sizeLine; decide), fun t2 H2 _ g2 S2 => ?_⟩
    refine ⟨t1, t2, _, _, rfl, rfl, S2 _ _ g1, g2, Nat.le_of_lt (small1000 (by have := cl none (some b); show _ + 1 ≤ 1000; omega)), fun t3 H3 g3 S3 => ?_⟩
    have S03 : Same H H3 := fun b o e => S3 _ _ (S2 _ _ (S1 _ _ e))
    refine ⟨_, rfl, _, rfl, _, _, rfl, rfl, _, rfl, a, _, rfl, S03 _ _ ha, fun t4 H4 g4 S4 => ?_⟩
    refine ⟨t3, t4, _, _, rfl, rfl, S4 _ _ g3, g4, ?_, fun t5 H5 g5 S5 => ?_⟩
    · have e1 := cl none (some b)
      have e2 := cl (some (b + 1)) none
      refine Nat.le_of_lt (small1000 ?_)
      rw [List.length_append]
      show _ + 1 + _ ≤ 1000
      omega
    rw [chg_cut st b0] at g5
    exact k t5 H5 g5 fun b o e => S5 _ _ (S4 _ _ (S03 _ _ e))
theorem ok_is_choice (T : Txt K mg t) : FnOk P w K mg base CX0 3 t.f_is_choice t.d_is_choice ["room", "thing"] spChoice := by
  have G_is_box : FnOk P w K mg base CX0 2 t.f_is_box t.d_is_box ["room", "thing"] spBox := ok_is_box T
  have G_is_worth : FnOk P w K mg base CX0 2 t.f_is_worth t.d_is_worth ["room", "box", "thing"] spWorth := ok_is_worth T
  refine T.is_choice.F.okQ sc_is_choice (fun vs H Q E h => ?_) (fun cdv A outer s H vs Q E hr h => ?_)
  · obtain ⟨ra, rm, v, d, rfl, _⟩ := h
    rfl
  · obtain ⟨ra, rm, v, d, rfl, hR, hd, k⟩ := h
    refine ⟨_, (qss_cons (qs_if (QW.pt (qw_or (qt_not (qt_val (qe_callB cq_isinst (by rfl) T.b_isinstance PyProof.Rows.boot_isinstance (qa_cons (qv 1) (qa_cons (qe_bltn (v := .ty "tuple") rfl T.b_tuple PyProof.Rows.boot_tuple rfl) qa_nil))))) (qw_or1 (qt_cmpR oq_ne (qe_callB cq_len (by rfl) T.b_len PySem.boot_len (qa_cons (qv 1) qa_nil)) qe_int (nomark _))))) (qss_one (qs_ret qe_bl)) qss_nil)
      (qss_cons (qs_asg (qv 1) (qg_tup rfl (qgs_cons (qg_name (i := 2) sc_is_choice.nd rfl (Or.inl rfl)) (qgs_cons (qg_name (i := 3) sc_is_choice.nd rfl (Or.inl rfl)) qgs_nil))))
      (qss_one (qs_ret (qe_and (qe_fn T.is_box G_is_box hr (qa_cons (qv 0) (qa_cons (qv 2) qa_nil))) (qe_one (qe_fn T.is_worth G_is_worth hr (qa_cons (qv 0) (qa_cons (qv 2) (qa_cons (qv 3) qa_nil)))))))))), ?_⟩
    refine ⟨_, rfl, v, "tuple", _, _, rfl, hd.ty, kit_tup _ d, _, rfl, ?_⟩
    cases d with
    | tup l =>
      refine iteF ?_
      obtain ⟨a, xs, rfl, ha, hl⟩ := hd
      have hlen := hl.length
      refine ⟨_, rfl, _, _, rfl, .inr ⟨xs, .of ha, rfl⟩, rfl, _, rfl, ite2 (fun h1 => ?_) (fun h1 => ?_)⟩
      · have h1' : ¬ xs.length = 2 := by
          have h2 := h1
          simp at h2
          omega
        have e : choiceB rm (.tup l) = false := by
          match l, hlen with
          | [], _ => rfl
          | [_], _ => rfl
          | [_, _], h => exact absurd h h1'
          | _ :: _ :: _ :: _, _ => rfl
        rw [e] at k
        exact k
      · have h1' : xs.length = 2 := by
          have h2 := h1
          simp at h2
          omega
        match l, hl, hlen, k with
        | [], _, hlen, _ => exact absurd (hlen.symm.trans h1') (by decide)
        | [_], _, hlen, _ => exact absurd (hlen.symm.trans h1') (by simp)
        | _ :: _ :: _ :: _, _, hlen, _ => exact absurd (hlen.symm.trans h1') (by simp)
        | [b, wd], hl, _, k =>
          obtain ⟨x, r, rfl, hb, y, r2, rfl, hw, hr2⟩ := hl
          have hr2' : r2 = [] := hr2
          subst hr2'
          refine ⟨_, rfl, a, _, rfl, .of ha, rfl, _, _, rfl, _, _, rfl, rfl, ?_⟩
          refine ⟨_, rfl, _, rfl, ra, rm, x, b, rfl, hR, hb, _, rfl, ite2 (fun h2 => ?_) (fun h2 => ?_)⟩
          · cases b with
            | int i =>
              cases hb
              have h3 := h2
              simp only [boxOk, Bool.and_eq_true, decide_eq_true_eq] at h3
              refine ⟨_, rfl, _, rfl, _, rfl, ra, rm, i, y, wd, rfl, hR, h3.1, h3.2, hw, ?_⟩
              have e : choiceB rm (.tup [.int i, wd]) = worthOk rm i wd := by
                show (boxOk rm (.int i) && worthOk rm i wd) = _
                rw [h2, Bool.true_and]
              rw [e] at k
              exact k
            | _ => exact absurd h2 Bool.false_ne_true
          · have e : choiceB rm (.tup [b, wd]) = false := by
              show (boxOk rm b && worthOk rm b.val wd) = _
              rw [Bool.eq_false_iff.mpr h2, Bool.false_and]
            rw [e] at k
            exact k
    | _ => exact iteT (iteT k)
theorem ok_is_given (T : Txt K mg t) : FnOk P w K mg base CX0 4 t.f_is_given t.d_is_given ["room", "thing"] spGiven := by
  have G_is_choice : FnOk P w K mg base CX0 3 t.f_is_choice t.d_is_choice ["room", "thing"] spChoice := ok_is_choice T
  refine T.is_given.F.okQ sc_is_given (fun vs H Q E h => ?_) (fun cdv A outer s H vs Q E hr h => ?_)
  · obtain ⟨ra, rm, v, d, rfl, _⟩ := h
    rfl
  · obtain ⟨ra, rm, v, d, rfl, hR, hd, k⟩ := h
    refine ⟨_, (qss_cons (qs_if (qt_not (qt_val (qe_callB cq_isinst (by rfl) T.b_isinstance PyProof.Rows.boot_isinstance (qa_cons (qv 1) (qa_cons (qe_bltn (v := .ty "tuple") rfl T.b_tuple PyProof.Rows.boot_tuple rfl) qa_nil))))) (qss_one (qs_ret qe_bl)) qss_nil)
      (qss_cons (qs_set (i := 2) sc_is_given.nd rfl (Or.inl rfl) (qe_un uq_neg qe_int))
      (qss_cons (qs_for PassesOwn.never rfl (qi_tup (qv 1)) (qg_name (i := 3) sc_is_given.nd rfl (Or.inl rfl)) (qss_cons (qs_if (QW.pt (qw_or (qt_not (qt_val (qe_fn T.is_choice G_is_choice hr (qa_cons (qv 0) (qa_cons (qv 3) qa_nil))))) (qw_or1 (qt_cmpR oq_le (qe_ix xq_tup (qv 3) qe_int (fun _ _ => rfl)) (qv 2) (nomark _))))) (qss_one (qs_ret qe_bl)) qss_nil)
      (qss_one (qs_set (i := 2) sc_is_given.nd rfl (Or.inl rfl) (qe_ix xq_tup (qv 3) qe_int (fun _ _ => rfl))))))
      (qss_one (qs_ret qe_bl))))), ?_⟩
    refine ⟨_, rfl, v, "tuple", _, _, rfl, hd.ty, kit_tup _ d, _, rfl, ?_⟩
    cases d with
    | tup l =>
      refine iteF ?_
      obtain ⟨a, xs, rfl, ha, hl⟩ := hd
      have hlen := hl.length
      have k' : Q (.bl (givenF rm (-1) l)) H := k
      refine ⟨_, rfl, ?_⟩
      refine ⟨_, rfl, a, rfl, ⟨xs, .of ha⟩, for_tup (K := K) (xs := xs) (fun i σ H2 => H2 = H ∧ ∃ (last : Int) (z : Option V), σ = [some (.ref ra), some (.ref a), some (.int last), z] ∧ givenF rm (-1) l = givenF rm last (l.drop i)) ⟨rfl, -1, none, rfl, rfl⟩ (fun i σ H2 _ ⟨e, _⟩ => e ▸ .of ha) ?_ ?_⟩
      · rintro i y σ H2 hi ⟨rfl, last, z, rfl, hg⟩
        obtain ⟨d', hd', his⟩ := hl.get hi
        have hdr : l.drop i = d' :: l.drop (i + 1) := by
          obtain ⟨hlt, e⟩ := List.getElem?_eq_some_iff.mp hd'
          rw [List.drop_eq_getElem_cons hlt, e]
        rw [hdr] at hg
        have hg' : givenF rm (-1) l = (choiceB rm d' && decide (last < headV d') && givenF rm (headV d') (l.drop (i + 1))) := hg
        refine ⟨_, rfl, _, rfl, ra, rm, y, d', rfl, hR, his, _, rfl, ite2 (fun h1 => ?_) (fun h1 => ?_)⟩
        · refine iteT ?_
          have e1 : choiceB rm d' = false := by simpa using h1
          rw [hg', e1] at k'
          exact k'
        · have e1 : choiceB rm d' = true := by simpa using h1
          obtain ⟨bi, wj, rfl, b0, b1, w0, w1⟩ := choice_is e1
          obtain ⟨c, ys, rfl, hc, x0, r0, rfl, hx0, x1, r1, rfl, hx1, hr1⟩ := his
          have hx0' : x0 = .int bi := hx0
          subst hx0'
          refine ⟨_, rfl, c, _, _, _, rfl, rfl, .of hc, atI_nat (j := 0) rfl, _, rfl, _, _, rfl, rfl, _, rfl, ite2 (fun h2 => ?_) (fun h2 => ?_)⟩
          · have h2' := of_decide_eq_true h2
            have e2 : decide (last < headV (.tup [.int bi, .int wj])) = false := decide_eq_false (by show ¬ (last < bi); omega)
            rw [hg', e2, Bool.and_false, Bool.false_and] at k'
            exact k'
          · have h2' : ¬ bi ≤ last := fun zz => h2 (decide_eq_true zz)
            refine ⟨_, rfl, c, _, _, _, rfl, rfl, .of hc, atI_nat (j := 0) rfl, rfl, bi, some (.ref c), rfl, ?_⟩
            have e2 : decide (last < headV (.tup [.int bi, .int wj])) = true := decide_eq_true (by show last < bi; omega)
            rw [hg', e1, e2]
            rfl
      · rintro σ H2 ⟨rfl, last, z, rfl, hg⟩
        rw [hlen, List.drop_length] at hg
        rw [hg] at k'
        exact k'
    | _ => exact iteT k
theorem ok_keeps (T : Txt K mg t) : FnOk P w K mg base CX0 1 t.f_keeps t.d_keeps ["standing", "given"] spKeeps := by
  refine T.keeps.F.okQ sc_keeps (fun vs H Q E h => ?_) (fun cdv A outer s H vs Q E hr h => ?_)
  · obtain ⟨a, ga, st, gs, g, rfl, _⟩ := h
    rfl
  · obtain ⟨a, ga, st, gs, g, rfl, ha, hga, hgl, hg, k⟩ := h
    have hlen : gs.length = g.length := by have := hgl.length; rwa [List.length_map] at this
    refine ⟨_, (qss_cons (qs_for PassesOwn.never rfl (qi_tup (qv 1)) (qg_tup rfl (qgs_cons (qg_name (i := 2) sc_keeps.nd rfl (Or.inl rfl)) (qgs_cons (qg_name (i := 3) sc_keeps.nd rfl (Or.inl rfl)) qgs_nil))) (qss_one (qs_if (qt_cmpR oq_ne (qe_ix xq_tup (qv 0) (qv 2) (fun _ _ => rfl)) (qv 3) (nomark _)) (qss_one (qs_ret qe_bl)) qss_nil)))
      (qss_one (qs_ret qe_bl))), ?_⟩
    refine ⟨_, rfl, ga, rfl, ⟨gs, .of hga⟩, for_tup (K := K) (xs := gs) (fun i σ H2 => H2 = H ∧ (∃ v1 v2, σ = [some (.ref a), some (.ref ga), v1, v2]) ∧ keepsB st (g.take i) = true) ⟨rfl, ⟨none, none, rfl⟩, rfl⟩ (fun i σ H2 _ ⟨e, _⟩ => e ▸ .of hga) ?_ ?_⟩
    · rintro i y σ H2 hi ⟨rfl, ⟨v1, v2, rfl⟩, hk⟩
      obtain ⟨d, hd, his⟩ := hgl.get hi
      rw [List.getElem?_map] at hd
      obtain ⟨q, hq, rfl⟩ := Option.map_eq_some_iff.mp hd
      obtain ⟨ca, ys, rfl, hca, y0, z0, rfl, hy0, y1, z1, rfl, hy1, hz1⟩ := his
      cases hy0
      cases hy1
      cases hz1
      have hqb := hg q (List.mem_of_getElem? hq)
      refine ⟨ca, _, rfl, .of hca, rfl, _, _, rfl, _, _, rfl, rfl, ?_⟩
      refine ⟨_, rfl, _, rfl, a, _, _, _, rfl, rfl, .of ha, many_get hqb.1 hqb.2, _, rfl, rfl, _, rfl, ite2 (fun h1 => ?_) (fun h1 => ?_)⟩
      · have e : keepsB st g = false := by
          unfold keepsB
          refine List.all_eq_false.mpr ⟨q, List.mem_of_getElem? hq, ?_⟩
          intro z
          have z' := of_decide_eq_true z
          rw [z'] at h1
          simp at h1
        rw [e] at k
        exact k
      · refine ⟨rfl, ⟨_, _, rfl⟩, ?_⟩
        have e : many st q.1 = q.2 := by
          by_cases e : many st q.1 = q.2
          · exact e
          · exact absurd (by simp [e]) h1
        unfold keepsB at hk ⊢
        rw [take_succ_get hq, List.all_append, hk]
        simp [e]
    · rintro σ H2 ⟨rfl, ⟨v1, v2, rfl⟩, hk⟩
      rw [hlen, List.take_length] at hk
      rw [hk] at k
      exact k
theorem ok_why (T : Txt K mg t) : FnOk P w K mg base CX0 2 t.f_why t.d_why ["book", "one", "other"] spWhy := by
  have G_keeps : FnOk P w K mg base CX0 1 t.f_keeps t.d_keeps ["standing", "given"] spKeeps := ok_keeps T
  have G_changed : FnOk P w K mg base CX0 1 t.f_changed t.d_changed ["standing", "box", "worth"] spChanged := ok_changed T
  refine T.why.F.okQ sc_why (fun vs H Q E h => ?_) (fun cdv A outer s H vs Q E hr h => ?_)
  · obtain ⟨ba, a1, a2, rm, xs, bk, one, other, rfl, _⟩ := h
    rfl
  · obtain ⟨ba, a1, a2, rm, xs, bk, one, other, rfl, h8, hB, h1, hl, h2, k⟩ := h
    refine ⟨_, (qss_cons (qs_for PassesOwn.never rfl (qi_enum rfl T.b_enumerate (qa_cons (qv 0) qa_nil)) (qg_tup rfl (qgs_cons (qg_name (i := 3) sc_why.nd rfl (Or.inl rfl)) (qgs_cons (qg_tup rfl (qgs_cons (qg_name (i := 4) sc_why.nd rfl (Or.inl rfl)) (qgs_cons (qg_name (i := 5) sc_why.nd rfl (Or.inl rfl)) (qgs_cons (qg_name (i := 6) sc_why.nd rfl (Or.inl rfl)) (qgs_cons (qg_name (i := 7) sc_why.nd rfl (Or.inl rfl)) qgs_nil))))) qgs_nil))) (qss_one (qs_if (QW.pt (qw_and (qt_cmpR oq_eq (qe_ix xq_tup (qv 1) (qv 5) (fun _ _ => rfl)) (qv 7) (nomark _)) (qw_and (qt_val (qe_fn T.keeps G_keeps hr (qa_cons (qv 1) (qa_cons (qv 4) qa_nil)))) (qw_and1 (qt_cmpR (oq_eqD hr.units) (qe_fn T.changed G_changed hr (qa_cons (qv 1) (qa_cons (qv 5) (qa_cons (qv 6) qa_nil)))) (qv 2) (nomark _)))))) (qss_one (qs_ret (qv 3))) qss_nil)))
      (qss_one (qs_ret qe_non))), ?_⟩
    refine ⟨_, rfl, ba, rfl, ⟨xs, .of hB.at'⟩, for_enumN (K := K) (xs := xs) (fun i σ H2 => Same H H2 ∧ (∃ v1 v2 v3 v4 v5, σ = [some (.ref ba), some (.ref a1), some (.ref a2), v1, v2, v3, v4, v5]) ∧ whyF one other 0 bk = whyF one other i (bk.drop i)) ⟨fun _ _ z => z, ⟨none, none, none, none, none, rfl⟩, rfl⟩ (fun i σ H2 _ ⟨S, _⟩ => .of (S _ _ hB.at')) ?_ ?_⟩
    · rintro i y TT σ H2 H3 hi ⟨S2, ⟨v1, v2, v3, v4, v5, rfl⟩, hw⟩ hT S3
      have S03 : Same H H3 := fun b o e => S3 _ _ (S2 _ _ e)
      obtain ⟨x, hx, his, hxo⟩ := (hB.stay (Stay.same S03)).get hi
      have hdr : bk.drop i = x :: bk.drop (i + 1) := by
        obtain ⟨hlt, e⟩ := List.getElem?_eq_some_iff.mp hx
        rw [List.drop_eq_getElem_cons hlt, e]
      rw [hdr] at hw
      have hw' : whyF one other 0 bk = if hits one other x then some i else whyF one other (i + 1) (bk.drop (i + 1)) := hw
      obtain ⟨wa, ga, gs, rfl, hwa, hga, hgl⟩ := wish_parts his
      refine ⟨TT, _, rfl, .of hT, rfl, _, _, rfl, _, _, rfl, ⟨wa, _, rfl, .of hwa, rfl, _, _, rfl, _, _, rfl, _, _, rfl, _, _, rfl, rfl, rfl, ?_⟩⟩
      have b1 := hxo.b1
      have no : hits one other x = false → ∀ {H4 : Hp} {v1 v2 v3 v4 v5 : Option V}, Same H H4 → Same H H4 ∧ (∃ u1 u2 u3 u4 u5, [some (V.ref ba), some (.ref a1), some (.ref a2), v1, v2, v3, v4, v5] = [some (.ref ba), some (.ref a1), some (.ref a2), u1, u2, u3, u4, u5]) ∧ whyF one other 0 bk = whyF one other (i + 1) (bk.drop (i + 1)) := fun e _ _ _ _ _ _ S => ⟨S, ⟨_, _, _, _, _, rfl⟩, by rw [hw', e]; rfl⟩
      refine ⟨_, rfl, _, rfl, a1, _, _, _, rfl, rfl, .of (S03 _ _ h1), many_get hxo.b0 (by omega), _, rfl, rfl, _, rfl, ite2 (fun e1 => ?_) (fun e1 => ?_)⟩
      · have e1' : many one x.b = x.w := by
          have := of_decide_eq_true e1
          exact V.int.inj this
        refine ⟨_, rfl, _, rfl, a1, ga, one, gs, x.g, rfl, S03 _ _ h1, hga, hgl, fun q hq => ⟨(hxo.giv.ok q hq).1, by have := (hxo.giv.ok q hq).2.1; omega⟩, _, rfl, ite2 (fun e2 => ?_) (fun e2 => ?_)⟩
        · refine ⟨_, rfl, _, rfl, _, rfl, a1, one, x.b, x.r, rfl, S03 _ _ h1, by omega, hxo.b0, fun p4 H4 g4 S4 => ?_⟩
          refine ⟨_, rfl, .tup ((chg one x.b x.r).map .int), .tup (other.map .int), ⟨p4, _, rfl, g4, IsL.ints⟩, ⟨a2, _, rfl, S4 _ _ (S03 _ _ h2), IsL.ints⟩, eqOk_ints, eqOk_ints, fun b hb => ⟨_, rfl, ?_⟩⟩
          have hbe : b = hits one other x := by
            rw [Bool.eq_iff_iff, hb]
            unfold hits goalB
            rw [decide_eq_true e1', e2, Bool.true_and, Bool.true_and, decide_eq_true_eq]
            constructor
            · intro z
              have z' := Dt.tup.inj z
              have := congrArg (List.map Dt.val) z'
              rw [vals_ints_map, vals_ints_map] at this
              exact this
            · intro z
              rw [z]
          rw [hbe]
          have S04 : Same H H4 := fun b o e => S4 _ _ (S03 _ _ e)
          refine ite2 (fun e3 => ?_) (fun e3 => ?_)
          · have := k _ S04
            rw [hw', e3] at this
            exact ⟨_, rfl, this⟩
          · exact no (Bool.eq_false_iff.mpr e3) S04
        · refine iteF (no ?_ S03)
          unfold hits goalB
          rw [Bool.eq_false_iff.mpr e2, Bool.and_false, Bool.false_and]
      · refine iteF (no ?_ S03)
        unfold hits goalB
        have : decide (many one x.b = x.w) = false := decide_eq_false fun z => e1 (by rw [z]; exact decide_eq_true rfl)
        rw [this, Bool.false_and, Bool.false_and]
    · rintro σ H2 ⟨S2, ⟨v1, v2, v3, v4, v5, rfl⟩, hw⟩
      rw [hB.len, List.drop_length] at hw
      have := k _ S2
      rw [hw] at this
      exact this
theorem ok_betterings (T : Txt K mg t) : FnOk P w K mg base CX0 2 t.f_betterings t.d_betterings ["room", "book", "standing", "held"] spBett := by
  have G_changed : FnOk P w K mg base CX0 1 t.f_changed t.d_changed ["standing", "box", "worth"] spChanged := ok_changed T
  have G_keeps : FnOk P w K mg base CX0 1 t.f_keeps t.d_keeps ["standing", "given"] spKeeps := ok_keeps T
  refine T.betterings.F.okQ sc_betterings (fun vs H Q E h => ?_) (fun cdv A outer s H vs Q E hr h => ?_)
  · obtain ⟨v0, vh, ba, a, rm, xs, bk, st, hs, rfl, _⟩ := h
    rfl
  · obtain ⟨v0, vh, ba, a, rm, xs, bk, st, hs, rfl, h1, h8, hB, hbx, ha, hl, hh, k⟩ := h
    refine ⟨_, (qss_cons (qs_set (i := 4) sc_betterings.nd rfl (Or.inr rfl) (qe_ifExp (qt_cmp (qc_isN (qv 3))) (qe_tupN qa_nil) (qv 3)))
      (qss_one (qs_ret (qe_callB (cq_sortS rfl) (by rfl) T.b_sorted PyProof.Rows.boot_sorted (qa_cons (qe_setcomp (hu_of hr) (N := ["given", "box", "better", "worse", "standing", "left_alone"]) (cix := [none, none, none, none, some 2, some 4]) rfl ⟨rfl, by decide +kernel, rfl⟩ (qi_tup (qv 1)) (fun _ _ _ _ => (qg_tupK K rfl (n := 4) rfl (qgs_cons (qg_name (i := 0) (show (["given", "box", "better", "worse", "standing", "left_alone"] : List Str).Nodup by decide +kernel) rfl (Or.inl rfl)) (qgs_cons (qg_name (i := 1) (show (["given", "box", "better", "worse", "standing", "left_alone"] : List Str).Nodup by decide +kernel) rfl (Or.inl rfl)) (qgs_cons (qg_name (i := 2) (show (["given", "box", "better", "worse", "standing", "left_alone"] : List Str).Nodup by decide +kernel) rfl (Or.inl rfl)) (qgs_cons (qg_name (i := 3) (show (["given", "box", "better", "worse", "standing", "left_alone"] : List Str).Nodup by decide +kernel) rfl (Or.inl rfl)) qgs_nil)))))) (fun _ _ _ _ => (qts_one (QW.pt (qw_and (qt_cmpR oq_eq (qe_ix (xq_tupK K rfl) (qv 4) (qv 1) (fun _ _ => rfl)) (qv 3) (nomark _)) (qw_and (qt_cmpR (oq_notIn_seqK K rfl) (qv 1) (qv 5) (by with_unfolding_all rfl)) (qw_and1 (qt_val (qe_fn T.keeps G_keeps hr (qa_cons (qv 4) (qa_cons (qv 0) qa_nil)))))))))) (fun _ _ _ _ => (qe_fn T.changed G_changed hr (qa_cons (qv 4) (qa_cons (qv 1) (qa_cons (qv 2) qa_nil)))))) qa_nil))))), ?_⟩
    refine' meet2 _ (fun (lv : V) (H1 : Hp) => ∃ la, lv = .ref la ∧ H1 la = some (.tup (hs.map V.int)) ∧ Same H H1) (fun rest => ?_) ?_
    rotate_left
    · refine ⟨_, rfl, _, rfl, ite2 (fun h2 => ?_) (fun h2 => ?_)⟩
      · refine ⟨(by show 0 ≤ sizeLine; decide), fun e H1 _ g1 S1 => ?_⟩
        generalize hlv : V.ref e = lv
        refine rest lv H1 ⟨e, hlv.symm, ?_, S1⟩
        rcases hh with ⟨_, e2⟩ | ⟨p, e2, _⟩
        · rw [e2]; exact g1
        · rw [e2] at h2; cases of_decide_eq_true h2
      · refine ⟨_, rfl, ?_⟩
        refine rest _ H ?_
        rcases hh with ⟨e2, _⟩ | ⟨p, e2, hp⟩
        · exact absurd (decide_eq_true e2) h2
        · exact ⟨p, e2, hp, fun _ _ z => z⟩
    · rintro _ H1 ⟨la, rfl, hla, S1⟩
      have hB1 : BookAt H1 rm ba xs bk := by walk_at "up"
      have hlen := hB.len
      refine ⟨_, rfl, ba, rfl, ⟨_, .of hB1.at'⟩, fun acc hacc S0 => ?_⟩
      refine setc_tup (xs := xs) hacc S0 (fun i σ' H' => (∃ v1 v2 v3 v4, σ' = [v1, v2, v3, v4, some (.ref a), some (.ref la)]) ∧ (∃ ks, SetV P w H' acc ks ∧ ∀ z, z ∈ ks ↔ z ∈ goals (bk.take i) st hs) ∧ Same H1 H') (fun H' z1 z2 => ⟨⟨_, _, _, _, rfl⟩, ⟨[], z1, fun z => by show z ∈ [] ↔ z ∈ []; exact Iff.rfl⟩, z2⟩) (fun _ _ _ _ ⟨_, _, S⟩ => .of (S _ _ hB1.at')) ?_ ?_
      · rintro i y σ' H' hy ⟨⟨v1, v2, v3, v4, rfl⟩, ⟨ks, hks, hm⟩, S'⟩
        obtain ⟨x, hx, his, hxo⟩ := (hB1.stay (Stay.same S')).get hy
        obtain ⟨wa, ga, gs, rfl, hwa, hga, hgl⟩ := wish_parts his
        have b1 := hxo.b1
        have ha' : H' a = some (.tup (st.map V.int)) := by walk_at "up"
        have hla' : H' la = some (.tup (hs.map V.int)) := by walk_at "up"
        have htk : bk.take (i + 1) = bk.take i ++ [x] := take_succ_get hx
        have hgo : ∀ z, z ∈ goals (bk.take (i + 1)) st hs ↔ (goalB st x = true ∧ x.b ∉ hs ∧ z = chg st x.b x.r) ∨ z ∈ goals (bk.take i) st hs := fun z => by
          rw [htk, goals_mem, goals_mem]
          constructor
          · rintro ⟨y, hy, h2⟩
            rcases List.mem_append.mp hy with hy | hy
            · exact .inr ⟨y, hy, h2⟩
            · rw [List.mem_singleton] at hy; subst hy; exact .inl h2
          · rintro (h2 | ⟨y, hy, h2⟩)
            · exact ⟨x, List.mem_append_right _ (by simp), h2⟩
            · exact ⟨y, List.mem_append_left _ hy, h2⟩
        have no : ¬ (goalB st x = true ∧ x.b ∉ hs) → (∃ w1 w2 w3 w4, [some (V.ref ga), some (.int x.b), some (.int x.r), some (.int x.w), some (V.ref a), some (.ref la)] = [w1, w2, w3, w4, some (.ref a), some (.ref la)]) ∧ (∃ ks, SetV P w H' acc ks ∧ ∀ z, z ∈ ks ↔ z ∈ goals (bk.take (i + 1)) st hs) ∧ Same H1 H' := fun hn => ⟨⟨_, _, _, _, rfl⟩, ⟨ks, hks, fun z => by
          rw [hm, hgo]
          exact ⟨.inr, fun z => z.elim (fun q => absurd ⟨q.1, q.2.1⟩ hn) id⟩⟩, S'⟩
        refine ⟨wa, _, rfl, .of hwa, rfl, _, _, rfl, _, _, rfl, _, _, rfl, _, _, rfl, rfl, ?_⟩
        refine ⟨_, rfl, _, rfl, a, _, _, _, rfl, rfl, .of ha', many_get hxo.b0 (by omega), _, rfl, rfl, _, rfl, ite2 (fun h2 => ?_) (fun h2 => ?_)⟩
        · have e2 : many st x.b = x.w := by simpa using h2
          refine ⟨_, rfl, _, rfl, la, _, rfl, .inr (.of hla'), rfl, flat_ints hs, _, rfl, ?_⟩
          rw [inV_ints]
          by_cases hbh : x.b ∈ hs
          · rw [List.contains_iff_mem.mpr hbh]
            exact iteF (iteF (no fun q => q.2 hbh))
          · have hc : hs.contains x.b = false := by
              cases e : hs.contains x.b with
              | false => rfl
              | true => exact absurd (List.contains_iff_mem.mp e) hbh
            rw [hc]
            refine iteT ⟨_, rfl, _, rfl, a, ga, st, gs, x.g, rfl, ha', hga, hgl, fun q hq => ?_, _, rfl, ?_⟩
            · have := hxo.giv.ok q hq
              exact ⟨this.1, by omega⟩
            have hg : goalB st x = keepsB st x.g := by unfold goalB; rw [e2]; simp
            refine ite2 (fun h3 => ?_) (fun h3 => ?_)
            · refine ⟨_, rfl, _, rfl, _, rfl, a, st, x.b, x.r, rfl, ha', by omega, hxo.b0, fun p H5 hp S5 => ?_⟩
              have hks5 : SetV P w H5 acc ks := by walk_at "up"
              refine ⟨p, _, ks, rfl, hp, hks5, ?_, fun o ks' hks' hm' hl' => ⟨⟨_, _, _, _, rfl⟩, ⟨ks', hks', fun z => ?_⟩, same_acc hacc (by walk_at "up")⟩⟩
              · obtain ⟨_, _, _, _, hnd⟩ := hks5
                have := goals_few (hs := hs) (bk := bk.take i) (fun y hy => hB.ok y (List.mem_of_mem_take hy)) h8 hbx hnd fun z hz => (hm z).mp hz
                omega
              · rw [hm', hgo, hm]
                constructor
                · rintro (h4 | h4)
                  · exact .inl ⟨by rw [hg]; exact h3, hbh, h4⟩
                  · exact .inr h4
                · rintro (h4 | h4)
                  · exact .inl h4.2.2
                  · exact .inr h4
            · exact no fun q => h3 (by rw [← hg]; exact q.1)
        · refine iteF (no fun q => h2 ?_)
          have := q.1
          unfold goalB at this
          rw [Bool.and_eq_true] at this
          simpa using this.1
      · rintro σ' H2 ⟨_, ⟨ks, hks, hm⟩, S2⟩
        rw [hlen, List.take_length] at hm
        have hgl := goals_len (hs := hs) hB.ok hl
        refine ⟨acc, ks, rm.length, rfl, hks, ?_, h1, fun z hz => hgl z ((hm z).mp hz), fun ys sts' hys hp hu => ?_⟩
        · obtain ⟨_, _, _, _, hnd⟩ := hks
          have := goals_few hB.ok h8 hbx hnd fun z hz => (hm z).mp hz
          omega
        · have e : sts' = betF bk st hs := sortU_of hgl hu fun z => (hp.mem_iff).trans (hm z)
          subst e
          intro l H3 hl3 g3 S3
          have S23 : Same H H2 := by walk_at "up"
          refine k l H3 ?_ ⟨ys, g3, by walk_at "up"⟩ (by walk_at "up")
          cases e : H l with
          | none => rfl
          | some o => rw [S23 _ _ e] at hl3; cases hl3
theorem ok_local_pairs (T : Txt K mg t) : FnOk P w K mg base CX0 2 t.f_local_pairs t.d_local_pairs ["room", "book", "box", "standing"] spLocal := by
  have G_keeps : FnOk P w K mg base CX0 1 t.f_keeps t.d_keeps ["standing", "given"] spKeeps := ok_keeps T
  refine T.local_pairs.F.okQ sc_local_pairs (fun vs H Q E h => ?_) (fun cdv A outer s H vs Q E hr h => ?_)
  · obtain ⟨v0, ba, a, box, rm, xs, bk, st, rfl, _⟩ := h
    rfl
  · obtain ⟨v0, ba, a, box, rm, xs, bk, st, rfl, hB, hbx, ha, hl, k⟩ := h
    have hlen := hB.len
    refine ⟨_, (qss_one (qs_ret (qe_callB (cq_sortS rfl) (by rfl) T.b_sorted PyProof.Rows.boot_sorted (qa_cons (qe_setcomp (hu_of hr) (N := ["given", "at", "better", "worse", "box", "standing"]) (cix := [none, none, none, none, some 2, some 3]) rfl ⟨rfl, by decide +kernel, rfl⟩ (qi_tup (qv 1)) (fun _ _ _ _ => (qg_tupK K rfl (n := 4) rfl (qgs_cons (qg_name (i := 0) (show (["given", "at", "better", "worse", "box", "standing"] : List Str).Nodup by decide +kernel) rfl (Or.inl rfl)) (qgs_cons (qg_name (i := 1) (show (["given", "at", "better", "worse", "box", "standing"] : List Str).Nodup by decide +kernel) rfl (Or.inl rfl)) (qgs_cons (qg_name (i := 2) (show (["given", "at", "better", "worse", "box", "standing"] : List Str).Nodup by decide +kernel) rfl (Or.inl rfl)) (qgs_cons (qg_name (i := 3) (show (["given", "at", "better", "worse", "box", "standing"] : List Str).Nodup by decide +kernel) rfl (Or.inl rfl)) qgs_nil)))))) (fun _ _ _ _ => (qts_one (QW.pt (qw_and (qt_cmpR oq_eq (qv 1) (qv 4) (nomark _)) (qw_and1 (qt_val (qe_fn T.keeps G_keeps hr (qa_cons (qv 5) (qa_cons (qv 0) qa_nil))))))))) (fun _ _ _ _ => (qe_tupN (qa_cons (qv 3) (qa_cons (qv 2) qa_nil))))) qa_nil)))), ?_⟩
    refine ⟨_, rfl, ba, rfl, ⟨_, .of hB.at'⟩, fun acc hacc S0 => ?_⟩
    refine setc_tup (xs := xs) hacc S0 (fun i σ' H' => (∃ v1 v2 v3 v4, σ' = [v1, v2, v3, v4, some (.int box), some (.ref a)]) ∧ (∃ ks, SetV P w H' acc ks ∧ ∀ z, z ∈ ks ↔ z ∈ pairsL (bk.take i) box st) ∧ Same H H') (fun H' z1 z2 => ⟨⟨_, _, _, _, rfl⟩, ⟨[], z1, fun z => by show z ∈ [] ↔ z ∈ []; exact Iff.rfl⟩, z2⟩) (fun _ _ _ _ ⟨_, _, S⟩ => .of (S _ _ hB.at')) ?_ ?_
    · rintro i y σ' H' hy ⟨⟨v1, v2, v3, v4, rfl⟩, ⟨ks, hks, hm⟩, S'⟩
      obtain ⟨x, hx, his, hxo⟩ := (hB.stay (Stay.same S')).get hy
      obtain ⟨wa, ga, gs, rfl, hwa, hga, hgl⟩ := wish_parts his
      have ha' : H' a = some (.tup (st.map V.int)) := by walk_at "up"
      have htk : bk.take (i + 1) = bk.take i ++ [x] := take_succ_get hx
      have hgo : ∀ z, z ∈ pairsL (bk.take (i + 1)) box st ↔ (x.b = box ∧ keepsB st x.g = true ∧ z = [x.w, x.r]) ∨ z ∈ pairsL (bk.take i) box st := fun z => by
        rw [htk, pairsL_mem, pairsL_mem]
        constructor
        · rintro ⟨y, hy, h2⟩
          rcases List.mem_append.mp hy with hy | hy
          · exact .inr ⟨y, hy, h2⟩
          · rw [List.mem_singleton] at hy; subst hy; exact .inl h2
        · rintro (h2 | ⟨y, hy, h2⟩)
          · exact ⟨x, List.mem_append_right _ (by simp), h2⟩
          · exact ⟨y, List.mem_append_left _ hy, h2⟩
      have no : ¬ (x.b = box ∧ keepsB st x.g = true) → (∃ w1 w2 w3 w4, [some (V.ref ga), some (.int x.b), some (.int x.r), some (.int x.w), some (V.int box), some (.ref a)] = [w1, w2, w3, w4, some (.int box), some (.ref a)]) ∧ (∃ ks, SetV P w H' acc ks ∧ ∀ z, z ∈ ks ↔ z ∈ pairsL (bk.take (i + 1)) box st) ∧ Same H H' := fun hn => ⟨⟨_, _, _, _, rfl⟩, ⟨ks, hks, fun z => by
        rw [hm, hgo]
        exact ⟨.inr, fun z => z.elim (fun q => absurd ⟨q.1, q.2.1⟩ hn) id⟩⟩, S'⟩
      refine ⟨wa, _, rfl, .of hwa, rfl, _, _, rfl, _, _, rfl, _, _, rfl, _, _, rfl, rfl, ?_⟩
      refine ⟨_, rfl, _, rfl, rfl, _, rfl, ite2 (fun h2 => ?_) (fun h2 => ?_)⟩
      · have e2 : x.b = box := by simpa using h2
        refine ⟨_, rfl, _, rfl, a, ga, st, gs, x.g, rfl, ha', hga, hgl, fun q hq => ?_, _, rfl, ?_⟩
        · have := hxo.giv.ok q hq
          exact ⟨this.1, by omega⟩
        refine ite2 (fun h3 => ?_) (fun h3 => ?_)
        · refine ⟨_, rfl, _, rfl, (by show 2 ≤ sizeLine; decide), fun p H5 _ hp S5 => ?_⟩
          have hks5 : SetV P w H5 acc ks := by walk_at "up"
          refine ⟨p, [x.w, x.r], ks, rfl, hp, hks5, ?_, fun o ks' hks' hm' hl' => ⟨⟨_, _, _, _, rfl⟩, ⟨ks', hks', fun z => ?_⟩, same_acc hacc (by walk_at "up")⟩⟩
          · obtain ⟨_, _, _, _, hnd⟩ := hks5
            have := pairsL_few (bk := bk.take i) (fun y hy => hB.ok y (List.mem_of_mem_take hy)) hbx hnd fun z hz => (hm z).mp hz
            omega
          · rw [hm', hgo, hm]
            constructor
            · rintro (h4 | h4)
              · exact .inl ⟨e2, h3, h4⟩
              · exact .inr h4
            · rintro (h4 | h4)
              · exact .inl h4.2.2
              · exact .inr h4
        · exact no fun q => h3 q.2
      · exact iteF (no fun q => h2 (by rw [q.1]; simp))
    · rintro σ' H2 ⟨_, ⟨ks, hks, hm⟩, S2⟩
      rw [hlen, List.take_length] at hm
      refine ⟨acc, ks, 2, rfl, hks, ?_, by decide, fun z hz => pairsL_len z ((hm z).mp hz), fun ys sts' hys hp hu => ?_⟩
      · obtain ⟨_, _, _, _, hnd⟩ := hks
        have := pairsL_few hB.ok hbx hnd fun z hz => (hm z).mp hz
        omega
      · have e : sts' = lpF bk box st := sortU_of pairsL_len hu fun z => (hp.mem_iff).trans (hm z)
        subst e
        intro l H3 hl3 g3 S3
        refine k l H3 ?_ ⟨ys, g3, by walk_at "up"⟩ (by walk_at "up")
        cases e : H l with
        | none => rfl
        | some o => rw [S2 _ _ e] at hl3; cases hl3
theorem ok_is_wish (T : Txt K mg t) : FnOk P w K mg base CX0 5 t.f_is_wish t.d_is_wish ["room", "thing"] spWish := by
  have G_is_given : FnOk P w K mg base CX0 4 t.f_is_given t.d_is_given ["room", "thing"] spGiven := ok_is_given T
  have G_is_box : FnOk P w K mg base CX0 2 t.f_is_box t.d_is_box ["room", "thing"] spBox := ok_is_box T
  have G_is_worth : FnOk P w K mg base CX0 2 t.f_is_worth t.d_is_worth ["room", "box", "thing"] spWorth := ok_is_worth T
  refine T.is_wish.F.okQ sc_is_wish (fun vs H Q E h => ?_) (fun cdv A outer s H vs Q E hr h => ?_)
  · obtain ⟨ra, rm, v, d, rfl, _⟩ := h
    rfl
  · obtain ⟨ra, rm, v, d, rfl, hR, hd, k⟩ := h
    refine ⟨_, (qss_cons (qs_if (QW.pt (qw_or (qt_not (qt_val (qe_callB cq_isinst (by rfl) T.b_isinstance PyProof.Rows.boot_isinstance (qa_cons (qv 1) (qa_cons (qe_bltn (v := .ty "tuple") rfl T.b_tuple PyProof.Rows.boot_tuple rfl) qa_nil))))) (qw_or1 (qt_cmpR oq_ne (qe_callB cq_len (by rfl) T.b_len PySem.boot_len (qa_cons (qv 1) qa_nil)) qe_int (nomark _))))) (qss_one (qs_ret qe_bl)) qss_nil)
      (qss_cons (qs_asg (qv 1) (qg_tup rfl (qgs_cons (qg_name (i := 2) sc_is_wish.nd rfl (Or.inl rfl)) (qgs_cons (qg_name (i := 3) sc_is_wish.nd rfl (Or.inl rfl)) (qgs_cons (qg_name (i := 4) sc_is_wish.nd rfl (Or.inl rfl)) (qgs_cons (qg_name (i := 5) sc_is_wish.nd rfl (Or.inl rfl)) qgs_nil))))))
      (qss_cons (qs_if (QW.pt (qw_or (qt_not (qt_val (qe_fn T.is_given G_is_given hr (qa_cons (qv 0) (qa_cons (qv 2) qa_nil))))) (qw_or1 (qt_not (qt_val (qe_fn T.is_box G_is_box hr (qa_cons (qv 0) (qa_cons (qv 3) qa_nil)))))))) (qss_one (qs_ret qe_bl)) qss_nil)
      (qss_cons (qs_if (qt_cmpR oq_in_seq (qv 3) (qe_compG (N := ["choice"]) (cix := [none]) rfl ⟨rfl, by decide +kernel, rfl⟩ (qi_tup (qv 2)) (fun _ _ _ _ => (qg_name (i := 0) (show (["choice"] : List Str).Nodup by decide +kernel) rfl (Or.inl rfl))) (fun _ _ _ _ => qts_nil) (fun _ _ _ _ => (qe_ix (xq_tupK K rfl) (qv 0) qe_int (fun _ _ => rfl)))) (by with_unfolding_all rfl)) (qss_one (qs_ret qe_bl)) qss_nil)
      (qss_one (qs_ret (qe_and (qe_fn T.is_worth G_is_worth hr (qa_cons (qv 0) (qa_cons (qv 3) (qa_cons (qv 4) qa_nil)))) (qe_and (qe_fn T.is_worth G_is_worth hr (qa_cons (qv 0) (qa_cons (qv 3) (qa_cons (qv 5) qa_nil)))) (qe_one (qe_cmpR oq_ne (qv 4) (qv 5) (nomark _))))))))))), ?_⟩
    refine ⟨_, rfl, v, "tuple", _, _, rfl, hd.ty, kit_tup _ d, _, rfl, ?_⟩
    cases d with
    | tup l =>
      refine iteF ?_
      obtain ⟨a, xs, rfl, ha, hl⟩ := hd
      have hlen := hl.length
      refine ⟨_, rfl, _, _, rfl, .inr ⟨xs, .of ha, rfl⟩, rfl, _, rfl, ite2 (fun h1 => ?_) (fun h1 => ?_)⟩
      · have h1' : ¬ xs.length = 4 := by
          have h2 := h1
          simp at h2
          omega
        have e : wishB rm (.tup l) = false := by
          match l, hlen with
          | [], _ => rfl
          | [_], _ => rfl
          | [_, _], _ => rfl
          | [_, _, _], _ => rfl
          | [_, _, _, _], h => exact absurd h h1'
          | _ :: _ :: _ :: _ :: _ :: _, _ => rfl
        rw [e] at k
        exact k _ fun _ _ z => z
      · have h1' : xs.length = 4 := by
          have h2 := h1
          simp at h2
          omega
        match l, hl, hlen, k with
        | [], _, hlen, _ => exact absurd (hlen.symm.trans h1') (by decide)
        | [_], _, hlen, _ => exact absurd (hlen.symm.trans h1') (by simp)
        | [_, _], _, hlen, _ => exact absurd (hlen.symm.trans h1') (by simp)
        | [_, _, _], _, hlen, _ => exact absurd (hlen.symm.trans h1') (by simp)
        | _ :: _ :: _ :: _ :: _ :: _, _, hlen, _ => exact absurd (hlen.symm.trans h1') (by simp)
        | [g, b, r, wd], hl, _, k =>
          obtain ⟨x0, r0, rfl, hg, x1, r1, rfl, hb, x2, r2, rfl, hrd, x3, r3, rfl, hwd, hr3⟩ := hl
          have hr3' : r3 = [] := hr3
          subst hr3'
          have no : (givenB rm g && boxOk rm b && !(heads g).contains b.val && (worthOk rm b.val r && worthOk rm b.val wd && !(decide (r.val = wd.val)))) = false → ∀ H', Same H H' → Q (.bl false) H' := fun e H' S => by
            have := k H' S
            rw [show wishB rm (.tup [g, b, r, wd]) = _ from e] at this
            exact this
          refine ⟨_, rfl, a, _, rfl, .of ha, rfl, _, _, rfl, _, _, rfl, _, _, rfl, _, _, rfl, rfl, ?_⟩
          refine ⟨_, rfl, _, rfl, ra, rm, x0, g, rfl, hR, hg, _, rfl, ite2 (fun h2 => ?_) (fun h2 => ?_)⟩
          · refine iteT (no ?_ _ fun _ _ z => z)
            have e1 : givenB rm g = false := by simpa using h2
            rw [e1]
            simp
          · have e1 : givenB rm g = true := by simpa using h2
            refine ⟨_, rfl, _, rfl, ra, rm, x1, b, rfl, hR, hb, _, rfl, ite2 (fun h3 => ?_) (fun h3 => ?_)⟩
            · refine no ?_ _ fun _ _ z => z
              have e2 : boxOk rm b = false := by simpa using h3
              rw [e2]
              simp
            · have e2 : boxOk rm b = true := by simpa using h3
              obtain ⟨g', rfl, hG⟩ := given_is e1
              obtain ⟨ga, gs, rfl, hga, hgl⟩ := hg
              have hgs : gs.length = g'.length := by have := hgl.length; rwa [List.length_map] at this
              cases b with
              | int bi =>
                cases hb
                have e2' := e2
                simp only [boxOk, Bool.and_eq_true, decide_eq_true_eq] at e2'
                refine ⟨_, rfl, _, rfl, ga, rfl, ⟨_, .of hga⟩, fun acc hacc => ?_⟩
                have g600 : g'.length ≤ 100 := giv_few hG hR.few
                refine comp_tup (xs := gs) hacc (fun i σ' H' => (∃ v, σ' = [v]) ∧ H' acc = some (.lst (((g'.take i).map (·.1)).map V.int)) ∧ Same H H') (fun H' z1 z2 => ⟨⟨_, rfl⟩, z1, z2⟩) (fun _ _ _ _ ⟨_, _, S⟩ => .of (S _ _ hga)) ?_ ?_
                · rintro i x σ' H' hx ⟨⟨v, rfl⟩, hac, S'⟩
                  obtain ⟨d, hd, his⟩ := hgl.get hx
                  rw [List.getElem?_map] at hd
                  obtain ⟨q, hq, rfl⟩ := Option.map_eq_some_iff.mp hd
                  obtain ⟨ca, ys, rfl, hca, y0, z0, rfl, hy0, hy1⟩ := his
                  cases hy0
                  refine compNo ⟨_, rfl, ca, _, _, _, rfl, rfl, .of (S' _ _ hca), atI_nat (j := 0) rfl, _, hac, ?_, ⟨_, rfl⟩, ?_, same_acc hacc S'⟩
                  · rw [List.length_map, List.length_map]
                    exact small1000 (by rw [List.length_take]; omega)
                  · rw [upd_same, take_succ_get hq, List.map_append, List.map_append]
                    rfl
                · rintro σ' H' ⟨⟨v, rfl⟩, hac, S'⟩
                  rw [hgs, List.take_length] at hac
                  refine ⟨acc, _, rfl, .inl (SqL.of hac), rfl, flat_ints _, _, rfl, ?_⟩
                  rw [if_neg Bool.false_ne_true, inV_ints]
                  refine ite2 (fun h4 => ?_) (fun h4 => ?_)
                  · refine no ?_ _ S'
                    rw [heads_pairs]
                    rw [show (g'.map (·.1)).contains (Dt.val (.int bi)) = true from h4]
                    simp
                  · have hR' := hR.stay (Stay.same S')
                    have e3 : (heads (.tup (g'.map pairD))).contains (Dt.val (.int bi)) = false := by
                      rw [heads_pairs]
                      exact Bool.eq_false_iff.mpr h4
                    refine ⟨_, rfl, _, rfl, _, rfl, ra, rm, bi, x2, r, rfl, hR', e2'.1, e2'.2, hrd.stay (Stay.same S'), _, rfl, ite2 (fun h5 => ?_) (fun h5 => ?_)⟩
                    · refine ⟨_, rfl, _, rfl, _, rfl, ra, rm, bi, x3, wd, rfl, hR', e2'.1, e2'.2, hwd.stay (Stay.same S'), _, rfl, ite2 (fun h6 => ?_) (fun h6 => ?_)⟩
                      · cases r with
                        | int ri =>
                          cases wd with
                          | int wi =>
                            cases hrd
                            cases hwd
                            refine ⟨_, rfl, _, rfl, rfl, ?_⟩
                            have := k _ S'
                            rw [show wishB rm (.tup [.tup (g'.map pairD), .int bi, .int ri, .int wi]) = (givenB rm (.tup (g'.map pairD)) && boxOk rm (.int bi) && !(heads (.tup (g'.map pairD))).contains (Dt.val (.int bi)) && (worthOk rm bi (.int ri) && worthOk rm bi (.int wi) && !(decide (ri = wi)))) from rfl, e1, e2, e3, h5, h6] at this
                            have e4 : decide (V.int ri = V.int wi) = decide (ri = wi) := by
                              rw [dec_int]
                              rfl
                            rw [e4]
                            exact this
                          | _ => exact absurd h6 Bool.false_ne_true
                        | _ => exact absurd h5 Bool.false_ne_true
                      · refine no ?_ _ S'
                        rw [show worthOk rm (Dt.val (.int bi)) wd = false from Bool.eq_false_iff.mpr h6]
                        simp
                    · refine no ?_ _ S'
                      rw [show worthOk rm (Dt.val (.int bi)) r = false from Bool.eq_false_iff.mpr h5]
                      simp
              | _ => exact absurd e2 Bool.false_ne_true
    | _ => exact iteT (iteT (k _ fun _ _ z => z))
theorem ok_is_book (T : Txt K mg t) : FnOk P w K mg base CX0 6 t.f_is_book t.d_is_book ["room", "thing"] spBook := by
  have G_is_wish : FnOk P w K mg base CX0 5 t.f_is_wish t.d_is_wish ["room", "thing"] spWish := ok_is_wish T
  refine T.is_book.F.okQ sc_is_book (fun vs H Q E h => ?_) (fun cdv A outer s H vs Q E hr h => ?_)
  · obtain ⟨ra, rm, v, d, rfl, _⟩ := h
    rfl
  · obtain ⟨ra, rm, v, d, rfl, hR, hd, k⟩ := h
    refine ⟨_, (qss_cons (qs_if (QW.pt (qw_or (qt_not (qt_val (qe_callB cq_isinst (by rfl) T.b_isinstance PyProof.Rows.boot_isinstance (qa_cons (qv 1) (qa_cons (qe_bltn (v := .ty "tuple") rfl T.b_tuple PyProof.Rows.boot_tuple rfl) qa_nil))))) (qw_or1 (qt_cmpR oq_gt (qe_callB cq_len (by rfl) T.b_len PySem.boot_len (qa_cons (qv 1) qa_nil)) (qe_globE (v := .int 600) rfl T.c_MOST_WISHES) (nomark _))))) (qss_one (qs_ret qe_bl)) qss_nil)
      (qss_cons (qs_for PassesOwn.never rfl (qi_tup (qv 1)) (qg_name (i := 2) sc_is_book.nd rfl (Or.inl rfl)) (qss_one (qs_if (qt_not (qt_val (qe_fn T.is_wish G_is_wish hr (qa_cons (qv 0) (qa_cons (qv 2) qa_nil))))) (qss_one (qs_ret qe_bl)) qss_nil)))
      (qss_one (qs_ret qe_bl)))), ?_⟩
    refine ⟨_, rfl, v, "tuple", _, _, rfl, hd.ty, kit_tup _ d, _, rfl, ?_⟩
    cases d with
    | tup l =>
      refine iteF ?_
      obtain ⟨a, xs, rfl, ha, hl⟩ := hd
      have hlen := hl.length
      refine ⟨_, rfl, _, _, rfl, .inr ⟨xs, .of ha, rfl⟩, _, _, rfl, rfl, _, rfl, ite2 (fun h1 => ?_) (fun h1 => ?_)⟩
      · have h1' := of_decide_eq_true h1
        have e : bookB rm (.tup l) = false := bookB_long (by omega)
        rw [e] at k
        exact k _ fun _ _ z => z
      · have h1' : ¬ (600 < (xs.length : Int)) := fun z => h1 (decide_eq_true z)
        refine ⟨_, rfl, a, rfl, ⟨xs, .of ha⟩, for_tup (K := K) (xs := xs) (fun i σ H2 => Same H H2 ∧ (∃ z, σ = [some (.ref ra), some (.ref a), z]) ∧ (l.take i).all (wishB rm) = true) ⟨fun _ _ z => z, ⟨none, rfl⟩, rfl⟩ (fun i σ H2 _ ⟨S, _⟩ => .of (S _ _ ha)) ?_ ?_⟩
        · rintro i y σ H2 hi ⟨S2, ⟨z, rfl⟩, hg⟩
          obtain ⟨d', hd', his⟩ := hl.get hi
          refine ⟨_, rfl, _, rfl, ra, rm, y, d', rfl, hR.stay (Stay.same S2), his.stay (Stay.same S2), fun H3 S3 => ⟨_, rfl, ?_⟩⟩
          have S03 : Same H H3 := fun b o e => S3 _ _ (S2 _ _ e)
          refine ite2 (fun h2 => ?_) (fun h2 => ?_)
          · have e1 : wishB rm d' = false := by simpa using h2
            have e : bookB rm (.tup l) = false := bookB_bad (List.mem_of_getElem? hd') e1
            rw [e] at k
            exact k _ S03
          · have e1 : wishB rm d' = true := by simpa using h2
            refine ⟨S03, ⟨_, rfl⟩, ?_⟩
            rw [take_succ_get hd', List.all_append, hg]
            simp [e1]
        · rintro σ H2 ⟨S2, ⟨z, rfl⟩, hg⟩
          rw [hlen, List.take_length] at hg
          have e : bookB rm (.tup l) = true := by
            show (decide (l.length ≤ 600) && l.all (wishB rm)) = true
            rw [hg, decide_eq_true (by omega)]
            rfl
          rw [e] at k
          exact k _ S2
    | _ => exact iteT (iteT (k _ fun _ _ z => z))
theorem ok_turned (T : Txt K mg t) : FnOk P w K mg base CX0 1 t.f_turned t.d_turned ["book"] spTurned := by
  refine T.turned.F.okQ sc_turned (fun vs H Q E h => ?_) (fun cdv A outer s H vs Q E hr h => ?_)
  · obtain ⟨ba, rm, xs, bk, rfl, _⟩ := h
    rfl
  · obtain ⟨ba, rm, xs, bk, rfl, hB, hlen, k⟩ := h
    refine ⟨_, (qss_one (qs_ret (qe_callTy cq_tuple_ofN (by rfl) T.b_tuple PyProof.Rows.boot_tuple (qa_cons (qe_compG (N := ["given", "box", "better", "worse"]) (cix := [none, none, none, none]) rfl ⟨rfl, by decide +kernel, rfl⟩ (qi_tup (qv 0)) (fun _ _ _ _ => (qg_tupK K rfl (n := 4) rfl (qgs_cons (qg_name (i := 0) (show (["given", "box", "better", "worse"] : List Str).Nodup by decide +kernel) rfl (Or.inl rfl)) (qgs_cons (qg_name (i := 1) (show (["given", "box", "better", "worse"] : List Str).Nodup by decide +kernel) rfl (Or.inl rfl)) (qgs_cons (qg_name (i := 2) (show (["given", "box", "better", "worse"] : List Str).Nodup by decide +kernel) rfl (Or.inl rfl)) (qgs_cons (qg_name (i := 3) (show (["given", "box", "better", "worse"] : List Str).Nodup by decide +kernel) rfl (Or.inl rfl)) qgs_nil)))))) (fun _ _ _ _ => qts_nil) (fun _ _ _ _ => (qe_tupN (qa_cons (qv 0) (qa_cons (qv 1) (qa_cons (qv 3) (qa_cons (qv 2) qa_nil))))))) qa_nil)))), ?_⟩
    refine ⟨_, rfl, ba, rfl, ⟨_, .of hB.at'⟩, fun acc hacc => ?_⟩
    refine comp_tup (xs := xs) hacc (fun i σ' H' => (∃ v1 v2 v3 v4, σ' = [v1, v2, v3, v4]) ∧ (∃ ys, H' acc = some (.lst ys) ∧ IsL H' (((bk.take i).map turnW).map wishD) ys) ∧ Same H H') (fun H' z1 z2 => ⟨⟨_, _, _, _, rfl⟩, ⟨[], z1, rfl⟩, z2⟩) (fun _ _ _ _ ⟨_, _, S⟩ => .of (S _ _ hB.at')) ?_ ?_
    · rintro i y σ' H' hx' ⟨⟨v1, v2, v3, v4, rfl⟩, ⟨ys, hac, hys⟩, S'⟩
      obtain ⟨x, hx, his, hxo⟩ := (hB.stay (Stay.same S')).get hx'
      obtain ⟨wa, ga, gs, rfl, hwa, hga, hgl⟩ := wish_parts his
      refine compNo ⟨wa, _, rfl, .of hwa, rfl, _, _, rfl, _, _, rfl, _, _, rfl, _, _, rfl, rfl, ?_⟩
      refine ⟨_, rfl, _, rfl, _, rfl, _, rfl, (by show 4 ≤ sizeLine; decide), fun t1 H1 _ g1 S1 => ?_⟩
      have hi := (List.getElem?_eq_some_iff.mp hx').1
      have hyl := hys.length
      rw [List.length_map, List.length_map, List.length_take] at hyl
      have hxl := hB.len
      refine ⟨ys, S1 _ _ hac, ?_, ⟨_, _, _, _, rfl⟩, ⟨_, upd_same, ?_⟩, same_acc hacc fun b o e => S1 _ _ (S' _ _ e)⟩
      · exact Nat.lt_of_le_of_lt (show ys.length ≤ 100000 by omega) (by decide)
      · refine IsL.stayT (StayT.app (S1 _ _ hac)) (noL_wishes _) ?_
        rw [take_succ_get hx, List.map_append, List.map_append]
        exact (hys.stay (Stay.same S1)).append (IsL.one (wish_mk (x := turnW x) g1 (S1 _ _ hga) (hgl.stay (Stay.same S1))))
    · rintro σ' H' ⟨_, ⟨ys, hac, hys⟩, S'⟩
      rw [hB.len, List.take_length] at hys
      refine ⟨acc, ys, rfl, .inl ⟨.of hac, fun l H2 _ g2 S2 => ?_⟩⟩
      refine k l ys H2 ⟨g2, hys.stay (Stay.same S2), fun x hx => ?_⟩ fun b o e => S2 _ _ (S' _ _ e)
      obtain ⟨z, hz, rfl⟩ := List.mem_map.mp hx
      exact (hB.ok z hz).turn
theorem ok__law_pen (T : Txt K mg t) : FnOk P w K mg base CX0 1 t.f__law_pen t.d__law_pen ["_law_script"] (spPen K) := by
  refine T._law_pen.F.okQ sc__law_pen (fun vs H Q E h => ?_) (fun cdv A outer s H vs Q E hr h => ?_)
  · obtain ⟨a, ns, rfl, _⟩ := h
    rfl
  · obtain ⟨a, ns, rfl, hS, hl, k⟩ := h
    refine ⟨_, (qss_one (qs_ret (qe_disp (qps_cons qe_str (qe_slice sq_list (qv 0) qo_none (qo_some qe_int)) (qps_cons qe_str qe_int (qps_cons qe_str qe_int qps_nil))) rfl rfl (by simp) (by decide)))), ?_⟩
    intro p hp
    refine ⟨_, rfl, _, rfl, a, _, rfl, (Same.upd hp).seq hS, fun c hc => ?_⟩
    have npc : p ≠ c := fun e => by subst e; rw [upd_same] at hc; cases hc
    have hc0 : H c = none := by rw [upd_ne (Ne.symm npc)] at hc; exact hc
    refine ⟨by rw [upd_ne npc, upd_same], penK c 0 0, rfl, (by show 3 ≤ 15; decide), ?_⟩
    rw [pen_mk]
    have ecut : cutV (ns.map V.int) none (some 63) = ns.map V.int := by
      unfold cutV
      rw [HT.sIx_none]
      have e63 : HT.sIx (ns.map V.int).length (ns.map V.int).length (some 63) = (ns.map V.int).length := by
        have := HT.sIx_nat (ns.map V.int).length (ns.map V.int).length 63
        rw [List.length_map] at this ⊢
        rw [Nat.min_eq_right hl] at this
        exact this
      rw [e63, List.drop_zero, Nat.sub_zero, List.take_length]
    refine k p c _ ⟨⟨0, 0, upd_same, by omega, by omega, by omega⟩, ?_, hl⟩ ?_
    · rw [upd_ne (Ne.symm npc), upd_same]
      exact congrArg (fun z => some (HO.lst z)) ecut
    · intro b o e
      rw [upd_ne (ne_of_none e hp), upd_ne (ne_of_none e hc0), upd_ne (ne_of_none e hp)]
      exact e
theorem ok__law_draw (T : Txt K mg t) : FnOk P w K mg base CX0 1 t.f__law_draw t.d__law_draw ["_law_pen_here", "_law_many"] spDraw := by
  refine T._law_draw.F.okQ sc__law_draw (fun vs H Q E h => ?_) (fun cdv A outer s H vs Q E hr h => ?_)
  · obtain ⟨p, c, ns, n, many, rfl, _⟩ := h
    rfl
  · obtain ⟨p, c, ns, n, many, rfl, hP, hn, h1, h2, k⟩ := h
    have hu := hu_of hr
    obtain ⟨⟨a, l, hp, ha0, han, hl0⟩, hc, hlen⟩ := id hP
    have npc : c ≠ p := ne_of hc hp (by intro z; cases z)
    refine ⟨_, (qss_cons (qs_if (qt_cmpR oq_gt (qe_dget hu (qv 0) qe_str (fun _ _ => rfl)) qe_int (nomark _)) (qss_cons (qs_set (i := 2) sc__law_draw.nd rfl (Or.inl rfl) (qe_op oq_mod (qe_dget hu (qv 0) qe_str (fun _ _ => rfl)) (qv 1)))
      (qss_cons (qs_dput hu (qv 0) qe_str (qe_op oq_fdiv (qe_dget hu (qv 0) qe_str (fun _ _ => rfl)) (qv 1)) rfl)
      (qss_one (qs_ret (qv 2))))) qss_nil)
      (qss_cons (qs_set (i := 3) sc__law_draw.nd rfl (Or.inl rfl) (qe_dget hu (qv 0) qe_str (fun _ _ => rfl)))
      (qss_cons (qs_dput hu (qv 0) qe_str (qe_op oq_add (qv 3) qe_int) rfl)
      (qss_cons (qs_set (i := 4) sc__law_draw.nd rfl (Or.inl rfl) (qe_op oq_add (qe_op oq_mul qe_int (qv 3)) qe_int))
      (qss_cons (qs_if (qt_cmpR oq_gt (qe_callB cq_len (by rfl) T.b_len PySem.boot_len (qa_cons (qe_dget hu (qv 0) qe_str (fun _ _ => rfl)) qa_nil)) qe_int (nomark _)) (qss_one (qs_set (i := 4) sc__law_draw.nd rfl (Or.inl rfl) (qe_ix xq_list (qe_dget hu (qv 0) qe_str (fun _ _ => rfl)) (qe_op oq_mod (qv 3) (qe_callB cq_len (by rfl) T.b_len PySem.boot_len (qa_cons (qe_dget hu (qv 0) qe_str (fun _ _ => rfl)) qa_nil))) (fun _ _ => rfl)))) qss_nil)
      (qss_cons (qs_if (QW.pt (qw_and (qt_cmpR oq_lt (qv 3) (qe_callB cq_len (by rfl) T.b_len PySem.boot_len (qa_cons (qe_dget hu (qv 0) qe_str (fun _ _ => rfl)) qa_nil)) (nomark _)) (qw_and1 (qt_cmpR oq_ge (qe_callB cq_abs (by rfl) T.b_abs PyProof.Rows.boot_abs (qa_cons (qv 4) qa_nil)) (qe_op oq_pow qe_int qe_int) (nomark _))))) (qss_cons (qs_dput hu (qv 0) qe_str (qe_op oq_fdiv (qe_callB cq_abs (by rfl) T.b_abs PyProof.Rows.boot_abs (qa_cons (qv 4) qa_nil)) (qv 1)) rfl)
      (qss_one (qs_ret (qe_op oq_mod (qe_callB cq_abs (by rfl) T.b_abs PyProof.Rows.boot_abs (qa_cons (qv 4) qa_nil)) (qv 1))))) qss_nil)
      (qss_cons (qs_set (i := 5) sc__law_draw.nd rfl (Or.inl rfl) (qe_ix xq_tup (qe_tup (qa_cons qe_int (qa_cons qe_int (qa_cons qe_int (qa_cons qe_int (qa_cons qe_int (qa_cons qe_int (qa_cons qe_int qa_nil)))))))) (qe_op oq_mod (qv 3) qe_int) (fun _ _ => rfl)))
      (qss_cons (qs_set (i := 6) sc__law_draw.nd rfl (Or.inl rfl) (qe_op oq_mod (qe_op oq_pow (qe_op oq_add (qe_op oq_add (qe_op oq_add (qe_op oq_mod (qv 4) qe_int) (qe_op oq_mul (qe_op oq_mul qe_int (qv 3)) (qv 3))) (qe_op oq_mul qe_int (qv 3))) qe_int) qe_int) (qv 5)))
      (qss_cons (qs_set (i := 6) sc__law_draw.nd rfl (Or.inl rfl) (qe_op oq_mod (qe_op oq_pow (qe_op oq_add (qe_op oq_add (qv 6) (qe_op oq_mul qe_int (qv 3))) qe_int) qe_int) qe_int))
      (qss_one (qs_ret (qe_op oq_mod (qe_op oq_fdiv (qe_op oq_mod (qe_op oq_mul (qv 6) qe_int) qe_int) qe_int) (qv 1))))))))))))), ?_⟩
    refine ⟨_, rfl, p, _, rfl, pen_gl hp, _, _, rfl, rfl, _, rfl, ite2 (fun hl => ?_) (fun hl => ?_)⟩
    · have hl' : 0 < l := of_decide_eq_true hl
      refine ⟨_, rfl, p, _, rfl, pen_gl hp, _, rfl, _, _, rfl, rfl, (by show (0 : Int) < many; omega), ?_⟩
      refine ⟨_, rfl, p, _, rfl, pen_gl hp, _, rfl, _, _, rfl, rfl, ⟨by show (0 : Int) < many; omega, h2⟩, _, rfl, p, _, rfl, pen_sl hp _, ?_⟩
      refine ⟨_, rfl, k _ _ (Int.emod_nonneg _ (by omega)) (Int.emod_lt_of_pos _ (by omega)) ⟨⟨a, _, upd_same, ha0, by omega, Int.ediv_nonneg hl0 (by omega)⟩, by rw [upd_ne npc]; exact hc, hlen⟩ (stay_pen hp)⟩
    · refine ⟨_, rfl, p, _, rfl, pen_ga hp, ?_⟩
      refine ⟨_, rfl, _, _, rfl, rfl, _, rfl, p, _, rfl, pen_sa hp _, ?_⟩
      have hp1 : upd H p (.dK (penK c (a + 1) l)) p = some (.dK (penK c (a + 1) l)) := upd_same
      have hc1 : upd H p (.dK (penK c (a + 1) l)) c = some (.lst (ns.map V.int)) := by rw [upd_ne npc]; exact hc
      generalize hH1 : upd H p (.dK (penK c (a + 1) l)) = H1 at hp1 hc1 ⊢
      have st1 : Stay H H1 := hH1 ▸ stay_pen hp
      refine ⟨_, rfl, _, _, rfl, rfl, .inl ⟨by omega, by omega⟩, _, _, rfl, rfl, ?_⟩
      refine' meet (α := Int) _ (fun rest => ?_) ?_
      rotate_left
      · -- if len(cells) > 0
        refine ⟨_, rfl, p, _, rfl, pen_gc hp1, _, _, rfl, .inl ⟨_, .of hc1, rfl⟩, _, _, rfl, rfl, _, rfl, ite2 (fun hz => ?_) (fun hz => ?_)⟩
        have hz' : 0 < ((ns.map V.int).length : Int) := of_decide_eq_true hz
        obtain ⟨cell, hget⟩ := at_mod ns a hz'
        refine ⟨_, rfl, p, _, rfl, pen_gc hp1, _, rfl, _, rfl, p, _, rfl, pen_gc hp1, _, _, rfl, .inl ⟨_, .of hc1, rfl⟩, _, _, rfl, rfl, hz', c, _, _, _, rfl, rfl, .of hc1, hget, ?_⟩
        exact rest cell
        exact rest (41 * a + 13)
      · intro cell
        have nqp : ∀ {q : Addr}, H1 q = none → p ≠ q := fun hq => ne_of_none hp1 hq
        refine' meet0 _ (fun rest => ?_) ?_
        rotate_left
        · refine ⟨_, rfl, _, rfl, p, _, rfl, pen_gc hp1, _, _, rfl, .inl ⟨_, .of hc1, rfl⟩, _, _, rfl, rfl, _, rfl, ite2 (fun h3 => ?_) (fun h3 => ?_)⟩
          rotate_left
          · refine iteF ?_
            exact rest
          refine ⟨_, rfl, _, rfl, _, _, rfl, rfl, ⟨by decide, by decide, by decide⟩, _, _, rfl, rfl, _, rfl, ite2 (fun h4 => ?_) (fun h4 => ?_)⟩
          rotate_left
          · exact rest
          have ha : 0 ≤ (if cell < 0 then -cell else cell) := by split <;> omega
          refine ⟨_, rfl, _, rfl, _, rfl, _, _, rfl, rfl, ⟨by show (0 : Int) < many; omega, h2⟩, _, rfl, p, _, rfl, pen_sl hp1 _, ?_⟩
          refine ⟨_, rfl, _, rfl, _, rfl, _, _, rfl, rfl, (by show (0 : Int) < many; omega), k _ _ (Int.emod_nonneg _ (by omega)) (Int.emod_lt_of_pos _ (by omega)) ⟨⟨a + 1, _, upd_same, by omega, by omega, Int.ediv_nonneg ha (by omega)⟩, by rw [upd_ne npc]; exact hc1, hlen⟩ (st1.trans (stay_pen hp1))⟩
        · obtain ⟨pr, hpr, hpr0, hpr1⟩ := at_prime a
          obtain ⟨sq0, sq1⟩ := sq_bound ha0 han hn
          have mm0 := Int.emod_nonneg cell (show (2147483489 : Int) ≠ 0 by decide)
          have mm1 := Int.emod_lt_of_pos cell (show (0 : Int) < 2147483489 by decide)
          refine ⟨by decide, fun q hq => ⟨_, rfl, _, _, rfl, rfl, (by show (0 : Int) < 7; decide), q, _, _, _, rfl, rfl, SqT.of upd_same, hpr, ?_⟩⟩
          refine ⟨_, rfl, _, _, rfl, rfl, (by show (0 : Int) < 2147483489; decide), _, rfl, _, _, rfl, rfl, .inl ⟨by omega, by omega⟩, _, rfl, _, _, rfl, rfl, .inl ⟨by omega, by omega⟩, _, _, rfl, rfl, _, rfl, _, _, rfl, rfl, .inl ⟨by omega, by omega⟩, _, _, rfl, rfl, _, _, rfl, rfl, _, _, rfl, rfl, ⟨by decide, by decide, ?_⟩, _, rfl, _, _, rfl, rfl, hpr0, ?_⟩
          · show (cell % 2147483489 + 60013 * a * a + 40009 * a + 733).natAbs < 2 ^ 64
            omega
          · generalize hw1 : ((cell % 2147483489 + 60013 * a * a + 40009 * a + 733) ^ (3 : Int).toNat : Int) = w1
            have w0 := Int.emod_nonneg w1 (show pr ≠ 0 by omega)
            have w2 := Int.emod_lt_of_pos w1 hpr0
            refine ⟨_, rfl, _, rfl, _, _, rfl, rfl, .inl ⟨by decide, by decide⟩, _, _, rfl, rfl, _, _, rfl, rfl, _, _, rfl, rfl, ⟨by decide, by decide, ?_⟩, _, _, rfl, rfl, (by show (0 : Int) < 2147483477; decide), ?_⟩
            · show (w1 % pr + 17 * a + 3).natAbs < 2 ^ 64
              omega
            · refine ⟨_, rfl, _, _, rfl, rfl, .inr ⟨by decide, by decide⟩, _, _, rfl, rfl, (by show (0 : Int) < 2147483423; decide), _, _, rfl, rfl, ⟨by decide, by decide⟩, _, rfl, _, _, rfl, rfl, (by show (0 : Int) < many; omega), ?_⟩
              refine k _ _ (Int.emod_nonneg _ (by omega)) (Int.emod_lt_of_pos _ (by omega)) ⟨⟨a + 1, l, by rw [upd_ne (nqp hq)]; exact hp1, by omega, by omega, hl0⟩, by rw [upd_ne (ne_of_none hc1 hq)]; exact hc1, hlen⟩ (st1.trans (Stay.upd hq))
theorem ok__law_size (T : Txt K mg t) : FnOk P w K mg base CX0 1 t.f__law_size t.d__law_size ["_law_room_here"] spProd := by
  refine T._law_size.F.okQ sc__law_size (fun vs H Q E h => ?_) (fun cdv A outer s H vs Q E hr h => ?_)
  · obtain ⟨a, ns, rfl, _⟩ := h
    rfl
  · obtain ⟨a, ns, rfl, ha, hb, k⟩ := h
    refine ⟨_, (qss_cons (qs_set (i := 1) sc__law_size.nd rfl (Or.inl rfl) qe_int)
      (qss_cons (qs_for PassesOwn.never rfl (qi_tup (qv 0)) (qg_name (i := 2) sc__law_size.nd rfl (Or.inl rfl)) (qss_one (qs_set (i := 1) sc__law_size.nd rfl (Or.inl rfl) (qe_op oq_mul (qv 1) (qv 2)))))
      (qss_one (qs_ret (qv 1))))), ?_⟩
    refine ⟨_, rfl, a, rfl, ⟨_, .of ha⟩, for_tup (K := K) (xs := ns.map V.int) (fun i σ H2 => H2 = H ∧ ∃ v, σ = [some (.ref a), some (.int (prodI (ns.take i))), v]) ⟨rfl, none, rfl⟩ (fun i σ H2 _ ⟨e, _⟩ => e ▸ .of ha) ?_ ?_⟩
    · rintro i y σ H2 hi ⟨rfl, v, rfl⟩
      rw [List.getElem?_map] at hi
      obtain ⟨z, hz, rfl⟩ := Option.map_eq_some_iff.mp hi
      have hm := hb z (List.mem_of_getElem? hz)
      refine ⟨_, rfl, _, rfl, _, _, rfl, rfl, .inr ⟨by omega, by omega⟩, rfl, some (.int z), ?_⟩
      rw [take_succ_get hz, prodI_snoc]
      rfl
    · rintro σ H2 ⟨rfl, v, rfl⟩
      refine ⟨_, rfl, ?_⟩
      rw [List.length_map, List.take_length]
      exact k
theorem ok__law_room (T : Txt K mg t) : FnOk P w K mg base CX0 2 t.f__law_room t.d__law_room ["_law_pen_here", "_law_most"] spMkRoom := by
  have G__law_draw : FnOk P w K mg base CX0 1 t.f__law_draw t.d__law_draw ["_law_pen_here", "_law_many"] spDraw := ok__law_draw T
  have G__law_size : FnOk P w K mg base CX0 1 t.f__law_size t.d__law_size ["_law_room_here"] spProd := ok__law_size T
  refine T._law_room.F.okQ sc__law_room (fun vs H Q E h => ?_) (fun cdv A outer s H vs Q E hr h => ?_)
  · obtain ⟨p, c, ns, n, most, rfl, _⟩ := h
    rfl
  · obtain ⟨p, c, ns, n, most, rfl, hP, hn, hm4, hm256, k⟩ := h
    refine ⟨_, (qss_cons (qs_set (i := 2) sc__law_room.nd rfl (Or.inl rfl) (qe_fn T._law_draw G__law_draw hr (qa_cons (qv 0) (qa_cons qe_int qa_nil))))
      (qss_cons (qs_set (i := 3) sc__law_room.nd rfl (Or.inl rfl) (qe_ix xq_list (qe_lst (qa_cons qe_int (qa_cons qe_int (qa_cons qe_int (qa_cons qe_int (qa_cons qe_int (qa_cons (qe_op oq_add qe_int (qe_fn T._law_draw G__law_draw hr (qa_cons (qv 0) (qa_cons qe_int qa_nil)))) qa_nil))))))) (qv 2) (fun _ _ => rfl)))
      (qss_cons (qs_set (i := 4) sc__law_room.nd rfl (Or.inl rfl) (qe_tup qa_nil))
      (qss_cons (qs_for PassesOwn.never rfl (qi_range1 rfl T.b_range (qa_cons (qv 3) qa_nil)) (qg_name (i := 5) sc__law_room.nd rfl (Or.inl rfl)) (qss_cons (qs_set (i := 6) sc__law_room.nd rfl (Or.inl rfl) (qe_ix xq_list (qe_lst (qa_cons qe_int (qa_cons qe_int (qa_cons (qe_op oq_add qe_int (qe_fn T._law_draw G__law_draw hr (qa_cons (qv 0) (qa_cons qe_int qa_nil)))) qa_nil)))) (qe_callB (cq_min2 rfl) (by rfl) T.b_min PyProof.Rows.boot_min (qa_cons (qv 2) (qa_cons qe_int qa_nil))) (fun _ _ => rfl)))
      (qss_one (qs_if (qt_cmpR oq_le (qe_op oq_mul (qe_fn T._law_size G__law_size hr (qa_cons (qv 4) qa_nil)) (qv 6)) (qv 1) (nomark _)) (qss_one (qs_set (i := 4) sc__law_room.nd rfl (Or.inl rfl) (qe_op oq_catA (qv 4) (qe_tup (qa_cons (qv 6) qa_nil))))) qss_nil))))
      (qss_one (qs_ret (qv 4))))))), ?_⟩
    -- way
    refine ⟨_, rfl, p, c, ns, n, 6, rfl, hP, by omega, by decide, by decide, fun way H1 w0 w1 P1 S1 => ?_⟩
    -- many
    refine ⟨_, rfl, p, c, ns, n + 1, 8, rfl, P1, by omega, by decide, by decide, fun r H2 r0 r1 P2 S2 => ⟨_, _, rfl, rfl, (by show 6 ≤ sizeLine; decide), fun q hq => ?_⟩⟩
    obtain ⟨mv, hat, hmem⟩ := atI_mem (xs := [.int 8, .int 4, .int 1, .int 8, .int 3, .int (1 + r)]) (i := way) w0 (by simpa using w1)
    obtain ⟨many, rfl, m1, m8⟩ : ∃ many : Int, mv = .int many ∧ 1 ≤ many ∧ many ≤ 8 := by
      simp at hmem
      rcases hmem with rfl | rfl | rfl | rfl | rfl | rfl
      all_goals exact ⟨_, rfl, by omega, by omega⟩
    refine ⟨_, rfl, q, _, _, _, rfl, rfl, SqL.of upd_same, hat, ?_⟩
    have P3 := P2.same (Same.upd (o := .lst [.int 8, .int 4, .int 1, .int 8, .int 3, .int (1 + r)]) hq)
    have S3 : Stay H (upd H2 q (.lst [.int 8, .int 4, .int 1, .int 8, .int 3, .int (1 + r)])) := (S1.trans S2).trans (Stay.upd hq)
    generalize upd H2 q (.lst [.int 8, .int 4, .int 1, .int 8, .int 3, .int (1 + r)]) = H3 at P3 S3 ⊢
    -- found = ()
    refine ⟨by decide, fun q0 hq0 => ?_⟩
    -- the loop
    refine ⟨_, rfl, many, rfl, by omega, by omega, for_range (lo := 0) (n := many.toNat) (fun i σ H4 => ∃ (a : Addr) (rm : List Int) (v1 v2 : Option V), σ = [some (.ref p), some (.int most), some (.int way), some (.int many), some (.ref a), v1, v2] ∧
      H4 a = some (.tup (rm.map V.int)) ∧ (∀ x ∈ rm, 2 ≤ x ∧ x ≤ 4) ∧ prodI rm ≤ most ∧ rm.length ≤ i ∧ (1 ≤ i → rm ≠ []) ∧ Pen H4 p c ns (n + 2 + i) ∧ Stay H H4)
      ⟨q0, [], none, none, rfl, upd_same, fun x hx => by simp at hx, by show (1 : Int) ≤ most; omega, Nat.le_refl _, fun z => absurd z (by decide), P3.same (Same.upd hq0), S3.trans (Stay.upd hq0)⟩ ?_ ?_⟩
    · rintro i σ H4 hi ⟨a, rm, v1, v2, rfl, ha, hb, hp, hl, hne, P4, S4⟩
      have hi8 : i < 8 := by omega
      refine ⟨_, rfl, p, c, ns, n + 2 + i, 3, rfl, P4, by omega, by decide, by decide, fun r' H5 r0' r1' P5 S5 => ⟨_, _, rfl, rfl, (by show 3 ≤ sizeLine; decide), fun q' hq' => ?_⟩⟩
      have hix : 0 ≤ (if (2 : Int) < way then 2 else way) ∧ (if (2 : Int) < way then 2 else way) < 3 := by split <;> omega
      obtain ⟨ov, hat', hmem'⟩ := atI_mem (xs := [.int 2, .int 4, .int (2 + r')]) (i := if (2 : Int) < way then 2 else way) hix.1 (by simpa using hix.2)
      obtain ⟨one, rfl, o2, o4⟩ : ∃ one : Int, ov = .int one ∧ 2 ≤ one ∧ one ≤ 4 := by
        simp at hmem'
        rcases hmem' with rfl | rfl | rfl
        all_goals exact ⟨_, rfl, by omega, by omega⟩
      refine ⟨_, rfl, _, _, rfl, q', _, _, _, rfl, rfl, SqL.of upd_same, hat', ?_⟩
      have P6 := P5.same (Same.upd (o := .lst [.int 2, .int 4, .int (2 + r')]) hq')
      have S6 : Stay H4 (upd H5 q' (.lst [.int 2, .int 4, .int (2 + r')])) := S5.trans (Stay.upd hq')
      generalize upd H5 q' (.lst [.int 2, .int 4, .int (2 + r')]) = H6 at P6 S6 ⊢
      have ha6 := S6.tup ha
      refine ⟨_, rfl, a, rm, rfl, ha6, hb, _, rfl, _, _, rfl, rfl, .inr ⟨by omega, by omega⟩, _, rfl, _, _, rfl, rfl, _, rfl, ite2 (fun h1 => ?_) (fun h1 => ?_)⟩
      · have h1' := of_decide_eq_true h1
        refine ⟨_, rfl, _, rfl, (by show 1 ≤ sizeLine; decide), fun q7 hq7 => ?_⟩
        refine ⟨a, q7, rm.map V.int, [.int one], rfl, rfl, by rw [upd_ne (ne_of_none ha6 hq7)]; exact ha6, upd_same, ?_, fun a' H7 ha7 S7 => ?_⟩
        · rw [List.length_map]
          exact Nat.le_of_lt (small1000 (by simp only [List.length_singleton]; omega))
        · refine ⟨a', rm ++ [one], some (.int (0 + (i : Int))), some (.int one), rfl, ?_, ?_, ?_, ?_, fun _ => by simp, ?_, ?_⟩
          · rw [List.map_append]
            exact ha7
          · intro x hx
            rcases List.mem_append.mp hx with z | z
            · exact hb x z
            · rw [List.mem_singleton.mp z]
              exact ⟨o2, o4⟩
          · rw [prodI_snoc]
            exact h1'
          · rw [List.length_append]
            simp
            omega
          · exact (P6.same fun b o e => S7 b o (Same.upd hq7 b o e)).mono (by omega)
          · exact S4.trans (S6.trans ((Stay.upd hq7).trans (Stay.same S7)))
      · have h1' : ¬ (prodI rm * one ≤ most) := fun z => h1 (decide_eq_true z)
        refine ⟨a, rm, some (.int (0 + (i : Int))), some (.int one), rfl, ha6, hb, hp, by omega, fun _ e => ?_, P6.mono (by omega), S4.trans S6⟩
        subst e
        have : prodI [] = 1 := rfl
        rw [this] at h1'
        omega
    · rintro σ H4 ⟨a, rm, v1, v2, rfl, ha, hb, hp, hl, hne, P4, S4⟩
      exact ⟨_, rfl, k a rm H4 ha (hne (by omega)) (by omega) hb hp (P4.mono (by omega)) S4⟩
theorem ok__law_given (T : Txt K mg t) : FnOk P w K mg base CX0 2 t.f__law_given t.d__law_given ["_law_pen_here", "_law_room_here", "_law_apart"] spMkGiven := by
  have G__law_draw : FnOk P w K mg base CX0 1 t.f__law_draw t.d__law_draw ["_law_pen_here", "_law_many"] spDraw := ok__law_draw T
  refine T._law_given.F.okQ sc__law_given (fun vs H Q E h => ?_) (fun cdv A outer s H vs Q E hr h => ?_)
  · obtain ⟨p, c, ra, ns, rm, n, apart, rfl, _⟩ := h
    rfl
  · obtain ⟨p, c, ra, ns, rm, n, apart, rfl, hP, hn, hR, k⟩ := h
    have hpos := hR.pos
    have hfew := hR.few
    refine ⟨_, (qss_cons (qs_set (i := 3) sc__law_given.nd rfl (Or.inl rfl) (qe_fn T._law_draw G__law_draw hr (qa_cons (qv 0) (qa_cons qe_int qa_nil))))
      (qss_cons (qs_set (i := 4) sc__law_given.nd rfl (Or.inl rfl) (qe_fn T._law_draw G__law_draw hr (qa_cons (qv 0) (qa_cons (qe_callB cq_len (by rfl) T.b_len PySem.boot_len (qa_cons (qv 1) qa_nil)) qa_nil))))
      (qss_cons (qs_set (i := 5) sc__law_given.nd rfl (Or.inl rfl) (qe_lst qa_nil))
      (qss_cons (qs_for PassesOwn.never rfl (qi_enum rfl T.b_enumerate (qa_cons (qv 1) qa_nil)) (qg_tup rfl (qgs_cons (qg_name (i := 6) sc__law_given.nd rfl (Or.inl rfl)) (qgs_cons (qg_name (i := 7) sc__law_given.nd rfl (Or.inl rfl)) qgs_nil))) (qss_cons (qs_set (i := 8) sc__law_given.nd rfl (Or.inl rfl) (qe_fn T._law_draw G__law_draw hr (qa_cons (qv 0) (qa_cons (qv 7) qa_nil))))
      (qss_cons (qs_set (i := 9) sc__law_given.nd rfl (Or.inl rfl) (qe_ix xq_list (qe_lst (qa_cons qe_bl (qa_cons qe_bl (qa_cons (qe_cmpR oq_eq (qv 6) (qv 4) (nomark _)) (qa_cons (qe_cmpR oq_eq (qe_fn T._law_draw G__law_draw hr (qa_cons (qv 0) (qa_cons qe_int qa_nil))) qe_int (nomark _)) (qa_cons (qe_cmpR oq_eq (qe_fn T._law_draw G__law_draw hr (qa_cons (qv 0) (qa_cons qe_int qa_nil))) qe_int (nomark _)) qa_nil)))))) (qv 3) (fun _ _ => rfl)))
      (qss_one (qs_if (QW.pt (qw_and (qt_val (qv 9)) (qw_and1 (qt_cmpR oq_ne (qv 6) (qv 2) (nomark _))))) (qss_one (qs_expr (qe_app (qv 5) (qa_cons (qe_tup (qa_cons (qv 6) (qa_cons (qv 8) qa_nil))) qa_nil)))) qss_nil)))))
      (qss_one (qs_ret (qe_callTy cq_tuple_of (by rfl) T.b_tuple PyProof.Rows.boot_tuple (qa_cons (qv 5) qa_nil)))))))), ?_⟩
    refine ⟨_, rfl, p, c, ns, n, 5, rfl, hP, by omega, by decide, by decide, fun way H1 w0 w1 P1 S1 => ?_⟩
    have hR1 := hR.stay S1
    refine ⟨_, rfl, _, rfl, _, _, rfl, .inr ⟨_, .of hR1.at', rfl⟩, p, c, ns, n + 1, _, rfl, P1, by omega, by rw [List.length_map]; omega, by rw [List.length_map]; omega, fun lone H2 l0 l1 P2 S2 => ?_⟩
    refine ⟨by decide, fun fa hfa => ?_⟩
    have S12 := S1.trans S2
    have hfa0 : ∀ b o, H b = some o → (∀ kvs, o = .dK kvs → valV kvs (Sum.inr "at" : Key) = none) → b ≠ fa := fun b o e nn => ne_of_none (S12 b o e nn) hfa
    refine ⟨_, rfl, ra, rfl, ⟨_, .of ((hR1.stay S2).stay (Stay.upd hfa)).at'⟩, for_enum (K := K) (xs := rm.map V.int) (fun i σ H3 => ∃ (g : List (Int × Int)) (gs : List V) (v1 v2 v3 v4 : Option V),
      σ = [some (.ref p), some (.ref ra), some (.int apart), some (.int way), some (.int lone), some (.ref fa), v1, v2, v3, v4] ∧ H3 fa = some (.lst gs) ∧ IsL H3 (g.map pairD) gs ∧ Giv rm g ∧ (∀ q ∈ g, q.1 < i ∧ q.1 ≠ apart) ∧ g.length ≤ i ∧ Pen H3 p c ns (n + 2 + 3 * i) ∧ Stay H H3)
      ⟨[], [], none, none, none, none, rfl, upd_same, rfl, ⟨fun q hq => by simp at hq, List.Pairwise.nil⟩, fun q hq => by simp at hq, Nat.le_refl _, P2.same (Same.upd hfa), S12.trans (Stay.upd hfa)⟩
      (fun i σ H3 _ ⟨g, gs, v1, v2, v3, v4, _, _, _, _, _, _, _, S3⟩ => .of (hR.stay S3).at') ?_ ?_⟩
    · rintro i x TT σ H3 hi ⟨g, gs, v1, v2, v3, v4, rfl, hf3, hg3, hG, hq, hgl, P3, S3⟩ hTT
      rw [List.getElem?_map] at hi
      obtain ⟨mi, hmi, rfl⟩ := Option.map_eq_some_iff.mp hi
      have hil : i < rm.length := (List.getElem?_eq_some_iff.mp hmi).1
      have hmb := hR.box mi (List.mem_of_getElem? hmi)
      have hmany : many rm (i : Int) = mi := by unfold many; simp [hmi]
      have P3' := P3.same (Same.upd (o := .tup [.int (i : Int), .int mi]) hTT)
      have S34 : Stay H3 (upd H3 TT (.tup [.int (i : Int), .int mi])) := Stay.upd hTT
      have hT4 : upd H3 TT (.tup [.int (i : Int), .int mi]) TT = some (.tup [.int (i : Int), .int mi]) := upd_same
      generalize upd H3 TT (.tup [.int (i : Int), .int mi]) = H4 at P3' S34 hT4 ⊢
      refine ⟨TT, _, rfl, .of hT4, rfl, _, _, rfl, _, _, rfl, rfl, ?_⟩
      refine ⟨_, rfl, _, rfl, p, c, ns, n + 2 + 3 * i, mi, rfl, P3', by omega, by omega, by omega, fun worth H5 wo0 wo1 P5 S5 => ?_⟩
      refine ⟨_, rfl, _, rfl, rfl, ?_⟩
      refine ⟨_, rfl, p, c, ns, n + 2 + 3 * i + 1, 2, rfl, P5, by omega, by decide, by decide, fun r1 H6 _ _ P6 S6 => ⟨rfl, ?_⟩⟩
      refine ⟨_, rfl, p, c, ns, n + 2 + 3 * i + 2, 4, rfl, P6, by omega, by decide, by decide, fun r2 H7 _ _ P7 S7 => ⟨rfl, (by show 5 ≤ sizeLine; decide), fun q hq7 => ?_⟩⟩
      obtain ⟨v, hat, hmem⟩ := atI_mem (i := way) (xs := [.bl false, .bl true, .bl (decide (V.int i = V.int lone)), .bl (decide (V.int r1 = V.int 0)), .bl (decide (V.int r2 = V.int 0))]) w0 (by simpa using w1)
      have hb : ∃ b, v = .bl b := by
        simp only [List.mem_cons, List.not_mem_nil, or_false] at hmem
        rcases hmem with rfl | rfl | rfl | rfl | rfl <;> exact ⟨_, rfl⟩
      obtain ⟨b, rfl⟩ := hb
      have S8 : Same H7 (upd H7 q (.lst [.bl false, .bl true, .bl (decide (V.int i = V.int lone)), .bl (decide (V.int r1 = V.int 0)), .bl (decide (V.int r2 = V.int 0))])) := Same.upd hq7
      refine ⟨_, rfl, q, _, _, _, rfl, rfl, SqL.of upd_same, hat, ?_⟩
      generalize upd H7 q (.lst [.bl false, .bl true, .bl (decide (V.int i = V.int lone)), .bl (decide (V.int r1 = V.int 0)), .bl (decide (V.int r2 = V.int 0))]) = H8 at S8 ⊢
      have P8 := P7.same S8
      have S38 : Stay H3 H8 := (S34.trans S5).trans ((S6.trans S7).trans (Stay.same S8))
      have hf8 := S38.lst hf3
      have hg8 := hg3.stay S38
      have S8' := S3.trans S38
      have skip : ∀ v1 v2 v3 v4 : Option V, ∃ (g' : List (Int × Int)) (gs' : List V) (u1 u2 u3 u4 : Option V), [some (.ref p), some (.ref ra), some (.int apart), some (.int way), some (.int lone), some (.ref fa), v1, v2, v3, v4] = [some (.ref p), some (.ref ra), some (.int apart), some (.int way), some (.int lone), some (.ref fa), u1, u2, u3, u4] ∧ H8 fa = some (.lst gs') ∧ IsL H8 (g'.map pairD) gs' ∧ Giv rm g' ∧ (∀ q ∈ g', q.1 < ((i + 1 : Nat) : Int) ∧ q.1 ≠ apart) ∧ g'.length ≤ i + 1 ∧ Pen H8 p c ns (n + 2 + 3 * (i + 1)) ∧ Stay H H8 := fun v1 v2 v3 v4 =>
        ⟨g, gs, v1, v2, v3, v4, rfl, hf8, hg8, hG, fun q hq' => ⟨by have := (hq q hq').1; omega, (hq q hq').2⟩, by omega, P8.mono (by omega), S8'⟩
      refine ⟨_, rfl, b, rfl, ite2 (fun h1 => ?_) (fun h1 => ?_)⟩
      · refine ⟨_, rfl, _, rfl, rfl, _, rfl, ite2 (fun h2 => ?_) (fun h2 => ?_)⟩
        · have h2' : (i : Int) ≠ apart := fun e => by rw [e] at h2; simp at h2
          refine ⟨_, rfl, .inl ⟨rfl, _, SqL.of hf8⟩, _, rfl, _, rfl, (by show 2 ≤ sizeLine; decide), fun T9 hT9 => ?_⟩
          have hf9 : upd H8 T9 (.tup [.int (i : Int), .int worth]) fa = some (.lst gs) := Same.upd hT9 _ _ hf8
          have hc : c ≠ fa := hfa0 _ _ hP.ls (fun _ e => by cases e)
          refine ⟨fa, gs, _, rfl, rfl, hf9, ?_, ?_⟩
          · have e1 := hg3.length
            rw [List.length_map] at e1
            rw [e1]
            refine Nat.lt_of_lt_of_le (Nat.lt_of_le_of_lt hgl (Nat.lt_of_lt_of_le hil hfew)) ?_
            show 8 ≤ sizeLine
            decide
          · have S89 : Stay H8 (upd H8 T9 (.tup [.int (i : Int), .int worth])) := Stay.upd hT9
            refine ⟨g ++ [((i : Int), worth)], gs ++ [.ref T9], _, _, _, _, rfl, upd_same, ?_, hG.snoc (fun q hq' => (hq q hq').1) (by omega) (by omega) wo0 (by rw [hmany]; exact wo1), ?_, by rw [List.length_append]; show g.length + 1 ≤ i + 1; omega, ((P8.same (Same.upd hT9)).app hf9 hc).mono (by omega), stay_app (S8'.trans S89) hfa0⟩
            · rw [List.map_append]
              refine IsL.stayT (StayT.app hf9) ?_ ?_
              · rw [← List.map_append]; exact noL_pairs _
              · exact (hg8.stay S89).append (IsL.one ⟨T9, _, rfl, upd_same, IsL.ints (ns := [(i : Int), worth])⟩)
            · intro q hq'
              rcases List.mem_append.mp hq' with z | z
              · exact ⟨by have := (hq q z).1; omega, (hq q z).2⟩
              · rw [List.mem_singleton.mp z]; exact ⟨by show (i : Int) < ((i + 1 : Nat) : Int); omega, h2'⟩
        · exact skip _ _ _ _
      · exact iteF (skip _ _ _ _)
    · rintro σ H3 ⟨g, gs, v1, v2, v3, v4, rfl, hf3, hg3, hG, hq, hgl, P3, S3⟩
      rw [List.length_map] at hgl P3
      refine ⟨_, rfl, fa, gs, rfl, .inl ⟨.of hf3, fun l hl => ?_⟩⟩
      exact k l g _ ⟨l, gs, rfl, upd_same, hg3.stay (Stay.upd hl)⟩ hG (fun q hq' => (hq q hq').2) (by omega) ((P3.same (Same.upd hl)).mono (by omega)) (S3.trans (Stay.upd hl))
theorem ok__law_wish (T : Txt K mg t) : FnOk P w K mg base CX0 3 t.f__law_wish t.d__law_wish ["_law_pen_here", "_law_room_here"] spMkWish := by
  have G__law_draw : FnOk P w K mg base CX0 1 t.f__law_draw t.d__law_draw ["_law_pen_here", "_law_many"] spDraw := ok__law_draw T
  have G__law_given : FnOk P w K mg base CX0 2 t.f__law_given t.d__law_given ["_law_pen_here", "_law_room_here", "_law_apart"] spMkGiven := ok__law_given T
  refine T._law_wish.F.okQ sc__law_wish (fun vs H Q E h => ?_) (fun cdv A outer s H vs Q E hr h => ?_)
  · obtain ⟨p, c, ra, ns, rm, n, rfl, _⟩ := h
    rfl
  · obtain ⟨p, c, ra, ns, rm, n, rfl, hP, hn, hR, k⟩ := h
    have hlp := hR.pos
    have hlf := hR.few
    refine ⟨_, (qss_cons (qs_set (i := 2) sc__law_wish.nd rfl (Or.inl rfl) (qe_fn T._law_draw G__law_draw hr (qa_cons (qv 0) (qa_cons (qe_callB cq_len (by rfl) T.b_len PySem.boot_len (qa_cons (qv 1) qa_nil)) qa_nil))))
      (qss_cons (qs_set (i := 3) sc__law_wish.nd rfl (Or.inl rfl) (qe_fn T._law_draw G__law_draw hr (qa_cons (qv 0) (qa_cons (qe_ix xq_tup (qv 1) (qv 2) (fun _ _ => rfl)) qa_nil))))
      (qss_cons (qs_set (i := 4) sc__law_wish.nd rfl (Or.inl rfl) (qe_op oq_mod (qe_op oq_add (qe_op oq_add (qv 3) qe_int) (qe_fn T._law_draw G__law_draw hr (qa_cons (qv 0) (qa_cons (qe_op oq_sub (qe_ix xq_tup (qv 1) (qv 2) (fun _ _ => rfl)) qe_int) qa_nil)))) (qe_ix xq_tup (qv 1) (qv 2) (fun _ _ => rfl))))
      (qss_one (qs_ret (qe_tupN (qa_cons (qe_fn T._law_given G__law_given hr (qa_cons (qv 0) (qa_cons (qv 1) (qa_cons (qv 2) qa_nil)))) (qa_cons (qv 2) (qa_cons (qv 4) (qa_cons (qv 3) qa_nil)))))))))), ?_⟩
    refine ⟨_, rfl, _, rfl, _, _, rfl, .inr ⟨_, .of hR.at', rfl⟩, p, c, ns, n, _, rfl, hP, by omega, by rw [List.length_map]; omega, by rw [List.length_map]; omega, fun box H1 b0 b1 P1 S1 => ?_⟩
    rw [List.length_map] at b1
    have hR1 := hR.stay S1
    have hm := (hR1.get b0 b1).2
    refine ⟨_, rfl, _, rfl, _, rfl, ra, _, _, _, rfl, rfl, .of hR1.at', (hR1.get b0 b1).1, p, c, ns, n + 1, _, rfl, P1, by omega, by omega, by omega, fun wo H2 wo0 wo1 P2 S2 => ?_⟩
    have hR2 := hR1.stay S2
    refine ⟨_, rfl, _, _, rfl, rfl, _, rfl, _, rfl, _, rfl, ra, _, _, _, rfl, rfl, .of hR2.at', (hR2.get b0 b1).1, _, _, rfl, rfl, p, c, ns, n + 2, _, rfl, P2, by omega, by omega, by omega, fun r H3 r0 r1 P3 S3 => ?_⟩
    have hR3 := hR2.stay S3
    have hbet := mod_better hm.1 hm.2 wo0 wo1 r0 r1
    refine ⟨_, _, rfl, rfl, _, rfl, _, rfl, ra, _, _, _, rfl, rfl, .of hR3.at', (hR3.get b0 b1).1, _, _, rfl, rfl, (by show 0 < many rm box; omega), ?_⟩
    refine ⟨_, rfl, _, rfl, _, rfl, p, c, ra, ns, rm, n + 3, box, rfl, P3, by omega, hR3, fun ga g H4 hg hG hap hg8 P4 S4 => ?_⟩
    refine ⟨_, rfl, _, rfl, _, rfl, (by show 4 ≤ sizeLine; decide), fun a H5 _ g5 S5 => ?_⟩
    exact k a ⟨g, box, (wo + 1 + r) % many rm box, wo⟩ H5 ⟨a, _, rfl, g5, ⟨_, _, rfl, hg.stay (Stay.same S5), IsL.ints (ns := [box, (wo + 1 + r) % many rm box, wo])⟩⟩ ⟨hG, b0, b1, hap, hbet.1, hbet.2.1, wo0, wo1, hbet.2.2⟩ ((P4.same S5).mono (by omega)) ((S1.trans S2).trans (S3.trans (S4.trans (Stay.same S5))))
theorem ok__law_book (T : Txt K mg t) : FnOk P w K mg base CX0 4 t.f__law_book t.d__law_book ["_law_pen_here", "_law_room_here", "_law_most"] spMkBook := by
  have G__law_draw : FnOk P w K mg base CX0 1 t.f__law_draw t.d__law_draw ["_law_pen_here", "_law_many"] spDraw := ok__law_draw T
  have G__law_wish : FnOk P w K mg base CX0 3 t.f__law_wish t.d__law_wish ["_law_pen_here", "_law_room_here"] spMkWish := ok__law_wish T
  refine T._law_book.F.okQ sc__law_book (fun vs H Q E h => ?_) (fun cdv A outer s H vs Q E hr h => ?_)
  · obtain ⟨p, c, ra, ns, rm, n, most, rfl, _⟩ := h
    rfl
  · obtain ⟨p, c, ra, ns, rm, n, most, rfl, hP, hn, m3, m40, hR, k⟩ := h
    refine ⟨_, (qss_cons (qs_set (i := 3) sc__law_book.nd rfl (Or.inl rfl) (qe_fn T._law_draw G__law_draw hr (qa_cons (qv 0) (qa_cons qe_int qa_nil))))
      (qss_cons (qs_set (i := 4) sc__law_book.nd rfl (Or.inl rfl) (qe_ix xq_list (qe_lstN (qa_cons qe_int (qa_cons (qe_op oq_add qe_int (qe_fn T._law_draw G__law_draw hr (qa_cons (qv 0) (qa_cons qe_int qa_nil)))) (qa_cons (qv 2) (qa_cons (qe_fn T._law_draw G__law_draw hr (qa_cons (qv 0) (qa_cons (qe_op oq_add (qv 2) qe_int) qa_nil))) qa_nil))))) (qv 3) (fun _ _ => rfl)))
      (qss_cons (qs_set (i := 5) sc__law_book.nd rfl (Or.inl rfl) (qe_lstN qa_nil))
      (qss_cons (qs_for PassesOwn.never rfl (qi_range1 rfl T.b_range (qa_cons (qv 4) qa_nil)) (qg_name (i := 6) sc__law_book.nd rfl (Or.inl rfl)) (qss_cons (qs_set (i := 7) sc__law_book.nd rfl (Or.inl rfl) (qe_fn T._law_draw G__law_draw hr (qa_cons (qv 0) (qa_cons qe_int qa_nil))))
      (qss_cons (qs_set (i := 8) sc__law_book.nd rfl (Or.inl rfl) (qe_fn T._law_wish G__law_wish hr (qa_cons (qv 0) (qa_cons (qv 1) qa_nil))))
      (qss_cons (qs_if (QW.pt (qw_and (qt_cmpR oq_lt (qv 7) qe_int (nomark _)) (qw_and1 (qt_cmpR (oq_neD hr.units) (qv 5) (qe_lstN qa_nil) (nomark _))))) (qss_cons (qs_asg (qe_ix xq_list (qv 5) (qe_fn T._law_draw G__law_draw hr (qa_cons (qv 0) (qa_cons (qe_callB cq_len (by rfl) T.b_len PySem.boot_len (qa_cons (qv 5) qa_nil)) qa_nil))) (fun _ _ => rfl)) (qg_tup rfl (qgs_cons (qg_name (i := 9) sc__law_book.nd rfl (Or.inl rfl)) (qgs_cons (qg_name (i := 10) sc__law_book.nd rfl (Or.inl rfl)) (qgs_cons (qg_name (i := 11) sc__law_book.nd rfl (Or.inl rfl)) (qgs_cons (qg_name (i := 12) sc__law_book.nd rfl (Or.inl rfl)) qgs_nil))))))
      (qss_one (qs_set (i := 8) sc__law_book.nd rfl (Or.inl rfl) (qe_ix xq_list (qe_lstN (qa_cons (qe_tupN (qa_cons (qv 9) (qa_cons (qv 10) (qa_cons (qv 11) (qa_cons (qv 12) qa_nil))))) (qa_cons (qe_tupN (qa_cons (qe_slice sq_tupA (qv 9) (qo_some qe_int) qo_none) (qa_cons (qv 10) (qa_cons (qv 11) (qa_cons (qv 12) qa_nil))))) (qa_cons (qe_tupN (qa_cons (qv 9) (qa_cons (qv 10) (qa_cons (qv 12) (qa_cons (qv 11) qa_nil))))) qa_nil)))) (qv 7) (fun _ _ => rfl))))) qss_nil)
      (qss_one (qs_expr (qe_app (qv 5) (qa_cons (qv 8) qa_nil))))))))
      (qss_one (qs_ret (qe_callTy cq_tuple_ofN (by rfl) T.b_tuple PyProof.Rows.boot_tuple (qa_cons (qv 5) qa_nil)))))))), ?_⟩
    refine ⟨_, rfl, p, c, ns, n, 4, rfl, hP, by omega, by decide, by decide, fun way H1 w0 w1 P1 S1 => ?_⟩
    refine ⟨_, rfl, p, c, ns, n + 1, 3, rfl, P1, by omega, by decide, by decide, fun r1 H2 r10 r11 P2 S2 => ⟨_, _, rfl, rfl, ?_⟩⟩
    refine ⟨_, rfl, _, rfl, _, rfl, _, _, rfl, rfl, p, c, ns, n + 2, _, rfl, P2, by omega, by omega, by omega, fun r2 H3 r20 r21 P3 S3 => ?_⟩
    refine ⟨(by show 4 ≤ sizeLine; decide), fun q H4 _ g4 S4 => ?_⟩
    obtain ⟨mv, hat, hmem⟩ := atI_mem (xs := [.int 0, .int (1 + r1), .int most, .int r2]) (i := way) w0 (by simpa using w1)
    obtain ⟨many, rfl, mm0, mm1⟩ : ∃ many : Int, mv = .int many ∧ 0 ≤ many ∧ many ≤ most := by
      simp at hmem
      rcases hmem with rfl | rfl | rfl | rfl
      all_goals exact ⟨_, rfl, by omega, by omega⟩
    refine ⟨_, rfl, q, _, _, _, rfl, rfl, SqL.of g4, hat, ?_⟩
    have P4 := P3.same S4
    have S04 : Stay H H4 := (S1.trans S2).trans (S3.trans (Stay.same S4))
    refine ⟨(by show 0 ≤ sizeLine; decide), fun fa H5 n5 g5 S5 => ?_⟩
    have hfa0 : ∀ b o, H b = some o → (∀ kvs, o = .dK kvs → valV kvs (Sum.inr "at" : Key) = none) → b ≠ fa := fun b o e nn => ne_of_none (S04 b o e nn) n5
    have hc : c ≠ fa := hfa0 _ _ hP.ls (fun _ e => by cases e)
    refine ⟨_, rfl, many, rfl, by omega, by omega, for_range (lo := 0) (n := many.toNat) (fun i σ H6 => ∃ (xs : List V) (v6 v7 v8 v9 v10 v11 v12 : Option V),
      σ = [some (.ref p), some (.ref ra), some (.int most), some (.int way), some (.int many), some (.ref fa), v6, v7, v8, v9, v10, v11, v12] ∧ H6 fa = some (.lst xs) ∧ AllOf H6 (IsWish rm) xs ∧ xs.length = i ∧ Pen H6 p c ns (n + 3 + 40 * i) ∧ Stay H H6)
      ⟨[], none, none, none, none, none, none, none, rfl, g5, .nil, rfl, P4.same S5, S04.trans (Stay.same S5)⟩ ?_ ?_⟩
    · rintro i σ H6 hi ⟨xs, v6, v7, v8, v9, v10, v11, v12, rfl, hf6, A6, hxl, P6, S6⟩
      refine ⟨_, rfl, p, c, ns, n + 3 + 40 * i, 8, rfl, P6, by omega, by decide, by decide, fun like H7 l0 l1 P7 S7 => ?_⟩
      refine ⟨_, rfl, _, rfl, p, c, ra, ns, rm, n + 3 + 40 * i + 1, rfl, P7, by omega, hR.stay (S6.trans S7), fun wa x H8 hx hxo P8 S8 => ?_⟩
      have S68 : Stay H6 H8 := S7.trans S8
      have fin : ∀ {H' : Hp} {wv : Addr} {y : Wi}, Stay H6 H' → Is H' (wishD y) (.ref wv) → WishOk rm y → Pen H' p c ns (n + 3 + 40 * (i + 1)) →
          (upd H' fa (.lst (xs ++ [.ref wv]))) fa = some (.lst (xs ++ [.ref wv])) ∧ AllOf (upd H' fa (.lst (xs ++ [.ref wv]))) (IsWish rm) (xs ++ [.ref wv]) ∧ (xs ++ [V.ref wv]).length = i + 1 ∧ Pen (upd H' fa (.lst (xs ++ [.ref wv]))) p c ns (n + 3 + 40 * (i + 1)) ∧ Stay H (upd H' fa (.lst (xs ++ [.ref wv]))) := fun {H' wv y} S' hy hyo P' =>
        ⟨upd_same, ((A6.stay S').append (.cons hy ⟨y, rfl, hyo⟩ .nil)).stayT (StayT.app (S'.lst hf6)) fun d hd => hd.noL, by rw [List.length_append, hxl]; rfl, P'.app (S'.lst hf6) hc, stay_app (S6.trans S') hfa0⟩
      have hz : xs.length < sizeLine := small1000 (by omega)
      refine ⟨_, rfl, _, _, rfl, rfl, _, rfl, ite2 (fun h1 => ?_) (fun h1 => ?_)⟩
      · obtain ⟨ds, hds, hdw⟩ := A6.dts
        refine ⟨_, rfl, (by show 0 ≤ sizeLine; decide), fun e0 H9 _ g9 S9 => ?_⟩
        have S69 := S68.trans (Stay.same S9)
        refine ⟨.lst ds, .lst [], ⟨fa, xs, rfl, S69.lst hf6, hds.stay S69⟩, ⟨e0, [], rfl, g9, rfl⟩, (eqOk_wishes hdw).2, rfl, fun b hb => ⟨_, rfl, ite2 (fun h2 => ?_) (fun h2 => ?_)⟩⟩
        · have hx1 : 1 ≤ xs.length := by
            cases xs with
            | nil =>
              have : ds = [] := by
                have := hds.length
                exact List.eq_nil_of_length_eq_zero this.symm
              subst this
              rw [hb.mpr rfl] at h2
              exact absurd h2 (by decide)
            | cons _ _ => simp
          have l3 := of_decide_eq_true h1
          refine ⟨_, rfl, _, rfl, _, rfl, _, _, rfl, .inl ⟨xs, .of (S69.lst hf6), rfl⟩, p, c, ns, n + 3 + 40 * i + 36, _, rfl, P8.same S9, by omega, by omega, by omega, fun r H10 r0 r1 P10 S10 => ?_⟩
          have S610 := S69.trans S10
          obtain ⟨ov, hat2, hmem2⟩ := atI_mem (i := r) (xs := xs) r0 (by omega)
          obtain ⟨_, hod, ⟨o, rfl, ho⟩⟩ := (A6.stay S610) ov hmem2
          obtain ⟨oa, ga, gs, rfl, hoa, hga, hgl⟩ := wish_parts hod
          refine ⟨fa, _, _, _, rfl, rfl, .of (S610.lst hf6), hat2, oa, _, rfl, .of hoa, rfl, _, _, rfl, _, _, rfl, _, _, rfl, _, _, rfl, rfl, ?_⟩
          refine ⟨_, rfl, _, rfl, _, rfl, _, rfl, (by show 4 ≤ sizeLine; decide), fun t1 H11 _ g11 S11 => ?_⟩
          refine ⟨_, rfl, _, rfl, ga, _, rfl, S11 _ _ hga, fun t2 H12 g12 S12 => ?_⟩
          refine ⟨_, rfl, _, rfl, _, rfl, (by show 4 ≤ sizeLine; decide), fun t3 H13 _ g13 S13 => ?_⟩
          refine ⟨_, rfl, _, rfl, _, rfl, _, rfl, (by show 4 ≤ sizeLine; decide), fun t4 H14 _ g14 S14 => ?_⟩
          refine ⟨(by show 3 ≤ sizeLine; decide), fun t5 H15 _ g15 S15 => ?_⟩
          obtain ⟨wv, hat3, hmem3⟩ := atI_mem (i := like) (xs := [.ref t1, .ref t3, .ref t4]) l0 (by simpa using l3)
          have U14 : Stay H14 H15 := Stay.same S15
          have U13 : Stay H13 H15 := (Stay.same S14).trans U14
          have U12 : Stay H12 H15 := (Stay.same S13).trans U13
          have U11 : Stay H11 H15 := (Stay.same S12).trans U12
          have U10 : Stay H10 H15 := (Stay.same S11).trans U11
          have hw : ∃ (wr : Addr) (y : Wi), wv = .ref wr ∧ Is H15 (wishD y) (.ref wr) ∧ WishOk rm y := by
            simp only [List.mem_cons, List.not_mem_nil, or_false] at hmem3
            rcases hmem3 with rfl | rfl | rfl
            · exact ⟨t1, o, rfl, wish_mk (U11.tup g11) (U10.tup hga) (hgl.stay U10), ho⟩
            · refine ⟨t3, { o with g := o.g.drop 1 }, rfl, wish_mk (ga := t2) (U13.tup g13) (U12.tup g12) ?_, ho.drop 1⟩
              rw [show cutV gs (some 1) none = gs.drop 1 from cutV_drop gs 1, List.map_drop]
              exact (hgl.stay U10).drop 1
            · exact ⟨t4, { o with r := o.w, w := o.r }, rfl, wish_mk (x := { o with r := o.w, w := o.r }) (U14.tup g14) (U10.tup hga) (hgl.stay U10), ho.turn⟩
          obtain ⟨wr, y, rfl, hy, hyo⟩ := hw
          refine ⟨_, rfl, t5, _, _, _, rfl, rfl, SqL.of g15, hat3, ?_⟩
          have S615 := S610.trans U10
          have P15 : Pen H15 p c ns (n + 3 + 40 * (i + 1)) := (((((P10.same S11).same S12).same S13).same S14).same S15).mono (by omega)
          exact app_names rfl rfl (S615.lst hf6) hz ⟨_, _, _, _, _, _, _, _, rfl, fin S615 hy hyo P15⟩
        · exact app_names rfl rfl (S69.lst hf6) hz ⟨_, _, _, _, _, _, _, _, rfl, fin S69 (hx.stay (Stay.same S9)) hxo ((P8.same S9).mono (by omega))⟩
      · exact iteF (app_names rfl rfl (S68.lst hf6) hz ⟨_, _, _, _, _, _, _, _, rfl, fin S68 hx hxo (P8.mono (by omega))⟩)
    · rintro σ H6 ⟨xs, v6, v7, v8, v9, v10, v11, v12, rfl, hf6, A6, hxl, P6, S6⟩
      refine ⟨_, rfl, fa, xs, rfl, .inl ⟨.of hf6, fun l H7 _ g7 S7 => ?_⟩⟩
      exact k l xs H7 g7 (A6.stay (Stay.same S7)) (by omega) ((P6.same S7).mono (by omega)) (S6.trans (Stay.same S7))
theorem ok__law_beyond (T : Txt K mg t) : FnOk P w K mg base CX0 1 t.f__law_beyond t.d__law_beyond ["_law_first", "_law_second", "_law_many"] spBeyond := by
  refine T._law_beyond.F.okQ sc__law_beyond (fun vs H Q E h => ?_) (fun cdv A outer s H vs Q E hr h => ?_)
  · obtain ⟨o1, o2, n, rfl, _⟩ := h
    rfl
  · obtain ⟨o1, o2, n, rfl, k⟩ := h
    refine ⟨_, (qss_cons (qs_if (QW.pt (qw_or (qt_cmp (qc_notN (qv 0))) (qw_or1 (qt_cmp (qc_isN (qv 1)))))) (qss_one (qs_ret (qv 0))) qss_nil)
      (qss_one (qs_ret (qe_op oq_add (qv 2) (qv 1))))), ?_⟩
    cases o1 with
    | some j => exact ⟨_, rfl, _, rfl, iteT ⟨_, rfl, k⟩⟩
    | none =>
      cases o2 with
      | none => exact ⟨_, rfl, _, rfl, iteF ⟨_, rfl, _, rfl, iteT ⟨_, rfl, k⟩⟩⟩
      | some j => exact ⟨_, rfl, _, rfl, iteF ⟨_, rfl, _, rfl, iteF ⟨_, rfl, _, rfl, _, _, rfl, rfl, (show Q (V.int ((n : Int) + (j : Int))) H by rw [Int.add_comm]; exact k)⟩⟩⟩
theorem ok__law_pair_right (T : Txt K mg t) : FnOk P w K mg base CX0 3 t.f__law_pair_right t.d__law_pair_right ["_law_room_here", "_law_book_here", "_law_more", "_law_one", "_law_box", "_law_worth"] spPairR := by
  have G__law_beyond : FnOk P w K mg base CX0 1 t.f__law_beyond t.d__law_beyond ["_law_first", "_law_second", "_law_many"] spBeyond := ok__law_beyond T
  have G_changed : FnOk P w K mg base CX0 1 t.f_changed t.d_changed ["standing", "box", "worth"] spChanged := ok_changed T
  have G_turned : FnOk P w K mg base CX0 1 t.f_turned t.d_turned ["book"] spTurned := ok_turned T
  have G_why : FnOk P w K mg base CX0 2 t.f_why t.d_why ["book", "one", "other"] spWhy := ok_why T
  have G_betterings : FnOk P w K mg base CX0 2 t.f_betterings t.d_betterings ["room", "book", "standing", "held"] spBett := ok_betterings T
  have G_local_pairs : FnOk P w K mg base CX0 2 t.f_local_pairs t.d_local_pairs ["room", "book", "box", "standing"] spLocal := ok_local_pairs T
  refine T._law_pair_right.F.okQ sc__law_pair_right (fun vs H Q E h => ?_) (fun cdv A outer s H vs Q E hr h => ?_)
  · obtain ⟨ra, ba, ma, oa, box, wo, rm, one, xs, xs2, bk, bk2, rfl, _⟩ := h
    rfl
  · obtain ⟨ra, ba, ma, oa, box, wo, rm, one, xs, xs2, bk, bk2, rfl, hR, hB, hM, hx1, hx2, ho, hl, b0, b1, k⟩ := h
    have h8 := hR.few
    have hb := hR.box
    have hrp := hR.pos
    have hbl := hB.len
    have hml := hM.len
    refine ⟨_, (qss_cons (qs_set (i := 6) sc__law_pair_right.nd rfl (Or.inl rfl) (qe_fn T.changed G_changed hr (qa_cons (qv 3) (qa_cons (qv 4) (qa_cons (qv 5) qa_nil)))))
      (qss_cons (qs_set (i := 7) sc__law_pair_right.nd rfl (Or.inl rfl) (qe_fn T.why G_why hr (qa_cons (qv 1) (qa_cons (qv 3) (qa_cons (qv 6) qa_nil)))))
      (qss_cons (qs_set (i := 8) sc__law_pair_right.nd rfl (Or.inl rfl) (qe_cmpR (oq_inD hr.units) (qv 6) (qe_fnD (dv := [.non]) T.betterings (.cons rfl .nil) G_betterings hr (qa_cons (qv 0) (qa_cons (qv 1) (qa_cons (qv 3) qa_nil)))) (by with_unfolding_all rfl)))
      (qss_cons (qs_if (QW.pt (qw_or (qt_cmpR oq_ne (qv 8) (qe_cmp (qc_notN (qv 7))) (nomark _)) (qw_or1 (qt_cmpR oq_ne (qv 8) (qe_cmpR (oq_inD hr.units) (qv 3) (qe_fnD (dv := [.non]) T.betterings (.cons rfl .nil) G_betterings hr (qa_cons (qv 0) (qa_cons (qe_fn T.turned G_turned hr (qa_cons (qv 1) qa_nil)) (qa_cons (qv 6) qa_nil)))) (by with_unfolding_all rfl)) (nomark _))))) (qss_one (qs_ret qe_bl)) qss_nil)
      (qss_cons (qs_if (qt_cmpR oq_ne (qv 8) (qe_cmpR (oq_inD hr.units) (qe_tupN (qa_cons (qe_ix xq_tup (qv 3) (qv 4) (fun _ _ => rfl)) (qa_cons (qv 5) qa_nil))) (qe_fn T.local_pairs G_local_pairs hr (qa_cons (qv 0) (qa_cons (qv 1) (qa_cons (qv 4) (qa_cons (qv 3) qa_nil))))) (by with_unfolding_all rfl)) (nomark _)) (qss_one (qs_ret qe_bl)) qss_nil)
      (qss_cons (qs_if (QW.pt (qw_and (qt_val (qv 8)) (qw_and1 (qt_cmpR oq_ne (qe_fn T.why G_why hr (qa_cons (qe_slice sq_tupA (qv 1) (qo_some (qv 7)) (qo_some (qe_op oq_add (qv 7) qe_int))) (qa_cons (qv 3) (qa_cons (qv 6) qa_nil)))) qe_int (nomark _))))) (qss_one (qs_ret qe_bl)) qss_nil)
      (qss_cons (qs_if (QW.pt (qw_and (qt_val (qv 8)) (qw_and1 (qt_cmp (qc_notN (qe_fn T.why G_why hr (qa_cons (qe_slice sq_tupA (qv 1) qo_none (qo_some (qv 7))) (qa_cons (qv 3) (qa_cons (qv 6) qa_nil))))))))) (qss_one (qs_ret qe_bl)) qss_nil)
      (qss_cons (qs_set (i := 9) sc__law_pair_right.nd rfl (Or.inl rfl) (qe_fn T.why G_why hr (qa_cons (qv 2) (qa_cons (qv 3) (qa_cons (qv 6) qa_nil)))))
      (qss_cons (qs_if (qt_cmpR oq_ne (qe_fn T.why G_why hr (qa_cons (qe_op oq_catA (qv 1) (qv 2)) (qa_cons (qv 3) (qa_cons (qv 6) qa_nil)))) (qe_fn T._law_beyond G__law_beyond hr (qa_cons (qv 7) (qa_cons (qv 9) (qa_cons (qe_callB cq_len (by rfl) T.b_len PySem.boot_len (qa_cons (qv 1) qa_nil)) qa_nil)))) (nomark _)) (qss_one (qs_ret qe_bl)) qss_nil)
      (qss_one (qs_ret (qe_cmpR oq_eq (qe_cmpR (oq_inD hr.units) (qv 6) (qe_fnD (dv := [.non]) T.betterings (.cons rfl .nil) G_betterings hr (qa_cons (qv 0) (qa_cons (qe_op oq_catA (qv 1) (qv 2)) (qa_cons (qv 3) qa_nil)))) (by with_unfolding_all rfl)) (qe_or (qe_cmp (qc_notN (qv 7))) (qe_one (qe_cmp (qc_notN (qv 9))))) (nomark _))))))))))))), ?_⟩
    refine ⟨_, rfl, _, rfl, _, rfl, oa, one, box, wo, rfl, ho, by omega, b0, fun pa H1 hpa S1 => ?_⟩
    have hol : (chg one box wo).length = rm.length := by rw [chg_len b0 (by omega)]; exact hl
    refine ⟨_, rfl, _, rfl, _, rfl, ba, oa, pa, rm, xs, bk, one, chg one box wo, rfl, h8, by walk_at "up", by walk_at "up", hl, hpa, fun H2 S2 => ?_⟩
    refine ⟨_, rfl, _, rfl, _, rfl, _, rfl, _, .non, ba, oa, rm, xs, bk, one, [], rfl, hrp, h8, by walk_at "up", hb, by walk_at "up", hl, .inl ⟨rfl, rfl⟩, fun l3 H3 n3 hl3 S3 => ?_⟩
    obtain ⟨ys3, hy3, hys3⟩ := hl3
    have hI3 : Is H3 (.lst ((betF bk one []).map stD)) (.ref l3) := ⟨l3, ys3, rfl, hy3, hys3⟩
    have hpa3 : H3 pa = some (.tup ((chg one box wo).map V.int)) := by walk_at "up"
    refine ⟨stD (chg one box wo), _, ⟨pa, _, rfl, hpa3, IsL.ints⟩, .inl hI3, eqOk_ints, eqOk_bet hB.ok hl h8, fun am ham => ?_⟩
    rw [mem_stD] at ham
    obtain ⟨f, hf⟩ : ∃ f, f = whyF one (chg one box wo) 0 bk := ⟨_, rfl⟩
    have hbw : chg one box wo ∈ betF bk one [] ↔ f.isSome = true := by
      rw [bet_why (i := 0), ← hf]
      cases f <;> simp
    obtain rfl : am = f.isSome := by rw [Bool.eq_iff_iff, ham, hbw]
    rw [← hf]
    -- the turned book
    refine ⟨_, rfl, _, rfl, rfl, _, rfl, iteFe (by cases f <;> rfl) ?_⟩
    refine ⟨_, rfl, _, rfl, _, rfl, _, rfl, ba, rm, xs, bk, rfl, by walk_at "up", by omega, fun ta ys4 H4 hT4 S4 => ?_⟩
    refine ⟨_, rfl, _, .non, ta, pa, rm, ys4, bk.map turnW, chg one box wo, [], rfl, hrp, h8, hT4, hb, by walk_at "up", hol, .inl ⟨rfl, rfl⟩, fun l5 H5 n5 hl5 S5 => ?_⟩
    obtain ⟨ys5, hy5, hys5⟩ := hl5
    have hI5 : Is H5 (.lst ((betF (bk.map turnW) (chg one box wo) []).map stD)) (.ref l5) := ⟨l5, ys5, rfl, hy5, hys5⟩
    have ho5 : H5 oa = some (.tup (one.map V.int)) := by walk_at "up"
    refine ⟨stD one, _, ⟨oa, _, rfl, ho5, IsL.ints⟩, .inl hI5, eqOk_ints, eqOk_bet hT4.ok hol h8, fun b5 hb5 => ?_⟩
    rw [mem_stD, bet_turn hB.ok hl hol, hbw, ← Bool.eq_iff_iff] at hb5
    subst hb5
    refine ⟨rfl, _, rfl, iteFe (by cases f <;> rfl) ?_⟩
    -- the local pairs
    refine ⟨_, rfl, _, rfl, _, rfl, oa, _, _, _, rfl, rfl, .of ho5, many_get b0 (by omega), _, rfl, (by show 2 ≤ sizeLine; decide), fun q6 H6 _ g6 S6 => ?_⟩
    refine ⟨_, rfl, _, rfl, _, rfl, _, rfl, _, ba, oa, box, rm, xs, bk, one, rfl, by walk_at "up", hb, by walk_at "up", hl, fun l7 H7 n7 hl7 S7 => ?_⟩
    obtain ⟨ys7, hy7, hys7⟩ := hl7
    have hI7 : Is H7 (.lst ((lpF bk box one).map stD)) (.ref l7) := ⟨l7, ys7, rfl, hy7, hys7⟩
    have g7 : H7 q6 = some (.tup ([many one box, wo].map V.int)) := by
      have : H7 q6 = some (.tup [.int (many one box), .int wo]) := by walk_at "up"
      exact this
    have hok7 : (Dt.lst ((lpF bk box one).map stD)).eqOk := eqOk_sts (n := 2) fun e he => by
      obtain ⟨z, hz, rfl⟩ := List.mem_map.mp he
      exact ⟨z, rfl, lp_len z hz⟩
    refine ⟨stD [many one box, wo], _, ⟨q6, _, rfl, g7, IsL.ints⟩, .inl hI7, eqOk_ints, hok7, fun b7 hb7 => ?_⟩
    rw [mem_stD, lp_bet hB.ok hl b0 b1, hbw, ← Bool.eq_iff_iff] at hb7
    subst hb7
    refine ⟨rfl, _, rfl, iteFe (by cases f <;> rfl) ?_⟩
    refine' meetC _ (fun (H8 : Hp) => Same H7 H8) (fun rest => ?_) ?_
    rotate_left
    · refine ⟨_, rfl, _, rfl, ite2 (fun e => ?_) (fun e => ?_)⟩
      rotate_left
      · refine iteF ⟨_, rfl, _, rfl, iteFe (Bool.eq_false_iff.mpr e) (iteF ?_)⟩
        exact rest H7 fun _ _ z => z
      · obtain ⟨j, hj⟩ := Option.isSome_iff_exists.mp e
        obtain ⟨k0, x, e0, hkx, hh, hno⟩ := whyF_some (hf.symm.trans hj)
        rw [Nat.zero_add] at e0
        subst e0
        have hjl := (List.getElem?_eq_some_iff.mp hkx).1
        obtain ⟨v, hv⟩ : ∃ v, xs[j]? = some v := ⟨_, List.getElem?_eq_getElem (by omega)⟩
        have hB7 : BookAt H7 rm ba xs bk := by walk_at "up"
        have hoj : optV f = .int (j : Int) := by rw [hj]; rfl
        refine ⟨_, rfl, _, rfl, (j : Int), hoj, _, rfl, (j : Int), 1, hoj, rfl, _, rfl, ba, xs, rfl, hB7.at', fun p8 H8 g8 S8 => ?_⟩
        rw [show (j : Int) + 1 = ((j + 1 : Nat) : Int) by omega, cutV_mid] at g8
        have hcut : (xs.take (j + 1)).drop j = [v] := by
          rw [List.take_succ, hv, List.drop_append, List.drop_of_length_le (by rw [List.length_take]; omega), List.length_take, Nat.min_eq_left (by omega), Nat.sub_self]
          rfl
        rw [hcut] at g8
        have hB8 : BookAt H8 rm p8 [v] [x] := BookAt.oneB (show BookAt H8 rm ba xs bk by walk_at "up") hkx hv g8
        refine ⟨_, rfl, _, rfl, p8, oa, pa, rm, [v], [x], one, chg one box wo, rfl, h8, hB8, by walk_at "up", hl, by walk_at "up", fun H9 S9 => ?_⟩
        have hw9 : whyF one (chg one box wo) 0 [x] = some 0 := by
          show (if hits one (chg one box wo) x then some 0 else none) = some 0
          rw [if_pos hh]
        rw [hw9]
        refine ⟨rfl, _, rfl, iteFe rfl ?_⟩
        have hB9 : BookAt H9 rm ba xs bk := by walk_at "up"
        refine ⟨_, rfl, _, rfl, iteTe e ?_⟩
        refine ⟨_, rfl, _, rfl, (j : Int), hoj, ba, xs, rfl, hB9.at', fun p10 H10 g10 S10 => ?_⟩
        rw [cutV_take] at g10
        have hB10 : BookAt H10 rm p10 (xs.take j) (bk.take j) := BookAt.takeB (show BookAt H10 rm ba xs bk by walk_at "up") g10
        refine ⟨_, rfl, _, rfl, p10, oa, pa, rm, _, _, one, chg one box wo, rfl, h8, hB10, by walk_at "up", hl, by walk_at "up", fun H11 S11 => ?_⟩
        rw [whyF_none.mpr hno]
        refine ⟨_, rfl, iteF ?_⟩
        exact rest H11 (by walk_at "up")
    · intro H8 S8
      have hM8 : BookAt H8 rm ma xs2 bk2 := by walk_at "up"
      refine ⟨_, rfl, _, rfl, _, rfl, ma, oa, pa, rm, xs2, bk2, one, chg one box wo, rfl, h8, hM8, by walk_at "up", hl, by walk_at "up", fun H9 S9 => ?_⟩
      obtain ⟨f2, hf2⟩ : ∃ f2, f2 = whyF one (chg one box wo) 0 bk2 := ⟨_, rfl⟩
      rw [← hf2]
      have hB9 : BookAt H9 rm ba xs bk := by walk_at "up"
      have hM9 : BookAt H9 rm ma xs2 bk2 := by walk_at "up"
      refine ⟨_, rfl, _, rfl, ba, ma, xs, xs2, rfl, rfl, hB9.at', hM9.at', Nat.le_of_lt (small1000 (by omega)), fun t10 H10 g10 S10 => ?_⟩
      have hC10 : BookAt H10 rm t10 (xs ++ xs2) (bk ++ bk2) := (show BookAt H10 rm ba xs bk by walk_at "up").cat (show BookAt H10 rm ma xs2 bk2 by walk_at "up") g10
      refine ⟨_, rfl, _, rfl, t10, oa, pa, rm, _, _, one, chg one box wo, rfl, h8, hC10, by walk_at "up", hl, by walk_at "up", fun H11 S11 => ?_⟩
      have hB11 : BookAt H11 rm ba xs bk := by walk_at "up"
      have hM11 : BookAt H11 rm ma xs2 bk2 := by walk_at "up"
      have happ : whyF one (chg one box wo) 0 (bk ++ bk2) = beyondF f f2 xs.length := by
        rw [whyF_app, ← hf]
        unfold beyondF
        cases f with
        | some j => rfl
        | none =>
          show whyF one (chg one box wo) (0 + bk.length) bk2 = _
          rw [whyF_shift, ← hf2, hbl]
      rw [happ]
      refine ⟨_, rfl, _, rfl, _, rfl, _, _, rfl, .inr ⟨_, .of hB11.at', rfl⟩, f, f2, xs.length, rfl, scal_opt, _, rfl, iteFe (by simp) ?_⟩
      refine ⟨_, rfl, _, rfl, _, rfl, _, rfl, ba, ma, xs, xs2, rfl, rfl, hB11.at', hM11.at', Nat.le_of_lt (small1000 (by omega)), fun t12 H12 g12 S12 => ?_⟩
      have hC12 : BookAt H12 rm t12 (xs ++ xs2) (bk ++ bk2) := (show BookAt H12 rm ba xs bk by walk_at "up").cat (show BookAt H12 rm ma xs2 bk2 by walk_at "up") g12
      refine ⟨_, rfl, _, .non, t12, oa, rm, _, _, one, [], rfl, hrp, h8, hC12, hb, by walk_at "up", hl, .inl ⟨rfl, rfl⟩, fun l13 H13 n13 hl13 S13 => ?_⟩
      obtain ⟨ys13, hy13, hys13⟩ := hl13
      have hI13 : Is H13 (.lst ((betF (bk ++ bk2) one []).map stD)) (.ref l13) := ⟨l13, ys13, rfl, hy13, hys13⟩
      have hpa13 : H13 pa = some (.tup ((chg one box wo).map V.int)) := by walk_at "up"
      refine ⟨stD (chg one box wo), _, ⟨pa, _, rfl, hpa13, IsL.ints⟩, .inl hI13, eqOk_ints, eqOk_bet hC12.ok hl h8, fun b13 hb13 => ?_⟩
      have S13' : Same H H13 := by walk_at "up"
      rw [mem_stD, bet_app (rm := rm), hbw, bet_why (i := 0), ← hf2] at hb13
      refine ⟨_, rfl, _, rfl, ite2 (fun e => ⟨rfl, ?_⟩) (fun e => ⟨_, rfl, rfl, ?_⟩)⟩
      · have e' : f.isSome = true := by rw [← optV_non]; exact e
        rw [show b13 = true from hb13.mpr (.inl e')]
        exact k _ S13'
      · have e' : ¬ f.isSome = true := by rw [← optV_non]; exact e
        have hb2 : b13 = !decide (optV f2 = .non) := by
          rw [Bool.eq_iff_iff, hb13, optV_non]
          constructor
          · rintro (z | z)
            · exact absurd z e'
            · exact Option.isSome_iff_ne_none.mpr z
          · exact fun z => .inr (Option.isSome_iff_ne_none.mp z)
        rw [hb2, show decide (V.bl (if false = true then !(!decide (optV f2 = V.non)) else (!decide (optV f2 = V.non))) = V.bl (!decide (optV f2 = V.non))) = true by simp]
        exact k _ S13'
theorem ok__law_one_right (T : Txt K mg t) : FnOk P w K mg base CX0 4 t.f__law_one_right t.d__law_one_right ["_law_room_here", "_law_book_here", "_law_more", "_law_one", "_law_held"] spOneR := by
  have G_is_standing : FnOk P w K mg base CX0 3 t.f_is_standing t.d_is_standing ["room", "thing"] spStand := ok_is_standing T
  have G_betterings : FnOk P w K mg base CX0 2 t.f_betterings t.d_betterings ["room", "book", "standing", "held"] spBett := ok_betterings T
  refine T._law_one_right.F.okQ sc__law_one_right (fun vs H Q E h => ?_) (fun cdv A outer s H vs Q E hr h => ?_)
  · obtain ⟨ra, ba, ma, oa, ha, rm, one, hs, xs, xs2, bk, bk2, rfl, _⟩ := h
    rfl
  · obtain ⟨ra, ba, ma, oa, ha, rm, one, hs, xs, xs2, bk, bk2, rfl, hR, hB, hM, hx1, hx2, ho, hv, hh, hhl, hhb, k⟩ := h
    have h8 := hR.few
    have hb := hR.box
    have hrp := hR.pos
    have hbl := hB.len
    have hml := hM.len
    have hl := hv.len
    refine ⟨_, (qss_cons (qs_set (i := 5) sc__law_one_right.nd rfl (Or.inl rfl) (qe_fnD (dv := [.non]) T.betterings (.cons rfl .nil) G_betterings hr (qa_cons (qv 0) (qa_cons (qv 1) (qa_cons (qv 3) qa_nil)))))
      (qss_cons (qs_for PassesOwn.never rfl (qi_list (qv 5)) (qg_name (i := 6) sc__law_one_right.nd rfl (Or.inr rfl)) (qss_cons (qs_setC (ix := 7) sc__law_one_right.nd rfl rfl (N := ["_law_box", "_law_one", "_law_other"]) (cix := [none, some 3, some 6]) rfl ⟨rfl, by decide +kernel, rfl⟩ (qi_range1 rfl T.b_range (qa_cons (qe_callB cq_len (by rfl) T.b_len PySem.boot_len (qa_cons (qv 0) qa_nil)) qa_nil)) (fun _ _ _ _ => (qg_name (i := 0) (show (["_law_box", "_law_one", "_law_other"] : List Str).Nodup by decide +kernel) rfl (Or.inl rfl))) (fun _ _ _ _ => (qts_one (qt_cmpR oq_ne (qe_ix (xq_tupK K rfl) (qv 1) (qv 0) (fun _ _ => rfl)) (qe_ix (xq_tupK K rfl) (qv 2) (qv 0) (fun _ _ => rfl)) (nomark _)))) (fun _ _ _ _ => (qv 0)))
      (qss_one (qs_if (QW.pt (qw_or (qt_cmpR oq_isnot_bl (qe_fn T.is_standing G_is_standing hr (qa_cons (qv 0) (qa_cons (qv 6) qa_nil))) qe_bl (nomark _)) (qw_or1 (qt_cmpR oq_ne (qe_callB cq_len (by rfl) T.b_len PySem.boot_len (qa_cons (qv 7) qa_nil)) qe_int (nomark _))))) (qss_one (qs_ret qe_bl)) qss_nil))))
      (qss_cons (qs_setCC (ix := 8) sc__law_one_right.nd rfl rfl (N := ["_law_other", "_law_held", "_law_one"]) (z := "_law_other") (cix := [none, some 4, some 3]) rfl ⟨rfl, by decide +kernel, rfl⟩ (qi_list (qv 5)) (fun _ _ _ _ _ => (qg_name (i := 0) (show (["_law_other", "_law_held", "_law_one"] : List Str).Nodup by decide +kernel) rfl (Or.inr rfl))) (fun _ _ _ _ _ => (qts_one (qt_cmpR (oq_eqLI (hr.units)) (qe_compG (N := ["_law_box", "_law_one", "_law_other"]) (cix := [none, some 2, some 0]) rfl ⟨rfl, by decide +kernel, rfl⟩ (qi_tupK K rfl (qv 1)) (fun _ _ _ _ => (qg_name (i := 0) (show (["_law_box", "_law_one", "_law_other"] : List Str).Nodup by decide +kernel) rfl (Or.inl rfl))) (fun _ _ _ _ => (qts_one (qt_cmpR oq_ne (qe_ix (xq_tupK K rfl) (qv 1) (qv 0) (fun _ _ => rfl)) (qe_ix (xq_tupK K rfl) (qv 2) (qv 0) (fun _ _ => rfl)) (nomark _)))) (fun _ _ _ _ => (qv 0))) (qe_lstN qa_nil) (nomark _)))) (fun _ _ _ _ _ => (qv 0)))
      (qss_cons (qs_if (qt_cmpR (oq_neD hr.units) (qe_fnF T.betterings G_betterings hr (qa_cons (qv 0) (qa_cons (qv 1) (qa_cons (qv 3) (qa_cons (qv 4) qa_nil))))) (qv 8) (nomark _)) (qss_one (qs_ret qe_bl)) qss_nil)
      (qss_cons (qs_set (i := 9) sc__law_one_right.nd rfl (Or.inl rfl) (qe_callB (cq_sortS rfl) (by rfl) T.b_sorted PyProof.Rows.boot_sorted (qa_cons (qe_callTy (cq_setL hr.units rfl) (by rfl) T.b_set PyProof.Rows.boot_set (qa_cons (qe_op oq_catN (qv 5) (qe_fnD (dv := [.non]) T.betterings (.cons rfl .nil) G_betterings hr (qa_cons (qv 0) (qa_cons (qv 2) (qa_cons (qv 3) qa_nil))))) qa_nil)) qa_nil)))
      (qss_one (qs_ret (qe_and (qe_cmpR (oq_eqD hr.units) (qe_fnD (dv := [.non]) T.betterings (.cons rfl .nil) G_betterings hr (qa_cons (qv 0) (qa_cons (qe_op oq_catA (qv 1) (qv 2)) (qa_cons (qv 3) qa_nil)))) (qv 9) (nomark _)) (qe_one (qe_cmpR (oq_eqD hr.units) (qe_fnD (dv := [.non]) T.betterings (.cons rfl .nil) G_betterings hr (qa_cons (qv 0) (qa_cons (qe_op oq_catA (qv 2) (qv 1)) (qa_cons (qv 3) qa_nil)))) (qv 9) (nomark _))))))))))), ?_⟩
    refine ⟨_, rfl, _, rfl, _, rfl, _, .non, ba, oa, rm, xs, bk, one, [], rfl, hrp, h8, by walk_at "up", hb, by walk_at "up", hl, .inl ⟨rfl, rfl⟩, fun la H1 n1 hla S1 => ?_⟩
    obtain ⟨ys, hy1, hys⟩ := id hla
    have hyl := hys.length
    rw [List.length_map] at hyl
    have few := bet_few (hs := []) hB.ok h8 hb hl
    refine ⟨_, rfl, la, rfl, ⟨ys, SqL.of hy1⟩, for_list (K := K) (xs := ys) (fun i σ H2 => Same H1 H2 ∧ ∃ v6 v7, σ = [some (.ref ra), some (.ref ba), some (.ref ma), some (.ref oa), some (.ref ha), some (.ref la), v6, v7, none, none]) ⟨fun _ _ z => z, none, none, rfl⟩ (fun i σ H2 _ ⟨S, _⟩ => SqL.of (S _ _ hy1)) ?_ ?_⟩
    · rintro i y σ H2 hi ⟨S2, v6, v7, rfl⟩
      obtain ⟨e, he, his⟩ := (hys.stay (Stay.same S2)).get hi
      rw [List.getElem?_map] at he
      obtain ⟨z, hz, rfl⟩ := Option.map_eq_some_iff.mp he
      have hzm : z ∈ betF bk one [] := List.mem_of_getElem? hz
      have hzl := bet_lenD hB.ok hl z hzm
      obtain ⟨za, us, rfl, hza, hus⟩ := id his
      obtain rfl := hus.of_ints
      have hR2 : RoomAt H2 ra rm := by walk_at "up"
      have ho2 : H2 oa = some (.tup (one.map V.int)) := by walk_at "up"
      refine ⟨_, rfl, _, _, rfl, .inr ⟨_, .of hR2.at', rfl⟩, _, rfl, by rw [List.length_map]; omega, by rw [List.length_map]; omega, fun acc hacc => ?_⟩
      refine comp_range (n := (((rm.map V.int).length : Nat) : Int).toNat) hacc (fun i σ' H' => (∃ v, σ' = [v, some (.ref oa), some (.ref za)]) ∧ H' acc = some (.lst ((unlike one z ((List.range i).map fun i : Nat => (i : Int))).map V.int)) ∧ Same H2 H')
        (fun H' z1 z2 => ⟨⟨_, rfl⟩, z1, z2⟩) ?_ ?_
      · rintro i σ' H' hi ⟨⟨v, rfl⟩, hac, S'⟩
        rw [Int.toNat_natCast, List.length_map] at hi
        have ho' : H' oa = some (.tup (one.map V.int)) := by walk_at "up"
        have hza' : H' za = some (.tup (z.map V.int)) := by walk_at "up"
        have hle := unlike_le (one := one) (z := z) (l := (List.range i).map fun i : Nat => (i : Int))
        rw [List.length_map, List.length_range] at hle
        refine ⟨_, rfl, _, rfl, oa, _, _, _, rfl, rfl, .of ho', many_get (by omega) (by omega), _, rfl, _, rfl, za, _, _, _, rfl, rfl, .of hza', many_get (by omega) (by omega), rfl, _, rfl, ite2 (fun e => ?_) (fun e => ?_)⟩
        · have e' : many one (i : Int) ≠ many z (i : Int) := fun q => by
            rw [Int.zero_add, q] at e
            simp at e
          refine ⟨_, rfl, _, hac, small1000 (by rw [List.length_map]; omega), ⟨_, rfl⟩, ?_, same_acc hacc S'⟩
          rw [upd_same, List.range_succ, List.map_append, List.map_cons, List.map_nil, unlike_snoc, if_pos e', List.map_append, Int.zero_add]
          rfl
        · have e' : ¬ many one (i : Int) ≠ many z (i : Int) := fun q => e (by rw [Int.zero_add]; simp [q])
          refine ⟨⟨_, rfl⟩, ?_, S'⟩
          rw [List.range_succ, List.map_append, List.map_cons, List.map_nil, unlike_snoc, if_neg e']
          exact hac
      · rintro σ' H3 ⟨_, hac, S3⟩
        rw [Int.toNat_natCast, List.length_map] at hac
        have hz3 : Is H3 (stD z) (.ref za) := ⟨za, _, rfl, (show H3 za = some (.tup (z.map V.int)) by walk_at "up"), IsL.ints⟩
        refine ⟨_, rfl, _, rfl, ra, rm, .ref za, stD z, rfl, by walk_at "up", hz3, fun H4 S4 => ?_⟩
        rw [bet_stand hB.ok hv hzm]
        have hac4 : H4 acc = some (.lst ((unlike one z ((List.range rm.length).map fun i : Nat => (i : Int))).map V.int)) := by walk_at "up"
        refine ⟨true, true, rfl, rfl, _, rfl, iteFe rfl ?_⟩
        refine ⟨_, rfl, _, _, rfl, .inl ⟨_, SqL.of hac4, rfl⟩, rfl, _, rfl, iteFe ?_ ?_⟩
        · rw [List.length_map, bet_one hB.ok hl hzm]
          rfl
        · exact ⟨by walk_at "up", _, _, rfl⟩
    · rintro σ H2 ⟨S2, v6, v7, rfl⟩
      have hla2 : H2 la = some (.lst ys) := by walk_at "up"
      refine ⟨_, rfl, la, rfl, ⟨ys, SqL.of hla2⟩, fun acc hacc => ?_⟩
      refine comp_list (xs := ys) hacc (fun i σ' H' => (∃ v, σ' = [v, some (.ref ha), some (.ref oa)]) ∧ (∃ zs, H' acc = some (.lst zs) ∧ IsL H' ((((betF bk one []).take i).filter (fun z => decide (unlike one z hs = []))).map stD) zs) ∧ Same H2 H') (fun H' z1 z2 => ⟨⟨_, rfl⟩, ⟨[], z1, rfl⟩, z2⟩) (fun _ _ _ _ ⟨_, _, S⟩ => SqL.of (S _ _ hla2)) ?_ ?_
      · rintro i y σ' H' hy ⟨⟨v, rfl⟩, ⟨zs, hac, hzs⟩, S'⟩
        obtain ⟨e, he, his⟩ := (hys.stay (Stay.same (show Same H1 H' by walk_at "up"))).get hy
        rw [List.getElem?_map] at he
        obtain ⟨z, hz, rfl⟩ := Option.map_eq_some_iff.mp he
        have hzm : z ∈ betF bk one [] := List.mem_of_getElem? hz
        have hzl := bet_lenD hB.ok hl z hzm
        have hid := (List.getElem?_eq_some_iff.mp hz).1
        obtain ⟨za, us, rfl, hza, hus⟩ := id his
        obtain rfl := hus.of_ints
        have hzsl := hzs.length
        have hzle := List.length_filter_le (fun z => decide (unlike one z hs = [])) ((betF bk one []).take i)
        rw [List.length_take] at hzle
        rw [List.length_map] at hzsl
        have hh' : H' ha = some (.tup (hs.map V.int)) := by walk_at "up"
        refine ⟨_, rfl, ha, rfl, ⟨_, .of hh'⟩, fun acc2 hacc2 => ?_⟩
        refine comp_tup (xs := hs.map V.int) hacc2 (fun j σ'' H'' => (∃ v, σ'' = [v, some (.ref oa), some (.ref za)]) ∧ H'' acc2 = some (.lst ((unlike one z (hs.take j)).map V.int)) ∧ Same H' H'') (fun H' z1 z2 => ⟨⟨_, rfl⟩, z1, z2⟩) (fun _ _ _ _ ⟨_, _, S⟩ => .of (S _ _ hh')) ?_ ?_
        · rintro j y σ'' H'' hy ⟨⟨v, rfl⟩, hac2, S''⟩
          rw [List.getElem?_map] at hy
          obtain ⟨b, hb', rfl⟩ := Option.map_eq_some_iff.mp hy
          have hbb := hhb b (List.mem_of_getElem? hb')
          have hj := (List.getElem?_eq_some_iff.mp hb').1
          have htk : hs.take (j + 1) = hs.take j ++ [b] := take_succ_get hb'
          have ho'' : H'' oa = some (.tup (one.map V.int)) := by walk_at "up"
          have hza'' : H'' za = some (.tup (z.map V.int)) := by walk_at "up"
          have hle := unlike_le (one := one) (z := z) (l := hs.take j)
          rw [List.length_take] at hle
          refine ⟨_, rfl, _, rfl, oa, _, _, _, rfl, rfl, .of ho'', many_get (by omega) (by omega), _, rfl, _, rfl, za, _, _, _, rfl, rfl, .of hza'', many_get (by omega) (by omega), rfl, _, rfl, ite2 (fun e => ?_) (fun e => ?_)⟩
          · have e' : many one b ≠ many z b := fun q => by
              rw [q] at e
              simp at e
            refine ⟨_, rfl, _, hac2, small1000 (by rw [List.length_map]; omega), ⟨_, rfl⟩, ?_, same_acc hacc2 S''⟩
            rw [upd_same, htk, unlike_snoc, if_pos e', List.map_append]
            rfl
          · have e' : ¬ many one b ≠ many z b := fun q => e (by simp [q])
            refine ⟨⟨_, rfl⟩, ?_, S''⟩
            rw [htk, unlike_snoc, if_neg e']
            exact hac2
        · rintro σ'' H'' ⟨_, hac2, S''⟩
          rw [List.length_map, List.take_length] at hac2
          refine ⟨(by show 0 ≤ sizeLine; decide), fun e1 H3 _ g3 S3 => ?_⟩
          have hac3 : H3 acc2 = some (.lst ((unlike one z hs).map V.int)) := by walk_at "up"
          have hacc3 : H3 acc = some (.lst zs) := by walk_at "up"
          have htz : (betF bk one []).take (i + 1) = (betF bk one []).take i ++ [z] := take_succ_get hz
          refine ⟨acc2, e1, unlike one z hs, [], rfl, rfl, hac3, g3, _, rfl, ite2 (fun e => ?_) (fun e => ?_)⟩
          · have e' : decide (unlike one z hs = []) = true := e
            refine ⟨_, rfl, zs, hacc3, small1000 (by omega), ⟨_, rfl⟩, ⟨zs ++ [.ref za], upd_same, ?_⟩, same_acc hacc (by walk_at "up")⟩
            rw [htz, List.filter_append, List.filter_cons_of_pos (p := fun z => decide (unlike one z hs = [])) e', List.filter_nil, List.map_append]
            refine IsL.stayT (H := H3) (StayT.app hacc3) ?_ (IsL.append (by walk_at "up") (IsL.one ⟨za, _, rfl, (show H3 za = some (.tup (z.map V.int)) by walk_at "up"), IsL.ints⟩))
            rw [← List.map_append]
            exact noLs_sts _
          · have e' : ¬ decide (unlike one z hs = []) = true := e
            refine ⟨⟨_, rfl⟩, ⟨zs, hacc3, ?_⟩, by walk_at "up"⟩
            rw [htz, List.filter_append, List.filter_cons_of_neg (p := fun z => decide (unlike one z hs = [])) e', List.filter_nil, List.append_nil]
            exact (by walk_at "up")
      · rintro σ' H3 ⟨_, ⟨zs, hac, hzs⟩, S3⟩
        rw [show ys.length = (betF bk one []).length by rw [hyl], List.take_length, bet_free hB.ok hl hhb] at hzs
        have hh3 : H3 ha = some (.tup (hs.map V.int)) := by walk_at "up"
        refine ⟨_, rfl, _, rfl, _, rfl, _, rfl, _, .ref ha, ba, oa, rm, xs, bk, one, hs, rfl, hrp, h8, by walk_at "up", hb, by walk_at "up", hl, .inr ⟨ha, rfl, hh3⟩, fun l4 H4 n4 hl4 S4 => ?_⟩
        obtain ⟨ys4, hy4, hys4⟩ := hl4
        have hI4 : Is H4 (.lst ((betF bk one hs).map stD)) (.ref l4) := ⟨l4, ys4, rfl, hy4, hys4⟩
        have hJ4 : Is H4 (.lst ((betF bk one hs).map stD)) (.ref acc) := ⟨acc, zs, rfl, (show H4 acc = some (.lst zs) by walk_at "up"), hzs.stay (Stay.same S4)⟩
        refine ⟨_, rfl, _, _, hI4, hJ4, eqOk_bet hB.ok hl h8, eqOk_bet hB.ok hl h8, fun b hb' => ⟨_, rfl, iteFe (by rw [hb'.mpr rfl]; rfl) ?_⟩⟩
        -- both
        refine ⟨_, rfl, _, rfl, _, rfl, _, rfl, _, .non, ma, oa, rm, xs2, bk2, one, [], rfl, hrp, h8, by walk_at "up", hb, by walk_at "up", hl, .inl ⟨rfl, rfl⟩, fun l5 H5 n5 hl5 S5 => ?_⟩
        obtain ⟨ys5, hy5, hys5⟩ := hl5
        have hyl5 := hys5.length
        rw [List.length_map] at hyl5
        have few5 := bet_few (hs := []) hM.ok h8 hb hl
        have hla5 : H5 la = some (.lst ys) := by walk_at "up"
        have hys5' : IsL H5 ((betF bk one []).map stD) ys := by walk_at "up"
        refine ⟨la, l5, ys, ys5, rfl, rfl, hla5, hy5, Nat.le_of_lt (small1000 (by omega)), fun l6 H6 _ g6 S6 => ?_⟩
        have hys6 : IsL H6 ((betF bk one [] ++ betF bk2 one []).map stD) (ys ++ ys5) := by
          rw [List.map_append]
          exact (hys5'.append hys5).stay (Stay.same S6)
        refine ⟨l6, ys ++ ys5, betF bk one [] ++ betF bk2 one [], rfl, g6, hys6, by rw [List.length_append]; omega, fun l7 H7 ks n7 hset hmem S7 => ?_⟩
        have hnd : ks.Nodup := by
          obtain ⟨_, _, _, _, hnd⟩ := hset
          exact hnd
        have hlen : ∀ st ∈ ks, st.length = rm.length := fun st hst => by
          rcases List.mem_append.mp ((hmem st).mp hst) with q | q
          · exact bet_lenD hB.ok hl st q
          · exact bet_lenD hM.ok hl st q
        have hcat : ∀ x ∈ bk ++ bk2, WishOk rm x := fun x hx => (List.mem_append.mp hx).elim (hB.ok x) (hM.ok x)
        have hfew : ks.length ≤ 32 := goals_few hcat h8 hb hnd fun st hst => sortU_mem.mp ((bet_app (rm := rm)).mpr (List.mem_append.mp ((hmem st).mp hst)))
        refine ⟨l7, ks, rm.length, rfl, hset, by omega, hrp, hlen, fun ys8 sts8 hys8 hp8 hup8 l8 H8 _ g8 S8 => ?_⟩
        obtain ⟨q1, q2⟩ := bet_both hB.ok hM.ok hl hp8 hup8 hmem
        have hys8' : IsL H8 (sts8.map stD) ys8 := hys8.stay (Stay.same S8)
        have hB8 : BookAt H8 rm ba xs bk := by walk_at "up"
        have hM8 : BookAt H8 rm ma xs2 bk2 := by walk_at "up"
        refine ⟨_, rfl, _, rfl, _, rfl, ba, ma, xs, xs2, rfl, rfl, hB8.at', hM8.at', Nat.le_of_lt (small1000 (by omega)), fun t9 H9 g9 S9 => ?_⟩
        have hC9 : BookAt H9 rm t9 (xs ++ xs2) (bk ++ bk2) := (show BookAt H9 rm ba xs bk by walk_at "up").cat (show BookAt H9 rm ma xs2 bk2 by walk_at "up") g9
        refine ⟨_, rfl, _, .non, t9, oa, rm, _, _, one, [], rfl, hrp, h8, hC9, hb, by walk_at "up", hl, .inl ⟨rfl, rfl⟩, fun l10 H10 n10 hl10 S10 => ?_⟩
        obtain ⟨ys10, hy10, hys10⟩ := hl10
        have hI10 : Is H10 (.lst ((betF (bk ++ bk2) one []).map stD)) (.ref l10) := ⟨l10, ys10, rfl, hy10, hys10⟩
        have hJ10 : Is H10 (.lst ((betF (bk ++ bk2) one []).map stD)) (.ref l8) := ⟨l8, ys8, rfl, (show H10 l8 = some (.lst ys8) by walk_at "up"), by rw [← q1]; exact (by walk_at "up")⟩
        refine ⟨_, rfl, _, _, hI10, hJ10, eqOk_bet hC9.ok hl h8, eqOk_bet hC9.ok hl h8, fun b10 hb10 => ⟨_, rfl, iteTe (hb10.mpr rfl) ?_⟩⟩
        have hB10 : BookAt H10 rm ba xs bk := by walk_at "up"
        have hM10 : BookAt H10 rm ma xs2 bk2 := by walk_at "up"
        refine ⟨_, rfl, _, rfl, _, rfl, ma, ba, xs2, xs, rfl, rfl, hM10.at', hB10.at', Nat.le_of_lt (small1000 (by omega)), fun t11 H11 g11 S11 => ?_⟩
        have hC11 : BookAt H11 rm t11 (xs2 ++ xs) (bk2 ++ bk) := (show BookAt H11 rm ma xs2 bk2 by walk_at "up").cat (show BookAt H11 rm ba xs bk by walk_at "up") g11
        refine ⟨_, rfl, _, .non, t11, oa, rm, _, _, one, [], rfl, hrp, h8, hC11, hb, by walk_at "up", hl, .inl ⟨rfl, rfl⟩, fun l12 H12 n12 hl12 S12 => ?_⟩
        obtain ⟨ys12, hy12, hys12⟩ := hl12
        have hI12 : Is H12 (.lst ((betF (bk2 ++ bk) one []).map stD)) (.ref l12) := ⟨l12, ys12, rfl, hy12, hys12⟩
        have hJ12 : Is H12 (.lst ((betF (bk2 ++ bk) one []).map stD)) (.ref l8) := ⟨l8, ys8, rfl, (show H12 l8 = some (.lst ys8) by walk_at "up"), by rw [← q2]; exact (by walk_at "up")⟩
        refine ⟨_, rfl, _, _, hI12, hJ12, eqOk_bet hC11.ok hl h8, eqOk_bet hC11.ok hl h8, fun b12 hb12 => ?_⟩
        rw [show b12 = true from hb12.mpr rfl]
        exact k _ (by walk_at "up")
theorem ok_law (T : Txt K mg t) : FnOk P w K mg base CX0 7 t.f_law t.d_law ["_law_script"] (spLaw K) := by
  have G__law_pen : FnOk P w K mg base CX0 1 t.f__law_pen t.d__law_pen ["_law_script"] (spPen K) := ok__law_pen T
  have G__law_draw : FnOk P w K mg base CX0 1 t.f__law_draw t.d__law_draw ["_law_pen_here", "_law_many"] spDraw := ok__law_draw T
  have G__law_room : FnOk P w K mg base CX0 2 t.f__law_room t.d__law_room ["_law_pen_here", "_law_most"] spMkRoom := ok__law_room T
  have G__law_book : FnOk P w K mg base CX0 4 t.f__law_book t.d__law_book ["_law_pen_here", "_law_room_here", "_law_most"] spMkBook := ok__law_book T
  have G_is_book : FnOk P w K mg base CX0 6 t.f_is_book t.d_is_book ["room", "thing"] spBook := ok_is_book T
  have G_standings : FnOk P w K mg base CX0 2 t.f_standings t.d_standings ["room"] (spStandings K) := ok_standings T
  have G__law_one_right : FnOk P w K mg base CX0 4 t.f__law_one_right t.d__law_one_right ["_law_room_here", "_law_book_here", "_law_more", "_law_one", "_law_held"] spOneR := ok__law_one_right T
  have G__law_pair_right : FnOk P w K mg base CX0 3 t.f__law_pair_right t.d__law_pair_right ["_law_room_here", "_law_book_here", "_law_more", "_law_one", "_law_box", "_law_worth"] spPairR := ok__law_pair_right T
  refine T.law.F.okQ sc_law (fun vs H Q E h => ?_) (fun cdv A outer s H vs Q E hr h => ?_)
  · obtain ⟨a, ns, rfl, _⟩ := h
    rfl
  · obtain ⟨a, ns, rfl, hS, hl, k⟩ := h
    refine ⟨_, (qss_cons (qs_set (i := 1) sc_law.nd rfl (Or.inr rfl) (qe_fn T._law_pen G__law_pen hr (qa_cons (qv 0) qa_nil)))
      (qss_cons (qs_for PassesOwn.never rfl (qi_range1 rfl T.b_range (qa_cons qe_int qa_nil)) (qg_name (i := 2) sc_law.nd rfl (Or.inl rfl)) (qss_cons (qs_set (i := 3) sc_law.nd rfl (Or.inl rfl) (qe_fn T._law_room G__law_room hr (qa_cons (qv 1) (qa_cons (qe_ix xq_list (qe_lstN (qa_cons qe_int (qa_cons qe_int qa_nil))) (qe_fn T._law_draw G__law_draw hr (qa_cons (qv 1) (qa_cons qe_int qa_nil))) (fun _ _ => rfl)) qa_nil))))
      (qss_cons (qs_set (i := 4) sc_law.nd rfl (Or.inl rfl) (qe_fn T._law_book G__law_book hr (qa_cons (qv 1) (qa_cons (qv 3) (qa_cons qe_int qa_nil)))))
      (qss_cons (qs_set (i := 5) sc_law.nd rfl (Or.inl rfl) (qe_fn T._law_book G__law_book hr (qa_cons (qv 1) (qa_cons (qv 3) (qa_cons qe_int qa_nil)))))
      (qss_cons (qs_set (i := 6) sc_law.nd rfl (Or.inl rfl) (qe_callTy cq_tuple_ofN (by rfl) T.b_tuple PyProof.Rows.boot_tuple (qa_cons (qe_compG (N := ["_law_box", "_law_pen_here"]) (cix := [none, some 1]) rfl ⟨rfl, by decide +kernel, rfl⟩ (qi_range1 rfl T.b_range (qa_cons (qe_callB cq_len (by rfl) T.b_len PySem.boot_len (qa_cons (qv 3) qa_nil)) qa_nil)) (fun _ _ _ _ => (qg_name (i := 0) (show (["_law_box", "_law_pen_here"] : List Str).Nodup by decide +kernel) rfl (Or.inl rfl))) (fun _ _ _ _ => (qts_one (qt_cmpR oq_eq (qe_fn T._law_draw G__law_draw hr (qa_cons (qv 1) (qa_cons qe_int qa_nil))) qe_int (nomark _)))) (fun _ _ _ _ => (qv 0))) qa_nil)))
      (qss_cons (qs_if (qt_cmpR oq_isnot_bl (qe_fn T.is_book G_is_book hr (qa_cons (qv 3) (qa_cons (qe_op oq_catA (qv 4) (qv 5)) qa_nil))) qe_bl (nomark _)) (qss_one (qs_ret qe_bl)) qss_nil)
      (qss_cons (qs_set (i := 7) sc_law.nd rfl (Or.inl rfl) (qe_fn T.standings G_standings hr (qa_cons (qv 3) qa_nil)))
      (qss_cons (qs_set (i := 8) sc_law.nd rfl (Or.inl rfl) (qe_op oq_add qe_int (qe_op oq_mul (qe_fn T._law_draw G__law_draw hr (qa_cons (qv 1) (qa_cons qe_int qa_nil))) (qe_callTy cq_int1 (by rfl) T.b_int PyProof.Rows.boot_int (qa_cons (qe_cmpR oq_gt (qe_callB cq_len (by rfl) T.b_len PySem.boot_len (qa_cons (qv 7) qa_nil)) qe_int (nomark _)) qa_nil)))))
      (qss_cons (qs_for PassesOwn.never rfl (qi_list (qe_stepL (qv 7) (qv 8))) (qg_name (i := 9) sc_law.nd rfl (Or.inl rfl)) (qss_one (qs_if (qt_not (qt_val (qe_fn T._law_one_right G__law_one_right hr (qa_cons (qv 3) (qa_cons (qv 4) (qa_cons (qv 5) (qa_cons (qv 9) (qa_cons (qv 6) qa_nil)))))))) (qss_one (qs_ret qe_bl)) qss_nil)))
      (qss_one (qs_for PassesOwn.never rfl (qi_list (qe_stepL (qv 7) (qe_op oq_mul qe_int (qv 8)))) (qg_name (i := 9) sc_law.nd rfl (Or.inl rfl)) (qss_one (qs_for PassesOwn.never rfl (qi_range1 rfl T.b_range (qa_cons (qe_callB cq_len (by rfl) T.b_len PySem.boot_len (qa_cons (qv 3) qa_nil)) qa_nil)) (qg_name (i := 10) sc_law.nd rfl (Or.inl rfl)) (qss_one (qs_for PassesOwn.never rfl (qi_range1 rfl T.b_range (qa_cons (qe_ix xq_tup (qv 3) (qv 10) (fun _ _ => rfl)) qa_nil)) (qg_name (i := 11) sc_law.nd rfl (Or.inl rfl)) (qss_cons (qs_if (qt_cmpR oq_eq (qv 11) (qe_ix xq_tup (qv 9) (qv 10) (fun _ _ => rfl)) (nomark _)) (qss_one qs_continue) qss_nil)
      (qss_one (qs_if (qt_not (qt_val (qe_fn T._law_pair_right G__law_pair_right hr (qa_cons (qv 3) (qa_cons (qv 4) (qa_cons (qv 5) (qa_cons (qv 9) (qa_cons (qv 10) (qa_cons (qv 11) qa_nil))))))))) (qss_one (qs_ret qe_bl)) qss_nil))))))))))))))))))
      (qss_one (qs_ret qe_bl)))), ?_⟩
    refine ⟨_, rfl, a, ns, rfl, hS, hl, fun p c H1 P1 S1 => ?_⟩
    refine ⟨2, rfl, by decide, by decide, for_range (lo := 0) (n := 2) (fun i σ H3 => ∃ v2 v3 v4 v5 v6 v7 v8 v9 v10 v11, σ = [some (.ref a), some (.ref p), v2, v3, v4, v5, v6, v7, v8, v9, v10, v11] ∧ Pen H3 p c ns (10000 * i)) ⟨none, none, none, none, none, none, none, none, none, none, rfl, P1⟩ ?_ ?_⟩
    · rintro i σ H3 hi ⟨v2, v3, v4, v5, v6, v7, v8, v9, v10, v11, rfl, P3⟩
      refine ⟨_, rfl, (by show 2 ≤ sizeLine; decide), fun l1 H4 _ g4 S4 => ?_⟩
      refine ⟨_, rfl, p, c, ns, 10000 * i, 2, rfl, by walk_at "up", by omega, by decide, by decide, fun r H5 r0 r1 P5 S5 => ?_⟩
      obtain ⟨mv, hat, hmem⟩ := atI_mem (xs := [.int 64, .int 16]) (i := r) r0 (by simpa using r1)
      obtain ⟨most, rfl, mm0, mm1⟩ : ∃ most : Int, mv = .int most ∧ 4 ≤ most ∧ most ≤ 256 := by
        simp at hmem
        rcases hmem with rfl | rfl
        all_goals exact ⟨_, rfl, by omega, by omega⟩
      have g5 : H5 l1 = some (.lst [.int 64, .int 16]) := by walk_at "up"
      refine ⟨l1, _, _, _, rfl, rfl, SqL.of g5, hat, p, c, ns, 10000 * i + 1, most, rfl, P5, by omega, mm0, mm1, fun ra rm H6 hra hne h8 hb hp P6 S6 => ?_⟩
      have hR6 : RoomAt H6 ra rm := ⟨hra, hne, h8, hb⟩
      have hrp := hR6.pos
      refine ⟨_, rfl, _, rfl, p, c, ra, ns, rm, 10000 * i + 1 + 10, 14, rfl, P6, by omega, by decide, by decide, hR6, fun ba xs H7 hba A7 hxl P7 S7 => ?_⟩
      obtain ⟨bk, hB7⟩ := A7.bookAt hba
      have hR7 : RoomAt H7 ra rm := by walk_at "up"
      refine ⟨_, rfl, _, rfl, p, c, ra, ns, rm, 10000 * i + 1 + 10 + 2000, 6, rfl, P7, by omega, by decide, by decide, hR7, fun ma xs2 H8 hma A8 hxl2 P8 S8 => ?_⟩
      obtain ⟨bk2, hM8⟩ := A8.bookAt hma
      have hR8 : RoomAt H8 ra rm := by walk_at "up"
      have hB8 : BookAt H8 rm ba xs bk := by walk_at "up"
      -- the held boxes
      refine ⟨_, rfl, _, _, rfl, .inr ⟨_, .of hR8.at', rfl⟩, _, rfl, by rw [List.length_map]; omega, by rw [List.length_map]; omega, fun acc hacc => ?_⟩
      have hca : c ≠ acc := ne_of_none P8.ls hacc
      refine comp_range (n := (((rm.map V.int).length : Nat) : Int).toNat) hacc (fun j σ' H' => (∃ v, σ' = [v, some (.ref p)]) ∧ ∃ hs : List Int, H' acc = some (.lst (hs.map V.int)) ∧ hs.length ≤ j ∧ (∀ b ∈ hs, 0 ≤ b ∧ b < (j : Int)) ∧ Pen H' p c ns (10000 * i + 4011 + j) ∧ Stay H8 H')
        (fun H' z1 z2 => ⟨⟨_, rfl⟩, [], z1, Nat.le_refl _, fun b hb => by simp at hb, (P8.same z2).mono (by omega), Stay.same z2⟩) ?_ ?_
      · rintro j σ' H' hj ⟨⟨v, rfl⟩, hs, hac, hsl, hsb, P', S'⟩
        rw [Int.toNat_natCast, List.length_map] at hj
        refine ⟨_, rfl, p, c, ns, 10000 * i + 4011 + j, 2, rfl, P', by omega, by decide, by decide, fun r H9 _ _ P9 S9 => ⟨rfl, _, rfl, ite2 (fun h1 => ?_) (fun h1 => ?_)⟩⟩
        · have hac9 : H9 acc = some (.lst (hs.map V.int)) := by walk_at "up"
          refine ⟨_, rfl, _, hac9, small1000 (by rw [List.length_map]; omega), ⟨_, rfl⟩, hs ++ [0 + (j : Int)], by rw [upd_same, List.map_append]; rfl, by rw [List.length_append]; show hs.length + 1 ≤ j + 1; omega, fun b hb => ?_, P9.app hac9 hca, stay_acc hacc (by walk_at "up")⟩
          rcases List.mem_append.mp hb with q | q
          · have := hsb b q
            omega
          · rw [List.mem_singleton.mp q]
            omega
        · exact ⟨⟨_, rfl⟩, hs, by walk_at "up", by omega, fun b hb => by have := hsb b hb; omega, P9, by walk_at "up"⟩
      · rintro σ' H' ⟨_, hs, hac, hsl, hsb, P', S'⟩
        rw [Int.toNat_natCast, List.length_map] at hsl P' hsb
        refine ⟨acc, _, rfl, .inl ⟨.of hac, fun ha H9 _ g9 S9 => ?_⟩⟩
        have P9 : Pen H9 p c ns (10000 * i + 4011 + rm.length) := by walk_at "up"
        have S89 : Stay H8 H9 := by walk_at "up"
        have hR9 := hR8.stay S89
        have hB9 := hB8.stay S89
        have hM9 := hM8.stay S89
        clear S9 P' S' hac
        have hbl := hB9.len
        have hml := hM9.len
        refine ⟨_, rfl, _, rfl, _, rfl, ba, ma, xs, xs2, rfl, rfl, hB9.at', hM9.at', Nat.le_of_lt (small1000 (by omega)), fun t10 H10 g10 S10 => ?_⟩
        have hC10 : BookAt H10 rm t10 (xs ++ xs2) (bk ++ bk2) := (show BookAt H10 rm ba xs bk by walk_at "up").cat (show BookAt H10 rm ma xs2 bk2 by walk_at "up") g10
        refine ⟨ra, rm, .ref t10, .tup ((bk ++ bk2).map wishD), rfl, by walk_at "up", ⟨t10, _, rfl, hC10.at', hC10.is⟩, fun H11 S11 => ?_⟩
        rw [hC10.bookB (by rw [List.length_append]; omega)]
        refine ⟨true, true, rfl, rfl, _, rfl, iteFe rfl ?_⟩
        have hR11 : RoomAt H11 ra rm := by walk_at "up"
        refine ⟨_, rfl, ra, rm, rfl, hR11, fun la ys H12 n12 g12 his S12 => ?_⟩
        have P12 : Pen H12 p c ns (10000 * i + 4011 + rm.length) := by walk_at "up"
        refine ⟨_, rfl, p, c, ns, 10000 * i + 4011 + rm.length, 3, rfl, P12, by omega, by decide, by decide, fun r H13 r0' r1' P13 S13 => ?_⟩
        have g13 : H13 la = some (.lst ys) := by walk_at "up"
        refine ⟨_, rfl, _, _, rfl, .inl ⟨_, SqL.of g13, rfl⟩, _, _, rfl, rfl, .inr ⟨_, rfl, ?_⟩⟩
        generalize hq : (if decide ((16 : Int) < ((ys.length : Nat) : Int)) = true then (1 : Int) else 0) = q
        have hq01 : q = 0 ∨ q = 1 := by rw [← hq]; split <;> simp
        refine ⟨r, q, rfl, rfl, .inl ⟨by omega, by omega⟩, 1, r * q, rfl, rfl, ?_⟩
        obtain ⟨step, hst, hs1, hs4⟩ : ∃ step : Int, step = 1 + r * q ∧ 1 ≤ step ∧ step ≤ 3 := by
          refine ⟨_, rfl, ?_, ?_⟩ <;> rcases hq01 with rfl | rfl <;> simp <;> omega
        show gName 8 (V.int (1 + r * q)) _ _ _
        rw [← hst]
        have hha13 : H13 ha = some (.tup (hs.map V.int)) := by walk_at "up"
        have his13 : IsL H13 ((allC (rm.map rangeI)).map stD) ys := by walk_at "up"
        have S812 : Stay H8 H13 := by walk_at "up"
        have hR13 := hR8.stay S812
        have hB13 := hB8.stay S812
        have hM13 := hM8.stay S812
        have hval : ∀ y ∈ ys, ∀ H', Same H13 H' → ∃ sa st, y = .ref sa ∧ H' sa = some (.tup (st.map V.int)) ∧ Valid rm st := fun y hy H' S => by
          obtain ⟨j, hj⟩ := List.mem_iff_getElem?.mp hy
          obtain ⟨d, hd, hi'⟩ := (his13.stay (Stay.same S)).get hj
          rw [room_all, List.getElem?_map, List.getElem?_map] at hd
          obtain ⟨st, hst', rfl⟩ := Option.map_eq_some_iff.mp hd
          obtain ⟨k0, _, rfl⟩ := Option.map_eq_some_iff.mp hst'
          obtain ⟨sa, us, rfl, hsa, hus⟩ := hi'
          obtain rfl := hus.of_ints
          have := digs_valid (rr := rm.reverse) k0 fun m hm => by have := hb m (List.mem_reverse.mp hm); omega
          rw [List.reverse_reverse] at this
          exact ⟨sa, _, rfl, hsa, this⟩
        have P13' : Pen H13 p c ns (10000 * (i + 1)) := P13.mono (by omega)
        clear S812 S13 S12 S11 S10 P13 P12 his
        refine ⟨_, rfl, la, ys, rfl, g13, _, rfl, step, rfl, hs1, g13, fun zs hzs hzl l14 H14 _ g14 S14 => ?_⟩
        refine ⟨l14, rfl, ⟨zs, SqL.of g14⟩, for_list (K := K) (xs := zs) (fun j σ H15 => Same H14 H15 ∧ ∃ v9 v10 v11, σ = [some (.ref a), some (.ref p), some (.int (0 + (i : Int))), some (.ref ra), some (.ref ba), some (.ref ma), some (.ref ha), some (.ref la), some (.int step), v9, v10, v11]) ⟨fun _ _ z => z, _, _, _, rfl⟩ (fun j σ H15 _ ⟨S, _⟩ => SqL.of (S _ _ g14)) ?_ ?_⟩
        · rintro j y σ H15 hj ⟨S15, v9, v10, v11, rfl⟩
          obtain ⟨sa, st, rfl, hsa, hv⟩ := hval y (hzs y (List.mem_of_getElem? hj)) H15 (by walk_at "up")
          have hha15 : H15 ha = some (.tup (hs.map V.int)) := by walk_at "up"
          refine ⟨_, rfl, _, rfl, _, rfl, _, rfl, _, rfl, ra, ba, ma, sa, ha, rm, st, hs, xs, xs2, bk, bk2, rfl, by walk_at "up", by walk_at "up", by walk_at "up", by omega, by omega, hsa, hv, hha15, by omega, hsb, fun H16 S16 => ⟨_, rfl, iteF ?_⟩⟩
          exact ⟨by walk_at "up", _, _, _, rfl⟩
        · rintro σ H15 ⟨S15, v9, v10, v11, rfl⟩
          have g15 : H15 la = some (.lst ys) := by walk_at "up"
          have S1315 : Same H13 H15 := by walk_at "up"
          refine ⟨_, rfl, la, ys, rfl, g15, _, rfl, 8, step, rfl, rfl, .inl ⟨by omega, by omega⟩, 8 * step, rfl, by omega, g15, fun zs hzs hzl l16 H16 _ g16 S16 => ?_⟩
          have S1316 : Same H13 H16 := by walk_at "up"
          refine ⟨l16, rfl, ⟨zs, SqL.of g16⟩, for_list (K := K) (xs := zs) (fun j σ H17 => Same H16 H17 ∧ ∃ v9 v10 v11, σ = [some (.ref a), some (.ref p), some (.int (0 + (i : Int))), some (.ref ra), some (.ref ba), some (.ref ma), some (.ref ha), some (.ref la), some (.int step), v9, v10, v11]) ⟨fun _ _ z => z, _, _, _, rfl⟩ (fun j σ H17 _ ⟨S, _⟩ => SqL.of (S _ _ g16)) ?_ ?_⟩
          · rintro j y σ H17 hj ⟨S17, v9, v10, v11, rfl⟩
            obtain ⟨sa, st, rfl, hsa, hv⟩ := hval y (hzs y (List.mem_of_getElem? hj)) H17 (by walk_at "up")
            have hvl := hv.len
            have hR17 : RoomAt H17 ra rm := by walk_at "up"
            have hB17 : BookAt H17 rm ba xs bk := by walk_at "up"
            have hM17 : BookAt H17 rm ma xs2 bk2 := by walk_at "up"
            refine ⟨_, rfl, _, _, rfl, .inr ⟨_, .of hR17.at', rfl⟩, rm.length, (by rw [List.length_map]), by omega, by omega, for_range (lo := 0) (n := rm.length) (fun m σ H18 => Same H17 H18 ∧ ∃ v10 v11, σ = [some (.ref a), some (.ref p), some (.int (0 + (i : Int))), some (.ref ra), some (.ref ba), some (.ref ma), some (.ref ha), some (.ref la), some (.int step), some (.ref sa), v10, v11]) ⟨fun _ _ z => z, _, _, rfl⟩ ?_ ?_⟩
            · rintro m σ H18 hm ⟨S18, v10, v11, rfl⟩
              have hR18 : RoomAt H18 ra rm := by walk_at "up"
              have hmm := (hR18.get (i := 0 + (m : Int)) (by omega) (by omega)).2
              refine ⟨_, rfl, _, rfl, ra, _, _, _, rfl, rfl, .of hR18.at', (hR18.get (by omega) (by omega)).1, _, rfl, by omega, by omega, for_range (lo := 0) (n := (many rm (0 + (m : Int))).toNat) (fun n σ H19 => Same H18 H19 ∧ ∃ v11, σ = [some (.ref a), some (.ref p), some (.int (0 + (i : Int))), some (.ref ra), some (.ref ba), some (.ref ma), some (.ref ha), some (.ref la), some (.int step), some (.ref sa), some (.int (0 + (m : Int))), v11]) ⟨fun _ _ z => z, _, rfl⟩ ?_ ?_⟩
              · rintro n σ H19 hn ⟨S19, v11, rfl⟩
                have hsa19 : H19 sa = some (.tup (st.map V.int)) := by walk_at "up"
                refine ⟨_, rfl, _, rfl, _, rfl, sa, _, _, _, rfl, rfl, .of hsa19, many_get (by omega) (by omega), rfl, _, rfl, ite2 (fun e => ?_) (fun e => ?_)⟩
                · exact ⟨S19, _, rfl⟩
                · refine ⟨_, rfl, _, rfl, _, rfl, _, rfl, _, rfl, _, rfl, ra, ba, ma, sa, 0 + (m : Int), 0 + (n : Int), rm, st, xs, xs2, bk, bk2, rfl, by walk_at "up", by walk_at "up", by walk_at "up", by omega, by omega, hsa19, hvl, by omega, by omega, fun H20 S20 => ⟨_, rfl, iteF ?_⟩⟩
                  exact ⟨by walk_at "up", _, rfl⟩
              · rintro σ H19 ⟨S19, v11, rfl⟩
                exact ⟨by walk_at "up", _, _, rfl⟩
            · rintro σ H18 ⟨S18, v10, v11, rfl⟩
              exact ⟨by walk_at "up", _, _, _, rfl⟩
          · rintro σ H17 ⟨S17, v9, v10, v11, rfl⟩
            have P17 : Pen H17 p c ns (10000 * (i + 1)) := by walk_at "up"
            exact ⟨_, _, _, _, _, _, _, _, _, _, rfl, P17⟩
    · rintro σ H3 ⟨v2, v3, v4, v5, v6, v7, v8, v9, v10, v11, rfl, P3⟩
      exact k _
end
theorem all_mk {l : PySem.W.OpenLaw} {w : World} {K : PySem.W.Frag} {h : Heap} {mg : Str → Option Value} {fa f0 f1 f2 f3 f4 f5 f6 f7 f8 f9 f10 f11 f12 f13 f14 f15 f16 f17 f18 f19 f20 f21 f22 f23 f24 f25 f26 : Addr} (X : K.In h) (G : h.Ns mainGlobals mg) (hfa : mg "law" = some (.ref fa))
    {od0 an0 od1 an1 od2 an2 od3 an3 od4 an4 od5 an5 od6 an6 od7 an7 od8 an8 od9 an9 od10 an10 od11 an11 od12 an12 od13 an13 od14 an14 od15 an15 od16 an16 od17 an17 od18 an18 od19 an19 od20 an20 od21 an21 od22 an22 od23 an23 od24 an24 od25 an25 od26 an26 : Option Addr} {sl0 sl1 sl2 sl3 sl4 sl5 sl6 sl7 sl8 sl9 sl10 sl11 sl12 sl13 sl14 sl15 sl16 sl17 sl18 sl19 sl20 sl21 sl22 sl23 sl24 sl25 sl26 : Array (Option Value)} {oc0 kV0 dc0 pm0 cd0 ct0 oc1 kV1 dc1 pm1 cd1 ct1 oc2 kV2 dc2 pm2 cd2 ct2 oc3 kV3 dc3 pm3 cd3 ct3 oc4 kV4 dc4 pm4 cd4 ct4 oc5 kV5 dc5 pm5 cd5 ct5 oc6 kV6 dc6 pm6 cd6 ct6 oc7 kV7 dc7 pm7 cd7 ct7 oc8 kV8 dc8 pm8 cd8 ct8 oc9 kV9 dc9 pm9 cd9 ct9 oc10 kV10 dc10 pm10 cd10 ct10 oc11 kV11 dc11 pm11 cd11 ct11 oc12 kV12 dc12 pm12 cd12 ct12 oc13 kV13 dc13 pm13 cd13 ct13 oc14 kV14 dc14 pm14 cd14 ct14 oc15 kV15 dc15 pm15 cd15 ct15 oc16 kV16 dc16 pm16 cd16 ct16 oc17 kV17 dc17 pm17 cd17 ct17 oc18 kV18 dc18 pm18 cd18 ct18 oc19 kV19 dc19 pm19 cd19 ct19 oc20 kV20 dc20 pm20 cd20 ct20 oc21 kV21 dc21 pm21 cd21 ct21 oc22 kV22 dc22 pm22 cd22 ct22 oc23 kV23 dc23 pm23 cd23 ct23 oc24 kV24 dc24 pm24 cd24 ct24 oc25 kV25 dc25 pm25 cd25 ct25 oc26 kV26 dc26 pm26 cd26 ct26 : Value}
    (a0 : PySem.W.nsIn K mainGlobals "is_whole" = some (some (.ref f0))) (l0 : K.lookup f0 = some ⟨oc0, od0, .func (PySem.W.fnOf "is_whole" "is_whole" (defArgs s_is_whole) (defBody s_is_whole) (defScope s_is_whole) .none kV0 dc0 pm0 an0 cd0 ct0), sl0⟩) (c0 : PySem.W.codeIn K cd0 "is_whole" = true) (k0 : PySem.W.keepIn K (.ref f0) = true)
    (a1 : PySem.W.nsIn K mainGlobals "is_box" = some (some (.ref f1))) (l1 : K.lookup f1 = some ⟨oc1, od1, .func (PySem.W.fnOf "is_box" "is_box" (defArgs s_is_box) (defBody s_is_box) (defScope s_is_box) .none kV1 dc1 pm1 an1 cd1 ct1), sl1⟩) (c1 : PySem.W.codeIn K cd1 "is_box" = true) (k1 : PySem.W.keepIn K (.ref f1) = true)
    (a2 : PySem.W.nsIn K mainGlobals "is_worth" = some (some (.ref f2))) (l2 : K.lookup f2 = some ⟨oc2, od2, .func (PySem.W.fnOf "is_worth" "is_worth" (defArgs s_is_worth) (defBody s_is_worth) (defScope s_is_worth) .none kV2 dc2 pm2 an2 cd2 ct2), sl2⟩) (c2 : PySem.W.codeIn K cd2 "is_worth" = true) (k2 : PySem.W.keepIn K (.ref f2) = true)
    (a3 : PySem.W.nsIn K mainGlobals "is_standing" = some (some (.ref f3))) (l3 : K.lookup f3 = some ⟨oc3, od3, .func (PySem.W.fnOf "is_standing" "is_standing" (defArgs s_is_standing) (defBody s_is_standing) (defScope s_is_standing) .none kV3 dc3 pm3 an3 cd3 ct3), sl3⟩) (c3 : PySem.W.codeIn K cd3 "is_standing" = true) (k3 : PySem.W.keepIn K (.ref f3) = true)
    (a4 : PySem.W.nsIn K mainGlobals "combined" = some (some (.ref f4))) (l4 : K.lookup f4 = some ⟨oc4, od4, .func (PySem.W.fnOf "combined" "combined" (defArgs s_combined) (defBody s_combined) (defScope s_combined) .none kV4 dc4 pm4 an4 cd4 ct4), sl4⟩) (c4 : PySem.W.codeIn K cd4 "combined" = true) (k4 : PySem.W.keepIn K (.ref f4) = true)
    (a5 : PySem.W.nsIn K mainGlobals "standings" = some (some (.ref f5))) (l5 : K.lookup f5 = some ⟨oc5, od5, .func (PySem.W.fnOf "standings" "standings" (defArgs s_standings) (defBody s_standings) (defScope s_standings) .none kV5 dc5 pm5 an5 cd5 ct5), sl5⟩) (c5 : PySem.W.codeIn K cd5 "standings" = true) (k5 : PySem.W.keepIn K (.ref f5) = true)
    (a6 : PySem.W.nsIn K mainGlobals "changed" = some (some (.ref f6))) (l6 : K.lookup f6 = some ⟨oc6, od6, .func (PySem.W.fnOf "changed" "changed" (defArgs s_changed) (defBody s_changed) (defScope s_changed) .none kV6 dc6 pm6 an6 cd6 ct6), sl6⟩) (c6 : PySem.W.codeIn K cd6 "changed" = true) (k6 : PySem.W.keepIn K (.ref f6) = true)
    (a7 : PySem.W.nsIn K mainGlobals "is_choice" = some (some (.ref f7))) (l7 : K.lookup f7 = some ⟨oc7, od7, .func (PySem.W.fnOf "is_choice" "is_choice" (defArgs s_is_choice) (defBody s_is_choice) (defScope s_is_choice) .none kV7 dc7 pm7 an7 cd7 ct7), sl7⟩) (c7 : PySem.W.codeIn K cd7 "is_choice" = true) (k7 : PySem.W.keepIn K (.ref f7) = true)
    (a8 : PySem.W.nsIn K mainGlobals "is_given" = some (some (.ref f8))) (l8 : K.lookup f8 = some ⟨oc8, od8, .func (PySem.W.fnOf "is_given" "is_given" (defArgs s_is_given) (defBody s_is_given) (defScope s_is_given) .none kV8 dc8 pm8 an8 cd8 ct8), sl8⟩) (c8 : PySem.W.codeIn K cd8 "is_given" = true) (k8 : PySem.W.keepIn K (.ref f8) = true)
    (a9 : PySem.W.nsIn K mainGlobals "keeps" = some (some (.ref f9))) (l9 : K.lookup f9 = some ⟨oc9, od9, .func (PySem.W.fnOf "keeps" "keeps" (defArgs s_keeps) (defBody s_keeps) (defScope s_keeps) .none kV9 dc9 pm9 an9 cd9 ct9), sl9⟩) (c9 : PySem.W.codeIn K cd9 "keeps" = true) (k9 : PySem.W.keepIn K (.ref f9) = true)
    (a10 : PySem.W.nsIn K mainGlobals "why" = some (some (.ref f10))) (l10 : K.lookup f10 = some ⟨oc10, od10, .func (PySem.W.fnOf "why" "why" (defArgs s_why) (defBody s_why) (defScope s_why) .none kV10 dc10 pm10 an10 cd10 ct10), sl10⟩) (c10 : PySem.W.codeIn K cd10 "why" = true) (k10 : PySem.W.keepIn K (.ref f10) = true)
    {dT11 : Addr}
    (a11 : PySem.W.nsIn K mainGlobals "betterings" = some (some (.ref f11))) (l11 : K.lookup f11 = some ⟨oc11, od11, .func (PySem.W.fnOf "betterings" "betterings" (defArgs s_betterings) (defBody s_betterings) (defScope s_betterings) (.ref dT11) kV11 dc11 pm11 an11 cd11 ct11), sl11⟩) (c11 : PySem.W.codeIn K cd11 "betterings" = true) (k11 : PySem.W.keepIn K (.ref f11) = true)
    {dot11 : Value} {dod11 : Option Addr} {dn11 : Nat} {dsl11 : Array (Option Value)} (t11 : K.lookup dT11 = some ⟨dot11, dod11, .seq #[Value.none] dn11, dsl11⟩)
    (a12 : PySem.W.nsIn K mainGlobals "local_pairs" = some (some (.ref f12))) (l12 : K.lookup f12 = some ⟨oc12, od12, .func (PySem.W.fnOf "local_pairs" "local_pairs" (defArgs s_local_pairs) (defBody s_local_pairs) (defScope s_local_pairs) .none kV12 dc12 pm12 an12 cd12 ct12), sl12⟩) (c12 : PySem.W.codeIn K cd12 "local_pairs" = true) (k12 : PySem.W.keepIn K (.ref f12) = true)
    (a13 : PySem.W.nsIn K mainGlobals "is_wish" = some (some (.ref f13))) (l13 : K.lookup f13 = some ⟨oc13, od13, .func (PySem.W.fnOf "is_wish" "is_wish" (defArgs s_is_wish) (defBody s_is_wish) (defScope s_is_wish) .none kV13 dc13 pm13 an13 cd13 ct13), sl13⟩) (c13 : PySem.W.codeIn K cd13 "is_wish" = true) (k13 : PySem.W.keepIn K (.ref f13) = true)
    (a14 : PySem.W.nsIn K mainGlobals "is_book" = some (some (.ref f14))) (l14 : K.lookup f14 = some ⟨oc14, od14, .func (PySem.W.fnOf "is_book" "is_book" (defArgs s_is_book) (defBody s_is_book) (defScope s_is_book) .none kV14 dc14 pm14 an14 cd14 ct14), sl14⟩) (c14 : PySem.W.codeIn K cd14 "is_book" = true) (k14 : PySem.W.keepIn K (.ref f14) = true)
    (a15 : PySem.W.nsIn K mainGlobals "turned" = some (some (.ref f15))) (l15 : K.lookup f15 = some ⟨oc15, od15, .func (PySem.W.fnOf "turned" "turned" (defArgs s_turned) (defBody s_turned) (defScope s_turned) .none kV15 dc15 pm15 an15 cd15 ct15), sl15⟩) (c15 : PySem.W.codeIn K cd15 "turned" = true) (k15 : PySem.W.keepIn K (.ref f15) = true)
    (a16 : PySem.W.nsIn K mainGlobals "_law_pen" = some (some (.ref f16))) (l16 : K.lookup f16 = some ⟨oc16, od16, .func (PySem.W.fnOf "_law_pen" "_law_pen" (defArgs s__law_pen) (defBody s__law_pen) (defScope s__law_pen) .none kV16 dc16 pm16 an16 cd16 ct16), sl16⟩) (c16 : PySem.W.codeIn K cd16 "_law_pen" = true) (k16 : PySem.W.keepIn K (.ref f16) = true)
    (a17 : PySem.W.nsIn K mainGlobals "_law_draw" = some (some (.ref f17))) (l17 : K.lookup f17 = some ⟨oc17, od17, .func (PySem.W.fnOf "_law_draw" "_law_draw" (defArgs s__law_draw) (defBody s__law_draw) (defScope s__law_draw) .none kV17 dc17 pm17 an17 cd17 ct17), sl17⟩) (c17 : PySem.W.codeIn K cd17 "_law_draw" = true) (k17 : PySem.W.keepIn K (.ref f17) = true)
    (a18 : PySem.W.nsIn K mainGlobals "_law_size" = some (some (.ref f18))) (l18 : K.lookup f18 = some ⟨oc18, od18, .func (PySem.W.fnOf "_law_size" "_law_size" (defArgs s__law_size) (defBody s__law_size) (defScope s__law_size) .none kV18 dc18 pm18 an18 cd18 ct18), sl18⟩) (c18 : PySem.W.codeIn K cd18 "_law_size" = true) (k18 : PySem.W.keepIn K (.ref f18) = true)
    (a19 : PySem.W.nsIn K mainGlobals "_law_room" = some (some (.ref f19))) (l19 : K.lookup f19 = some ⟨oc19, od19, .func (PySem.W.fnOf "_law_room" "_law_room" (defArgs s__law_room) (defBody s__law_room) (defScope s__law_room) .none kV19 dc19 pm19 an19 cd19 ct19), sl19⟩) (c19 : PySem.W.codeIn K cd19 "_law_room" = true) (k19 : PySem.W.keepIn K (.ref f19) = true)
    (a20 : PySem.W.nsIn K mainGlobals "_law_given" = some (some (.ref f20))) (l20 : K.lookup f20 = some ⟨oc20, od20, .func (PySem.W.fnOf "_law_given" "_law_given" (defArgs s__law_given) (defBody s__law_given) (defScope s__law_given) .none kV20 dc20 pm20 an20 cd20 ct20), sl20⟩) (c20 : PySem.W.codeIn K cd20 "_law_given" = true) (k20 : PySem.W.keepIn K (.ref f20) = true)
    (a21 : PySem.W.nsIn K mainGlobals "_law_wish" = some (some (.ref f21))) (l21 : K.lookup f21 = some ⟨oc21, od21, .func (PySem.W.fnOf "_law_wish" "_law_wish" (defArgs s__law_wish) (defBody s__law_wish) (defScope s__law_wish) .none kV21 dc21 pm21 an21 cd21 ct21), sl21⟩) (c21 : PySem.W.codeIn K cd21 "_law_wish" = true) (k21 : PySem.W.keepIn K (.ref f21) = true)
    (a22 : PySem.W.nsIn K mainGlobals "_law_book" = some (some (.ref f22))) (l22 : K.lookup f22 = some ⟨oc22, od22, .func (PySem.W.fnOf "_law_book" "_law_book" (defArgs s__law_book) (defBody s__law_book) (defScope s__law_book) .none kV22 dc22 pm22 an22 cd22 ct22), sl22⟩) (c22 : PySem.W.codeIn K cd22 "_law_book" = true) (k22 : PySem.W.keepIn K (.ref f22) = true)
    (a23 : PySem.W.nsIn K mainGlobals "_law_beyond" = some (some (.ref f23))) (l23 : K.lookup f23 = some ⟨oc23, od23, .func (PySem.W.fnOf "_law_beyond" "_law_beyond" (defArgs s__law_beyond) (defBody s__law_beyond) (defScope s__law_beyond) .none kV23 dc23 pm23 an23 cd23 ct23), sl23⟩) (c23 : PySem.W.codeIn K cd23 "_law_beyond" = true) (k23 : PySem.W.keepIn K (.ref f23) = true)
    (a24 : PySem.W.nsIn K mainGlobals "_law_pair_right" = some (some (.ref f24))) (l24 : K.lookup f24 = some ⟨oc24, od24, .func (PySem.W.fnOf "_law_pair_right" "_law_pair_right" (defArgs s__law_pair_right) (defBody s__law_pair_right) (defScope s__law_pair_right) .none kV24 dc24 pm24 an24 cd24 ct24), sl24⟩) (c24 : PySem.W.codeIn K cd24 "_law_pair_right" = true) (k24 : PySem.W.keepIn K (.ref f24) = true)
    (a25 : PySem.W.nsIn K mainGlobals "_law_one_right" = some (some (.ref f25))) (l25 : K.lookup f25 = some ⟨oc25, od25, .func (PySem.W.fnOf "_law_one_right" "_law_one_right" (defArgs s__law_one_right) (defBody s__law_one_right) (defScope s__law_one_right) .none kV25 dc25 pm25 an25 cd25 ct25), sl25⟩) (c25 : PySem.W.codeIn K cd25 "_law_one_right" = true) (k25 : PySem.W.keepIn K (.ref f25) = true)
    (a26 : PySem.W.nsIn K mainGlobals "law" = some (some (.ref f26))) (l26 : K.lookup f26 = some ⟨oc26, od26, .func (PySem.W.fnOf "law" "law" (defArgs s_law) (defBody s_law) (defScope s_law) .none kV26 dc26 pm26 an26 cd26 ct26), sl26⟩) (c26 : PySem.W.codeIn K cd26 "law" = true) (k26 : PySem.W.keepIn K (.ref f26) = true)
    (z_enumerate : PySem.W.nsIn K mainGlobals "enumerate" = some none)
    (z_sorted : PySem.W.nsIn K mainGlobals "sorted" = some none)
    (z_tuple : PySem.W.nsIn K mainGlobals "tuple" = some none)
    (z_range : PySem.W.nsIn K mainGlobals "range" = some none)
    (z_isinstance : PySem.W.nsIn K mainGlobals "isinstance" = some none)
    (z_int : PySem.W.nsIn K mainGlobals "int" = some none)
    (z_len : PySem.W.nsIn K mainGlobals "len" = some none)
    (z_set : PySem.W.nsIn K mainGlobals "set" = some none)
    (z_bool : PySem.W.nsIn K mainGlobals "bool" = some none)
    (z_list : PySem.W.nsIn K mainGlobals "list" = some none)
    (z_abs : PySem.W.nsIn K mainGlobals "abs" = some none)
    (z_min : PySem.W.nsIn K mainGlobals "min" = some none)
    {tk_MOST_WISHES : Tok} (y_MOST_WISHES : PySem.W.nsIn K mainGlobals "MOST_WISHES" = some (some (.int 600 tk_MOST_WISHES)))
    : ∃ fd : FuncData, (∀ (s : Shared) (v : Value), BindsTo s fd ⟨[v], []⟩ [("_law_script", v)]) ∧ ∀ base : Heap, K.In base → base.Ns mainGlobals mg → FnOk l.prog w K mg base CX0 7 fa fd ["_law_script"] (spLaw K) := by
  have e := hfa.symm.trans (PySem.W.mg_of X G a26)
  cases e
  have F0 := fun_mk (st := s_is_whole) l0 c0 k0
  have b0 := F0.binds (ps := ["thing"]) fun _ _ _ _ _ _ us hl => match us, hl with | [_], _ => rfl
  have F1 := fun_mk (st := s_is_box) l1 c1 k1
  have b1 := F1.binds (ps := ["room", "thing"]) fun _ _ _ _ _ _ us hl => match us, hl with | [_, _], _ => rfl
  have F2 := fun_mk (st := s_is_worth) l2 c2 k2
  have b2 := F2.binds (ps := ["room", "box", "thing"]) fun _ _ _ _ _ _ us hl => match us, hl with | [_, _, _], _ => rfl
  have F3 := fun_mk (st := s_is_standing) l3 c3 k3
  have b3 := F3.binds (ps := ["room", "thing"]) fun _ _ _ _ _ _ us hl => match us, hl with | [_, _], _ => rfl
  have F4 := fun_mk (st := s_combined) l4 c4 k4
  have b4 := F4.binds (ps := ["choices"]) fun _ _ _ _ _ _ us hl => match us, hl with | [_], _ => rfl
  have F5 := fun_mk (st := s_standings) l5 c5 k5
  have b5 := F5.binds (ps := ["room"]) fun _ _ _ _ _ _ us hl => match us, hl with | [_], _ => rfl
  have F6 := fun_mk (st := s_changed) l6 c6 k6
  have b6 := F6.binds (ps := ["standing", "box", "worth"]) fun _ _ _ _ _ _ us hl => match us, hl with | [_, _, _], _ => rfl
  have F7 := fun_mk (st := s_is_choice) l7 c7 k7
  have b7 := F7.binds (ps := ["room", "thing"]) fun _ _ _ _ _ _ us hl => match us, hl with | [_, _], _ => rfl
  have F8 := fun_mk (st := s_is_given) l8 c8 k8
  have b8 := F8.binds (ps := ["room", "thing"]) fun _ _ _ _ _ _ us hl => match us, hl with | [_, _], _ => rfl
  have F9 := fun_mk (st := s_keeps) l9 c9 k9
  have b9 := F9.binds (ps := ["standing", "given"]) fun _ _ _ _ _ _ us hl => match us, hl with | [_, _], _ => rfl
  have F10 := fun_mk (st := s_why) l10 c10 k10
  have b10 := F10.binds (ps := ["book", "one", "other"]) fun _ _ _ _ _ _ us hl => match us, hl with | [_, _, _], _ => rfl
  have F11 := funD_mk (st := s_betterings) l11 c11 k11
  have b11 := bindsD l11 (ps := ["room", "book", "standing", "held"]) (ds := []) rfl t11 fun us hl => match us, hl with | [_, _, _, _], _ => ⟨_, rfl, rfl⟩
  have e11 := bindsD l11 (ps := ["room", "book", "standing", "held"]) (ds := [Value.none]) rfl t11 fun us hl => match us, (show us.length = 3 by rw [List.length_append] at hl; exact Nat.succ.inj hl) with | [_, _, _], _ => ⟨_, rfl, rfl⟩
  have F12 := fun_mk (st := s_local_pairs) l12 c12 k12
  have b12 := F12.binds (ps := ["room", "book", "box", "standing"]) fun _ _ _ _ _ _ us hl => match us, hl with | [_, _, _, _], _ => rfl
  have F13 := fun_mk (st := s_is_wish) l13 c13 k13
  have b13 := F13.binds (ps := ["room", "thing"]) fun _ _ _ _ _ _ us hl => match us, hl with | [_, _], _ => rfl
  have F14 := fun_mk (st := s_is_book) l14 c14 k14
  have b14 := F14.binds (ps := ["room", "thing"]) fun _ _ _ _ _ _ us hl => match us, hl with | [_, _], _ => rfl
  have F15 := fun_mk (st := s_turned) l15 c15 k15
  have b15 := F15.binds (ps := ["book"]) fun _ _ _ _ _ _ us hl => match us, hl with | [_], _ => rfl
  have F16 := fun_mk (st := s__law_pen) l16 c16 k16
  have b16 := F16.binds (ps := ["_law_script"]) fun _ _ _ _ _ _ us hl => match us, hl with | [_], _ => rfl
  have F17 := fun_mk (st := s__law_draw) l17 c17 k17
  have b17 := F17.binds (ps := ["_law_pen_here", "_law_many"]) fun _ _ _ _ _ _ us hl => match us, hl with | [_, _], _ => rfl
  have F18 := fun_mk (st := s__law_size) l18 c18 k18
  have b18 := F18.binds (ps := ["_law_room_here"]) fun _ _ _ _ _ _ us hl => match us, hl with | [_], _ => rfl
  have F19 := fun_mk (st := s__law_room) l19 c19 k19
  have b19 := F19.binds (ps := ["_law_pen_here", "_law_most"]) fun _ _ _ _ _ _ us hl => match us, hl with | [_, _], _ => rfl
  have F20 := fun_mk (st := s__law_given) l20 c20 k20
  have b20 := F20.binds (ps := ["_law_pen_here", "_law_room_here", "_law_apart"]) fun _ _ _ _ _ _ us hl => match us, hl with | [_, _, _], _ => rfl
  have F21 := fun_mk (st := s__law_wish) l21 c21 k21
  have b21 := F21.binds (ps := ["_law_pen_here", "_law_room_here"]) fun _ _ _ _ _ _ us hl => match us, hl with | [_, _], _ => rfl
  have F22 := fun_mk (st := s__law_book) l22 c22 k22
  have b22 := F22.binds (ps := ["_law_pen_here", "_law_room_here", "_law_most"]) fun _ _ _ _ _ _ us hl => match us, hl with | [_, _, _], _ => rfl
  have F23 := fun_mk (st := s__law_beyond) l23 c23 k23
  have b23 := F23.binds (ps := ["_law_first", "_law_second", "_law_many"]) fun _ _ _ _ _ _ us hl => match us, hl with | [_, _, _], _ => rfl
  have F24 := fun_mk (st := s__law_pair_right) l24 c24 k24
  have b24 := F24.binds (ps := ["_law_room_here", "_law_book_here", "_law_more", "_law_one", "_law_box", "_law_worth"]) fun _ _ _ _ _ _ us hl => match us, hl with | [_, _, _, _, _, _], _ => rfl
  have F25 := fun_mk (st := s__law_one_right) l25 c25 k25
  have b25 := F25.binds (ps := ["_law_room_here", "_law_book_here", "_law_more", "_law_one", "_law_held"]) fun _ _ _ _ _ _ us hl => match us, hl with | [_, _, _, _, _], _ => rfl
  have F26 := fun_mk (st := s_law) l26 c26 k26
  have b26 := F26.binds (ps := ["_law_script"]) fun _ _ _ _ _ _ us hl => match us, hl with | [_], _ => rfl
  have T : Txt K mg ⟨f0, _, f1, _, f2, _, f3, _, f4, _, f5, _, f6, _, f7, _, f8, _, f9, _, f10, _, f11, _, f12, _, f13, _, f14, _, f15, _, f16, _, f17, _, f18, _, f19, _, f20, _, f21, _, f22, _, f23, _, f24, _, f25, _, fa, _⟩ := ⟨⟨F0, b0, PySem.W.mg_of X G a0⟩, ⟨F1, b1, PySem.W.mg_of X G a1⟩, ⟨F2, b2, PySem.W.mg_of X G a2⟩, ⟨F3, b3, PySem.W.mg_of X G a3⟩, ⟨F4, b4, PySem.W.mg_of X G a4⟩, ⟨F5, b5, PySem.W.mg_of X G a5⟩, ⟨F6, b6, PySem.W.mg_of X G a6⟩, ⟨F7, b7, PySem.W.mg_of X G a7⟩, ⟨F8, b8, PySem.W.mg_of X G a8⟩, ⟨F9, b9, PySem.W.mg_of X G a9⟩, ⟨F10, b10, PySem.W.mg_of X G a10⟩, ⟨F11, b11, e11, PySem.W.mg_of X G a11⟩, ⟨F12, b12, PySem.W.mg_of X G a12⟩, ⟨F13, b13, PySem.W.mg_of X G a13⟩, ⟨F14, b14, PySem.W.mg_of X G a14⟩, ⟨F15, b15, PySem.W.mg_of X G a15⟩, ⟨F16, b16, PySem.W.mg_of X G a16⟩, ⟨F17, b17, PySem.W.mg_of X G a17⟩, ⟨F18, b18, PySem.W.mg_of X G a18⟩, ⟨F19, b19, PySem.W.mg_of X G a19⟩, ⟨F20, b20, PySem.W.mg_of X G a20⟩, ⟨F21, b21, PySem.W.mg_of X G a21⟩, ⟨F22, b22, PySem.W.mg_of X G a22⟩, ⟨F23, b23, PySem.W.mg_of X G a23⟩, ⟨F24, b24, PySem.W.mg_of X G a24⟩, ⟨F25, b25, PySem.W.mg_of X G a25⟩, ⟨F26, b26, PySem.W.mg_of X G a26⟩, PySem.W.mg_none_of X G z_enumerate, PySem.W.mg_none_of X G z_sorted, PySem.W.mg_none_of X G z_tuple, PySem.W.mg_none_of X G z_range, PySem.W.mg_none_of X G z_isinstance, PySem.W.mg_none_of X G z_int, PySem.W.mg_none_of X G z_len, PySem.W.mg_none_of X G z_set, PySem.W.mg_none_of X G z_bool, PySem.W.mg_none_of X G z_list, PySem.W.mg_none_of X G z_abs, PySem.W.mg_none_of X G z_min, ⟨_, ⟨_, rfl⟩, PySem.W.mg_of X G y_MOST_WISHES⟩⟩
  exact ⟨_, fun s v => .of_eq rfl, fun base _ _ => ok_law T⟩
theorem walk {l : PySem.W.OpenLaw} {q : Program} {loose : List Str} {XP : (Str → Option Value) → Heap → Prop} {YP : World → Heap → Prop} {d : DefRec} {K : Params → PySem.W.Frag} (hn : l.most = some 63) (hdf : d.params.defaults = [])
    (hY : ∀ (w : World) (h : Heap), YP w h → (K w.params).In h)
    (F : ∀ (w : World) (mg : Str → Option Value) (fa : Addr) (h : Heap), (K w.params).In h → h.Ns mainGlobals mg → mg d.name = some (.ref fa) →
      ∃ fd : FuncData, (∀ (s : Shared) (u : Value), BindsTo s fd ⟨[u], []⟩ [("_law_script", u)]) ∧ ∀ base : Heap, (K w.params).In base → base.Ns mainGlobals mg → FnOk l.prog w (K w.params) mg base CX0 7 fa fd ["_law_script"] (spLaw (K w.params))) :
    PySem.W.WalkO q loose XP YP l.row.toRowW d [] (fun f vs => PySem.call f vs) :=
  L2.walk_of (n := 63) (k := 7) (x := "_law_script") (CX := fun _ => CX0) (sp := fun w => spLaw (K w.params)) hn (by decide) hdf ⟨rfl, by decide, by decide⟩ hY F (fun _ _ a ns hl _ hS => ⟨a, ns, rfl, hS, hl, fun _ => rfl⟩) fun _ _ _ _ _ z => z
end Law
open PySem PySem.W PyProof.Rows
set_option maxRecDepth 100000 in
set_option maxHeartbeats 0 in
theorem PySem.Challenge.cw_allelse_k13_whole_betterings_hang_togeth_holds : PySem.Challenge.rw_allelse_k13_whole_betterings_hang_togeth.Holds := by
  w_on; o_law; k_head; (case hw => w_witness2)
  k_fill
  refine Law.walk (l := PySem.Challenge.rw_allelse_k13_whole_betterings_hang_togeth) rfl rfl (fun w h Y => PySem.W.kIn_of Y) ?F
  case F =>
    intro w mg fa h KX G hmg
    refine' Law.all_mk KX G hmg ?a0 ?l0 ?c0 ?k0 ?a1 ?l1 ?c1 ?k1 ?a2 ?l2 ?c2 ?k2 ?a3 ?l3 ?c3 ?k3 ?a4 ?l4 ?c4 ?k4 ?a5 ?l5 ?c5 ?k5 ?a6 ?l6 ?c6 ?k6 ?a7 ?l7 ?c7 ?k7 ?a8 ?l8 ?c8 ?k8 ?a9 ?l9 ?c9 ?k9 ?a10 ?l10 ?c10 ?k10 ?a11 ?l11 ?c11 ?k11 ?t11 ?a12 ?l12 ?c12 ?k12 ?a13 ?l13 ?c13 ?k13 ?a14 ?l14 ?c14 ?k14 ?a15 ?l15 ?c15 ?k15 ?a16 ?l16 ?c16 ?k16 ?a17 ?l17 ?c17 ?k17 ?a18 ?l18 ?c18 ?k18 ?a19 ?l19 ?c19 ?k19 ?a20 ?l20 ?c20 ?k20 ?a21 ?l21 ?c21 ?k21 ?a22 ?l22 ?c22 ?k22 ?a23 ?l23 ?c23 ?k23 ?a24 ?l24 ?c24 ?k24 ?a25 ?l25 ?c25 ?k25 ?a26 ?l26 ?c26 ?k26 ?z_enumerate ?z_sorted ?z_tuple ?z_range ?z_isinstance ?z_int ?z_len ?z_set ?z_bool ?z_list ?z_abs ?z_min ?y_MOST_WISHES
    (case a0 => k_is); (case l0 => k_is); (case c0 => k_is); (case k0 => k_is)
    (case a1 => k_is); (case l1 => k_is); (case c1 => k_is); (case k1 => k_is)
    (case a2 => k_is); (case l2 => k_is); (case c2 => k_is); (case k2 => k_is)
    (case a3 => k_is); (case l3 => k_is); (case c3 => k_is); (case k3 => k_is)
    (case a4 => k_is); (case l4 => k_is); (case c4 => k_is); (case k4 => k_is)
    (case a5 => k_is); (case l5 => k_is); (case c5 => k_is); (case k5 => k_is)
    (case a6 => k_is); (case l6 => k_is); (case c6 => k_is); (case k6 => k_is)
    (case a7 => k_is); (case l7 => k_is); (case c7 => k_is); (case k7 => k_is)
    (case a8 => k_is); (case l8 => k_is); (case c8 => k_is); (case k8 => k_is)
    (case a9 => k_is); (case l9 => k_is); (case c9 => k_is); (case k9 => k_is)
    (case a10 => k_is); (case l10 => k_is); (case c10 => k_is); (case k10 => k_is)
    (case a11 => k_is); (case l11 => k_is); (case c11 => k_is); (case k11 => k_is); (case t11 => k_is)
    (case a12 => k_is); (case l12 => k_is); (case c12 => k_is); (case k12 => k_is)
    (case a13 => k_is); (case l13 => k_is); (case c13 => k_is); (case k13 => k_is)
    (case a14 => k_is); (case l14 => k_is); (case c14 => k_is); (case k14 => k_is)
    (case a15 => k_is); (case l15 => k_is); (case c15 => k_is); (case k15 => k_is)
    (case a16 => k_is); (case l16 => k_is); (case c16 => k_is); (case k16 => k_is)
    (case a17 => k_is); (case l17 => k_is); (case c17 => k_is); (case k17 => k_is)
    (case a18 => k_is); (case l18 => k_is); (case c18 => k_is); (case k18 => k_is)
    (case a19 => k_is); (case l19 => k_is); (case c19 => k_is); (case k19 => k_is)
    (case a20 => k_is); (case l20 => k_is); (case c20 => k_is); (case k20 => k_is)
    (case a21 => k_is); (case l21 => k_is); (case c21 => k_is); (case k21 => k_is)
    (case a22 => k_is); (case l22 => k_is); (case c22 => k_is); (case k22 => k_is)
    (case a23 => k_is); (case l23 => k_is); (case c23 => k_is); (case k23 => k_is)
    (case a24 => k_is); (case l24 => k_is); (case c24 => k_is); (case k24 => k_is)
    (case a25 => k_is); (case l25 => k_is); (case c25 => k_is); (case k25 => k_is)
    (case a26 => k_is); (case l26 => k_is); (case c26 => k_is); (case k26 => k_is)
    (case z_enumerate => k_is)
    (case z_sorted => k_is)
    (case z_tuple => k_is)
    (case z_range => k_is)
    (case z_isinstance => k_is)
    (case z_int => k_is)
    (case z_len => k_is)
    (case z_set => k_is)
    (case z_bool => k_is)
    (case z_list => k_is)
    (case z_abs => k_is)
    (case z_min => k_is)
    (case y_MOST_WISHES => k_is)



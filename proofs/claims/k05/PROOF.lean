import PyProof.Rows.All
import Wide.All
import OpenK.AllK
import Wide.FinOn
import Lean
import PyProof.EqAt
import PyProof.EqKinds
import PyProof.TupleCall
import PySem.Challenge.RW_allelse_k05_givens_kept
set_option Elab.async false
set_option linter.all false
set_option maxRecDepth 100000
/-! THE HAND LAYER, for ints, bools, texts, own classes, DICTS (int and text keys), calls, loops. Paste it whole ahead of your own text; what your proof does not reach may be deleted. -/
namespace L2
open PySem PySem.Spec PyProof.Rows

/-- a key: an int or a str -/
abbrev Key := Sum Int Str
def keyIs : Key → Value → Bool
  | .inl k, v => Value.isInt k v
  | .inr x, v => Value.isStrOf x v
def keyH (w : World) : Key → Int
  | .inl k => hashInt k
  | .inr x => hashStr w x
theorem keyIs_shape : ∀ {k : Key} {v : Value}, keyIs k v = true → (∃ i t, k = Sum.inl i ∧ v = Value.int i t) ∨ (∃ x t, k = Sum.inr x ∧ v = Value.str x t)
  | .inl i, v, h => by
    obtain ⟨t, e⟩ := Value.isInt_shape (k := i) (v := v) h
    exact .inl ⟨i, t, rfl, e⟩
  | .inr x, v, h => by
    obtain ⟨t, e⟩ := Value.isStrOf_shape (x := x) (v := v) h
    exact .inr ⟨x, t, rfl, e⟩
theorem keyIs_int (i : Int) (t : Tok) : keyIs (.inl i) (.int i t) = true := by simp [keyIs, Value.isInt]
theorem keyIs_str (x : Str) (t : Tok) : keyIs (.inr x) (.str x t) = true := by simp [keyIs, Value.isStrOf]
theorem key_ll (a b : Int) : decide ((Sum.inl a : Key) = Sum.inl b) = (a == b) := by
  by_cases e : a = b
  · subst e; simp
  · have h : ¬ (Sum.inl a : Key) = Sum.inl b := fun q => e (Sum.inl.inj q)
    rw [decide_eq_false h]
    exact (beq_eq_false_iff_ne.mpr e).symm
theorem key_rr (a b : Str) : decide ((Sum.inr a : Key) = Sum.inr b) = decide (a = b) := by
  by_cases e : a = b
  · subst e; simp
  · have h : ¬ (Sum.inr a : Key) = Sum.inr b := fun q => e (Sum.inr.inj q)
    rw [decide_eq_false h, decide_eq_false e]
theorem key_lr (a : Int) (b : Str) : decide ((Sum.inl a : Key) = Sum.inr b) = false := decide_eq_false (fun q => nomatch q)
theorem key_rl (a : Str) (b : Int) : decide ((Sum.inr a : Key) = Sum.inl b) = false := decide_eq_false (fun q => nomatch q)

def mixKind (prog : Program) (w : World) : PySem.KeyKind prog w Key where
  is := keyIs
  hash := keyH w
  inj := fun v a b ha hb => by
    rcases keyIs_shape ha with ⟨i, t, rfl, rfl⟩ | ⟨x, t, rfl, rfl⟩
    · rcases keyIs_shape hb with ⟨j, u, rfl, e⟩ | ⟨y, u, rfl, e⟩
      · injection e with e1 _; rw [e1]
      · exact nomatch e
    · rcases keyIs_shape hb with ⟨j, u, rfl, e⟩ | ⟨y, u, rfl, e⟩
      · exact nomatch e
      · injection e with e1 _; rw [e1]
  byValue := fun k v h => by
    rcases keyIs_shape h with ⟨i, t, rfl, rfl⟩ | ⟨x, t, rfl, rfl⟩ <;> rfl
  pyHash := fun hv h => by
    rcases keyIs_shape hv with ⟨i, t, rfl, rfl⟩ | ⟨x, t, rfl, rfl⟩
    · exact wpAny_pyHash_int h
    · exact wpAny_pyHash_str h
  eqBool := fun hu hv h => by
    rcases keyIs_shape hu with ⟨i, t, rfl, rfl⟩ | ⟨x, t, rfl, rfl⟩
    · rcases keyIs_shape hv with ⟨j, u, rfl, rfl⟩ | ⟨y, u, rfl, rfl⟩
      · rw [key_ll] at h; exact wpAny_eqBool_int h
      · rw [key_lr] at h; exact SeqAt.EqAt.int_str i t y u _ _ _ _ h
    · rcases keyIs_shape hv with ⟨j, u, rfl, rfl⟩ | ⟨y, u, rfl, rfl⟩
      · rw [key_rl] at h; exact SeqAt.EqAt.str_int x t j u _ _ _ _ h
      · rw [key_rr] at h; exact wpAny_eqBool_str h
  «strs» := fun k x t v h => by
    rcases keyIs_shape h with ⟨i, u, rfl, e⟩ | ⟨y, u, rfl, e⟩
    · exact nomatch e
    · injection e with e1 _
      subst e1
      cases v <;> rfl

theorem mixKind_int (prog : Program) (w : World) (i : Int) (t : Tok) : (mixKind prog w).is (.inl i) (.int i t) = true := keyIs_int i t
theorem mixKind_str (prog : Program) (w : World) (x : Str) (t : Tok) : (mixKind prog w).is (.inr x) (.str x t) = true := keyIs_str x t
end L2

namespace L2
open PySem PySem.Spec PyProof.Rows

/-- a value, without the heap -/
inductive V where
  | non | bl (b : Bool) | int (i : Int) | str (x : Str) | byt (b : Array UInt8) | flt (b : UInt64) | ref (a : Addr) | ty (n : String)
  deriving DecidableEq

def RelV : V → Value → Prop
  | .non, u => u = Value.none
  | .bl b, u => u = Value.bool b
  | .int i, u => ∃ t, u = Value.int i t
  | .str x, u => ∃ t, u = Value.str x t
  | .byt b, u => ∃ t, u = Value.bytes b t
  | .flt b, u => ∃ t, u = Value.float b t
  | .ref a, u => u = Value.ref a
  | .ty n, u => u = Value.type n

abbrev Vals : List V → List Value → Prop := Paired RelV
theorem Vals.length {xs : List V} {us : List Value} (r : Vals xs us) : xs.length = us.length := Paired.length r
theorem Vals.get : ∀ {xs : List V} {us : List Value} {i : Nat} {x : V}, Vals xs us → xs[i]? = some x → ∃ u, us[i]? = some u ∧ RelV x u
  | _, _, _, _, .nil, e => by simp at e
  | _, _, 0, _, .cons r _, e => by simp at e; subst e; exact ⟨_, rfl, r⟩
  | _, _, i + 1, x, .cons _ t, e => by
    obtain ⟨u, h1, h2⟩ := Vals.get (i := i) (x := x) t (by simpa using e)
    exact ⟨u, by simpa using h1, h2⟩
theorem Vals.set {x : V} {u : Value} (r : RelV x u) : ∀ {xs : List V} {us : List Value} (i : Nat), Vals xs us → Vals (xs.set i x) (us.set i u)
  | _, _, _, .nil => .nil
  | _, _, 0, .cons _ t => .cons r t
  | _, _, i + 1, .cons q t => .cons q (Vals.set r i t)
theorem Vals.append : ∀ {xs ys : List V} {us ws : List Value}, Vals xs us → Vals ys ws → Vals (xs ++ ys) (us ++ ws)
  | _, _, _, _, .nil, s => s
  | _, _, _, _, .cons r t, s => .cons r (Vals.append t s)
theorem Vals.take : ∀ {xs : List V} {us : List Value} (n : Nat), Vals xs us → Vals (xs.take n) (us.take n)
  | _, _, 0, _ => .nil
  | _, _, _ + 1, .nil => .nil
  | _, _, n + 1, .cons r t => .cons r (Vals.take n t)
theorem Vals.drop : ∀ {xs : List V} {us : List Value} (n : Nat), Vals xs us → Vals (xs.drop n) (us.drop n)
  | _, _, 0, r => r
  | _, _, _ + 1, .nil => .nil
  | _, _, n + 1, .cons _ t => Vals.drop n t
def RelO : Option V → Option Value → Prop
  | some v, some u => RelV v u
  | none, none => True
  | _, _ => False
def KV {κ : Type} : List (κ × V) → List (κ × Value) → Prop := Paired fun (p : κ × V) (q : κ × Value) => p.1 = q.1 ∧ RelV p.2 q.2

/-- a key of a dict (00_mix): an int or a text -/
def kV : Key → V
  | .inl i => .int i
  | .inr x => .str x

/-- what stands at a tracked address -/
inductive HO where
  /-- a list -/
  | lst (xs : List V)
  /-- a tuple (never changes) -/
  | tup (xs : List V)
  /-- a dict whose keys are ints and texts; one whose keys are tuples of ints and texts (the empty one is both) -/
  | dK (kvs : List (Key × V)) | dT (kvs : List (List Key × V))
  /-- a set of ints: its members, its size -/
  | set (S : Int → Bool) (n : Nat)
  /-- an instance of the class at C, its dict at dx, its attributes -/
  | ins (C dx : Addr) (fs : List (Str × V))
  /-- the dict of the instance at x -/
  | own (x : Addr)
  /-- the dict of an exception -/
  | xd (fs : List (Str × V))
  /-- a bound method, f of x -/
  | met (f x : Addr)
  /-- a range object lo, lo + 1, .. below hi -/
  | rng (lo hi : Int)
  /-- a thing that is known to the object (the script; a dict while a loop walks it): read, never written while it is so -/
  | frz (o : Obj) (u : HO)
  /-- a code object's table -/
  | tbl (ps : Array Value)
  /-- any other thing, by what is true of its one object (a def of one's own: SetO a S n := HO.ext fun h => ..) -/
  | ext (φ : Heap → Prop)

abbrev Hp := Addr → Option HO
def upd (H : Hp) (a : Addr) (o : HO) : Hp := fun b => if b = a then some o else H b
theorem upd_same {H : Hp} {a : Addr} {o : HO} : upd H a o a = some o := by unfold upd; rw [if_pos rfl]
theorem upd_ne {H : Hp} {a b : Addr} {o : HO} (h : b ≠ a) : upd H a o b = H b := by unfold upd; rw [if_neg h]
/-- two objects of different content stand apart -/
theorem ne_of {H : Hp} {a b : Addr} {o u : HO} (h : H a = some o) (h' : H b = some u) (d : o ≠ u) : a ≠ b := by
  intro e; subst e; rw [h] at h'; exact d (Option.some.inj h')
theorem ne_of_none {H : Hp} {a b : Addr} {o : HO} (h : H a = some o) (h' : H b = none) : a ≠ b := by
  intro e; subst e; rw [h] at h'; cases h'

def IsTupD (h : Heap) (a : Addr) (items : Array Value) : Prop := ∃ o, h.get? a = some o ∧ o.cls = .type "tuple" ∧ (∃ n, o.data = .seq items n) ∧ o.dict = none
theorem IsTupD.tup {h : Heap} {a : Addr} {items : Array Value} (x : IsTupD h a items) : IsTup h a items := let ⟨o, h1, h2, h3, _⟩ := x; ⟨o, h1, h2, h3⟩
theorem IsTupD.lt {h : Heap} {a : Addr} {items : Array Value} (x : IsTupD h a items) : a < h.objs.size := x.tup.lt
theorem IsTupD.new (h : Heap) (items : Array Value) : IsTupD (h.push { cls := .type "tuple", data := .seq items }) h.objs.size items := ⟨_, Heap.get?_push_size _ rfl, rfl, ⟨_, rfl⟩, rfl⟩
section
variable (P : Program) (w : World)
def ObjOk (H : Hp) (h : Heap) (a : Addr) : HO → Prop
  | .lst xs => xs.length ≤ sizeLine ∧ ∃ (its : List Value) (n : Nat), Vals xs its ∧ h.get? a = some { cls := .type "list", data := .seq its.toArray n }
  | .tup xs => xs.length ≤ sizeLine ∧ ∃ its : List Value, Vals xs its ∧ IsTupD h a its.toArray
  | .dK kvs => kvs.length ≤ sizeLine ∧ (a == sysModules) = false ∧ ∃ vs, KV kvs vs ∧ h.DictOf (mixKind P w) a vs
  | .dT kvs => kvs.length ≤ sizeLine ∧ (a == sysModules) = false ∧ ∃ xs : List (List Key × Addr × Value),
      Paired (fun (p : List Key × V) (q : List Key × Addr × Value) => p.1 = q.1 ∧ H q.2.1 = some (.tup (p.1.map kV)) ∧ RelV p.2 q.2.2) kvs xs ∧
      ∃ o es ep, h.get? a = some o ∧ o.ExactDict ∧ o.data = .dict es ep ∧ es.toList = xs.map (entryOfKey (tupleKind (mixKind P w))) ∧ (xs.map (·.1)).Nodup
  | .set S n => h.SetOf (intKind P w) a S n
  | .ins C dx fs => H dx = some (.own a) ∧ fs.length ≤ 1000 ∧ dx ≠ a ∧ h.get? a = some (PySem.W.instObj C dx) ∧
      ∃ mA, h.Ns1 dx mA ∧ (∀ f, RelO (fs.lookup f) (mA f)) ∧ PySem.Within mA (fs.map (·.1))
  | .own _ => ∃ o, h.get? a = some o
  | .xd fs => ∃ mA, h.Ns1 a mA ∧ ∀ f, RelO (fs.lookup f) (mA f)
  | .rng lo hi => ∃ t u v, h.get? a = some { cls := .type "range", data := .fields #[.int lo t, .int hi u, .int 1 v] }
  | .frz o u => h.get? a = some o ∧ ObjOk H h a u
  | .tbl ps => h.get? a = some { cls := .none, data := .fields ps }
  | .met f x => h.get? a = some (PySem.W.methodObj (.ref f) (.ref x))
  | .ext φ => φ h ∧ (∃ o, h.get? a = some o) ∧ ∀ h1 h2 : Heap, φ h1 → (∀ o, h1.get? a = some o → h2.get? a = some o) → φ h2
/-- the abstract heap is held -/
def HOk (H : Hp) (h : Heap) : Prop := ∀ a o, H a = some o → ObjOk P w H h a o
end

section
variable {P : Program} {w : World} {H H' : Hp} {h h' : Heap} {a : Addr} {o : HO}
theorem ObjOk.lt (x : ObjOk P w H h a o) : a < h.objs.size := by
  cases o with
  | lst xs => obtain ⟨_, _, _, _, e⟩ := x; exact Heap.lt_size e
  | tup xs => obtain ⟨_, _, _, p⟩ := x; exact p.lt
  | dK kvs => obtain ⟨_, _, _, _, o, _, _, e, _⟩ := x; exact Heap.lt_size e
  | dT kvs => obtain ⟨_, _, _, _, o, _, _, e, _⟩ := x; exact Heap.lt_size e
  | set S n => obtain ⟨o, _, _, _, e, _⟩ := x; exact Heap.lt_size e
  | ins C dx fs => obtain ⟨_, _, _, e, _⟩ := x; exact Heap.lt_size e
  | own y => obtain ⟨_, e⟩ := x; exact Heap.lt_size e
  | xd fs => obtain ⟨_, ⟨_, _, _, e, _⟩, _⟩ := x; exact Heap.lt_size e
  | rng lo hi => obtain ⟨_, _, _, e⟩ := x; exact Heap.lt_size e
  | frz ob u => obtain ⟨e, _⟩ := x; exact Heap.lt_size e
  | tbl ps => exact Heap.lt_size (show h.get? a = some _ from x)
  | met f y => exact Heap.lt_size (show h.get? a = some _ from x)
  | ext φ => obtain ⟨_, ⟨_, e⟩, _⟩ := x; exact Heap.lt_size e
theorem Paired.mapP {α β : Type} {F G : α → β → Prop} : ∀ {l₁ : List α} {l₂ : List β}, Paired F l₁ l₂ → (∀ a b, F a b → G a b) → Paired G l₁ l₂
  | _, _, .nil, _ => .nil
  | _, _, .cons r t, f => .cons (f _ _ r) (Paired.mapP t f)
/-- what an object's description leans on: its own object, its own dict, the tuples -/
theorem ObjOk.stay (x : ObjOk P w H h a o) (k : ∀ b u, (b = a ∨ H b = some (.own a)) → h.get? b = some u → h'.get? b = some u)
    (ho : ∀ b, H b = some (.own a) → H' b = some (.own a)) (ht : ∀ b xs, H b = some (.tup xs) → H' b = some (.tup xs)) : ObjOk P w H' h' a o := by
  induction o with
  | lst xs => obtain ⟨z, its, n, r, e⟩ := x; exact ⟨z, its, n, r, k _ _ (.inl rfl) e⟩
  | tup xs => obtain ⟨z, its, r, ob, e, c⟩ := x; exact ⟨z, its, r, ob, k _ _ (.inl rfl) e, c⟩
  | dK kvs => obtain ⟨z, y, vs, r, ob, es, ep, e, c⟩ := x; exact ⟨z, y, vs, r, ob, es, ep, k _ _ (.inl rfl) e, c⟩
  | dT kvs =>
    obtain ⟨z, y, xs, r, ob, es, ep, e, c⟩ := x
    exact ⟨z, y, xs, Paired.mapP r fun p q z => ⟨z.1, ht _ _ z.2.1, z.2.2⟩, ob, es, ep, k _ _ (.inl rfl) e, c⟩
  | set S n => obtain ⟨ob, es, ep, t, e, c⟩ := x; exact ⟨ob, es, ep, t, k _ _ (.inl rfl) e, c⟩
  | ins C dx fs =>
    obtain ⟨d, z, ne, e, mA, ⟨od, es, ep, e2, c⟩, r⟩ := x
    exact ⟨ho _ d, z, ne, k _ _ (.inl rfl) e, mA, ⟨od, es, ep, k _ _ (.inr d) e2, c⟩, r⟩
  | own y => obtain ⟨ob, e⟩ := x; exact ⟨ob, k _ _ (.inl rfl) e⟩
  | xd fs => obtain ⟨mA, ⟨od, es, ep, e, c⟩, r⟩ := x; exact ⟨mA, ⟨od, es, ep, k _ _ (.inl rfl) e, c⟩, r⟩
  | rng lo hi => obtain ⟨t, u, v, e⟩ := x; exact ⟨t, u, v, k _ _ (.inl rfl) e⟩
  | frz ob u ih => obtain ⟨e, q⟩ := x; exact ⟨k _ _ (.inl rfl) e, ih q⟩
  | tbl ps =>
    have e : h.get? a = some { cls := .none, data := .fields ps } := x
    show h'.get? a = some { cls := .none, data := .fields ps }
    exact k a _ (.inl rfl) e
  | met f y =>
    have e : h.get? a = some (PySem.W.methodObj (.ref f) (.ref y)) := x
    show h'.get? a = some (PySem.W.methodObj (.ref f) (.ref y))
    exact k a _ (.inl rfl) e
  | ext φ => obtain ⟨p, ⟨o, e⟩, st⟩ := x; exact ⟨st _ _ p fun o q => k _ _ (.inl rfl) q, ⟨o, k _ _ (.inl rfl) e⟩, st⟩
theorem HOk.lt (x : HOk P w H h) (e : H a = some o) : a < h.objs.size := (x a o e).lt
theorem HOk.fresh (x : HOk P w H h) (e : h.objs.size ≤ a) : H a = none := by
  cases q : H a with
  | none => rfl
  | some u => exact absurd (Nat.lt_of_lt_of_le (x.lt q) e) (Nat.lt_irrefl _)
/-- every object of the heap is kept -/
theorem HOk.kept (x : HOk P w H h) (k : ∀ b u, h.get? b = some u → h'.get? b = some u) : HOk P w H h' := fun a o e =>
  (x a o e).stay (fun b u _ q => k b u q) (fun _ q => q) fun _ _ q => q
/-- a new object is laid and tracked -/
theorem HOk.laid (x : HOk P w H h) (k : ∀ b u, h.get? b = some u → h'.get? b = some u) (hp : h.objs.size ≤ a) (new : ObjOk P w (upd H a o) h' a o) : HOk P w (upd H a o) h' := fun b u e => by
  have hn := x.fresh hp
  by_cases hb : b = a
  · subst hb; rw [upd_same] at e; cases e; exact new
  · rw [upd_ne hb] at e
    exact (x b u e).stay (fun c v _ q => k c v q) (fun c q => by rw [upd_ne (ne_of_none q hn)]; exact q) fun c xs q => by rw [upd_ne (ne_of_none q hn)]; exact q
end

/-- what may be read as u: it is u, or a known u -/
def Rd (H : Hp) (a : Addr) (u : HO) : Prop := H a = some u ∨ ∃ o, H a = some (.frz o u)
theorem Rd.of {H : Hp} {a : Addr} {u : HO} (h : H a = some u) : Rd H a u := .inl h
theorem Rd.ok {P : Program} {w : World} {H : Hp} {h : Heap} {a : Addr} {u : HO} (r : Rd H a u) (x : HOk P w H h) : ObjOk P w H h a u := by
  rcases r with r | ⟨o, r⟩
  · exact x a u r
  · obtain ⟨_, q⟩ := x a _ r
    exact q
/-- what may be written -/
def Mut : Option HO → Prop
  | some (.lst _) => True
  | some (.dK _) => True
  | some (.dT _) => True
  | some (.set _ _) => True
  | some (.ins _ _ _) => True
  | some (.ext _) => True
  | _ => False
section
variable {P : Program} {w : World} {H : Hp} {h h' : Heap} {x e : Addr} {o' : HO}
/-- the object at e is changed: x itself, or the dict of the instance x -/
theorem HOk.write (ok : HOk P w H h) (mu : Mut (H x)) (he : e = x ∨ H e = some (.own x)) (k : ∀ b u, b ≠ e → h.get? b = some u → h'.get? b = some u) (heo : ∃ u, h'.get? e = some u)
    (new : ObjOk P w (upd H x o') h' x o') : HOk P w (upd H x o') h' := fun b u q => by
  have nown : ∀ c y, H c = some (.own y) → c ≠ x := fun c y r z => by subst z; rw [r] at mu; exact mu
  have ntup : ∀ c xs, H c = some (.tup xs) → c ≠ x := fun c xs r z => by subst z; rw [r] at mu; exact mu
  by_cases hb : b = x
  · subst hb; rw [upd_same] at q; cases q; exact new
  · rw [upd_ne hb] at q
    by_cases hbe : b = e
    · have q' : H b = some (.own x) := by
        rcases he with z | z
        · exact absurd (hbe.trans z) hb
        · rw [hbe]; exact z
      rw [q] at q'; cases q'
      obtain ⟨v, hv⟩ := heo
      exact ⟨v, by rw [hbe]; exact hv⟩
    · refine (ok b u q).stay (fun c v hc r => k c v ?_ r) (fun c r => by rw [upd_ne (nown c b r)]; exact r) fun c xs r => by rw [upd_ne (ntup c xs r)]; exact r
      rcases hc with rfl | hc
      · exact hbe
      · rintro rfl
        rcases he with z | z
        · exact nown c b hc z
        · rw [hc] at z; cases z; exact hb rfl
end

/-! ### kept unless tracked; of the frames at fs (the callers') the slots may change (an exception that passes writes there); of the records at ex (iterators) nothing is said -/
structure Un (fs ex : List Addr) (H H' : Hp) (h h' : Heap) : Prop where
  keep : ∀ b o, h.get? b = some o → H b = none → b ∉ fs → b ∉ ex → h'.get? b = some o
  slot : ∀ b o, h.get? b = some o → H b = none → b ∈ fs → b ∉ ex → ∃ sl, h'.get? b = some { o with slots := sl }
  free : ∀ b o, h.get? b = some o → H b = none → b ∉ ex → H' b = none
  there : ∀ b o, h.get? b = some o → b ∉ ex → ∃ o', h'.get? b = some o'
  tups : ∀ b xs, H b = some (.tup xs) → H' b = some (.tup xs)
  frzs : ∀ b o u, H b = some (.frz o u) → H' b = some (.frz o u)
  tbls : ∀ b ps, H b = some (.tbl ps) → ∃ more, H' b = some (.tbl (ps ++ more))
section
variable {fs fs' ex ex' : List Addr} {H H1 H2 : Hp} {h h1 h2 h' : Heap} {a x e : Addr} {o : HO}
theorem Un.any (u : Un fs ex H H1 h h1) {b : Addr} {ob : Obj} (q : h.get? b = some ob) (n : H b = none) (hx : b ∉ ex) : ∃ sl, h1.get? b = some { ob with slots := sl } := by
  by_cases hb : b ∈ fs
  · exact u.slot b ob q n hb hx
  · exact ⟨ob.slots, u.keep b ob q n hb hx⟩
theorem Un.trans (a : Un fs ex H H1 h h1) (b : Un fs ex H1 H2 h1 h2) : Un fs ex H H2 h h2 where
  keep := fun c ob q n hc hx => b.keep c ob (a.keep c ob q n hc hx) (a.free c ob q n hx) hc hx
  slot := fun c ob q n hc hx => by
    obtain ⟨sl, e1⟩ := a.slot c ob q n hc hx
    obtain ⟨sl', e2⟩ := b.slot c _ e1 (a.free c ob q n hx) hc hx
    exact ⟨sl', e2⟩
  free := fun c ob q n hx => by
    obtain ⟨o', e1⟩ := a.there c ob q hx
    exact b.free c o' e1 (a.free c ob q n hx) hx
  there := fun c ob q hx => by
    obtain ⟨o', e1⟩ := a.there c ob q hx
    exact b.there c o' e1 hx
  tups := fun c xs q => b.tups c xs (a.tups c xs q)
  frzs := fun c ob xs q => b.frzs c ob xs (a.frzs c ob xs q)
  tbls := fun c ps q => by
    obtain ⟨m1, e1⟩ := a.tbls c ps q
    obtain ⟨m2, e2⟩ := b.tbls c _ e1
    exact ⟨m1 ++ m2, by rw [e2, Array.append_assoc]⟩
theorem Un.kept (k : ∀ b u, h.get? b = some u → h'.get? b = some u) : Un fs ex H H h h' :=
  ⟨fun b ob q _ _ _ => k b ob q, fun b ob q _ _ _ => ⟨ob.slots, k b ob q⟩, fun _ _ _ n _ => n, fun b ob q _ => ⟨ob, k b ob q⟩, fun _ _ q => q, fun _ _ _ q => q, fun _ ps q => ⟨#[], by rw [q]; simp⟩⟩
theorem Un.refl : Un fs ex H H h h := Un.kept fun _ _ q => q
theorem Un.laid (k : ∀ b u, h.get? b = some u → h'.get? b = some u) (hp : h.objs.size ≤ a) (hn : H a = none) : Un fs ex H (upd H a o) h h' where
  keep := fun b u q _ _ _ => k b u q
  slot := fun b u q _ _ _ => ⟨u.slots, k b u q⟩
  free := fun b u q n _ => by rw [upd_ne (Nat.ne_of_lt (Nat.lt_of_lt_of_le (Heap.lt_size q) hp))]; exact n
  there := fun b u q _ => ⟨u, k b u q⟩
  tups := fun b xs q => by rw [upd_ne (ne_of_none q hn)]; exact q
  frzs := fun b u xs q => by rw [upd_ne (ne_of_none q hn)]; exact q
  tbls := fun b ps q => ⟨#[], by rw [upd_ne (ne_of_none q hn), q]; simp⟩
theorem Un.write (mu : Mut (H x)) (he : e = x ∨ H e = some (.own x)) (k : ∀ b u, b ≠ e → h.get? b = some u → h'.get? b = some u) (heo : ∃ u, h'.get? e = some u) : Un fs ex H (upd H x o) h h' := by
  have hx : ∀ b, H b = none → b ≠ x := fun b n z => by subst z; rw [n] at mu; exact mu
  have hb : ∀ b, H b = none → b ≠ e := fun b n z => by
    subst z
    rcases he with r | r
    · exact hx b n r
    · rw [n] at r; cases r
  have hm : ∀ b u, H b = some u → ¬ Mut (some u) → b ≠ x := fun b u q nm z => by subst z; rw [q] at mu; exact nm mu
  refine ⟨fun b u q n _ _ => k b u (hb b n) q, fun b u q n _ _ => ⟨u.slots, k b u (hb b n) q⟩, fun b u q n _ => by rw [upd_ne (hx b n)]; exact n, fun b u q _ => ?_,
    fun b xs q => by rw [upd_ne (hm b _ q fun z => z)]; exact q, fun b u xs q => by rw [upd_ne (hm b _ q fun z => z)]; exact q, fun b ps q => ⟨#[], by rw [upd_ne (hm b _ q fun z => z), q]; simp⟩⟩
  by_cases hbe : b = e
  · subst hbe; exact heo
  · exact ⟨u, k b u hbe q⟩
theorem Un.mono (u : Un fs ex H H1 h h1) (hs : ∀ b ∈ fs, b ∈ fs') (hx : ∀ b ∈ ex, b ∈ ex') : Un fs' ex' H H1 h h1 :=
  ⟨fun b ob q n hb he => u.keep b ob q n (fun z => hb (hs b z)) fun z => he (hx b z), fun _ _ q n _ he => u.any q n fun z => he (hx _ z), fun b ob q n he => u.free b ob q n fun z => he (hx b z), fun b ob q he => u.there b ob q fun z => he (hx b z), u.tups, u.frzs, u.tbls⟩
end

/-! ### the heap without what is tracked -/
def trk (h : Heap) (H : Hp) : List Addr := (List.range h.objs.size).filter fun a => (H a).isSome
def hidT (h : Heap) (H : Hp) : Heap := PySem.W.hideAll h (trk h H)
theorem hidT_size (h : Heap) (H : Hp) : (hidT h H).objs.size = h.objs.size := PySem.W.hideAll_size _ _
theorem hidT_get {h : Heap} {H : Hp} {b : Addr} {o : Obj} (e : h.get? b = some o) (n : H b = none) : (hidT h H).get? b = some o :=
  PySem.W.hideAll_get _ e fun hm => by
    have q : (H b).isSome = true := (List.mem_filter.mp hm).2
    rw [n] at q; simp at q
theorem of_hidT {h : Heap} {H : Hp} {b : Addr} {o : Obj} (e : (hidT h H).get? b = some o) : h.get? b = some o ∧ H b = none := by
  have e' : h.get? b = some o := PySem.W.of_hideAll (trk h H) e
  refine ⟨e', ?_⟩
  cases q : H b with
  | none => rfl
  | some x =>
    have hm : b ∈ trk h H := List.mem_filter.mpr ⟨List.mem_range.mpr (Heap.lt_size e'), by simp [q]⟩
    have z : (hidT h H).get? b = none := PySem.W.hideAll_none (trk h H) hm
    rw [z] at e; cases e

/-! ### OpenK's ledger, filled with every new object but one -/
def allNews (g h : Heap) (L : Addr) : List (Addr × Obj) := (List.range h.objs.size).filterMap fun a => if a = L ∨ (g.get? a).isSome = true then none else (h.get? a).map fun o => (a, o)
def rest (g h : Heap) (L d : Addr) : List (Addr × Obj) := (allNews g h L).filter fun p => decide (p.1 ≠ d)
end L2

namespace L2
open PySem PySem.Spec PyProof.Rows

/-- the module's facts, over the base: the heap at the law's entry without what is tracked there -/
structure Mod (K : PySem.W.Frag) (mg : Str → Option Value) (base : Heap) : Prop where
  kin : K.In base
  glob : base.Ns mainGlobals mg
  blt : ∃ mb, base.Ns builtinsNs mb ∧ ∀ x : Str, x ≠ "__name__" → mb x = bootBuiltins x
  nolimit : base.NoLimit

/-- the context: a def's body (or a comprehension's block) running. base: fixed through the whole law; s₀, H₀: the entry; outer: the frames whose slots others may change (a def's callers); stack: all frames that run;
   ex: iterators that were made ahead of the entry and are walked here (a comprehension's); fn: the names whose cells were made at the entry (a def: all; a comprehension's block: its own); calm: not within an except suite; pn: pins that every state bears; xe: what is wanted of an exception that leaves the code -/
structure Cx where
  prog : Program
  w : World
  K : PySem.W.Frag
  mg : Str → Option Value
  base : Heap
  A : Around
  N : List Str
  s₀ : Shared
  H₀ : Hp
  env : Env
  outer : List Env
  stack : List Env
  ex : List Addr
  fn : Str → Bool
  calm : Bool
  pn : List (Addr × Obj)
  xe : Value → Shared → Prop
/-- the callers' frames -/
def frs (l : List Env) : List Addr := l.filterMap (·.frame)
abbrev Cx.fs (X : Cx) : List Addr := frs X.outer

def Vis (sc : Scope) (x : Str) : Prop := sc.names.lookup x = some .local ∨ sc.names.lookup x = some .cell ∨ sc.names.lookup x = some .free
def Loc (sc : Scope) (x : Str) : Prop := sc.names.lookup x = some .local ∨ sc.names.lookup x = some .cell
def Look (env : Env) (h : Heap) (m : Str → Option Value) (x : Str) (u : Value) : Prop :=
  (env.kindOf x = some .local ∧ m x = some u) ∨ ((env.kindOf x = some .cell ∨ env.kindOf x = some .free) ∧ ∃ c, env.cells.lookup x = some c ∧ h.IsCell c (some u))

structure Cx.Ok (X : Cx) : Prop where
  mod : Mod X.K X.mg X.base
  kind : X.env.scope.kind = .function
  glob : X.env.globals = mainGlobals
  blt : X.env.builtins = builtinsNs
  above : X.s₀.heap.objs.size ≤ X.env.locals
  inj : ∀ x y c, X.env.cells.lookup x = some c → X.env.cells.lookup y = some c → x = y
  has : ∀ x, (X.env.kindOf x = some .cell ∨ X.env.kindOf x = some .free) → ∃ c, X.env.cells.lookup x = some c
  cab : ∀ x c, X.fn x = true → X.env.cells.lookup x = some c → X.s₀.heap.objs.size ≤ c
  hd : X.calm = true → X.A.handled = none
  frames : X.A.frames = some X.stack
  stk : X.stack = X.outer ∨ (X.stack = X.env :: X.outer ∧ X.env.frame = some X.env.locals)
  exf : ∀ b ∈ X.ex, b ≠ X.env.locals ∧ ∀ x c, X.env.cells.lookup x = some c → c ≠ b
  bs : ∀ b o, X.base.get? b = some o → X.s₀.heap.get? b = some o ∧ X.H₀ b = none
  bsz : X.base.objs.size ≤ X.s₀.heap.objs.size
  noex : ∀ b o, X.base.get? b = some o → b ∉ X.ex
  exfs : ∀ b ∈ X.ex, b ∉ X.fs
  funs : X.s₀.heap.FunFrames X.base X.outer
  frf : ∀ b ∈ X.fs, X.H₀ b = none

structure Inv (X : Cx) (pins : List (Addr × Obj)) (σ : List (Option V)) (H : Hp) (s : Shared) : Prop where
  ok : X.Ok
  os : s.os = X.s₀.os
  bare : AllBare s.gens
  base : Un X.fs X.ex X.H₀ H X.s₀.heap s.heap
  loc : ∃ m, s.heap.Ns X.env.locals m ∧ ∀ (i : Nat) (x : Str) (v : V), X.N[i]? = some x → σ[i]? = some (some v) → Vis X.env.scope x → ∃ u, RelV v u ∧ Look X.env s.heap m x u
  cell : ∀ x c, X.env.cells.lookup x = some c → ∃ v, s.heap.IsCell c v
  free : H X.env.locals = none
  freeC : ∀ x c, X.env.cells.lookup x = some c → H c = none
  pin : ∀ p ∈ X.pn ++ pins, s.heap.get? p.1 = some p.2 ∧ H p.1 = none ∧ p.1 ≠ X.env.locals ∧ p.1 ∉ X.fs ∧ ∀ v, p.2.data ≠ .cell v
  hok : HOk X.prog X.w H s.heap
  len : σ.length = X.N.length

section
variable {X : Cx} {pins : List (Addr × Obj)} {σ : List (Option V)} {H H' : Hp} {s : Shared} {h' : Heap}

theorem Cx.Ok.nofr (ok : X.Ok) {b : Addr} {o : Obj} (e : X.base.get? b = some o) : b ∉ X.fs := fun hb => by
  have := (ok.funs.mem hb).1
  rw [e] at this; cases this
theorem Inv.bs (I : Inv X pins σ H s) : ∀ b o, X.base.get? b = some o → s.heap.get? b = some o ∧ H b = none := fun b o e =>
  ⟨I.base.keep b o (I.ok.bs b o e).1 (I.ok.bs b o e).2 (I.ok.nofr e) (I.ok.noex b o e), I.base.free b o (I.ok.bs b o e).1 (I.ok.bs b o e).2 (I.ok.noex b o e)⟩
theorem Inv.bk (I : Inv X pins σ H s) : ∀ b o, X.base.get? b = some o → s.heap.get? b = some o := fun b o e => (I.bs b o e).1
theorem Inv.mod (I : Inv X pins σ H s) : Mod X.K X.mg X.base := I.ok.mod
theorem Inv.kIn (I : Inv X pins σ H s) : X.K.In s.heap := I.ok.mod.kin.keeps I.bk
theorem Inv.nolimit (I : Inv X pins σ H s) : s.heap.NoLimit := I.ok.mod.nolimit.keeps I.bk
/-- the frame over the base: for OpenK's rules (K.In X.base is I.mod.kin) -/
theorem Inv.fr (I : Inv X pins σ H s) : ∃ m, Fr X.base X.env.locals s.heap m :=
  let ⟨m, hn, _⟩ := I.loc
  ⟨m, hn, I.bk, Nat.le_trans I.ok.bsz I.ok.above⟩
theorem Inv.lt (I : Inv X pins σ H s) : X.env.locals < s.heap.objs.size := let ⟨_, hn, _⟩ := I.loc; hn.lt
theorem Inv.sz (I : Inv X pins σ H s) : X.s₀.heap.objs.size ≤ s.heap.objs.size := Nat.le_trans I.ok.above (Nat.le_of_lt I.lt)
theorem Inv.nofs (I : Inv X pins σ H s) {a : Addr} (h : s.heap.objs.size ≤ a) : a ∉ X.fs := fun hb => by
  obtain ⟨_, o, ho, _⟩ := I.ok.funs.mem hb
  exact absurd (Nat.lt_of_lt_of_le (Heap.lt_size ho) (Nat.le_trans I.sz h)) (Nat.lt_irrefl _)
theorem Inv.cne (I : Inv X pins σ H s) : ∀ x c, X.env.cells.lookup x = some c → c ≠ X.env.locals := fun x c e z => by
  obtain ⟨v, o, ho, hd⟩ := I.cell x c e
  obtain ⟨m, ⟨o', es, ep, ho', hd', _⟩, _⟩ := I.loc
  rw [z, ho'] at ho; cases ho; rw [hd'] at hd; cases hd
theorem Inv.funs (I : Inv X pins σ H s) : s.heap.FunFrames X.base X.outer := by
  have all : ∀ (l : List Env), (∀ b ∈ frs l, b ∈ X.fs) → X.s₀.heap.FunFrames X.base l → s.heap.FunFrames X.base l := by
    intro l
    induction l with
    | nil => intro _ _; trivial
    | cons env r ih =>
      intro hs hl
      obtain ⟨hk, ⟨L, o, hf, hn, ho, hd⟩, hr⟩ := hl
      have hL : L ∈ X.fs := hs L (by unfold frs; rw [List.filterMap_cons, hf]; exact List.mem_cons_self)
      obtain ⟨sl, e⟩ := I.base.slot L o ho (I.ok.frf L hL) hL fun z => I.ok.exfs L z hL
      exact ⟨hk, ⟨L, _, hf, hn, e, hd⟩, ih (fun b hb => hs b (by unfold frs; rw [List.filterMap_cons, hf]; exact List.mem_cons_of_mem _ hb)) hr⟩
  exact all X.outer (fun _ hb => hb) I.ok.funs

/-- the frames that run, for a call -/
theorem Inv.stack (I : Inv X pins σ H s) : s.heap.FunFrames X.base X.stack := by
  rcases I.ok.stk with e | ⟨e, hf⟩
  · rw [e]; exact I.funs
  · rw [e]
    obtain ⟨m, hn, _⟩ := I.loc
    refine .cons (by rw [I.ok.kind]; decide) hf hn ?_ I.funs
    exact Heap.get?_none_of_le (Nat.le_trans I.ok.bsz I.ok.above)
theorem Inv.stkSub (I : Inv X pins σ H s) : ∀ b ∈ frs X.stack, b ∈ X.env.locals :: X.fs := fun b hb => by
  rcases I.ok.stk with e | ⟨e, hf⟩
  · rw [e] at hb; exact List.mem_cons_of_mem _ hb
  · rw [e] at hb
    unfold frs at hb
    rw [List.filterMap_cons, hf] at hb
    exact hb
theorem Inv.stkFree (I : Inv X pins σ H s) : ∀ b ∈ frs X.stack, H b = none := fun b hb => by
  rcases List.mem_cons.mp (I.stkSub b hb) with e | hb
  · rw [e]; exact I.free
  · obtain ⟨_, o, ho, _⟩ := I.ok.funs.mem hb
    exact I.base.free b o ho (I.ok.frf b hb) fun z => I.ok.exfs b z hb

/-- THE STEP: the untracked objects but the frame and the records at ch are kept (the callers' frames up to slots), the frame's map is kept, the new abstract heap is held -/
theorem Inv.step {g' : Array GenState} {t' : Nat} {d' : Drawn} {ch : List Addr} (I : Inv X pins σ H s)
    (hch : ∀ b ∈ ch, (b ∈ X.ex ∨ X.s₀.heap.objs.size ≤ b) ∧ b ≠ X.env.locals ∧ (∀ x c, X.env.cells.lookup x = some c → c ≠ b) ∧ ∀ p ∈ X.pn ++ pins, p.1 ≠ b)
    (keep : ∀ b o, b ≠ X.env.locals → b ∉ X.fs → b ∉ ch → s.heap.get? b = some o → H b = none → h'.get? b = some o)
    (slot : ∀ b o, b ≠ X.env.locals → b ∈ X.fs → b ∉ ch → s.heap.get? b = some o → H b = none → ∃ sl, h'.get? b = some { o with slots := sl }) (free : ∀ b o, b ∉ ch → s.heap.get? b = some o → H b = none → H' b = none)
    (there : ∀ b o, b ∉ ch → s.heap.get? b = some o → ∃ o', h'.get? b = some o')
    (tups : ∀ b xs, H b = some (.tup xs) → H' b = some (.tup xs)) (frzs : ∀ b o u, H b = some (.frz o u) → H' b = some (.frz o u)) (tbls : ∀ b ps, H b = some (.tbl ps) → ∃ more, H' b = some (.tbl (ps ++ more)))
    (ns : ∀ m, s.heap.Ns X.env.locals m → h'.Ns X.env.locals m) (hok : HOk X.prog X.w H' h') (hg : AllBare g') :
    Inv X pins σ H' { s with heap := h', gens := g', drawn := d', toks := t' } := by
  have neL : ∀ b o, X.s₀.heap.get? b = some o → b ≠ X.env.locals := fun b o e => Nat.ne_of_lt (Nat.lt_of_lt_of_le (Heap.lt_size e) I.ok.above)
  have neC : ∀ b o, X.s₀.heap.get? b = some o → b ∉ X.ex → b ∉ ch := fun b o e hx hb => by
    rcases (hch b hb).1 with z | z
    · exact hx z
    · exact absurd (Nat.lt_of_lt_of_le (Heap.lt_size e) z) (Nat.lt_irrefl _)
  have cellK : ∀ x c, X.env.cells.lookup x = some c → ∀ v, s.heap.IsCell c v → h'.IsCell c v := fun x c e v ⟨o, ho, hd⟩ => by
    have nch : c ∉ ch := fun z => (hch c z).2.2.1 x c e rfl
    by_cases hc : c ∈ X.fs
    · obtain ⟨sl, q⟩ := slot c o (I.cne x c e) hc nch ho (I.freeC x c e)
      exact ⟨_, q, hd⟩
    · exact ⟨o, keep c o (I.cne x c e) hc nch ho (I.freeC x c e), hd⟩
  refine ⟨I.ok, I.os, hg, ⟨fun b o e n hb hx => ?_, fun b o e n hb hx => ?_, fun b o e n hx => ?_, fun b o e hx => ?_, fun b xs e => tups b xs (I.base.tups b xs e), fun b o xs e => frzs b o xs (I.base.frzs b o xs e), fun b ps e => ?_⟩, ?_, fun x c e => ?_, ?_, fun x c e => ?_, fun p hp => ?_, hok, I.len⟩
  · exact keep b o (neL b o e) hb (neC b o e hx) (I.base.keep b o e n hb hx) (I.base.free b o e n hx)
  · obtain ⟨sl, e1⟩ := I.base.slot b o e n hb hx
    obtain ⟨sl', e2⟩ := slot b _ (neL b o e) hb (neC b o e hx) e1 (I.base.free b o e n hx)
    exact ⟨sl', e2⟩
  · obtain ⟨o', e1⟩ := I.base.there b o e hx
    exact free b o' (neC b o e hx) e1 (I.base.free b o e n hx)
  · obtain ⟨o', e1⟩ := I.base.there b o e hx
    exact there b o' (neC b o e hx) e1
  · obtain ⟨m1, e1⟩ := I.base.tbls b ps e
    obtain ⟨m2, e2⟩ := tbls b _ e1
    exact ⟨m1 ++ m2, by rw [e2, Array.append_assoc]⟩
  · obtain ⟨m, hn, hl⟩ := I.loc
    refine ⟨m, ns m hn, fun i x v e1 e2 e3 => ?_⟩
    obtain ⟨u, r, l⟩ := hl i x v e1 e2 e3
    refine ⟨u, r, ?_⟩
    rcases l with l | ⟨k, c, e, z⟩
    · exact .inl l
    · exact .inr ⟨k, c, e, cellK x c e _ z⟩
  · obtain ⟨v, z⟩ := I.cell x c e
    exact ⟨v, cellK x c e v z⟩
  · obtain ⟨m, ⟨o, _, _, ho, _⟩, _⟩ := I.loc
    exact free _ o (fun z => (hch _ z).2.1 rfl) ho I.free
  · obtain ⟨v, o, ho, hd⟩ := I.cell x c e
    exact free c o (fun z => (hch c z).2.2.1 x c e rfl) ho (I.freeC x c e)
  · obtain ⟨e, n, ne, nf, d⟩ := I.pin p hp
    have nch : p.1 ∉ ch := fun z => (hch p.1 z).2.2.2 p hp rfl
    exact ⟨keep p.1 p.2 ne nf nch e n, free p.1 p.2 nch e n, ne, nf, d⟩
/-- .. where the frame's own object is kept too -/
theorem Inv.un {t' : Nat} (I : Inv X pins σ H s) (u : Un X.fs [] H H' s.heap h') (hok : HOk X.prog X.w H' h') : Inv X pins σ H' { s with heap := h', toks := t' } := by
  obtain ⟨m, ⟨o, es, ep, ho, r⟩, _⟩ := id I.loc
  obtain ⟨sl, hL⟩ := u.any ho I.free (by simp)
  exact I.step (g' := s.gens) (d' := s.drawn) (ch := []) (fun _ z => nomatch z) (fun b o _ hb _ e n => u.keep b o e n hb (by simp)) (fun b o _ hb _ e n => u.slot b o e n hb (by simp)) (fun b o _ e n => u.free b o e n (by simp)) (fun b o _ e => u.there b o e (by simp)) u.tups u.frzs u.tbls (fun m' hm => by
    obtain ⟨o', es', ep', ho', r'⟩ := hm
    rw [ho] at ho'; cases ho'
    exact ⟨_, es', ep', hL, r'⟩) hok I.bare
/-- behind a call (or a comprehension's block): the slots of this frame may have changed too, the records at ch may have turned -/
theorem Inv.call {g' : Array GenState} {t' : Nat} {d' : Drawn} {ch : List Addr} (I : Inv X pins σ H s) (u : Un (frs X.stack) ch H H' s.heap h') (hok : HOk X.prog X.w H' h') (hg : AllBare g')
    (hch : ∀ b ∈ ch, (b ∈ X.ex ∨ X.s₀.heap.objs.size ≤ b) ∧ b ≠ X.env.locals ∧ (∀ x c, X.env.cells.lookup x = some c → c ≠ b) ∧ ∀ p ∈ X.pn ++ pins, p.1 ≠ b) :
    Inv X pins σ H' { s with heap := h', gens := g', drawn := d', toks := t' } := by
  obtain ⟨m, ⟨o, es, ep, ho, r⟩, _⟩ := id I.loc
  obtain ⟨sl, hL⟩ := u.any ho I.free fun z => (hch _ z).2.1 rfl
  exact I.step (ch := ch) hch (fun b o hL hb hc e n => u.keep b o e n (fun z => (List.mem_cons.mp (I.stkSub b z)).elim hL hb) hc) (fun b o _ _ hc e n => u.any e n hc) (fun b o hc e n => u.free b o e n hc) (fun b o hc e => u.there b o e hc) u.tups u.frzs u.tbls (fun m' hm => by
    obtain ⟨o', es', ep', ho', r'⟩ := hm
    rw [ho] at ho'; cases ho'
    exact ⟨_, es', ep', hL, r'⟩) hok hg
/-- an untracked record of ours (an iterator) has turned -/
theorem Inv.turned {t' : Nat} {it : Addr} (I : Inv X pins σ H s) (k : ∀ b o, b ≠ it → s.heap.get? b = some o → h'.get? b = some o) (hn : H it = none) (hL : it ≠ X.env.locals)
    (h1 : it ∈ X.ex ∨ X.s₀.heap.objs.size ≤ it) (h2 : ∀ x c, X.env.cells.lookup x = some c → c ≠ it) (h3 : ∀ p ∈ X.pn ++ pins, p.1 ≠ it) : Inv X pins σ H { s with heap := h', toks := t' } := by
  have nit : ∀ b u, H b = some u → b ≠ it := fun b u e z => by rw [z, hn] at e; cases e
  refine I.step (g' := s.gens) (d' := s.drawn) (ch := [it]) (fun b hb => ?_) (fun b o _ _ hc e _ => k b o (fun z => hc (by simp [z])) e) (fun b o _ _ hc e _ => ⟨o.slots, k b o (fun z => hc (by simp [z])) e⟩) (fun _ _ _ _ n => n)
    (fun b o hc e => ⟨o, k b o (fun z => hc (by simp [z])) e⟩) (fun _ _ e => e) (fun _ _ _ e => e) (fun b ps e => ⟨#[], by rw [e]; simp⟩) (fun m hm => ?_) (fun b u e => ?_) I.bare
  · have e : b = it := by simpa using hb
    subst e
    exact ⟨h1, hL, h2, h3⟩
  · obtain ⟨o, es, ep, ho, r⟩ := hm
    exact ⟨o, es, ep, k _ o (Ne.symm hL) ho, r⟩
  · refine (I.hok b u e).stay (fun c v hc q => k c v ?_ q) (fun _ q => q) fun _ _ q => q
    rcases hc with z | z
    · rw [z]; exact nit b u e
    · exact nit c _ z
theorem Inv.tok (I : Inv X pins σ H s) (t : Nat) : Inv X pins σ H { s with toks := t } := I.un (h' := s.heap) (t' := t) Un.refl I.hok
/-- all objects kept -/
theorem Inv.kept {t' : Nat} (I : Inv X pins σ H s) (k : ∀ b u, s.heap.get? b = some u → h'.get? b = some u) : Inv X pins σ H { s with heap := h', toks := t' } := I.un (Un.kept k) (I.hok.kept k)
/-- a new object laid and tracked -/
theorem Inv.laid {a : Addr} {o : HO} {t' : Nat} (I : Inv X pins σ H s) (k : ∀ b u, s.heap.get? b = some u → h'.get? b = some u) (hp : s.heap.objs.size ≤ a) (new : ObjOk X.prog X.w (upd H a o) h' a o) :
    Inv X pins σ (upd H a o) { s with heap := h', toks := t' } := I.un (Un.laid k hp (I.hok.fresh hp)) (I.hok.laid k hp new)
/-- an object written -/
theorem Inv.write {x e : Addr} {o : HO} {t' : Nat} (I : Inv X pins σ H s) (mu : Mut (H x)) (he : e = x ∨ H e = some (.own x)) (k : ∀ b u, b ≠ e → s.heap.get? b = some u → h'.get? b = some u) (heo : ∃ u, h'.get? e = some u)
    (new : ObjOk X.prog X.w (upd H x o) h' x o) : Inv X pins σ (upd H x o) { s with heap := h', toks := t' } := I.un (Un.write mu he k heo) (I.hok.write mu he k heo new)
/-- forgetting slots, pins -/
theorem Inv.weak {σ' : List (Option V)} (I : Inv X pins σ H s) (hl : σ'.length = σ.length) (w : ∀ (i : Nat) v, σ'[i]? = some (some v) → σ[i]? = some (some v)) : Inv X pins σ' H s :=
  ⟨I.ok, I.os, I.bare, I.base, let ⟨m, hn, hl'⟩ := I.loc; ⟨m, hn, fun i x v e1 e2 e3 => hl' i x v e1 (w i v e2) e3⟩, I.cell, I.free, I.freeC, I.pin, I.hok, hl.trans I.len⟩
theorem Inv.pins_of {pins' : List (Addr × Obj)} (I : Inv X pins σ H s) (h : ∀ p ∈ pins', s.heap.get? p.1 = some p.2 ∧ H p.1 = none ∧ p.1 ≠ X.env.locals ∧ p.1 ∉ X.fs ∧ ∀ v, p.2.data ≠ .cell v) : Inv X pins' σ H s :=
  ⟨I.ok, I.os, I.bare, I.base, I.loc, I.cell, I.free, I.freeC, fun p hp => (List.mem_append.mp hp).elim (fun z => I.pin p (List.mem_append_left _ z)) (h p), I.hok, I.len⟩

theorem nodup_ix {N : List Str} (hN : N.Nodup) {i j : Nat} {x : Str} (a : N[i]? = some x) (b : N[j]? = some x) : i = j := by
  obtain ⟨h1, e1⟩ := List.getElem?_eq_some_iff.mp a
  obtain ⟨h2, e2⟩ := List.getElem?_eq_some_iff.mp b
  exact (List.getElem_inj hN).mp (e1.trans e2.symm)

/-- a name is stored; what changed -/
theorem store_ok2 {M : Model} {A : Around} {E : Value → Shared → Prop} {i : Nat} {x : Str} {v : V} {u : Value} {Q : Unit → Shared → Prop} (I : Inv X pins σ H s) (hN : X.N.Nodup) (hi : X.N[i]? = some x) (hx : Loc X.env.scope x) (r : RelV v u)
    (h : ∀ s', Inv X pins (σ.set i (some v)) H s' → (∃ a, Heap.SameBut a s.heap s'.heap ∧ (a = X.env.locals ∨ X.env.cells.lookup x = some a)) → Q () s') (hf : X.fn x = true ∨ X.env.scope.names.lookup x = some .local := by first | exact .inl rfl | exact .inr rfl | assumption) : wpAny M A (storeName X.env x u) Q E s := by
  obtain ⟨m, hn, hl⟩ := id I.loc
  have hcls : (X.env.scope.kind == .class || (X.env.scope.kind == .module && X.env.locals != X.env.globals)) = false := by rw [I.ok.kind]; rfl
  have hiσ : i < σ.length := by rw [I.len]; exact (List.getElem?_eq_some_iff.mp hi).1
  have cne := I.cne
  have tracked : ∀ {a : Addr} {h' : Heap}, (∃ o, s.heap.get? a = some o ∧ H a = none) → Heap.SameBut a s.heap h' → HOk X.prog X.w H h' := fun {a h'} ha hs b ob e => by
    obtain ⟨_, _, hfree⟩ := ha
    refine (I.hok b ob e).stay (fun c w' hc q => (hs.2 c ?_).trans q) (fun _ q => q) fun _ _ q => q
    rintro rfl
    rcases hc with rfl | hc
    · rw [hfree] at e; cases e
    · rw [hfree] at hc; cases hc
  rcases hx with hk | hk
  · refine wpAny_storeName_local hk hn (fun h' hn' hs => ?_) hcls
    obtain ⟨oL, _, _, hoL, _⟩ := id hn
    refine h _ ⟨I.ok, I.os, I.bare, ⟨fun b o e n hb hx => ?_, fun b o e n hb hx => ?_, I.base.free, fun b o e hx => ?_, I.base.tups, I.base.frzs, I.base.tbls⟩, ⟨_, hn', fun j y v' e1 e2 e3 => ?_⟩, fun y c e => ?_, I.free, I.freeC, fun p hp => ?_, tracked ⟨oL, hoL, I.free⟩ hs, by simpa using I.len⟩ ⟨_, hs, .inl rfl⟩
    · exact (hs.2 b (Nat.ne_of_lt (Nat.lt_of_lt_of_le (Heap.lt_size e) I.ok.above))).trans (I.base.keep b o e n hb hx)
    · obtain ⟨sl, e1⟩ := I.base.slot b o e n hb hx
      exact ⟨sl, (hs.2 b (Nat.ne_of_lt (Nat.lt_of_lt_of_le (Heap.lt_size e) I.ok.above))).trans e1⟩
    · obtain ⟨o', e1⟩ := I.base.there b o e hx
      exact ⟨o', (hs.2 b (Nat.ne_of_lt (Nat.lt_of_lt_of_le (Heap.lt_size e) I.ok.above))).trans e1⟩
    · by_cases hj : j = i
      · subst hj
        rw [hi] at e1; cases e1
        rw [List.getElem?_set_self hiσ] at e2
        cases e2
        exact ⟨u, r, .inl ⟨hk, by simp⟩⟩
      · rw [List.getElem?_set_ne (Ne.symm hj)] at e2
        obtain ⟨u', r', q⟩ := hl j y v' e1 e2 e3
        refine ⟨u', r', ?_⟩
        rcases q with ⟨k, e⟩ | ⟨k, c, e, z⟩
        · refine .inl ⟨k, ?_⟩
          have : y ≠ x := fun e => hj (nodup_ix hN e1 (e ▸ hi))
          simp [this, e]
        · exact .inr ⟨k, c, e, z.sameBut hs (cne y c e)⟩
    · obtain ⟨w', z⟩ := I.cell y c e
      exact ⟨w', z.sameBut hs (cne y c e)⟩
    · obtain ⟨e, n, ne, nf, d⟩ := I.pin p hp
      exact ⟨(hs.2 p.1 ne).trans e, n, ne, nf, d⟩
  · have hfn : X.fn x = true := by
      rcases hf with z | z
      · exact z
      · rw [z] at hk; cases hk
    obtain ⟨c, hc⟩ := I.ok.has x (.inl hk)
    obtain ⟨w', z⟩ := I.cell x c hc
    refine wpAny_storeName_cell I.ok.kind hk hc z (fun h' hc' hs => ?_)
    obtain ⟨oc, hoc, hocd⟩ := id z
    refine h { s with heap := h' } ⟨I.ok, I.os, I.bare, ⟨fun b o e n hb hx => ?_, fun b o e n hb hx => ?_, I.base.free, fun b o e hx => ?_, I.base.tups, I.base.frzs, I.base.tbls⟩, ⟨m, hn.sameBut hs (Ne.symm (cne x c hc)), fun j y v' e1 e2 e3 => ?_⟩, fun y c' e => ?_, I.free, I.freeC, fun p hp => ?_, tracked ⟨oc, hoc, I.freeC x c hc⟩ hs, by simpa using I.len⟩ ⟨c, hs, .inr hc⟩
    · exact (hs.2 b (Nat.ne_of_lt (Nat.lt_of_lt_of_le (Heap.lt_size e) (I.ok.cab x c hfn hc)))).trans (I.base.keep b o e n hb hx)
    · obtain ⟨sl, e1⟩ := I.base.slot b o e n hb hx
      exact ⟨sl, (hs.2 b (Nat.ne_of_lt (Nat.lt_of_lt_of_le (Heap.lt_size e) (I.ok.cab x c hfn hc)))).trans e1⟩
    · obtain ⟨o', e1⟩ := I.base.there b o e hx
      exact ⟨o', (hs.2 b (Nat.ne_of_lt (Nat.lt_of_lt_of_le (Heap.lt_size e) (I.ok.cab x c hfn hc)))).trans e1⟩
    · by_cases hj : j = i
      · subst hj
        rw [hi] at e1; cases e1
        rw [List.getElem?_set_self hiσ] at e2
        cases e2
        exact ⟨u, r, .inr ⟨.inl hk, c, hc, hc'⟩⟩
      · rw [List.getElem?_set_ne (Ne.symm hj)] at e2
        obtain ⟨u', r', q⟩ := hl j y v' e1 e2 e3
        refine ⟨u', r', ?_⟩
        rcases q with q | ⟨k, c', e, z'⟩
        · exact .inl q
        · refine .inr ⟨k, c', e, z'.sameBut hs ?_⟩
          rintro rfl
          exact hj (nodup_ix hN e1 (I.ok.inj _ _ _ e hc ▸ hi))
    · by_cases hcc : c' = c
      · subst hcc; exact ⟨_, hc'⟩
      · obtain ⟨w2, z2⟩ := I.cell y c' e
        exact ⟨w2, z2.sameBut hs hcc⟩
    · obtain ⟨e, n, ne, nf, d⟩ := I.pin p hp
      refine ⟨(hs.2 p.1 ?_).trans e, n, ne, nf, d⟩
      intro q
      rw [q, hoc] at e
      have q' : oc = p.2 := Option.some.inj e
      exact d w' (by rw [← q']; exact hocd)
theorem store_ok {M : Model} {A : Around} {E : Value → Shared → Prop} {i : Nat} {x : Str} {v : V} {u : Value} {Q : Unit → Shared → Prop} (I : Inv X pins σ H s) (hN : X.N.Nodup) (hi : X.N[i]? = some x) (hx : Loc X.env.scope x) (r : RelV v u)
    (h : ∀ s', Inv X pins (σ.set i (some v)) H s' → Q () s') (hf : X.fn x = true ∨ X.env.scope.names.lookup x = some .local := by first | exact .inl rfl | exact .inr rfl | assumption) : wpAny M A (storeName X.env x u) Q E s :=
  store_ok2 I hN hi hx r (fun s' I' _ => h s' I') hf
/-- behind a call or a block, the state as it is -/
theorem Inv.call' {s' : Shared} {ch : List Addr} (I : Inv X pins σ H s) (ho : s'.os = s.os) (u : Un (frs X.stack) ch H H' s.heap s'.heap) (hok : HOk X.prog X.w H' s'.heap) (hg : AllBare s'.gens)
    (hch : ∀ b ∈ ch, (b ∈ X.ex ∨ X.s₀.heap.objs.size ≤ b) ∧ b ≠ X.env.locals ∧ (∀ x c, X.env.cells.lookup x = some c → c ≠ b) ∧ ∀ p ∈ X.pn ++ pins, p.1 ≠ b) : Inv X pins σ H' s' := by
  obtain ⟨h', g', d', t', o'⟩ := s'
  have e : o' = s.os := ho
  subst e
  exact I.call (g' := g') (t' := t') (d' := d') u hok hg hch
end

/-! ### the judgements -/
/-- an exception: its class, its own dict's address (where it has one), the abstract heap behind it -/
abbrev XK := Value → Option Addr → Hp → Prop
abbrev St := List (Option V)
abbrev VK := V → Hp → Prop
/-- an expression's reading; a test's; an argument list's -/
abbrev TE := St → Hp → VK → Prop
abbrev TT := St → Hp → (Bool → Hp → Prop) → Prop
abbrev TA := St → Hp → (List V → Hp → Prop) → Prop
/-- what is wanted behind a statement -/
structure Ends where
  nx : St → Hp → Prop
  rt : VK
  bk : St → Hp → Prop := fun _ _ => False
  ct : St → Hp → Prop := fun _ _ => False
abbrev TS := Ends → St → Hp → Prop

def EP (X : Cx) (pins : List (Addr × Obj)) (σ : St) (Q : VK) (u : Value) (s' : Shared) : Prop := ∃ v H', Inv X pins σ H' s' ∧ RelV v u ∧ Q v H'
def TP (X : Cx) (pins : List (Addr × Obj)) (σ : St) (Q : Bool → Hp → Prop) (b : Bool) (s' : Shared) : Prop := ∃ H', Inv X pins σ H' s' ∧ Q b H'
def AP (X : Cx) (pins : List (Addr × Obj)) (σ : St) (Q : List V → Hp → Prop) (us : List Value) (s' : Shared) : Prop := ∃ vs H', Inv X pins σ H' s' ∧ Vals vs us ∧ Q vs H'
def SP (X : Cx) (pins : List (Addr × Obj)) (D : Ends) (f : Flow) (s' : Shared) : Prop :=
  match f with
  | .next => ∃ σ' H', Inv X pins σ' H' s' ∧ D.nx σ' H'
  | .brk => ∃ σ' H', Inv X pins σ' H' s' ∧ D.bk σ' H'
  | .cont => ∃ σ' H', Inv X pins σ' H' s' ∧ D.ct σ' H'
  | .ret u => ∃ v σ' H', Inv X pins σ' H' s' ∧ RelV v u ∧ D.rt v H'

def PE (X : Cx) (e : Expr) (t : TE) : Prop :=
  ∀ (pins : List (Addr × Obj)) (s : Shared) (σ : St) (H : Hp) (Q : VK), Inv X pins σ H s → t σ H Q → wpAny (model X.prog X.w) X.A (eval e X.env) (EP X pins σ Q) X.xe s
def PT (X : Cx) (e : Expr) (t : TT) : Prop :=
  ∀ (pins : List (Addr × Obj)) (s : Shared) (σ : St) (H : Hp) (Q : Bool → Hp → Prop), Inv X pins σ H s → t σ H Q → wpAny (model X.prog X.w) X.A (isTrue e X.env (eval e X.env)) (TP X pins σ Q) X.xe s
/-- a test whatever its 'whole' is (and, or) -/
def PW (X : Cx) (e : Expr) (t : TT) : Prop :=
  ∀ (whole : Sem Value) (pins : List (Addr × Obj)) (s : Shared) (σ : St) (H : Hp) (Q : Bool → Hp → Prop), Inv X pins σ H s → t σ H Q → wpAny (model X.prog X.w) X.A (isTrue e X.env whole) (TP X pins σ Q) X.xe s
theorem PW.pt {X : Cx} {e : Expr} {t : TT} (h : PW X e t) : PT X e t := h _
/-- an argument list (no star), from the left -/
def PA (X : Cx) (es : List Expr) (t : TA) : Prop :=
  ∀ (pos : Pos) (pins : List (Addr × Obj)) (s : Shared) (σ : St) (H : Hp) (Q : List V → Hp → Prop), Inv X pins σ H s → t σ H Q → wpAny (model X.prog X.w) X.A (spliced (backTo pos (starEach es X.env))) (AP X pins σ Q) X.xe s
def PS (X : Cx) (st : Stmt) (t : TS) : Prop :=
  ∀ (pins : List (Addr × Obj)) (s : Shared) (σ : St) (H : Hp) (D : Ends), Inv X pins σ H s → t D σ H → wpAny (model X.prog X.w) X.A (exec st X.env) (SP X pins D) X.xe s
def PSs (X : Cx) (st : List Stmt) (t : TS) : Prop :=
  ∀ (pins : List (Addr × Obj)) (s : Shared) (σ : St) (H : Hp) (D : Ends), Inv X pins σ H s → t D σ H → wpAny (model X.prog X.w) X.A (execs st X.env) (SP X pins D) X.xe s
/-- weaken the end -/
theorem thn {α : Type} {t : Sem α} {Q Q' : α → Shared → Prop} {M : Model} {A : Around} {E : Value → Shared → Prop} {s : Shared} (h : wpAny M A t Q E s) (hQ : ∀ a s, Q a s → Q' a s) : wpAny M A t Q' E s := wpAny_mono h hQ fun _ _ x => x
end L2

namespace L2
open PySem PySem.Spec PyProof.Rows
section
variable {X : Cx}

/-! ### names and constants -/
def tVar (i : Nat) : TE := fun σ H Q => ∃ v, σ[i]? = some (some v) ∧ Q v H
def tC (v : V) : TE := fun _ H Q => Q v H
theorem pe_var {i : Nat} {x : Str} {pos : Pos} (hN : X.N[i]? = some x) (hv : Vis X.env.scope x) (hd : (x == ("__debug__" : Str)) = false := by decide) (hcd : (x == ("__classdict__" : Str)) = false := by decide) : PE X (.Name x pos) (tVar i) := by
  intro pins s σ H Q I h
  obtain ⟨v, e, h⟩ := h
  obtain ⟨m, hn, hl⟩ := I.loc
  obtain ⟨u, r, l⟩ := hl i x v hN e hv
  have fin : EP X pins σ Q u s := ⟨v, H, I, r, h⟩
  rcases l with ⟨hk, hm⟩ | ⟨hk, c, hc, hcell⟩
  · exact wpAny_Name (wpAny_loadName_local I.ok.kind hk hn hm fin) hd
  · rcases hk with hk | hk
    · exact wpAny_Name (wpAny_loadName_cell I.ok.kind hk hc hcell fin) hd
    · exact wpAny_Name (wpAny_loadName_free I.ok.kind hk hc hcell fin hcd) hd
theorem pe_int {i j pos} : PE X (.Constant (.int i) j pos) (tC (.int i)) := fun _ _ _ H _ I h => wpAny_Constant_int ⟨.int i, H, I.tok _, ⟨_, rfl⟩, h⟩
theorem pe_bl {b j pos} : PE X (.Constant (.bool b) j pos) (tC (.bl b)) := fun _ _ _ H _ I h => Constant_bool ⟨.bl b, H, I, rfl, h⟩
theorem pe_str {x j pos} : PE X (.Constant (.str x) j pos) (tC (.str x)) := fun _ _ _ H _ I h => Calls.Constant_str ⟨.str x, H, I.tok _, ⟨_, rfl⟩, h⟩

/-- a global name of the def -/
def Gl (X : Cx) (x : Str) : Prop := X.env.kindOf x = some .globalImplicit
theorem ld_glob {E : Value → Shared → Prop} {pins : List (Addr × Obj)} {s : Shared} {σ : St} {H : Hp} {x : Str} {u : Value} {pos : Pos} {Q : Value → Shared → Prop} (I : Inv X pins σ H s) (hg : Gl X x) (hm : X.mg x = some u) (h : Q u s)
    (hd : (x == ("__debug__" : Str)) = false := by decide) : wpAny (model X.prog X.w) X.A (eval (.Name x pos) X.env) Q E s :=
  Calls.Name_function_global I.ok.kind hg (Calls.loadGlobal_global (by rw [I.ok.glob]; exact I.mod.glob.keeps I.bk) hm h) hd
theorem ld_blt {E : Value → Shared → Prop} {pins : List (Addr × Obj)} {s : Shared} {σ : St} {H : Hp} {x : Str} {u : Value} {pos : Pos} {Q : Value → Shared → Prop} (I : Inv X pins σ H s) (hg : Gl X x) (hm : X.mg x = none) (hv : bootBuiltins x = some u) (h : Q u s)
    (hn : x ≠ "__name__" := by decide) (hd : (x == ("__debug__" : Str)) = false := by decide) : wpAny (model X.prog X.w) X.A (eval (.Name x pos) X.env) Q E s := by
  obtain ⟨mb, h1, h2⟩ := I.mod.blt
  exact Calls.Name_function_global I.ok.kind hg (Calls.loadGlobal_builtin (by rw [I.ok.glob]; exact I.mod.glob.keeps I.bk) hm (by rw [I.ok.blt]; exact h1.keeps I.bk) ((h2 x hn).trans hv) h) hd
theorem pe_bltn {x : Str} {v : V} {u : Value} {pos : Pos} (hg : Gl X x) (hm : X.mg x = none) (hv : bootBuiltins x = some u) (r : RelV v u) (hn : x ≠ "__name__" := by decide) (hd : (x == ("__debug__" : Str)) = false := by decide) : PE X (.Name x pos) (tC v) :=
  fun _ _ _ H _ I h => ld_blt I hg hm hv ⟨v, H, I, r, h⟩ hn hd

/-! ### arithmetic -/
variable {a b : Expr} {ta tb : TE} {pos : Pos}
/-! ### comparisons -/
def PC (X : Cx) (op : CmpOp) (a b : Expr) (t : TE) : Prop :=
  ∀ (pins : List (Addr × Obj)) (s : Shared) (σ : St) (H : Hp) (Q : VK), Inv X pins σ H s → t σ H Q →
    wpAny (model X.prog X.w) X.A (eval a X.env) (fun v s₁ => wpAny (model X.prog X.w) X.A (eval b X.env) (fun u s₂ => wpAny (model X.prog X.w) X.A (compareOp op v u) (EP X pins σ Q) X.xe s₂) X.xe s₁) X.xe s
theorem nobehind (b : Expr) {op : CmpOp} (h : op ≠ .In) (h2 : op ≠ .NotIn) : behindInMarks op b = false := by
  have e1 : (op == CmpOp.In) = false := by cases op <;> first | rfl | exact absurd rfl h
  have e2 : (op == CmpOp.NotIn) = false := by cases op <;> first | rfl | exact absurd rfl h2
  cases b <;> simp [behindInMarks, e1, e2]
/-- a comparison as a value, as a test -/
def tB (t : TE) : TT := fun σ H Q => t σ H fun x H1 => ∃ c, x = .bl c ∧ Q c H1
theorem pt_cmp {op : CmpOp} {t : TE} (h : PC X op a b t) (h1 : behindInMarks op b = false := by first | exact nobehind _ (by decide) (by decide) | rfl) : PT X (.Compare a [op] [b] pos) (tB t) := by
  intro pins s σ H Q I hw
  refine wpAny_isTrue_Compare1 (thn (h pins s σ H _ I hw) fun v s1 h1 => thn h1 fun u s2 h2 => thn h2 fun c s3 ⟨x, H1, I1, r1, q1⟩ => ?_) h1
  obtain ⟨d, rfl, q⟩ := q1
  cases r1
  exact wpAny_truthy_bool ⟨H1, I1, q⟩
/-- an expression whose value is a bool, as a test -/
theorem pt_val {e : Expr} {t : TE} (h : PE X e t) (he : ∀ whole, isTrue e X.env whole = (do let v ← whole; standAt e.pos; holding [v] (truthy v)) := by intro _; rfl) : PT X e (tB t) := by
  intro pins s σ H Q I hw
  refine isTrue_plain (thn (h pins s σ H _ I hw) fun v s1 ⟨x, H1, I1, r1, q1⟩ => ?_) (he _)
  obtain ⟨d, rfl, q⟩ := q1
  cases r1
  exact wpAny_truthy_bool ⟨H1, I1, q⟩

/-! ### and, or, not -/
variable {tA tB' : TT} {rest : List Expr}
def tAnd (t u : TT) : TT := fun σ H Q => t σ H fun c H1 => if c = true then u σ H1 Q else Q false H1
def tOr (t u : TT) : TT := fun σ H Q => t σ H fun c H1 => if c = true then Q true H1 else u σ H1 Q
def tNot (t : TT) : TT := fun σ H Q => t σ H fun c H1 => Q (!c) H1
theorem pw_and1 (ha : PT X a tA) : PW X (.BoolOp .And [a] pos) tA := by
  intro wh pins s σ H Q I h
  refine isTrue_and (thn (ha pins s σ H Q I h) fun c s1 e => ?_)
  cases c with
  | true => exact isTrue_and_nil e
  | false => exact e
theorem pw_or1 (ha : PT X a tA) : PW X (.BoolOp .Or [a] pos) tA := by
  intro wh pins s σ H Q I h
  refine isTrue_or (thn (ha pins s σ H Q I h) fun c s1 e => ?_)
  cases c with
  | false => exact isTrue_or_nil e
  | true => exact e
theorem pw_and (ha : PT X a tA) (hb : PW X (.BoolOp .And (b :: rest) pos) tB') : PW X (.BoolOp .And (a :: b :: rest) pos) (tAnd tA tB') := by
  intro wh pins s σ H Q I h
  refine isTrue_and (thn (ha pins s σ H _ I h) fun c s1 ⟨H1, I1, q1⟩ => ?_)
  cases c with
  | true => exact hb wh pins s1 σ H1 Q I1 q1
  | false => exact ⟨H1, I1, q1⟩
theorem pw_or (ha : PT X a tA) (hb : PW X (.BoolOp .Or (b :: rest) pos) tB') : PW X (.BoolOp .Or (a :: b :: rest) pos) (tOr tA tB') := by
  intro wh pins s σ H Q I h
  refine isTrue_or (thn (ha pins s σ H _ I h) fun c s1 ⟨H1, I1, q1⟩ => ?_)
  cases c with
  | true => exact ⟨H1, I1, q1⟩
  | false => exact hb wh pins s1 σ H1 Q I1 q1
theorem pt_not (ha : PT X a tA) : PT X (.UnaryOp .Not a pos) (tNot tA) := by
  intro pins s σ H Q I h
  exact isTrue_not (ha pins s σ H (fun c H1 => Q (!c) H1) I h)
/-- .. as values (bools) -/
def tAndV (ta tb : TE) : TE := fun σ H Q => ta σ H fun x H1 => ∃ c, x = .bl c ∧ if c = true then tb σ H1 Q else Q (.bl false) H1
def tNotV (ta : TE) : TE := fun σ H Q => ta σ H fun x H1 => ∃ c, x = .bl c ∧ Q (.bl (!c)) H1
theorem pe_one {op} {t : TE} (h : PE X a t) : PE X (.BoolOp op [a] pos) t := fun pins s σ H Q I hw => BoolOp_one (h pins s σ H Q I hw)
theorem pe_and (ha : PE X a ta) (hb : PE X (.BoolOp .And (b :: rest) pos) tb) : PE X (.BoolOp .And (a :: b :: rest) pos) (tAndV ta tb) := by
  intro pins s σ H Q I h
  refine BoolOp_and (thn (ha pins s σ H _ I h) fun v s1 ⟨x, H1, I1, r1, q1⟩ => ?_)
  obtain ⟨c, rfl, q1⟩ := q1
  cases r1
  refine wpAny_truthy_bool ?_
  cases c with
  | true => exact hb pins s1 σ H1 Q I1 q1
  | false => exact ⟨.bl false, H1, I1, rfl, q1⟩
theorem pe_not (ha : PE X a ta) : PE X (.UnaryOp .Not a pos) (tNotV ta) := by
  intro pins s σ H Q I h
  refine UnaryOp_ (thn (ha pins s σ H _ I h) fun v s1 ⟨x, H1, I1, r1, q1⟩ => ?_)
  obtain ⟨c, rfl, q1⟩ := q1
  cases r1
  exact not_of (wpAny_truthy_bool ⟨.bl (!c), H1, I1, rfl, q1⟩)
/-- a if t else b -/
def tIf (t : TT) (ta tb : TE) : TE := fun σ H Q => t σ H fun c H1 => if c = true then ta σ H1 Q else tb σ H1 Q
theorem pe_ifExp {c : Expr} (hc : PT X c tA) (ha : PE X a ta) (hb : PE X b tb) : PE X (.IfExp c a b pos) (tIf tA ta tb) := by
  intro pins s σ H Q I h
  refine wpAny_IfExp (thn (hc pins s σ H _ I h) fun d s1 ⟨H1, I1, q1⟩ => ?_)
  cases d with
  | true => exact ha pins s1 σ H1 Q I1 q1
  | false => exact hb pins s1 σ H1 Q I1 q1
end
end L2

namespace L2
open PySem PySem.Spec PyProof.Rows

/-! ### a list, a tuple that is read: tracked, frozen, or an object of the module -/
def SqL (K : PySem.W.Frag) (H : Hp) (a : Addr) (xs : List V) : Prop :=
  Rd H a (.lst xs) ∨
    ∃ (o : Obj) (its : Array Value) (n : Nat), K.lookup a = some o ∧ o.cls = .type "list" ∧ o.dict = none ∧ o.data = .seq its n ∧ its.size ≤ sizeLine ∧ Vals xs its.toList
def SqT (K : PySem.W.Frag) (H : Hp) (a : Addr) (xs : List V) : Prop :=
  Rd H a (.tup xs) ∨
    ∃ (o : Obj) (its : Array Value) (n : Nat), K.lookup a = some o ∧ o.cls = .type "tuple" ∧ o.data = .seq its n ∧ its.size ≤ sizeLine ∧ Vals xs its.toList
def absV : Value → Option V
  | .none => some .non
  | .bool b => some (.bl b)
  | .int i _ => some (.int i)
  | .str x _ => some (.str x)
  | .bytes b _ => some (.byt b)
  | .float b _ => some (.flt b)
  | .ref a => some (.ref a)
  | .type n => some (.ty n)
  | _ => none
theorem RelV.abs {x : V} {u : Value} (r : RelV x u) : absV u = some x := by
  cases x with
  | non => cases r; rfl
  | bl _ => cases r; rfl
  | int _ => obtain ⟨t, rfl⟩ := r; rfl
  | str _ => obtain ⟨t, rfl⟩ := r; rfl
  | byt _ => obtain ⟨t, rfl⟩ := r; rfl
  | flt _ => obtain ⟨t, rfl⟩ := r; rfl
  | ref _ => cases r; rfl
  | ty _ => cases r; rfl
theorem RelV.inj {x y : V} {u : Value} (r : RelV x u) (q : RelV y u) : x = y := Option.some.inj (r.abs.symm.trans q.abs)
theorem Vals.inj : ∀ {xs ys : List V} {us : List Value}, Vals xs us → Vals ys us → xs = ys
  | _, _, _, .nil, .nil => rfl
  | _, _, _, .cons r t, .cons r' t' => by rw [r.inj r', Vals.inj t t']
section
variable {X : Cx} {pins : List (Addr × Obj)} {σ : St} {H : Hp} {s : Shared} {a : Addr} {xs ys : List V}
theorem SqL.of {K : PySem.W.Frag} (h : H a = some (.lst xs)) : SqL K H a xs := .inl (.inl h)
theorem SqT.of {K : PySem.W.Frag} (h : H a = some (.tup xs)) : SqT K H a xs := .inl (.inl h)
theorem Inv.list (I : Inv X pins σ H s) (h : SqL X.K H a xs) : ∃ its : List Value, Vals xs its ∧ PlainL s.heap a its.toArray ∧ xs.length ≤ sizeLine := by
  rcases h with h | ⟨o, its, n, hk, hc, hd, hs, hz, r⟩
  · obtain ⟨z, its, n, r, e⟩ := h.ok I.hok
    exact ⟨its, r, ⟨_, n, e, rfl, rfl, rfl⟩, z⟩
  · refine ⟨its.toList, r, ⟨o, n, I.kIn a o hk, hc, hd, by simpa using hs⟩, ?_⟩
    have e := r.length
    simp only [Array.length_toList] at e
    omega
theorem Inv.tuple (I : Inv X pins σ H s) (h : SqT X.K H a xs) : ∃ its : List Value, Vals xs its ∧ IsTup s.heap a its.toArray ∧ xs.length ≤ sizeLine := by
  rcases h with h | ⟨o, its, n, hk, hc, hs, hz, r⟩
  · obtain ⟨z, its, r, p⟩ := h.ok I.hok
    exact ⟨its, r, p.tup, z⟩
  · refine ⟨its.toList, r, ⟨o, I.kIn a o hk, hc, n, by simpa using hs⟩, ?_⟩
    have e := r.length
    simp only [Array.length_toList] at e
    omega
theorem Inv.list_inj (I : Inv X pins σ H s) (h : SqL X.K H a xs) (h' : SqL X.K H a ys) : xs = ys := by
  obtain ⟨its, r, ⟨o, n, e, _, _, d⟩, _⟩ := I.list h
  obtain ⟨its', r', ⟨o', n', e', _, _, d'⟩, _⟩ := I.list h'
  rw [e] at e'; cases e'
  rw [d] at d'
  injection d' with d1 _
  have : its = its' := by simpa using congrArg Array.toList d1
  subst this
  exact r.inj r'
theorem Inv.tuple_inj (I : Inv X pins σ H s) (h : SqT X.K H a xs) (h' : SqT X.K H a ys) : xs = ys := by
  obtain ⟨its, r, ⟨o, e, _, n, d⟩, _⟩ := I.tuple h
  obtain ⟨its', r', ⟨o', e', _, n', d'⟩, _⟩ := I.tuple h'
  rw [e] at e'; cases e'
  rw [d] at d'
  injection d' with d1 _
  have : its = its' := by simpa using congrArg Array.toList d1
  subst this
  exact r.inj r'
end

/-! ### another wish about exceptions -/
abbrev Cx.wish (X : Cx) (E : Value → Shared → Prop) : Cx := { X with xe := E }
/-- no exception leaves -/
abbrev Cx.nox (X : Cx) : Cx := X.wish fun _ _ => False
theorem Cx.Ok.wish {X : Cx} (ok : X.Ok) (E : Value → Shared → Prop) : (X.wish E).Ok :=
  ⟨ok.mod, ok.kind, ok.glob, ok.blt, ok.above, ok.inj, ok.has, ok.cab, ok.hd, ok.frames, ok.stk, ok.exf, ok.bs, ok.bsz, ok.noex, ok.exfs, ok.funs, ok.frf⟩
theorem Cx.Ok.unwish {X : Cx} {E : Value → Shared → Prop} (ok : (X.wish E).Ok) : X.Ok :=
  ⟨ok.mod, ok.kind, ok.glob, ok.blt, ok.above, ok.inj, ok.has, ok.cab, ok.hd, ok.frames, ok.stk, ok.exf, ok.bs, ok.bsz, ok.noex, ok.exfs, ok.funs, ok.frf⟩
section
variable {X : Cx} {pins : List (Addr × Obj)} {σ : St} {H : Hp} {s : Shared} {E : Value → Shared → Prop}
theorem Inv.wish (I : Inv X pins σ H s) (E : Value → Shared → Prop) : Inv (X.wish E) pins σ H s := ⟨I.ok.wish E, I.os, I.bare, I.base, I.loc, I.cell, I.free, I.freeC, I.pin, I.hok, I.len⟩
theorem Inv.unwish (I : Inv (X.wish E) pins σ H s) : Inv X pins σ H s := ⟨I.ok.unwish, I.os, I.bare, I.base, I.loc, I.cell, I.free, I.freeC, I.pin, I.hok, I.len⟩
theorem SP.unwish {D : Ends} {f : Flow} {s' : Shared} (h : SP (X.wish E) pins D f s') : SP X pins D f s' := by
  cases f with
  | next => obtain ⟨σ', H', I, q⟩ := h; exact ⟨σ', H', I.unwish, q⟩
  | brk => obtain ⟨σ', H', I, q⟩ := h; exact ⟨σ', H', I.unwish, q⟩
  | cont => obtain ⟨σ', H', I, q⟩ := h; exact ⟨σ', H', I.unwish, q⟩
  | ret u => obtain ⟨v, σ', H', I, r, q⟩ := h; exact ⟨v, σ', H', I.unwish, r, q⟩
theorem PE.nox {e : Expr} {t : TE} (h : PE X.nox e t) : PE X e t := fun pins s σ H Q I hw =>
  wpAny_mono (h pins s σ H Q (I.wish _) hw) (fun _ _ ⟨v, H', I', r, q⟩ => ⟨v, H', I'.unwish, r, q⟩) fun _ _ z => False.elim z
theorem PT.nox {e : Expr} {t : TT} (h : PT X.nox e t) : PT X e t := fun pins s σ H Q I hw =>
  wpAny_mono (h pins s σ H Q (I.wish _) hw) (fun _ _ ⟨H', I', q⟩ => ⟨H', I'.unwish, q⟩) fun _ _ z => False.elim z
theorem PSs.nox {st : List Stmt} {t : TS} (h : PSs X.nox st t) : PSs X st t := fun pins s σ H D I hw =>
  wpAny_mono (h pins s σ H D (I.wish _) hw) (fun _ _ q => q.unwish) fun _ _ z => False.elim z
end

/-! ### blocks and small statements -/
section
variable {X : Cx} {st : Stmt} {rest : List Stmt} {t u : TS} {e : Expr} {te : TE} {pos : Pos}
def tNext : TS := fun D σ H => D.nx σ H
def tSeq (t u : TS) : TS := fun D σ H => t { D with nx := u D } σ H
theorem pss_nil : PSs X [] tNext := fun _ _ σ H _ I h => wpAny_execs_nil ⟨σ, H, I, h⟩
theorem pss_cons (h1 : PS X st t) (h2 : PSs X rest u) : PSs X (st :: rest) (tSeq t u) := by
  intro pins s σ H D I h
  refine wpAny_execs_cons (thn (h1 pins s σ H { D with nx := u D } I h) fun f s1 q => ?_)
  cases f with
  | next =>
    obtain ⟨σ', H', I', q⟩ := q
    exact h2 pins s1 σ' H' D I' q
  | ret v => exact q
  | brk => exact q
  | cont => exact q
theorem pss_one (h1 : PS X st t) : PSs X [st] t := by
  intro pins s σ H D I h
  refine wpAny_execs_cons (thn (h1 pins s σ H D I h) fun f s1 q => ?_)
  cases f with
  | next => exact wpAny_execs_nil q
  | ret v => exact q
  | brk => exact q
  | cont => exact q
/-- in a def's body nothing is shown -/
theorem Inv.quiet {pins : List (Addr × Obj)} {σ : St} {H : Hp} {s : Shared} (I : Inv X pins σ H s) : interactive X.env = false := by simp [interactive, I.ok.kind]
/-- an expression whose value is dropped -/
def tDrop (te : TE) : TS := fun D σ H => te σ H fun _ H1 => D.nx σ H1
theorem ps_expr (he : PE X e te) (hs : swapsWith e none pos.line X.env = pure false := by rfl) : PS X (.Expr e pos) (tDrop te) := by
  intro pins s σ H D I h
  exact wpAny_Expr_any (thn (he pins s σ H _ I h) fun v s1 ⟨x, H1, I1, r1, q1⟩ => ⟨σ, H1, I1, q1⟩) I.quiet hs
def tRet (te : TE) : TS := fun D σ H => te σ H D.rt
theorem ps_ret (he : PE X e te) : PS X (.Return (some e) pos) (tRet te) := by
  intro pins s σ H D I h
  exact wpAny_Return_some (thn (he pins s σ H _ I h) fun v s1 ⟨x, H1, I1, r1, q1⟩ => ⟨x, σ, H1, I1, r1, q1⟩)
def tIfS (c : TT) (t u : TS) : TS := fun D σ H => c σ H fun b H1 => if b = true then t D σ H1 else u D σ H1
theorem ps_if {c : Expr} {a b : List Stmt} {tc : TT} (hc : PT X c tc) (ha : PSs X a t) (hb : PSs X b u) : PS X (.If c a b pos) (tIfS tc t u) := by
  intro pins s σ H D I h
  refine wpAny_If (thn (hc pins s σ H _ I h) fun d s1 ⟨H1, I1, q1⟩ => ?_)
  cases d with
  | true => exact ha pins s1 σ H1 D I1 q1
  | false => exact hb pins s1 σ H1 D I1 q1
end

/-! ### targets -/
abbrev TG := V → St → Hp → (St → Hp → Prop) → Prop
abbrev TGs := List V → St → Hp → (St → Hp → Prop) → Prop
def PG (X : Cx) (target : Expr) (t : TG) : Prop :=
  ∀ (pins : List (Addr × Obj)) (s : Shared) (σ : St) (H : Hp) (v : V) (u : Value) (Q : St → Hp → Prop), Inv X pins σ H s → RelV v u → t v σ H Q →
    wpAny (model X.prog X.w) X.A (assign target X.env u) (fun _ s' => ∃ σ' H', Inv X pins σ' H' s' ∧ Q σ' H') X.xe s
/-- several targets, one after another -/
def PGs (X : Cx) (ts : List Expr) (t : TGs) : Prop :=
  ∀ (pins : List (Addr × Obj)) (s : Shared) (σ : St) (H : Hp) (vs : List V) (us : List Value) (Q : St → Hp → Prop), Inv X pins σ H s → Vals vs us → t vs σ H Q →
    wpAny (model X.prog X.w) X.A (assignInOrder ((assignEach ts X.env).map (·.2)) us) (fun _ s' => ∃ σ' H', Inv X pins σ' H' s' ∧ Q σ' H') X.xe s
/-- o[i] = v, by values -/
abbrev TSet := V → V → V → Hp → (Hp → Prop) → Prop
def PSet (X : Cx) (t : TSet) : Prop :=
  ∀ (pins : List (Addr × Obj)) (s : Shared) (σ : St) (H : Hp) (o i v : V) (ov iv u : Value) (Q : Hp → Prop), Inv X pins σ H s → RelV o ov → RelV i iv → RelV v u → t o i v H Q →
    wpAny (model X.prog X.w) X.A (setItem ov iv u) (fun _ s' => ∃ H', Inv X pins σ H' s' ∧ Q H') X.xe s
section
variable {X : Cx} {pos : Pos}
def gName (i : Nat) : TG := fun v σ H Q => Q (σ.set i (some v)) H
theorem pg_name {i : Nat} {x : Str} (hN : X.N.Nodup) (hi : X.N[i]? = some x) (hx : Loc X.env.scope x) (hf : X.fn x = true ∨ X.env.scope.names.lookup x = some .local := by first | exact .inl rfl | exact .inr rfl | assumption) : PG X (.Name x pos) (gName i) := by
  intro pins s σ H v u Q I r h
  exact wpAny_assign_Name (store_ok I hN hi hx r (fun s' I' => ⟨_, H, I', h⟩) hf)
def gNil : TGs := fun vs σ H Q => vs = [] ∧ Q σ H
def gCons (t : TG) (u : TGs) : TGs := fun vs σ H Q => ∃ v r, vs = v :: r ∧ t v σ H fun σ' H' => u r σ' H' Q
theorem pgs_nil : PGs X [] gNil := by
  intro pins s σ H vs us Q I r h
  obtain ⟨e, h⟩ := h
  subst e
  cases r
  exact assignInOrder_nil ⟨σ, H, I, h⟩
theorem pgs_cons {e : Expr} {es : List Expr} {t : TG} {u : TGs} (h1 : PG X e t) (h2 : PGs X es u)
    (hs : (assignEach (e :: es) X.env).map (·.2) = assign e X.env :: (assignEach es X.env).map (·.2) := by rfl) : PGs X (e :: es) (gCons t u) := by
  intro pins s σ H vs us Q I r h
  obtain ⟨v, vr, e1, h⟩ := h
  subst e1
  cases r with
  | cons r rr =>
    rw [hs]
    refine assignInOrder_cons (thn (h1 pins s σ H _ _ _ I r h) fun _ s1 ⟨σ1, H1, I1, q1⟩ => ?_)
    exact h2 pins s1 σ1 H1 _ _ Q I1 rr q1
/-- (a, b, ..) = a tuple of that length -/
def gTup (K : PySem.W.Frag) (n : Nat) (t : TGs) : TG := fun v σ H Q => ∃ a xs, v = .ref a ∧ SqT K H a xs ∧ xs.length = n ∧ t xs σ H Q
theorem pg_tup {es : List Expr} {k : Nat} {t : TGs} {n : Nat} (hc : X.calm = true) (h : PGs X es t)
    (hn : (assignEach es X.env).length = n := by rfl) (hst : (assignEach es X.env).findIdx? (·.1) = none := by rfl) : PG X (.Tuple es k pos) (gTup X.K n t) := by
  intro pins s σ H v u Q I r hw
  obtain ⟨a, xs, e1, hq, hl, hw⟩ := hw
  subst e1
  cases r
  obtain ⟨its, rv, ht, hz⟩ := I.tuple hq
  refine assign_Tuple_tuple (I.ok.hd hc) ht (by simp [hn, ← hl, rv.length]) hst fun h' hx => ?_
  have I1 : Inv X pins σ H { s with heap := h' } := I.kept (t' := s.toks) fun b o e => hx b o (Nat.ne_of_lt (Heap.lt_size e)) e
  exact h pins _ σ H xs _ Q I1 (by simpa using rv) hw
/-- o[i] = .. -/
def gSub (to ti : TE) (t : TSet) : TG := fun v σ H Q => to σ H fun o H1 => ti σ H1 fun i H2 => t o i v H2 fun H3 => Q σ H3
theorem pg_sub {o i : Expr} {to ti : TE} {t : TSet} (ho : PE X o to) (hi : PE X i ti) (hs : PSet X t)
    (ha : ∀ v, assign (.Subscript o i pos) X.env v = (do
      let ov ← holding [v] (eval o X.env)
      let iv ← holding [v, ov] (eval i X.env)
      standAt pos
      holding [v, ov, iv] (setItem ov iv v)
      release [v, ov, iv] []) := by intro _; rfl) : PG X (.Subscript o i pos) (gSub to ti t) := by
  intro pins s σ H v u Q I r h
  rw [ha]
  refine wpAny_bind (wpAny_holding (thn (ho pins s σ H _ I h) fun ov s1 ⟨x, H1, I1, r1, q1⟩ => ?_))
  refine wpAny_bind (wpAny_holding (thn (hi pins s1 σ H1 _ I1 q1) fun iv s2 ⟨y, H2, I2, r2, q2⟩ => ?_))
  refine wpAny_bind (wpAny_standAt (wpAny_bind (wpAny_holding (thn (hs pins s2 σ H2 x y v ov iv u _ I2 r1 r2 r q2) fun _ s3 ⟨H3, I3, q3⟩ => ?_))))
  exact wpAny_release ⟨σ, H3, I3, q3⟩
/-- target = value -/
def tAsg (te : TE) (g : TG) : TS := fun D σ H => te σ H fun x H1 => g x σ H1 D.nx
theorem ps_asg {tg e : Expr} {te : TE} {g : TG} (he : PE X e te) (hg : PG X tg g) (hs : swapsWithSole [tg] e pos.line X.env = pure false := by rfl) (hw : swappedStores [tg] e X.env = pure none := by rfl)
    (h1 : (assignEach [tg] X.env).map (·.2) = [assign tg X.env] := by rfl) : PS X (.Assign [tg] e pos) (tAsg te g) := by
  intro pins s σ H D I h
  refine wpAny_Assign_stores (thn (he pins s σ H _ I h) fun v s1 ⟨x, H1, I1, r1, q1⟩ => ?_) hs hw
  rw [h1]
  exact thn (hg pins s1 σ H1 x v _ I1 r1 q1) fun _ s2 q => q
/-- name = value -/
theorem ps_set {i : Nat} {x : Str} {e : Expr} {te : TE} {pos' : Pos} (hN : X.N.Nodup) (hi : X.N[i]? = some x) (hx : Loc X.env.scope x) (he : PE X e te) (hs : swapsWith e (some (.Name x pos')) pos.line X.env = pure false := by rfl) (hf : X.fn x = true ∨ X.env.scope.names.lookup x = some .local := by first | exact .inl rfl | exact .inr rfl | assumption) :
    PS X (.Assign [.Name x pos'] e pos) (tAsg te (gName i)) := by
  intro pins s σ H D I h
  refine wpAny_Assign_Name (thn (he pins s σ H _ I h) fun v s1 ⟨y, H1, I1, r1, q1⟩ => ?_) hs
  exact store_ok I1 hN hi hx r1 (fun s2 I2 => ⟨_, H1, I2, q1⟩) hf
end

/-! ### while -/
section
variable {X : Cx} {pos : Pos}
end

/-! ### what a loop or a comprehension walks -/
/-- at turn i: it yields x (the heap may grow), or it stops -/
structure It where
  go : Nat → Hp → Prop
  yld : Nat → Hp → V → Hp → Prop
  stop : Nat → Hp → Prop
/-- the iterator's own objects may turn: they are not the frame's, not pinned, younger than the entry (or a comprehension's own) -/
def FpOk (X : Cx) (pins : List (Addr × Obj)) (H : Hp) (b : Addr) : Prop :=
  H b = none ∧ b ≠ X.env.locals ∧ b ∉ X.fs ∧ (b ∈ X.ex ∨ X.s₀.heap.objs.size ≤ b) ∧ (∀ x c, X.env.cells.lookup x = some c → c ≠ b) ∧ ∀ p ∈ X.pn ++ pins, p.1 ≠ b
theorem Inv.fpOk {X : Cx} {pins : List (Addr × Obj)} {σ : St} {H H' : Hp} {s : Shared} {b : Addr} (I : Inv X pins σ H s) (hb : s.heap.objs.size ≤ b) (hn : H' b = none) : FpOk X pins H' b := by
  refine ⟨hn, Nat.ne_of_gt (Nat.lt_of_lt_of_le I.lt hb), I.nofs hb, .inr (Nat.le_trans I.sz hb), fun x c e z => ?_, fun p hp z => ?_⟩
  · obtain ⟨v, q⟩ := I.cell x c e
    exact absurd (Nat.lt_of_lt_of_le q.lt (by rw [z]; exact hb)) (Nat.lt_irrefl _)
  · exact absurd (Nat.lt_of_lt_of_le (Heap.lt_size (I.pin p hp).1) (by rw [z]; exact hb)) (Nat.lt_irrefl _)
structure Turn (P : Program) (w : World) (K : PySem.W.Frag) (tg : Expr) (J : It) (fp : List Addr) (it : Addr) (tn : Nat → Heap → Prop) : Prop where
  mem : it ∈ fp
  obj : ∀ i h, tn i h → ∀ b ∈ fp, ∃ o, h.get? b = some o ∧ ∀ v, o.data ≠ .cell v
  keep : ∀ i h h', tn i h → (∀ b ∈ fp, ∀ o, h.get? b = some o → h'.get? b = some o) → tn i h'
  item : ∀ (X : Cx), X.prog = P → X.w = w → X.K = K → X.calm = true → ∀ (i : Nat) (pins : List (Addr × Obj)) (s : Shared) (σ : St) (H : Hp) (E : Value → Shared → Prop), Inv X pins σ H s → (∀ b ∈ fp, FpOk X pins H b) → tn i s.heap → J.go i H →
    wpAny (model P w) X.A (pyNext (.ref it)) (fun r s1 => ∃ u, r = some u ∧
      wpAny (model P w) X.A (letOwnedTupleGo tg (.ref it) u) (fun _ s2 => ∃ x H', Inv X pins σ H' s2 ∧ RelV x u ∧ J.yld i H x H' ∧ tn (i + 1) s2.heap ∧ ∀ b ∈ fp, H' b = none) E s1) E s
  done : ∀ (X : Cx), X.prog = P → X.w = w → X.K = K → X.calm = true → ∀ (i : Nat) (pins : List (Addr × Obj)) (s : Shared) (σ : St) (H : Hp) (E : Value → Shared → Prop), Inv X pins σ H s → (∀ b ∈ fp, FpOk X pins H b) → tn i s.heap → J.stop i H →
    wpAny (model P w) X.A (pyNext (.ref it)) (fun r s1 => r = none ∧ Inv X pins σ H s1) E s
  self : ∀ (A : Around) (i : Nat) (s : Shared) (Q : Value → Shared → Prop) (E : Value → Shared → Prop), tn i s.heap → Q (.ref it) s → wpAny (model P w) A (pyIter (.ref it)) Q E s
abbrev TI := St → Hp → (It → Hp → Prop) → Prop
/-- an iterator has come -/
def PIE (X : Cx) (pins : List (Addr × Obj)) (σ : St) (tg : Expr) (R : It → Hp → Prop) (itv : Value) (s2 : Shared) : Prop :=
  ∃ (it : Addr) (fp : List Addr) (tn : Nat → Heap → Prop) (J : It) (H' : Hp), itv = .ref it ∧ Inv X pins σ H' s2 ∧ Turn X.prog X.w X.K tg J fp it tn ∧ tn 0 s2.heap ∧ (∀ b ∈ fp, FpOk X pins H' b) ∧ R J H'
def PI (X : Cx) (tg iter : Expr) (wi : TI) : Prop :=
  ∀ (pins : List (Addr × Obj)) (s : Shared) (σ : St) (H : Hp) (R : It → Hp → Prop), Inv X pins σ H s → wi σ H R →
    wpAny (model X.prog X.w) X.A (eval iter X.env) (fun v s1 => wpAny (model X.prog X.w) X.A (pyIter v) (PIE X pins σ tg R) X.xe s1) X.xe s

/-- the step ahead of the store is nothing for an iterator that keeps no tuple -/
theorem go_of {M : Model} {A : Around} {E : Value → Shared → Prop} {s : Shared} {tg : Expr} {it : Addr} {u : Value} {o : Obj} {n : String} {vs : Array Value} {Q : Unit → Shared → Prop} (ho : s.heap.get? it = some o) (hc : o.cls = .type n) (hd : o.data = .fields vs)
    (hn : ["enumerate", "zip", "dict_itemiterator", "dict_reverseitemiterator", "odict_iterator", "itertools.zip_longest", "itertools.pairwise"].contains n = false) (hQ : Q () s) : wpAny M A (letOwnedTupleGo tg (.ref it) u) Q E s := by
  unfold letOwnedTupleGo
  cases tg <;> first
    | exact wpAny_pure hQ
    | (cases u <;> first
        | exact wpAny_pure hQ
        | (refine wpAny_bind (wpAny_load ho ?_)
           rw [hc, hd]
           show wpAny M A (if (["enumerate", "zip", "dict_itemiterator", "dict_reverseitemiterator", "odict_iterator", "itertools.zip_longest", "itertools.pairwise"].contains n && vs[0]? == some (rawInt _)) = true then _ else _) Q E s
           rw [if_neg (by intro h; rw [hn, Bool.false_and] at h; cases h)]
           exact wpAny_pure hQ))

/-- the list at a, as it stands at each turn (a loop may append to it) -/
def Itl (K : PySem.W.Frag) (a : Addr) : It :=
  ⟨fun i H => ∃ xs x, SqL K H a xs ∧ xs[i]? = some x, fun i H x H' => H' = H ∧ ∀ xs, SqL K H a xs → xs[i]? = some x, fun i H => ∃ xs, SqL K H a xs ∧ xs.length ≤ i⟩
def Itt (K : PySem.W.Frag) (a : Addr) : It :=
  ⟨fun i H => ∃ xs x, SqT K H a xs ∧ xs[i]? = some x, fun i H x H' => H' = H ∧ ∀ xs, SqT K H a xs → xs[i]? = some x, fun i H => ∃ xs, SqT K H a xs ∧ xs.length ≤ i⟩
/-- lo, lo + 1, .. (n of them) -/
def Itr (lo : Int) (n : Nat) : It := ⟨fun i _ => i < n, fun i H x H' => H' = H ∧ x = .int (lo + i), fun i _ => n ≤ i⟩
theorem turn_list {P : Program} {w : World} {K : PySem.W.Frag} {tg : Expr} (a it : Addr) : Turn P w K tg (Itl K a) [it] it (fun i h => h.IsListIter it a i) where
  mem := by simp
  obj := fun i h st b hb => by
    have e : b = it := by simpa using hb
    subst e
    obtain ⟨o, e, c, d⟩ := st
    exact ⟨o, e, fun v z => by rw [d] at z; cases z⟩
  keep := fun i h h' st k => st.at fun o e => k it (by simp) o e
  item := by
    intro X hP hw hK hc i pins s σ H E I hf st hg
    subst hP hw hK
    obtain ⟨xs, x, hq, hx⟩ := hg
    obtain ⟨its, rv, p, hz⟩ := I.list hq
    obtain ⟨u, hu, ru⟩ := rv.get hx
    obtain ⟨f0, f1, f2, f3, f4, f5⟩ := hf it (by simp)
    refine wpAny_pyNext_list_item st p.isList (x := u) (by simpa using hu) fun h' st' sb => ?_
    have I1 : Inv X pins σ H { s with heap := h' } := I.turned (t' := s.toks) (fun b o hb e => (sb.2 b hb).trans e) f0 f1 f3 f4 f5
    obtain ⟨o, e, c, d⟩ := id st'
    exact ⟨u, rfl, go_of (s := { s with heap := h' }) e c d (by decide) ⟨x, H, I1, ru, ⟨rfl, fun ys hy => by rw [I.list_inj hy hq]; exact hx⟩, st', fun b hb => (hf b hb).1⟩⟩
  done := by
    intro X hP hw hK hc i pins s σ H E I hf st hg
    subst hP hw hK
    obtain ⟨xs, hq, hx⟩ := hg
    obtain ⟨its, rv, p, hz⟩ := I.list hq
    obtain ⟨f0, f1, f2, f3, f4, f5⟩ := hf it (by simp)
    have hl := rv.length
    exact wpAny_pyNext_list_end (I.ok.hd hc) st p.isList (by simp; omega) fun h' eb => ⟨rfl, I.turned (t' := s.toks) (fun b o hb e => eb b o hb e) f0 f1 f3 f4 f5⟩
  self := fun _ _ _ _ _ st h => wpAny_pyIter_listiter st h
theorem turn_tuple {P : Program} {w : World} {K : PySem.W.Frag} {tg : Expr} (a it : Addr) : Turn P w K tg (Itt K a) [it] it (fun i h => h.IsTupleIter it a i) where
  mem := by simp
  obj := fun i h st b hb => by
    have e : b = it := by simpa using hb
    subst e
    obtain ⟨o, e, c, d⟩ := st
    exact ⟨o, e, fun v z => by rw [d] at z; cases z⟩
  keep := fun i h h' st k => st.at fun o e => k it (by simp) o e
  item := by
    intro X hP hw hK hc i pins s σ H E I hf st hg
    subst hP hw hK
    obtain ⟨xs, x, hq, hx⟩ := hg
    obtain ⟨its, rv, p, hz⟩ := I.tuple hq
    obtain ⟨u, hu, ru⟩ := rv.get hx
    obtain ⟨f0, f1, f2, f3, f4, f5⟩ := hf it (by simp)
    refine wpAny_pyNext_tuple_item st (show s.heap.IsTuple a its.toArray from p) (x := u) (by simpa using hu) fun h' st' sb => ?_
    have I1 : Inv X pins σ H { s with heap := h' } := I.turned (t' := s.toks) (fun b o hb e => (sb.2 b hb).trans e) f0 f1 f3 f4 f5
    obtain ⟨o, e, c, d⟩ := id st'
    exact ⟨u, rfl, go_of (s := { s with heap := h' }) e c d (by decide) ⟨x, H, I1, ru, ⟨rfl, fun ys hy => by rw [I.tuple_inj hy hq]; exact hx⟩, st', fun b hb => (hf b hb).1⟩⟩
  done := by
    intro X hP hw hK hc i pins s σ H E I hf st hg
    subst hP hw hK
    obtain ⟨xs, hq, hx⟩ := hg
    obtain ⟨its, rv, p, hz⟩ := I.tuple hq
    obtain ⟨f0, f1, f2, f3, f4, f5⟩ := hf it (by simp)
    have hl := rv.length
    exact wpAny_pyNext_tuple_end (I.ok.hd hc) st (show s.heap.IsTuple a its.toArray from p) (by simp; omega) fun h' eb => ⟨rfl, I.turned (t' := s.toks) (fun b o hb e => eb b o hb e) f0 f1 f3 f4 f5⟩
  self := fun _ _ _ _ _ st h => wpAny_pyIter_tupleiter st h
theorem turn_range {P : Program} {w : World} {K : PySem.W.Frag} {tg : Expr} (it : Addr) (lo : Int) (n : Nat) : Turn P w K tg (Itr lo n) [it] it (fun i h => IsRangeIter h it (lo + (i : Nat) * 1) ((n : Int) - (i : Nat)) 1) where
  mem := by simp
  obj := fun i h st b hb => by
    have e : b = it := by simpa using hb
    subst e
    exact ⟨_, st, fun v z => by
      have z' : Data.fields _ = Data.cell v := z
      cases z'⟩
  keep := fun i h h' st k => k it (by simp) _ st
  item := by
    intro X hP hw hK hc i pins s σ H E I hf st hg
    subst hP hw hK
    obtain ⟨f0, f1, f2, f3, f4, f5⟩ := hf it (by simp)
    have W := Walks.range (prog := X.prog) (w := X.w) (I.ok.hd hc) it lo 1 n
    refine W.item i s _ _ hg st fun v h' tk hv st' kk => ?_
    obtain ⟨t, rfl⟩ := hv
    have I1 : Inv X pins σ H { s with heap := h', toks := tk } := I.turned (fun b o hb e => kk b o (by simpa using hb) e) f0 f1 f3 f4 f5
    refine ⟨_, rfl, go_of (s := { s with heap := h', toks := tk }) (n := "range_iterator") st' rfl rfl (by decide) ⟨.int (lo + i), H, I1, ⟨t, ?_⟩, ⟨rfl, rfl⟩, st', fun b hb => (hf b hb).1⟩⟩
    rw [Int.mul_one]
  done := by
    intro X hP hw hK hc i pins s σ H E I hf st hg
    subst hP hw hK
    obtain ⟨f0, f1, f2, f3, f4, f5⟩ := hf it (by simp)
    exact wpAny_pyNext_range_end (I.ok.hd hc) st (by have : n ≤ i := hg; omega) fun h' eb => ⟨rfl, I.turned (t' := s.toks) (fun b o hb e => eb b o hb e) f0 f1 f3 f4 f5⟩
  self := fun _ _ _ _ _ st h => wpAny_pyIter_rangeiter st h
end L2

namespace L2
open PySem PySem.Spec PyProof.Rows
section
variable {X : Cx} {tg : Expr}
def iList (K : PySem.W.Frag) (tl : TE) : TI := fun σ H R => tl σ H fun x H1 => ∃ a, x = .ref a ∧ (∃ xs, SqL K H1 a xs) ∧ R (Itl K a) H1
def iTup (K : PySem.W.Frag) (tl : TE) : TI := fun σ H R => tl σ H fun x H1 => ∃ a, x = .ref a ∧ (∃ xs, SqT K H1 a xs) ∧ R (Itt K a) H1
theorem pi_list {l : Expr} {tl : TE} (hl : PE X l tl) : PI X tg l (iList X.K tl) := by
  intro pins s σ H R I h
  refine thn (hl pins s σ H _ I h) fun v s1 ⟨x, H1, I1, r1, q1⟩ => ?_
  obtain ⟨a, e, ⟨xs, hq⟩, q⟩ := q1
  subst e
  cases r1
  obtain ⟨its, rv, p, hz⟩ := I1.list hq
  refine wpAny_pyIter_list p.isList ?_
  refine ⟨s1.heap.objs.size, [s1.heap.objs.size], _, _, H1, rfl, I1.kept (t' := s1.toks) fun b o e => Heap.get?_push_of_some _ e, turn_list a _, ⟨_, Heap.get?_push_size _ rfl, rfl, rfl⟩, fun b hb => ?_, q⟩
  have e : b = s1.heap.objs.size := by simpa using hb
  subst e
  exact I1.fpOk (Nat.le_refl _) (I1.hok.fresh (Nat.le_refl _))
theorem pi_tup {l : Expr} {tl : TE} (hl : PE X l tl) : PI X tg l (iTup X.K tl) := by
  intro pins s σ H R I h
  refine thn (hl pins s σ H _ I h) fun v s1 ⟨x, H1, I1, r1, q1⟩ => ?_
  obtain ⟨a, e, ⟨xs, hq⟩, q⟩ := q1
  subst e
  cases r1
  obtain ⟨its, rv, p, hz⟩ := I1.tuple hq
  refine wpAny_pyIter_tuple (show s1.heap.IsTuple a its.toArray from p) ?_
  refine ⟨s1.heap.objs.size, [s1.heap.objs.size], _, _, H1, rfl, I1.kept (t' := s1.toks) fun b o e => Heap.get?_push_of_some _ e, turn_tuple a _, ⟨_, Heap.get?_push_size _ rfl, rfl, rfl⟩, fun b hb => ?_, q⟩
  have e : b = s1.heap.objs.size := by simpa using hb
  subst e
  exact I1.fpOk (Nat.le_refl _) (I1.hok.fresh (Nat.le_refl _))
/-- a range object just made, walked -/
theorem range_it {pins : List (Addr × Obj)} {σ : St} {H : Hp} {s : Shared} {R : It → Hp → Prop} {E : Value → Shared → Prop} {lo hi : Int} {t u v : Tok} {tk : Nat} (I : Inv X pins σ H s) (h1 : -(2 ^ 62) ≤ lo) (h2 : lo < 2 ^ 62) (h3 : -(2 ^ 62) ≤ hi) (h4 : hi < 2 ^ 62)
    (q : R (Itr lo (hi - lo).toNat) H) : wpAny (model X.prog X.w) X.A (pyIter (.ref s.heap.objs.size)) (PIE X pins σ tg R) E { s with heap := s.heap.push { cls := .type "range", data := .fields #[.int lo t, .int hi u, .int 1 v] }, toks := tk } := by
  refine wpAny_pyIter_range (IsRange.new ..) (small_one h1 h2 h3 h4) ?_
  have I1 : Inv X pins σ H { s with heap := s.heap.push { cls := .type "range", data := .fields #[.int lo t, .int hi u, .int 1 v] }, toks := tk } := I.kept fun b o e => Heap.get?_push_of_some _ e
  refine ⟨(s.heap.push { cls := .type "range", data := .fields #[.int lo t, .int hi u, .int 1 v] }).objs.size, [(s.heap.push { cls := .type "range", data := .fields #[.int lo t, .int hi u, .int 1 v] }).objs.size], _, _, H, rfl,
    I1.kept (t' := tk) fun b o e => Heap.get?_push_of_some _ e, turn_range _ lo (hi - lo).toNat, ?_, fun b hb => ?_, q⟩
  · have e1 : lo + ((0 : Nat) : Int) * 1 = lo := by simp
    have e2 : (((hi - lo).toNat : Nat) : Int) - ((0 : Nat) : Int) = Builtin.Range.rangeSize lo hi 1 := by rw [rangeSize_one]; split <;> omega
    show IsRangeIter _ _ (lo + ((0 : Nat) : Int) * 1) ((((hi - lo).toNat : Nat) : Int) - ((0 : Nat) : Int)) 1
    rw [e1, e2]
    exact Heap.get?_push_size _ rfl
  · have e : b = (s.heap.push { cls := .type "range", data := .fields #[.int lo t, .int hi u, .int 1 v] }).objs.size := by simpa using hb
    subst e
    exact I1.fpOk (Nat.le_refl _) (I1.hok.fresh (Nat.le_refl _))
def iRng1 (ta : TA) : TI := fun σ H R => ta σ H fun vs H1 => ∃ j : Int, vs = [.int j] ∧ -(2 ^ 62) ≤ j ∧ j < 2 ^ 62 ∧ R (Itr 0 j.toNat) H1
theorem pi_range1 {a : Expr} {ta : TA} {p pos : Pos} (hg : Gl X "range") (hm : X.mg "range" = none) (ha : PA X [a] ta) (hs : starEach [a] X.env = [(false, eval a X.env)] := by rfl) : PI X tg (.Call (.Name "range" p) [a] [] pos) (iRng1 ta) := by
  intro pins s σ H R I h
  refine Call_ (ld_blt I hg hm boot_range (PyProof.Rows.callWith_type1 (thn (ha pos pins s σ H _ I h) fun us s1 ⟨vs, H1, I1, r1, q1⟩ => ?_) hs rfl))
  obtain ⟨j, e, q1, q2, q⟩ := q1
  subst e
  cases r1 with
  | cons r rr =>
    cases rr
    obtain ⟨t, rfl⟩ := r
    exact call_range_1 (range_it I1 (by omega) (by omega) q1 q2 (by simpa using q))
/-! ### for -/
/-- W: the invariant by the turn and a measure; N: what the body is to reach -/
def tFor (wi : TI) (g : TG) (tb : TS) : TS := fun D σ H => wi σ H fun J H1 => ∃ W : Nat → Nat → St → Hp → Prop, (∃ m, W 0 m σ H1) ∧ ∀ i m σ H, W i m σ H →
  (J.stop i H ∧ D.nx σ H) ∨ (J.go i H ∧ ∃ N : St → Hp → Prop, (∀ σ' H', N σ' H' → ∃ m', m' < m ∧ W (i + 1) m' σ' H') ∧ ∀ x H', J.yld i H x H' → g x σ H' fun σ2 H2 => tb { D with nx := N, ct := N, bk := D.nx } σ2 H2)
/-- the records at fp as they stand -/
def pinsAt (fp : List Addr) (h : Heap) : List (Addr × Obj) := fp.filterMap fun b => (h.get? b).map fun o => (b, o)
theorem mem_pinsAt {fp : List Addr} {h : Heap} {b : Addr} {o : Obj} (hb : b ∈ fp) (e : h.get? b = some o) : (b, o) ∈ pinsAt fp h := List.mem_filterMap.mpr ⟨b, hb, by rw [e]; rfl⟩
theorem of_pinsAt {fp : List Addr} {h : Heap} {p : Addr × Obj} (hp : p ∈ pinsAt fp h) : p.1 ∈ fp ∧ h.get? p.1 = some p.2 := by
  obtain ⟨b, hb, e⟩ := List.mem_filterMap.mp hp
  cases q : h.get? b with
  | none => rw [q] at e; cases e
  | some o =>
    rw [q] at e
    have e' : (b, o) = p := Option.some.inj e
    subst e'
    exact ⟨hb, q⟩
theorem Inv.pinned {pins : List (Addr × Obj)} {σ : St} {H : Hp} {s : Shared} {fp : List Addr} (I : Inv X pins σ H s) (hf : ∀ b ∈ fp, FpOk X pins H b) (ho : ∀ b ∈ fp, ∃ o, s.heap.get? b = some o ∧ ∀ v, o.data ≠ .cell v) : Inv X (pins ++ pinsAt fp s.heap) σ H s :=
  I.pins_of fun p hp => (List.mem_append.mp hp).elim (fun z => I.pin p (List.mem_append_right _ z)) fun z => by
    obtain ⟨hb, e⟩ := of_pinsAt z
    obtain ⟨f0, f1, f2, _⟩ := hf p.1 hb
    obtain ⟨o, e', d⟩ := ho p.1 hb
    rw [e] at e'; cases e'
    exact ⟨e, f0, f1, f2, d⟩
theorem Inv.unpinned {pins pl : List (Addr × Obj)} {σ : St} {H : Hp} {s : Shared} (I : Inv X (pins ++ pl) σ H s) : Inv X pins σ H s := I.pins_of fun p hp => I.pin p (List.mem_append_right _ (List.mem_append_left _ hp))
theorem ps_for {iter : Expr} {body : List Stmt} {wi : TI} {g : TG} {tb : TS} {pos : Pos} (hp : PassesOwn (model X.prog X.w) X.A X.env X.xe) (hc : X.calm = true) (hi : PI X tg iter wi) (hg : PG X tg g) (hb : PSs X body tb)
    (hs : ∀ x, foldedSetIterable iter X.env x = pure x := by intro _; rfl) : PS X (.For tg iter body [] pos) (tFor wi g tb) := by
  intro pins s σ H D I h
  refine wpAny_For (thn (hi pins s σ H _ I h) fun v s1 h1 => thn h1 fun itv s2 h2 => ?_) hs
  obtain ⟨it, fp, tn, J, H2, e, I2, T, st2, f2, W, ⟨m0, w0⟩, turn⟩ := h2
  subst e
  -- what stays true of the iterator's objects through the loop
  have stat : ∀ {H' : Hp}, (∀ b ∈ fp, H' b = none) → ∀ b ∈ fp, FpOk X pins H' b := fun hn b hb => ⟨hn b hb, (f2 b hb).2⟩
  refine codeAny_forLoop_any (fun n s' => ∃ i σ' H', Inv X pins σ' H' s' ∧ tn i s'.heap ∧ (∀ b ∈ fp, H' b = none) ∧ W i n σ' H') ?_ m0 ⟨0, σ, H2, I2, st2, fun b hb => (f2 b hb).1, w0⟩
  rintro n s3 ⟨i, σ3, H3, I3, st3, fr3, w3⟩
  rcases turn i n σ3 H3 w3 with ⟨stop, qn⟩ | ⟨go, N, hN, step⟩
  · refine wpAny_passesOwn hp (thn (T.done X rfl rfl rfl hc i pins s3 σ3 H3 X.xe I3 (stat fr3) st3 stop) fun r s4 ⟨hr, I4⟩ => ?_)
    subst hr
    exact wpAny_execs_nil ⟨σ3, H3, I4, qn⟩
  · refine wpAny_passesOwn hp (thn (T.item X rfl rfl rfl hc i pins s3 σ3 H3 X.xe I3 (stat fr3) st3 go) fun r s4 ⟨u, hr, h4⟩ => ?_)
    subst hr
    refine wpAny_passesOwn hp (thn h4 fun _ s5 ⟨x, H5, I5, r5, y5, st5, fr5⟩ => ?_)
    have I5' := I5.pinned (stat fr5) (T.obj _ _ st5)
    refine wpAny_passesOwn hp (thn (hg _ s5 σ3 H5 x u _ I5' r5 (step x H5 y5)) fun _ s6 ⟨σ6, H6, I6, q6⟩ => ?_)
    refine wpAny_passesOwn hp (thn (hb _ s6 σ6 H6 _ I6 q6) fun f s7 q7 => ?_)
    have again : ∀ {σ7 : St} {H7 : Hp}, Inv X (pins ++ pinsAt fp s5.heap) σ7 H7 s7 → N σ7 H7 → ∃ m, m < n ∧ ∃ i σ' H', Inv X pins σ' H' s7 ∧ tn i s7.heap ∧ (∀ b ∈ fp, H' b = none) ∧ W i m σ' H' := fun {σ7 H7} I7 n7 => by
      obtain ⟨m', hm, w7⟩ := hN σ7 H7 n7
      refine ⟨m', hm, i + 1, σ7, H7, I7.unpinned, T.keep _ _ _ st5 fun b hb o e => (I7.pin (b, o) (List.mem_append_right _ (List.mem_append_right _ (mem_pinsAt hb e)))).1, fun b hb => ?_, w7⟩
      obtain ⟨o, e, d⟩ := T.obj _ _ st5 b hb
      exact (I7.pin (b, o) (List.mem_append_right _ (List.mem_append_right _ (mem_pinsAt hb e)))).2.1
    cases f with
    | next => obtain ⟨σ7, H7, I7, n7⟩ := q7; exact again I7 n7
    | cont => obtain ⟨σ7, H7, I7, n7⟩ := q7; exact again I7 n7
    | brk => obtain ⟨σ7, H7, I7, q7⟩ := q7; exact ⟨σ7, H7, I7.unpinned, q7⟩
    | ret v => obtain ⟨x7, σ7, H7, I7, r7, q7⟩ := q7; exact ⟨x7, σ7, H7, I7.unpinned, r7, q7⟩
end

/-! ### the forms one uses -/
/-- over a list that the body leaves as it is -/
theorem for_list {K : PySem.W.Frag} {a : Addr} {xs : List V} {g : TG} {tb : TS} {D : Ends} {σ : St} {H : Hp} (Pv : Nat → St → Hp → Prop) (h0 : Pv 0 σ H) (hl : ∀ i σ H, i ≤ xs.length → Pv i σ H → SqL K H a xs)
    (hs : ∀ i x σ H, xs[i]? = some x → Pv i σ H → g x σ H fun σ2 H2 => tb { D with nx := Pv (i + 1), ct := Pv (i + 1), bk := D.nx } σ2 H2) (hd : ∀ σ H, Pv xs.length σ H → D.nx σ H) :
    ∃ W : Nat → Nat → St → Hp → Prop, (∃ m, W 0 m σ H) ∧ ∀ i m σ H, W i m σ H →
      ((Itl K a).stop i H ∧ D.nx σ H) ∨ ((Itl K a).go i H ∧ ∃ N : St → Hp → Prop, (∀ σ' H', N σ' H' → ∃ m', m' < m ∧ W (i + 1) m' σ' H') ∧ ∀ x H', (Itl K a).yld i H x H' → g x σ H' fun σ2 H2 => tb { D with nx := N, ct := N, bk := D.nx } σ2 H2) := by
  refine ⟨fun i m σ H => m = xs.length - i ∧ i ≤ xs.length ∧ Pv i σ H, ⟨xs.length, by simp, Nat.zero_le _, h0⟩, ?_⟩
  rintro i m σ H ⟨rfl, hi, p⟩
  have q := hl i σ H hi p
  by_cases hlt : i < xs.length
  · refine .inr ⟨⟨xs, xs[i], q, by simp [hlt]⟩, Pv (i + 1), fun σ' H' p' => ⟨xs.length - (i + 1), by omega, rfl, hlt, p'⟩, fun x H' y => ?_⟩
    obtain ⟨e, y⟩ := y
    subst e
    exact hs i x σ _ (y xs q) p
  · have e : i = xs.length := by omega
    subst e
    exact .inl ⟨⟨xs, q, Nat.le_refl _⟩, hd σ H p⟩
theorem for_tup {K : PySem.W.Frag} {a : Addr} {xs : List V} {g : TG} {tb : TS} {D : Ends} {σ : St} {H : Hp} (Pv : Nat → St → Hp → Prop) (h0 : Pv 0 σ H) (hl : ∀ i σ H, i ≤ xs.length → Pv i σ H → SqT K H a xs)
    (hs : ∀ i x σ H, xs[i]? = some x → Pv i σ H → g x σ H fun σ2 H2 => tb { D with nx := Pv (i + 1), ct := Pv (i + 1), bk := D.nx } σ2 H2) (hd : ∀ σ H, Pv xs.length σ H → D.nx σ H) :
    ∃ W : Nat → Nat → St → Hp → Prop, (∃ m, W 0 m σ H) ∧ ∀ i m σ H, W i m σ H →
      ((Itt K a).stop i H ∧ D.nx σ H) ∨ ((Itt K a).go i H ∧ ∃ N : St → Hp → Prop, (∀ σ' H', N σ' H' → ∃ m', m' < m ∧ W (i + 1) m' σ' H') ∧ ∀ x H', (Itt K a).yld i H x H' → g x σ H' fun σ2 H2 => tb { D with nx := N, ct := N, bk := D.nx } σ2 H2) := by
  refine ⟨fun i m σ H => m = xs.length - i ∧ i ≤ xs.length ∧ Pv i σ H, ⟨xs.length, by simp, Nat.zero_le _, h0⟩, ?_⟩
  rintro i m σ H ⟨rfl, hi, p⟩
  have q := hl i σ H hi p
  by_cases hlt : i < xs.length
  · refine .inr ⟨⟨xs, xs[i], q, by simp [hlt]⟩, Pv (i + 1), fun σ' H' p' => ⟨xs.length - (i + 1), by omega, rfl, hlt, p'⟩, fun x H' y => ?_⟩
    obtain ⟨e, y⟩ := y
    subst e
    exact hs i x σ _ (y xs q) p
  · have e : i = xs.length := by omega
    subst e
    exact .inl ⟨⟨xs, q, Nat.le_refl _⟩, hd σ H p⟩
theorem for_range {lo : Int} {n : Nat} {g : TG} {tb : TS} {D : Ends} {σ : St} {H : Hp} (Pv : Nat → St → Hp → Prop) (h0 : Pv 0 σ H)
    (hs : ∀ i σ H, i < n → Pv i σ H → g (.int (lo + i)) σ H fun σ2 H2 => tb { D with nx := Pv (i + 1), ct := Pv (i + 1), bk := D.nx } σ2 H2) (hd : ∀ σ H, Pv n σ H → D.nx σ H) :
    ∃ W : Nat → Nat → St → Hp → Prop, (∃ m, W 0 m σ H) ∧ ∀ i m σ H, W i m σ H →
      ((Itr lo n).stop i H ∧ D.nx σ H) ∨ ((Itr lo n).go i H ∧ ∃ N : St → Hp → Prop, (∀ σ' H', N σ' H' → ∃ m', m' < m ∧ W (i + 1) m' σ' H') ∧ ∀ x H', (Itr lo n).yld i H x H' → g x σ H' fun σ2 H2 => tb { D with nx := N, ct := N, bk := D.nx } σ2 H2) := by
  refine ⟨fun i m σ H => m = n - i ∧ i ≤ n ∧ Pv i σ H, ⟨n, by simp, Nat.zero_le _, h0⟩, ?_⟩
  rintro i m σ H ⟨rfl, hi, p⟩
  by_cases hlt : i < n
  · refine .inr ⟨hlt, Pv (i + 1), fun σ' H' p' => ⟨n - (i + 1), by omega, rfl, hlt, p'⟩, fun x H' y => ?_⟩
    obtain ⟨e, y⟩ := y
    subst e y
    exact hs i σ _ hlt p
  · have e : i = n := by omega
    subst e
    exact .inl ⟨Nat.le_refl _, hd σ H p⟩
end L2

namespace L2
open PySem PySem.Spec PyProof.Rows

abbrev R2 := V → V → Hp → VK → Prop
/-- a two-place operation on values: f is binaryOp op, inplaceOp op or compareOp op -/
def OpR (X : Cx) (f : Value → Value → Sem Value) (r : R2) : Prop :=
  ∀ (pins : List (Addr × Obj)) (s : Shared) (σ : St) (H : Hp) (x y : V) (v u : Value) (Q : VK), Inv X pins σ H s → RelV x v → RelV y u → r x y H Q →
    wpAny (model X.prog X.w) X.A (f v u) (EP X pins σ Q) X.xe s
/-- a one-place operation -/
def UnR (X : Cx) (f : Value → Sem Value) (r : V → Hp → VK → Prop) : Prop :=
  ∀ (pins : List (Addr × Obj)) (s : Shared) (σ : St) (H : Hp) (x : V) (v : Value) (Q : VK), Inv X pins σ H s → RelV x v → r x H Q →
    wpAny (model X.prog X.w) X.A (f v) (EP X pins σ Q) X.xe s
/-- a call of a value that is known (a builtin, a type) with values -/
def CallR (X : Cx) (f : Value) (r : List V → Hp → VK → Prop) : Prop :=
  ∀ (pins : List (Addr × Obj)) (s : Shared) (σ : St) (H : Hp) (xs : List V) (us : List Value) (Q : VK), Inv X pins σ H s → Vals xs us → r xs H Q →
    wpAny (model X.prog X.w) X.A (call f us) (EP X pins σ Q) X.xe s
def tOp (r : R2) (ta tb : TE) : TE := fun σ H Q => ta σ H fun x H1 => tb σ H1 fun y H2 => r x y H2 Q
def tUn (r : V → Hp → VK → Prop) (ta : TE) : TE := fun σ H Q => ta σ H fun x H1 => r x H1 Q
/-- ints in, under C, and a value out -/
def rI (C : Int → Int → Prop) (g : Int → Int → V) : R2 := fun x y H Q => ∃ i j, x = .int i ∧ y = .int j ∧ C i j ∧ Q (g i j) H
def rI0 (g : Int → Int → V) : R2 := fun x y H Q => ∃ i j, x = .int i ∧ y = .int j ∧ Q (g i j) H
def rU (g : Int → V) : V → Hp → VK → Prop := fun x H Q => ∃ i, x = .int i ∧ Q (g i) H

section
variable {X : Cx} {a b c : Expr} {ta tb tc : TE} {pos : Pos}

theorem binT (ha : PE X a ta) (hb : PE X b tb) {pins : List (Addr × Obj)} {s : Shared} {σ : St} {H : Hp} {R : V → V → Hp → Prop} (I : Inv X pins σ H s)
    (h : ta σ H fun x H1 => tb σ H1 fun y H2 => R x y H2) {Q : Value → Shared → Prop} {f : Value → Value → Sem Value}
    (hf : ∀ v u s2 x y H2, Inv X pins σ H2 s2 → RelV x v → RelV y u → R x y H2 → wpAny (model X.prog X.w) X.A (f v u) Q X.xe s2) :
    wpAny (model X.prog X.w) X.A (eval a X.env) (fun v s₁ => wpAny (model X.prog X.w) X.A (eval b X.env) (fun u s₂ => wpAny (model X.prog X.w) X.A (f v u) Q X.xe s₂) X.xe s₁) X.xe s := by
  refine thn (ha pins s σ H _ I h) fun v s1 ⟨x, H1, I1, r1, q1⟩ => ?_
  refine thn (hb pins s1 σ H1 _ I1 q1) fun u s2 ⟨y, H2, I2, r2, q2⟩ => ?_
  exact hf v u s2 x y H2 I2 r1 r2 q2

theorem pe_op {op : Operator} {r : R2} (ho : OpR X (binaryOp op) r) (ha : PE X a ta) (hb : PE X b tb) : PE X (.BinOp a op b pos) (tOp r ta tb) := by
  intro pins s σ H Q I h
  exact wpAny_BinOp (binT ha hb I h fun v u s2 x y H2 I2 rx ry q => ho pins s2 σ H2 x y v u Q I2 rx ry q)
theorem pe_un {op : UnaryOp} {r : V → Hp → VK → Prop} (ho : UnR X (unaryOp op) r) (ha : PE X a ta) : PE X (.UnaryOp op a pos) (tUn r ta) := by
  intro pins s σ H Q I h
  exact UnaryOp_ (thn (ha pins s σ H _ I h) fun v s1 ⟨x, H1, I1, r1, q1⟩ => ho pins s1 σ H1 x v Q I1 r1 q1)
/-! ### ints -/
theorem opI {f : Value → Value → Sem Value} {C : Int → Int → Prop} {g : Int → Int → Int}
    (rule : ∀ (i j : Int) (t u : Tok) (s : Shared) (Q : Value → Shared → Prop) (E : Value → Shared → Prop), C i j → Q (.int (g i j) s.toks) { s with toks := s.toks + 1 } → wpAny (model X.prog X.w) X.A (f (.int i t) (.int j u)) Q E s) :
    OpR X f (rI C fun i j => .int (g i j)) := by
  intro pins s σ H x y v u Q I rx ry h
  obtain ⟨i, j, rfl, rfl, hc, q⟩ := h
  obtain ⟨t, rfl⟩ := rx
  obtain ⟨t', rfl⟩ := ry
  exact rule i j t t' s _ _ hc ⟨.int (g i j), H, I.tok _, ⟨_, rfl⟩, q⟩
theorem opI0 {f : Value → Value → Sem Value} {g : Int → Int → Int}
    (rule : ∀ (i j : Int) (t u : Tok) (s : Shared) (Q : Value → Shared → Prop) (E : Value → Shared → Prop), Q (.int (g i j) s.toks) { s with toks := s.toks + 1 } → wpAny (model X.prog X.w) X.A (f (.int i t) (.int j u)) Q E s) :
    OpR X f (rI0 fun i j => .int (g i j)) := by
  intro pins s σ H x y v u Q I rx ry h
  obtain ⟨i, j, rfl, rfl, q⟩ := h
  obtain ⟨t, rfl⟩ := rx
  obtain ⟨t', rfl⟩ := ry
  exact rule i j t t' s _ _ ⟨.int (g i j), H, I.tok _, ⟨_, rfl⟩, q⟩
theorem opB0 {f : Value → Value → Sem Value} {g : Int → Int → Bool}
    (rule : ∀ (i j : Int) (t u : Tok) (s : Shared) (Q : Value → Shared → Prop) (E : Value → Shared → Prop), Q (.bool (g i j)) s → wpAny (model X.prog X.w) X.A (f (.int i t) (.int j u)) Q E s) :
    OpR X f (rI0 fun i j => .bl (g i j)) := by
  intro pins s σ H x y v u Q I rx ry h
  obtain ⟨i, j, rfl, rfl, q⟩ := h
  obtain ⟨t, rfl⟩ := rx
  obtain ⟨t', rfl⟩ := ry
  exact rule i j t t' s _ _ ⟨.bl (g i j), H, I, rfl, q⟩

def CDiv (i j : Int) : Prop := 0 < j ∧ j < 1073741824
def CPow (i j : Int) : Prop := 0 ≤ j ∧ j ≤ 1000000 ∧ i.natAbs < 2 ^ 64
def CMul (i j : Int) : Prop := (-(2 ^ 64) < i ∧ i < 2 ^ 64) ∨ (-(2 ^ 64) < j ∧ j < 2 ^ 64)
theorem CMul.ok {i j : Int} (h : CMul i j) : IntMulOk i j := by
  rcases h with ⟨h1, h2⟩ | ⟨h1, h2⟩
  · exact .of_left (intBits_le_64 h1 h2)
  · exact .of_right (intBits_le_64 h1 h2)
theorem op_add : OpR X (binaryOp .Add) (rI0 fun i j => .int (i + j)) := opI0 fun _ _ _ _ _ _ _ q => add_int q
theorem op_sub : OpR X (binaryOp .Sub) (rI0 fun i j => .int (i - j)) := opI0 fun _ _ _ _ _ _ _ q => sub_int q
theorem op_mul : OpR X (binaryOp .Mult) (rI CMul fun i j => .int (i * j)) := opI fun _ _ _ _ _ _ _ hc q => mul_int q hc.ok
/-- // by a positive divisor -/
theorem op_fdiv : OpR X (binaryOp .FloorDiv) (rI CDiv fun i j => .int (i / j)) := opI fun i j _ _ _ _ _ hc q => by
  have h1 : (0 : Int) < j := hc.1
  have h2 : j < 1073741824 := hc.2
  exact floordiv_int (by omega) (by rw [Int.fdiv_eq_ediv_of_nonneg i (by omega)]; exact q) (.inl (PyProof.noPylong_small (by omega)))
/-- % by a positive divisor of any size -/
theorem op_mod : OpR X (binaryOp .Mod) (rI (fun _ j => 0 < j) fun i j => .int (i % j)) := opI fun i j _ _ _ _ _ hc q => by
  have h1 : (0 : Int) < j := hc
  exact mod_int' (by omega) (by rw [Int.fmod_eq_emod_of_nonneg i (by omega)]; exact q)
theorem op_pow : OpR X (binaryOp .Pow) (rI CPow fun i j => .int (i ^ j.toNat)) := opI fun _ _ _ _ _ _ _ hc q => pow_int_small hc.1 hc.2.1 hc.2.2 q
theorem unI {f : Value → Sem Value} {g : Int → Int}
    (rule : ∀ (i : Int) (t : Tok) (s : Shared) (Q : Value → Shared → Prop) (E : Value → Shared → Prop), Q (.int (g i) s.toks) { s with toks := s.toks + 1 } → wpAny (model X.prog X.w) X.A (f (.int i t)) Q E s) :
    UnR X f (rU fun i => .int (g i)) := by
  intro pins s σ H x v Q I rx h
  obtain ⟨i, rfl, q⟩ := h
  obtain ⟨t, rfl⟩ := rx
  exact rule i t s _ _ ⟨.int (g i), H, I.tok _, ⟨_, rfl⟩, q⟩
theorem un_neg : UnR X (unaryOp .USub) (rU fun i => .int (-i)) := unI fun _ _ _ _ _ q => neg_int q
/-! ### bools among ints: n += (a < b) -/
end

/-! ### comparisons -/
/-- the scalars that == tells apart as data does -/
def scal : V → V → Bool
  | .non, .non => true | .non, .int _ => true | .int _, .non => true | .non, .bl _ => true | .bl _, .non => true | .non, .str _ => true | .str _, .non => true
  | .int _, .int _ => true | .bl _, .bl _ => true | .str _, .str _ => true | .byt _, .byt _ => true
  | .int _, .str _ => true | .str _, .int _ => true | .bl _, .str _ => true | .str _, .bl _ => true
  | _, _ => false
def rEq : R2 := fun x y H Q => scal x y = true ∧ Q (.bl (decide (x = y))) H
def rNe : R2 := fun x y H Q => scal x y = true ∧ Q (.bl (!decide (x = y))) H

theorem dec_int {i j : Int} : decide (V.int i = V.int j) = (i == j) := by
  rw [Bool.eq_iff_iff]
  simp
theorem dec_bl {i j : Bool} : decide (V.bl i = V.bl j) = (i == j) := by
  rw [Bool.eq_iff_iff]
  simp
theorem dec_str {i j : Str} : decide (V.str i = V.str j) = (i == j) := by
  rw [Bool.eq_iff_iff]
  simp
theorem dec_byt {i j : Array UInt8} : decide (V.byt i = V.byt j) = (i.toList == j.toList) := by
  rw [Bool.eq_iff_iff]
  cases i
  cases j
  simp

section
variable {X : Cx} {a b c : Expr} {ta tb tc : TE} {pos : Pos}
theorem fin_bl {pins : List (Addr × Obj)} {σ : St} {H : Hp} {s : Shared} {Q : VK} {k k' : Bool} (I : Inv X pins σ H s) (q : Q (.bl k) H) (e : k = k') : EP X pins σ Q (.bool k') s := by
  subst e
  exact ⟨.bl k, H, I, rfl, q⟩
theorem op_eq : OpR X (compareOp .Eq) rEq := by
  intro pins s σ H x y v u Q I rx ry h
  obtain ⟨hs, q⟩ := h
  cases x with
  | non =>
    cases rx
    cases y with
    | non => cases ry; exact PySem.EqNone.eq_none_none (fin_bl I q (by simp))
    | bl j => cases ry; exact PySem.EqNone.eq_none_bool (fin_bl I q (by simp))
    | int j => obtain ⟨t', rfl⟩ := ry; exact PySem.EqNone.eq_none_int (fin_bl I q (by simp))
    | str j => obtain ⟨t', rfl⟩ := ry; exact PySem.EqNone.eq_none_str (fin_bl I q (by simp))
    | _ => exact absurd (show false = true from hs) Bool.false_ne_true
  | bl i =>
    cases rx
    cases y with
    | non => cases ry; exact PySem.EqNone.eq_bool_none (fin_bl I q (by simp))
    | bl j => cases ry; exact eq_bool (fin_bl I q dec_bl)
    | str j => obtain ⟨t', rfl⟩ := ry; exact PySem.EqMixed.eq_bool_str (fin_bl I q (by simp))
    | _ => exact absurd (show false = true from hs) Bool.false_ne_true
  | int i =>
    obtain ⟨t, rfl⟩ := rx
    cases y with
    | non => cases ry; exact PySem.EqNone.eq_int_none (fin_bl I q (by simp))
    | int j => obtain ⟨t', rfl⟩ := ry; exact eq_int (fin_bl I q dec_int)
    | str j => obtain ⟨t', rfl⟩ := ry; exact PySem.EqMixed.eq_int_str (fin_bl I q (by simp))
    | _ => exact absurd (show false = true from hs) Bool.false_ne_true
  | str i =>
    obtain ⟨t, rfl⟩ := rx
    cases y with
    | non => cases ry; exact PySem.EqNone.eq_str_none (fin_bl I q (by simp))
    | bl j => cases ry; exact PySem.EqMixed.eq_str_bool (fin_bl I q (by simp))
    | int j => obtain ⟨t', rfl⟩ := ry; exact PySem.EqMixed.eq_str_int (fin_bl I q (by simp))
    | str j => obtain ⟨t', rfl⟩ := ry; exact eq_str (fin_bl I q dec_str)
    | _ => exact absurd (show false = true from hs) Bool.false_ne_true
  | byt i =>
    obtain ⟨t, rfl⟩ := rx
    cases y with
    | byt j => obtain ⟨t', rfl⟩ := ry; exact PySem.W.eq_bytes (fin_bl I q dec_byt)
    | _ => exact absurd (show false = true from hs) Bool.false_ne_true
  | _ => cases y <;> exact absurd (show false = true from hs) Bool.false_ne_true
theorem op_ne : OpR X (compareOp .NotEq) rNe := by
  intro pins s σ H x y v u Q I rx ry h
  obtain ⟨hs, q⟩ := h
  cases x with
  | non =>
    cases rx
    cases y with
    | non => cases ry; exact PySem.EqNone.ne_none_none (fin_bl I q (by simp))
    | bl j => cases ry; exact PySem.EqNone.ne_none_bool (fin_bl I q (by simp))
    | int j => obtain ⟨t', rfl⟩ := ry; exact PySem.EqNone.ne_none_int (fin_bl I q (by simp))
    | str j => obtain ⟨t', rfl⟩ := ry; exact PySem.EqNone.ne_none_str (fin_bl I q (by simp))
    | _ => exact absurd (show false = true from hs) Bool.false_ne_true
  | bl i =>
    cases rx
    cases y with
    | non => cases ry; exact PySem.EqNone.ne_bool_none (fin_bl I q (by simp))
    | bl j => cases ry; exact ne_bool (fin_bl I q (congrArg not dec_bl))
    | str j => obtain ⟨t', rfl⟩ := ry; exact PySem.EqMixed.ne_bool_str (fin_bl I q (by simp))
    | _ => exact absurd (show false = true from hs) Bool.false_ne_true
  | int i =>
    obtain ⟨t, rfl⟩ := rx
    cases y with
    | non => cases ry; exact PySem.EqNone.ne_int_none (fin_bl I q (by simp))
    | int j => obtain ⟨t', rfl⟩ := ry; exact ne_int (fin_bl I q (congrArg not dec_int))
    | str j => obtain ⟨t', rfl⟩ := ry; exact PySem.EqMixed.ne_int_str (fin_bl I q (by simp))
    | _ => exact absurd (show false = true from hs) Bool.false_ne_true
  | str i =>
    obtain ⟨t, rfl⟩ := rx
    cases y with
    | non => cases ry; exact PySem.EqNone.ne_str_none (fin_bl I q (by simp))
    | bl j => cases ry; exact PySem.EqMixed.ne_str_bool (fin_bl I q (by simp))
    | int j => obtain ⟨t', rfl⟩ := ry; exact PySem.EqMixed.ne_str_int (fin_bl I q (by simp))
    | str j => obtain ⟨t', rfl⟩ := ry; exact ne_str (fin_bl I q (congrArg not dec_str))
    | _ => exact absurd (show false = true from hs) Bool.false_ne_true
  | byt i =>
    obtain ⟨t, rfl⟩ := rx
    cases y with
    | byt j => obtain ⟨t', rfl⟩ := ry; exact PySem.W.ne_bytes (fin_bl I q (congrArg not dec_byt))
    | _ => exact absurd (show false = true from hs) Bool.false_ne_true
  | _ => cases y <;> exact absurd (show false = true from hs) Bool.false_ne_true

theorem op_lt : OpR X (compareOp .Lt) (rI0 fun i j => .bl (decide (i < j))) := opB0 fun _ _ _ _ _ _ _ q => lt_int q
theorem op_le : OpR X (compareOp .LtE) (rI0 fun i j => .bl (decide (i ≤ j))) := opB0 fun _ _ _ _ _ _ _ q => le_int q
theorem op_gt : OpR X (compareOp .Gt) (rI0 fun i j => .bl (decide (j < i))) := opB0 fun _ _ _ _ _ _ _ q => gt_int q
theorem op_ge : OpR X (compareOp .GtE) (rI0 fun i j => .bl (decide (j ≤ i))) := opB0 fun _ _ _ _ _ _ _ q => ge_int q
/-- two rules for one operation: by cases -/
theorem OpR.or {f : Value → Value → Sem Value} {r r' : R2} (h : OpR X f r) (h' : OpR X f r') : OpR X f (fun x y H Q => r x y H Q ∨ r' x y H Q) := by
  intro pins s σ H x y v u Q I rx ry q
  rcases q with q | q
  · exact h pins s σ H x y v u Q I rx ry q
  · exact h' pins s σ H x y v u Q I rx ry q

theorem nomark (b : Expr) {op : CmpOp} (h : op ≠ .In := by decide) (h2 : op ≠ .NotIn := by decide) : behindInMarks op b = false := by
  have e1 : (op == CmpOp.In) = false := by cases op <;> first | rfl | exact absurd rfl h
  have e2 : (op == CmpOp.NotIn) = false := by cases op <;> first | rfl | exact absurd rfl h2
  cases b <;> simp [behindInMarks, e1, e2]
/-- a comparison as a value; hm: nomark b, or (for in, not in) by with_unfolding_all rfl -/
theorem pe_cmpR {op : CmpOp} {r : R2} (ho : OpR X (compareOp op) r) (ha : PE X a ta) (hb : PE X b tb) (hm : behindInMarks op b = false) : PE X (.Compare a [op] [b] pos) (tOp r ta tb) := by
  intro pins s σ H Q I h
  exact wpAny_Compare1 (binT ha hb I h fun v u s2 x y H2 I2 rx ry q => ho pins s2 σ H2 x y v u Q I2 rx ry q) hm
/-- a reading of a value as a test -/
def tTest (t : TE) : TT := fun σ H Q => t σ H fun x H' => ∃ k, x = .bl k ∧ Q k H'
theorem pt_cmpR {op : CmpOp} {r : R2} (ho : OpR X (compareOp op) r) (ha : PE X a ta) (hb : PE X b tb) (hm : behindInMarks op b = false) : PT X (.Compare a [op] [b] pos) (tTest (tOp r ta tb)) := by
  intro pins s σ H Q I h
  refine wpAny_isTrue_Compare1 (thn (ha pins s σ H _ I h) fun v s1 ⟨x, H1, I1, r1, q1⟩ => thn (hb pins s1 σ H1 _ I1 q1) fun u s2 ⟨y, H2, I2, r2, q2⟩ =>
    thn (ho pins s2 σ H2 x y v u _ I2 r1 r2 q2) fun c s3 ⟨z, H3, I3, r3, k, e, q3⟩ => ?_) hm
  subst e
  cases r3
  exact wpAny_truthy_bool ⟨H3, I3, q3⟩
/-! ### truth -/
theorem line63 : (sizeLine : Nat) < 2 ^ 63 := by rw [sizeLine_eq]; decide
/-! ### strs and bytes -/
/-! ### scalar builtins, by CallR -/
theorem vals1 {x : V} {us : List Value} (r : Vals [x] us) : ∃ u, us = [u] ∧ RelV x u := by
  cases r with
  | cons r1 r2 => cases r2; exact ⟨_, rfl, r1⟩
theorem vals2 {x y : V} {us : List Value} (r : Vals [x, y] us) : ∃ u w', us = [u, w'] ∧ RelV x u ∧ RelV y w' := by
  cases r with
  | cons r1 r2 =>
    cases r2 with
    | cons r3 r4 => cases r4; exact ⟨_, _, rfl, r1, r3⟩
theorem call_abs : CallR X (.builtin "abs") (fun xs H Q => ∃ i, xs = [.int i] ∧ Q (.int (if i < 0 then -i else i)) H) := by
  intro pins s σ H xs us Q I r h
  obtain ⟨i, rfl, q⟩ := h
  obtain ⟨u, rfl, t, rfl⟩ := vals1 r
  exact call_abs_int fun u tk => ⟨.int (if i < 0 then -i else i), H, I.tok _, ⟨_, rfl⟩, q⟩
theorem call_min2 (hc : X.calm = true) : CallR X (.builtin "min") (fun xs H Q => ∃ i j, xs = [.int i, .int j] ∧ Q (.int (if j < i then j else i)) H) := by
  intro pins s σ H xs us Q I r h
  obtain ⟨i, j, rfl, q⟩ := h
  obtain ⟨u, w', rfl, ⟨t, rfl⟩, ⟨t', rfl⟩⟩ := vals2 r
  refine min_two_ints (I.ok.hd hc) fun h' tk k => ⟨_, H, I.kept k, ?_, q⟩
  by_cases hj : j < i
  · rw [if_pos hj, if_pos hj]; exact ⟨_, rfl⟩
  · rw [if_neg hj, if_neg hj]; exact ⟨_, rfl⟩
/-- len of a str, a bytes, a list, a tuple -/
def LenV (K : PySem.W.Frag) (x : V) (H : Hp) (n : Nat) : Prop :=
  match x with
  | .str y => y.length ≤ sizeLine ∧ n = y.length
  | .byt y => y.size ≤ sizeLine ∧ n = y.size
  | .ref p => (∃ xs, SqL K H p xs ∧ n = xs.length) ∨ ∃ xs, SqT K H p xs ∧ n = xs.length
  | _ => False
theorem call_len : CallR X (.builtin "len") (fun xs H Q => ∃ x n, xs = [x] ∧ LenV X.K x H n ∧ Q (.int n) H) := by
  intro pins s σ H xs us Q I r h
  obtain ⟨x, n, rfl, e, q⟩ := h
  obtain ⟨u, rfl, rx⟩ := vals1 r
  have hl := line63
  have hs : sizeLine = 16777216 := sizeLine_eq
  cases x with
  | str y =>
    obtain ⟨t, rfl⟩ := rx
    obtain ⟨hy, e'⟩ : y.length ≤ sizeLine ∧ n = y.length := e
    subst e'
    exact len_str (by omega) ⟨.int _, H, I.tok _, ⟨_, rfl⟩, q⟩
  | byt y =>
    obtain ⟨t, rfl⟩ := rx
    obtain ⟨hy, e'⟩ : y.size ≤ sizeLine ∧ n = y.size := e
    subst e'
    exact PySem.W.len_bytes (by omega) ⟨.int _, H, I.tok _, ⟨_, rfl⟩, q⟩
  | ref p =>
    cases rx
    have e' : (∃ xs, SqL X.K H p xs ∧ n = xs.length) ∨ ∃ xs, SqT X.K H p xs ∧ n = xs.length := e
    rcases e' with ⟨xs, hx, e'⟩ | ⟨xs, hx, e'⟩
    · subst e'
      obtain ⟨its, r', pl, hz⟩ := I.list hx
      have hlen := r'.length
      exact Calls.call_len_list pl.isList (by simp only [List.size_toArray]; omega) ⟨.int xs.length, H, I.tok _, ⟨_, by simp only [List.size_toArray]; rw [hlen]⟩, q⟩
    · subst e'
      obtain ⟨its, r', pl, hz⟩ := I.tuple hx
      have hlen := r'.length
      exact len_tuple pl (by simp only [List.size_toArray]; omega) ⟨.int xs.length, H, I.tok _, ⟨_, by simp only [List.size_toArray]; rw [hlen]⟩, q⟩
  | _ => exact (show False from e).elim
end
end L2

namespace L2
open PySem PySem.Spec PyProof.Rows

/-! ### an instance, its attributes a map -/
structure ObjM (h : Heap) (x dx C : Addr) (mA : Str → Option Value) : Prop where
  obj : h.get? x = some (PySem.W.instObj C dx)
  ns : h.Ns1 dx mA
  ne : dx ≠ x

theorem lookIn_ns {h : Heap} {dx : Addr} {mA : Str → Option Value} (n : h.Ns1 dx mA) : ∃ od, h.get? dx = some od ∧ ∀ name, PySem.W.lookIn name od = some (mA name) := by
  obtain ⟨o, es, ep, ho, hd, hk, _, hm⟩ := n
  refine ⟨o, ho, fun name => ?_⟩
  have e := hm name
  unfold nsFind findBy at e
  rw [← Array.find?_toList] at e
  unfold PySem.W.lookIn
  rw [hd]
  dsimp only
  split
  · rename_i y q
    rw [q] at e
    exact congrArg some e
  · rename_i q
    rw [q] at e
    have a : es.toList.any (·.refKey) = false := by
      rw [List.any_eq_false]
      intro y hy
      obtain ⟨z, t, hkey⟩ := hk y (Array.mem_toList_iff.mp hy)
      simp [DictEntry.refKey, hkey]
    have a' : ¬ es.toList.any (·.refKey) = true := by rw [a]; exact Bool.false_ne_true
    rw [if_neg a']
    exact congrArg some e

theorem ObjM.look {h : Heap} {x dx C : Addr} {mA : Str → Option Value} (I : ObjM h x dx C mA) : ∃ od, PySem.W.InstAt h x (PySem.W.instObj C dx) C (some od) ∧ ∀ name, PySem.W.lookIn name od = some (mA name) :=
  let ⟨od, ho, hl⟩ := lookIn_ns I.ns
  ⟨od, ⟨I.obj, rfl, rfl, ho⟩, hl⟩

section
variable {prog : Program} {w : World} {A : Around} {E : Value → Shared → Prop} {s : Shared} {K : PySem.W.Frag} {x dx C f : Addr} {mA : Str → Option Value} {name : Str} {v : Value}

end

/-! ### the attributes as a list of pairs -/
theorem RelO.some_of {v : V} {o : Option Value} (r : RelO (some v) o) : ∃ u, o = some u ∧ RelV v u := by
  cases o with
  | none => exact (show False from r).elim
  | some u => exact ⟨u, rfl, r⟩
section
variable {P : Program} {w : World} {H H' : Hp} {h h' : Heap} {a C dx : Addr} {fs fs' : List (Str × V)}
theorem ins_get (hok : HOk P w H h) (e : H a = some (.ins C dx fs)) : ∃ mA, ObjM h a dx C mA ∧ (∀ f, RelO (fs.lookup f) (mA f)) ∧ PySem.Within mA (fs.map (·.1)) ∧ fs.length ≤ 1000 ∧ H dx = some (.own a) := by
  obtain ⟨d, z, ne, ob, mA, n, r, q⟩ := (show ObjOk P w H h a (.ins C dx fs) from hok a _ e)
  exact ⟨mA, ⟨ob, n, ne⟩, r, q, z, d⟩
end

/-! ### what of the text a class must have -/
structure Cls (K : PySem.W.Frag) (C : Addr) : Prop where
  pg : PySem.W.plainGet K C Str.empty = true
  hd : PySem.W.hasDictIn K C = true
  po : PySem.W.plainOver K C = true
  sa : PySem.W.findIn K (.ref C) "__setattr__" = some (some (.builtin "object.__setattr__"))
theorem Cls.get {K : PySem.W.Frag} {C : Addr} (c : Cls K C) (f : Str) : PySem.W.plainGet K C f = true := c.pg
/-- a constant of the class -/
structure Con (K : PySem.W.Frag) (C : Addr) (f : Str) (v : V) (u : Value) : Prop where
  at_ : PySem.W.findIn K (.ref C) f = some (some u)
  rel : RelV v u
  get : PySem.W.specialIn K u "__get__" = some none
  cp : PySem.W.copiedNames.contains f = false
/-- a method: a plain def of the class or of one above it -/
structure Meth (K : PySem.W.Frag) (C : Addr) (m : Str) (f : Addr) : Prop where
  at_ : PySem.W.findIn K (.ref C) m = some (some (.ref f))
  fn : PySem.W.isFn K (.ref f) = true
  kp : PySem.W.keepIn K (.ref f) = true

section
variable {X : Cx} {pins : List (Addr × Obj)} {σ : St} {H : Hp} {s : Shared} {a C dx : Addr} {fs : List (Str × V)} {f : Str} {v : V} {A : Around} {E : Value → Shared → Prop}

/-- a new instance, tracked, without attributes -/
theorem Inv.made (I : Inv X pins σ H s) : Inv X pins σ (upd (upd H s.heap.objs.size (.own (s.heap.objs.size + 1))) (s.heap.objs.size + 1) (.ins C s.heap.objs.size []))
    { s with heap := (s.heap.push PySem.W.emptyDict).push (PySem.W.instObj C s.heap.objs.size) } := by
  have e1 : (s.heap.push PySem.W.emptyDict).get? s.heap.objs.size = some PySem.W.emptyDict := Heap.get?_push_size s.heap rfl
  have e2 : ((s.heap.push PySem.W.emptyDict).push (PySem.W.instObj C s.heap.objs.size)).get? (s.heap.objs.size + 1) = some (PySem.W.instObj C s.heap.objs.size) := by
    have := Heap.get?_push_size (s.heap.push PySem.W.emptyDict) (o := PySem.W.instObj C s.heap.objs.size) rfl
    rwa [Heap.size_push] at this
  have e3 : (s.heap.push PySem.W.emptyDict).Ns s.heap.objs.size (fun _ => none) := ⟨PySem.W.emptyDict, #[], _, e1, rfl, (fun e he => absurd he (by simp)), fun _ => rfl⟩
  have I1 := I.laid (a := s.heap.objs.size) (o := .own (s.heap.objs.size + 1)) (h' := s.heap.push PySem.W.emptyDict) (t' := s.toks) (fun b u q => Heap.get?_push_of_some _ q) (Nat.le_refl _) ⟨_, e1⟩
  refine I1.laid (a := s.heap.objs.size + 1) (o := .ins C s.heap.objs.size []) (t' := s.toks) (fun b u q => Heap.get?_push_of_some _ q) (Nat.le_of_eq (Heap.size_push _ _)) ?_
  have ne : s.heap.objs.size ≠ s.heap.objs.size + 1 := Nat.ne_of_lt (Nat.lt_succ_self _)
  refine ⟨by rw [upd_ne ne, upd_same], Nat.zero_le _, ne, e2, fun _ => none, (Heap.Ns1.of_empty e3).at fun o q => Heap.get?_push_of_some _ q, fun _ => True.intro, fun y hy => absurd rfl hy⟩

end

/-! ### readings and rules -/
section
variable {X : Cx} {o e value : Expr} {f : Str} {pos pos' tpos : Pos} {ta tv : TE}
end

/-! ### isinstance -/
section
variable {X : Cx} {pins : List (Addr × Obj)} {σ : St} {H : Hp} {s : Shared} {A : Around} {E : Value → Shared → Prop} {Q : Value → Shared → Prop} {c : Value} {b : Bool}
/-- the type of a value, as the fragment's deciders take it; for an instance its class -/
inductive TyOf (K : PySem.W.Frag) (H : Hp) : V → Value → Prop where
  | non : TyOf K H .non (.type "NoneType")
  | bl (x : Bool) : TyOf K H (.bl x) (.type "bool")
  | int (i : Int) : TyOf K H (.int i) (.type "int")
  | str (x : Str) : TyOf K H (.str x) (.type "str")
  | flt (x : UInt64) : TyOf K H (.flt x) (.type "float")
  | lst {a : Addr} {xs : List V} (e : H a = some (.lst xs)) : TyOf K H (.ref a) (.type "list")
  | frz {a : Addr} {o : Obj} {xs : List V} (e : H a = some (.frz o (.lst xs))) : TyOf K H (.ref a) (.type "list")
  | tup {a : Addr} {xs : List V} (e : H a = some (.tup xs)) : TyOf K H (.ref a) (.type "tuple")
  | dK {a : Addr} {kvs : List (Key × V)} (e : H a = some (.dK kvs)) : TyOf K H (.ref a) (.type "dict")
  | dT {a : Addr} {kvs : List (List Key × V)} (e : H a = some (.dT kvs)) : TyOf K H (.ref a) (.type "dict")
  | ins {a C dx : Addr} {fs : List (Str × V)} (e : H a = some (.ins C dx fs)) (cl : Cls K C) (ha : PySem.W.findIn K (.ref C) "__class__" = some (some (.builtin "object.__class__")))
      (hn : PySem.W.specialIn K (.builtin "object.__class__") "__get__" = some (some (.builtin "getset_descriptor.__get__"))) (htk : PySem.W.takesIn K (.builtin "object.__class__") = some true)
      (hm : PySem.W.mroIn K C (.type "object") = some true) : TyOf K H (.ref a) (.ref C)
/-- isinstance(x, c) for one class c, a built-in or an own one: kitOne's answer -/
theorem isinst_ok {x : V} {u t : Value} (I : Inv X pins σ H s) (rx : RelV x u) (ty : TyOf X.K H x t) (e : PySem.W.kitOne X.K t c = some b) (h : ∀ tk, Q (.bool b) { s with toks := tk }) :
    wpAny (model X.prog X.w) A (call (.builtin "isinstance") [u, c]) Q E s := by
  cases ty with
  | non => cases (show u = Value.none from rx); exact PySem.W.kia_one PySem.W.kitx_none I.kIn True.intro e (fun z => nomatch z) h
  | bl y => cases (show u = Value.bool y from rx); exact PySem.W.kia_one PySem.W.kitx_bool I.kIn True.intro e (fun z => nomatch z) h
  | int i => obtain ⟨t, q⟩ := (show ∃ t, u = Value.int i t from rx); cases q; exact PySem.W.kia_one PySem.W.kitx_int I.kIn True.intro e (fun z => nomatch z) h
  | str y => obtain ⟨t, q⟩ := (show ∃ t, u = Value.str y t from rx); cases q; exact PySem.W.kia_one PySem.W.kitx_str I.kIn True.intro e (fun z => nomatch z) h
  | flt y => obtain ⟨t, q⟩ := (show ∃ t, u = Value.float y t from rx); cases q; exact PySem.W.kia_one PySem.W.kitx_float I.kIn True.intro e (fun z => nomatch z) h
  | @lst a xs ea =>
    cases (show u = Value.ref a from rx)
    obtain ⟨_, _, n, _, h1⟩ := (show ObjOk X.prog X.w H s.heap a (.lst xs) from I.hok a _ ea)
    exact PySem.W.kia_one PySem.W.kitx_list I.kIn ⟨_, h1, rfl⟩ e (fun z => nomatch z) h
  | @frz a ob xs ea =>
    cases (show u = Value.ref a from rx)
    obtain ⟨_, _, _, n, _, h1⟩ := (show ObjOk X.prog X.w H s.heap a (.frz ob (.lst xs)) from I.hok a _ ea)
    exact PySem.W.kia_one PySem.W.kitx_list I.kIn ⟨_, h1, rfl⟩ e (fun z => nomatch z) h
  | @tup a xs ea =>
    cases (show u = Value.ref a from rx)
    obtain ⟨_, _, _, p⟩ := (show ObjOk X.prog X.w H s.heap a (.tup xs) from I.hok a _ ea)
    obtain ⟨o, h1, h2, _⟩ := p
    exact PySem.W.kia_one PySem.W.kitx_tuple I.kIn ⟨o, h1, h2⟩ e (fun z => nomatch z) h
  | @dK a kvs ea =>
    cases (show u = Value.ref a from rx)
    obtain ⟨_, _, vs, _, p⟩ := (show ObjOk X.prog X.w H s.heap a (.dK kvs) from I.hok a _ ea)
    obtain ⟨o, es, ep, h1, h2, _⟩ := p
    exact PySem.W.kia_one PySem.W.kitx_dict I.kIn ⟨o, h1, h2.1⟩ e (fun z => nomatch z) h
  | @dT a kvs ea =>
    cases (show u = Value.ref a from rx)
    obtain ⟨_, _, xs, _, o, es, ep, h1, h2, _⟩ := (show ObjOk X.prog X.w H s.heap a (.dT kvs) from I.hok a _ ea)
    exact PySem.W.kia_one PySem.W.kitx_dict I.kIn ⟨o, h1, h2.1⟩ e (fun z => nomatch z) h
  | @ins a C dx fs ea cl ha hn htk hm =>
    cases (show u = Value.ref a from rx)
    obtain ⟨mA, O, _⟩ := ins_get I.hok ea
    obtain ⟨od, J, _⟩ := O.look
    exact PySem.W.kia_one (PySem.W.kitx_own (cl.get _) cl.hd ha hn htk hm) I.kIn J e (fun z => nomatch z) h
end
end L2

namespace L2
open PySem PySem.Spec PyProof.Rows

/-! ### room -/
structure Room (k : Nat) (A : Around) : Prop where
  hd : A.handled = none
  dp : A.depth + 3 * k + 5 < recursionLimit
  un : A.units + 16 * k + 200 < cLine
theorem Room.mono {j k : Nat} {A : Around} (r : Room k A) (h : j ≤ k) : Room j A := ⟨r.hd, by have := r.dp; omega, by have := r.un; omega⟩
theorem Room.deeper {k : Nat} {A : Around} (r : Room (k + 1) A) (env : Env) : Room k (A.deeper env) :=
  ⟨r.hd, by have := r.dp; show A.depth + 1 + 3 * k + 5 < _; omega, by have := r.un; show A.units + 3 + 16 * k + 200 < _; omega⟩
theorem Room.in1 {k : Nat} {A : Around} (r : Room (k + 1) A) : Room k A.in1 :=
  ⟨r.hd, by have := r.dp; show A.depth + 3 * k + 5 < _; omega, by have := r.un; show A.units + 1 + 16 * k + 200 < _; omega⟩
theorem Room.depth {k : Nat} {A : Around} (r : Room k A) : A.depth < recursionLimit := by have := r.dp; omega
theorem Room.units {k : Nat} {A : Around} (r : Room k A) : A.units + 64 < cLine := by have := r.un; omega
/-! ### argument lists and displays -/
def tNil : TA := fun _ H Q => Q [] H
def tCons (ta : TE) (tr : TA) : TA := fun σ H Q => ta σ H fun x H1 => tr σ H1 fun xs H2 => Q (x :: xs) H2
section
variable {X : Cx} {e : Expr} {es : List Expr} {te : TE} {t : TA} {pos : Pos}
theorem pa_nil : PA X [] tNil := fun _ _ _ _ H Q I h => Calls.spliced_nil ⟨[], H, I, .nil, h⟩
theorem pa_cons (ha : PE X e te) (hr : PA X es t) (hs : starEach (e :: es) X.env = (false, eval e X.env) :: starEach es X.env := by rfl) : PA X (e :: es) (tCons te t) := by
  intro pos pins s σ H Q I h
  rw [hs]
  show wpAny _ _ (spliced ((false, eval e X.env) :: backTo pos (starEach es X.env))) _ _ s
  refine Calls.spliced_cons (thn (ha pins s σ H _ I h) fun u s1 ⟨x, H1, I1, r1, q1⟩ => ?_)
  exact thn (hr pos pins s1 σ H1 _ I1 q1) fun us s2 ⟨xs, H2, I2, r2, q2⟩ => ⟨x :: xs, H2, I2, .cons r1 r2, q2⟩

/-- a tuple, a list of written items -/
def tTup (t : TA) : TE := fun σ H Q => t σ H fun xs H1 => xs.length ≤ sizeLine ∧ ∀ p, H1 p = none → Q (.ref p) (upd H1 p (.tup xs))
def tLst (t : TA) : TE := fun σ H Q => t σ H fun xs H1 => xs.length ≤ sizeLine ∧ ∀ p, H1 p = none → Q (.ref p) (upd H1 p (.lst xs))
theorem pe_tup {x1} (h : PA X es t) : PE X (.Tuple es x1 pos) (tTup t) := by
  intro pins s σ H Q I hq
  refine wpAny_Tuple_spliced (thn (h pos pins s σ H _ I hq) fun us s1 ⟨xs, H1, I1, r, z, q⟩ => ⟨by rw [← r.length]; exact z, ?_⟩)
  have hf : H1 s1.heap.objs.size = none := I1.hok.fresh (Nat.le_refl _)
  refine ⟨.ref s1.heap.objs.size, upd H1 s1.heap.objs.size (.tup xs), I1.laid (t' := s1.toks) (fun b u e => Heap.get?_push_of_some _ e) (Nat.le_refl _) ?_, rfl, q _ hf⟩
  exact ⟨z, us, r, ⟨_, Heap.get?_push_size _ rfl, rfl, ⟨_, rfl⟩, rfl⟩⟩
theorem pe_lst (h : PA X es t) : PE X (.List es pos) (tLst t) := by
  intro pins s σ H Q I hq
  refine wpAny_List_spliced (thn (h pos pins s σ H _ I hq) fun us s1 ⟨xs, H1, I1, r, z, q⟩ => ⟨by rw [← r.length]; exact z, ?_⟩)
  have hf : H1 s1.heap.objs.size = none := I1.hok.fresh (Nat.le_refl _)
  refine ⟨.ref s1.heap.objs.size, upd H1 s1.heap.objs.size (.lst xs), I1.laid (t' := s1.toks) (fun b u e => Heap.get?_push_of_some _ e) (Nat.le_refl _) ?_, rfl, q _ hf⟩
  exact ⟨z, us, 0, r, Heap.get?_push_size _ rfl⟩
end

/-! ### what a def promises -/
/-- a def's promise: the bound arguments in the parameters' order, the heap, the wanted end, the wanted exception -/
abbrev Sp := List V → Hp → VK → XK → Prop
/-- how an exception lies behind a call (file 08 gives it): the callers' frames, abstract heap and state ahead of the call, the wish, the exception, the state -/
abbrev CXT := List Env → Hp → Shared → XK → Value → Shared → Prop

/-- the state at a call -/
structure Env0 (P : Program) (w : World) (K : PySem.W.Frag) (mg : Str → Option Value) (base : Heap) (A : Around) (outer : List Env) (s : Shared) (H : Hp) : Prop where
  frames : A.frames = some outer
  mod : Mod K mg base
  bs : ∀ b o, base.get? b = some o → s.heap.get? b = some o ∧ H b = none
  bsz : base.objs.size ≤ s.heap.objs.size
  funs : s.heap.FunFrames base outer
  frf : ∀ b ∈ frs outer, H b = none
  hok : HOk P w H s.heap
  bare : AllBare s.gens
/-- a call's end -/
def CE (outer : List Env) (P : Program) (w : World) (H : Hp) (s : Shared) (Q : VK) (u : Value) (s' : Shared) : Prop :=
  ∃ v H', s'.os = s.os ∧ AllBare s'.gens ∧ Un (frs outer) [] H H' s.heap s'.heap ∧ HOk P w H' s'.heap ∧ RelV v u ∧ Q v H'
def CR (CX : CXT) (outer : List Env) (P : Program) (w : World) (H : Hp) (s : Shared) (Q : VK) (E : XK) (r : Result) (s' : Shared) : Prop :=
  match r with
  | .ok (.ret u) => CE outer P w H s Q u s'
  | .ok _ => False
  | .error e => CX outer H s E e s'
structure FnOk (P : Program) (w : World) (K : PySem.W.Frag) (mg : Str → Option Value) (base : Heap) (CX : CXT) (k : Nat) (f : Addr) (fd : FuncData) (ps : List Str) (sp : Sp) : Prop where
  len : ∀ vs H Q E, sp vs H Q E → vs.length = ps.length
  run : ∀ (A : Around) (outer : List Env) (s : Shared) (H : Hp) (args : Args) (us : List Value) (vs : List V) (Q : VK) (E : XK), Room k A → Env0 P w K mg base A outer s H → BindsTo s fd args (ps.zip us) → Vals vs us → sp vs H Q E →
    codeAny (model P w) A (.call (.ref f) args) (CR CX outer P w H s Q E) s
theorem FnOk.mono {P : Program} {w : World} {K : PySem.W.Frag} {mg : Str → Option Value} {base : Heap} {CX : CXT} {j k : Nat} {f : Addr} {fd : FuncData} {ps : List Str} {sp : Sp} (F : FnOk P w K mg base CX j f fd ps sp) (h : j ≤ k) :
    FnOk P w K mg base CX k f fd ps sp := ⟨F.len, fun A outer s H args us vs Q E hr => F.run A outer s H args us vs Q E (hr.mono h)⟩
/-- a weaker promise -/
theorem FnOk.imp {P : Program} {w : World} {K : PySem.W.Frag} {mg : Str → Option Value} {base : Heap} {CX : CXT} {k : Nat} {f : Addr} {fd : FuncData} {ps : List Str} {sp sp' : Sp} (F : FnOk P w K mg base CX k f fd ps sp)
    (h : ∀ vs H Q E, sp' vs H Q E → sp vs H Q E) : FnOk P w K mg base CX k f fd ps sp' :=
  ⟨fun vs H Q E q => F.len vs H Q E (h _ _ _ _ q), fun A outer s H args us vs Q E hr he hb hv hs => F.run A outer s H args us vs Q E hr he hb hv (h _ _ _ _ hs)⟩

theorem Env0.in1 {P : Program} {w : World} {K : PySem.W.Frag} {mg : Str → Option Value} {base : Heap} {A : Around} {outer : List Env} {s : Shared} {H : Hp} (e : Env0 P w K mg base A outer s H) :
    Env0 P w K mg base A.in1 outer s H := ⟨e.frames, e.mod, e.bs, e.bsz, e.funs, e.frf, e.hok, e.bare⟩

section
variable {X : Cx} {pins : List (Addr × Obj)} {σ : St} {H : Hp} {s s' : Shared}
/-- from a body: what a callee wants -/
theorem Inv.env0 (I : Inv X pins σ H s) : Env0 X.prog X.w X.K X.mg X.base X.A X.stack s H :=
  ⟨I.ok.frames, I.ok.mod, I.bs, Nat.le_trans I.ok.bsz I.sz, I.stack, I.stkFree, I.hok, I.bare⟩
/-- behind a call -/
theorem Inv.after {Q : VK} {u : Value} (I : Inv X pins σ H s) (h : CE X.stack X.prog X.w H s Q u s') : EP X pins σ Q u s' := by
  obtain ⟨v, H', os, bare, un, hok, r, q⟩ := h
  obtain ⟨hh, g, d, t, os'⟩ := s'
  obtain rfl : os' = s.os := os
  exact ⟨v, H', I.call (h' := hh) (g' := g) (d' := d) (t' := t) (ch := []) un hok bare (fun b z => absurd z (by simp)), r, q⟩
end

/-! ### calls -/
/-- f(..): the written arguments, then the defaults dvs; E: what is wanted of an exception -/
def tCall (sp : Sp) (dvs : List V) (E : XK) (t : TA) : TE := fun σ H Q => t σ H fun vs H1 => sp (vs ++ dvs) H1 Q E
/-- how the parameters are bound: us the positional arguments, kw the keywords' values by name, ds the defaults that fill up -/
def Binds (K : PySem.W.Frag) (fd : FuncData) (ps : List Str) (ds : List Value) : Prop :=
  ∀ (s : Shared) (us : List Value), K.In s.heap → (us ++ ds).length = ps.length → BindsTo s fd ⟨us, []⟩ (ps.zip (us ++ ds))
/-- every parameter is given -/
theorem Binds.all {K : PySem.W.Frag} {fd : FuncData} {ps : List Str} (h : ∀ us : List Value, us.length = ps.length → bindArgs fd ⟨us, []⟩ = pure (ps.zip us)) : Binds K fd ps [] := fun s us _ hl => by
  rw [List.append_nil] at hl ⊢
  exact .of_eq (h us hl)

/-- an exception of a callee reaches what this body wants of exceptions -/
def Passes (CX : CXT) (X : Cx) (E : XK) : Prop := ∀ (pins : List (Addr × Obj)) (σ : St) (H : Hp) (s : Shared) (e : Value) (s' : Shared), Inv X pins σ H s → CX X.stack H s E e s' → X.xe e s'

section
variable {X : Cx} {CX : CXT} {k : Nat} {f C : Addr} {fd : FuncData} {ps : List Str} {sp : Sp} {dvs : List V} {ds : List Value} {E : XK} {x m : Str} {p pos apos : Pos} {e o : Expr} {es : List Expr} {ta : TE} {t : TA}

/-- the callee runs -/
theorem run_fn {pins : List (Addr × Obj)} {σ : St} {H : Hp} {s : Shared} {Q : VK} {us : List Value} {vs : List V} (F : FnOk X.prog X.w X.K X.mg X.base CX k f fd ps sp) (hr : Room k X.A) (hb : Binds X.K fd ps ds) (hd : Vals dvs ds) (hx : Passes CX X E)
    (I : Inv X pins σ H s) (r : Vals vs us) (h : sp (vs ++ dvs) H Q E) : wpAny (model X.prog X.w) X.A (call (.ref f) us) (EP X pins σ Q) X.xe s := by
  have r2 : Vals (vs ++ dvs) (us ++ ds) := r.append hd
  have hl : (us ++ ds).length = ps.length := by rw [← r2.length]; exact F.len _ _ _ _ h
  refine wpAny_call (codeAny_mono (F.run X.A X.stack s H ⟨us, []⟩ (us ++ ds) (vs ++ dvs) Q E hr I.env0 (hb s us I.kIn hl) r2 h) fun r s' hq => ?_)
  cases r with
  | error e => exact hx pins σ H s e s' I hq
  | ok fl =>
    cases fl with
    | ret u => exact I.after hq
    | next => exact False.elim hq
    | brk => exact False.elim hq
    | cont => exact False.elim hq

theorem pe_call (F : FnOk X.prog X.w X.K X.mg X.base CX k f fd ps sp) (hr : Room k X.A) (hg : Gl X x) (hm : X.mg x = some (.ref f)) (hk : PySem.W.keepIn X.K (.ref f) = true) (hb : Binds X.K fd ps ds) (hd : Vals dvs ds) (hx : Passes CX X E)
    (ha : PA X (e :: es) t) (hdb : (x == ("__debug__" : Str)) = false := by decide) (he : starEach (e :: es) X.env = (false, eval e X.env) :: starEach es X.env := by rfl) (hpl : (backTo pos (starEach es X.env)).any (·.1) = false := by rfl) :
    PE X (.Call (.Name x p) (e :: es) [] pos) (tCall sp dvs E t) := by
  intro pins s σ H Q I h
  refine wpAny_Call_Name_kw (ld_glob I hg hm ?_ hdb)
  refine PySem.W.callWith_K (h₀ := X.base) I.ok.mod.kin hk (thn (ha pos pins s σ H _ I h) fun us s1 ⟨vs, H1, I1, r, q⟩ => ⟨I1.kIn, ?_⟩) he hpl
  exact run_fn F hr hb hd hx I1 r q
/-- what a class must have to be made -/
structure Mk (K : PySem.W.Frag) (C f : Addr) : Prop where
  makes : PySem.W.makesIn K C = true
  init : PySem.W.findIn K (.ref C) "__init__" = some (some (.ref f))
  fn : PySem.W.isFn K (.ref f) = true
  kp : PySem.W.keepIn K (.ref C) = true

end

/-! ### keywords -/
section
variable {X : Cx} {CX : CXT} {k : Nat} {f C : Addr} {fd : FuncData} {ps ks : List Str} {sp : Sp} {E : XK} {x m : Str} {p pos apos kpos : Pos} {e o : Expr} {es : List Expr} {kws : List Keyword} {te ta : TE} {t tk : TA} {nm : Option Str}
/-- how a call with keywords binds: g puts the positional values us and the keywords' values ws (names ks) in the parameters' order, defaults among them -/
structure KBinds (K : PySem.W.Frag) (fd : FuncData) (ps ks : List Str) (g : List Value → List Value → List Value) (gV : List V → List V → List V) : Prop where
  to : ∀ (s : Shared) (us ws : List Value), K.In s.heap → (g us ws).length = ps.length → BindsTo s fd ⟨us, ks.zip ws⟩ (ps.zip (g us ws))
  rel : ∀ {vs : List V} {us : List Value} {zs : List V} {ws : List Value}, Vals vs us → Vals zs ws → Vals (gV vs zs) (g us ws)
variable {g : List Value → List Value → List Value} {gV : List V → List V → List V}
end

/-! ### a def's body keeps its promise -/
/-- names: the parameters first -/
structure FnScope (N P : List Str) (sc : Scope) : Prop where
  kind : sc.kind = .function
  co : sc.isCoroutine = false
  gen : sc.isGenerator = false
  nd : N.Nodup
  pre : N.take P.length = P
  par : ∀ x ∈ P, sc.names.lookup x = some .local ∨ sc.names.lookup x = some .cell
  nofree : ∀ y ∈ sc.names, y.2 ≠ .free

theorem bindL_out {kindOf : Str → Option NameKind} {x : Str} : ∀ {binds : List (Str × Value)} {m : Str → Option Value}, (∀ v, (x, v) ∉ binds) → bindL kindOf binds m x = m x
  | [], _, _ => rfl
  | (n, v) :: r, m, h => by
    unfold bindL
    rw [bindL_out fun w hw => h w (List.mem_cons_of_mem _ hw)]
    split
    · have : x ≠ n := by rintro rfl; exact h v List.mem_cons_self
      simp [this]
    · rfl
theorem bindC_out {kindOf : Str → Option NameKind} {x : Str} : ∀ {binds : List (Str × Value)} {m : Str → Option Value}, (∀ v, (x, v) ∉ binds) → bindC kindOf binds m x = m x
  | [], _, _ => rfl
  | (n, v) :: r, m, h => by
    unfold bindC
    rw [bindC_out fun w hw => h w (List.mem_cons_of_mem _ hw)]
    split
    · rfl
    · have : x ≠ n := by rintro rfl; exact h v List.mem_cons_self
      simp [this]
theorem bindL_get {kindOf : Str → Option NameKind} {x : Str} {v : Value} : ∀ {P : List Str} {vs : List Value} {i : Nat} {m : Str → Option Value}, P.Nodup → P[i]? = some x → vs[i]? = some v → kindOf x = some .local →
    bindL kindOf (P.zip vs) m x = some v
  | [], _, _, _, _, h, _, _ => by simp at h
  | _ :: _, [], _, _, _, _, h, _ => by simp at h
  | p :: P, w :: vs, 0, m, nd, h1, h2, hk => by
    simp at h1 h2; subst h1; subst h2
    show bindL kindOf ((p, w) :: P.zip vs) m p = _
    unfold bindL
    rw [bindL_out fun v hv => (List.nodup_cons.mp nd).1 (List.of_mem_zip hv).1, if_pos hk]
    simp
  | p :: P, w :: vs, i + 1, m, nd, h1, h2, hk => by
    show bindL kindOf ((p, w) :: P.zip vs) m x = _
    unfold bindL
    exact bindL_get (i := i) (List.nodup_cons.mp nd).2 (by simpa using h1) (by simpa using h2) hk
theorem bindC_get {kindOf : Str → Option NameKind} {x : Str} {v : Value} : ∀ {P : List Str} {vs : List Value} {i : Nat} {m : Str → Option Value}, P.Nodup → P[i]? = some x → vs[i]? = some v → kindOf x ≠ some .local →
    bindC kindOf (P.zip vs) m x = some v
  | [], _, _, _, _, h, _, _ => by simp at h
  | _ :: _, [], _, _, _, _, h, _ => by simp at h
  | p :: P, w :: vs, 0, m, nd, h1, h2, hk => by
    simp at h1 h2; subst h1; subst h2
    show bindC kindOf ((p, w) :: P.zip vs) m p = _
    unfold bindC
    rw [bindC_out fun v hv => (List.nodup_cons.mp nd).1 (List.of_mem_zip hv).1, if_neg hk]
    simp
  | p :: P, w :: vs, i + 1, m, nd, h1, h2, hk => by
    show bindC kindOf ((p, w) :: P.zip vs) m x = _
    unfold bindC
    exact bindC_get (i := i) (List.nodup_cons.mp nd).2 (by simpa using h1) (by simpa using h2) hk

/-- the names' values at the entry -/
def start (N : List Str) (vs : List V) : St := vs.map some ++ List.replicate (N.length - vs.length) none

/-- the context of a def's body, at its entry; an exception leaves the frame, then lies as CX says -/
def cxOf (CX : CXT) (P : Program) (w : World) (K : PySem.W.Frag) (mg : Str → Option Value) (base : Heap) (N : List Str) (qual : Str) (scope : Scope) (f : Addr) (cd : Value) (A : Around) (outer : List Env) (s : Shared) (H : Hp) (E : XK) : Cx where
  prog := P
  w := w
  K := K
  mg := mg
  base := base
  A := A.deeper (envOfC qual scope s.heap.objs.size f cd)
  N := N
  s₀ := s
  H₀ := H
  env := envOfC qual scope s.heap.objs.size f cd
  outer := outer
  stack := envOfC qual scope s.heap.objs.size f cd :: outer
  ex := []
  calm := true
  fn := fun _ => true
  pn := []
  xe := fun e s' => wpAny (model P w) (A.deeper (envOfC qual scope s.heap.objs.size f cd)) (leaving (envOfC qual scope s.heap.objs.size f cd) e) (fun _ s'' => CX outer H s E e s'') (fun e' s'' => CX outer H s E e' s'') s'

theorem cell_has {sc : Scope} {n : Nat} {x : Str} (h : sc.names.lookup x = some .cell) : ∃ c, (cellsFrom n sc.names []).lookup x = some c := by
  have q := PySem.W.cellsFrom_some sc.names n [] (.inl h)
  exact Option.isSome_iff_exists.mp q

theorem inv_start {CX : CXT} {P : Program} {w : World} {K : PySem.W.Frag} {mg : Str → Option Value} {base : Heap} {N ps : List Str} {qual : Str} {scope : Scope} {f : Addr} {cd : Value} {A : Around} {outer : List Env} {s s1 : Shared} {H : Hp} {E : XK} {us : List Value} {vs : List V}
    (S : FnScope N ps scope) (hd : A.handled = none) (e0 : Env0 P w K mg base A outer s H) (hl : vs.length = ps.length) (r : Vals vs us)
    (x : InCallC s s.heap.objs.size (bindL (envOfC qual scope s.heap.objs.size f cd).kindOf (ps.zip us) fun _ => none) (cellsFrom (s.heap.objs.size + 1) scope.names []) (bindC (envOfC qual scope s.heap.objs.size f cd).kindOf (ps.zip us) fun _ => none) s1) :
    Inv (cxOf CX P w K mg base N qual scope f cd A outer s H E) [] (start N vs) H s1 := by
  have hpl : ps.length ≤ N.length := by have := congrArg List.length S.pre; rw [List.length_take] at this; omega
  obtain ⟨h1, tk, rfl, hk⟩ := x.done
  have noA : ∀ b : Addr, b ∉ (cxOf CX P w K mg base N qual scope f cd A outer s H E).ex := fun b z => absurd (show b ∈ ([] : List Addr) from z) (by simp)
  refine ⟨⟨e0.mod, S.kind, rfl, rfl, Nat.le_refl _, fun y z c h1 h2 => ?_, fun y hy => ?_, fun y c _ h => ?_, fun _ => hd, Around.frames_deeper e0.frames, .inr ⟨rfl, rfl⟩, fun b z => absurd z (noA b), e0.bs, e0.bsz, fun b _ _ => noA b, fun b z => absurd z (noA b), e0.funs, e0.frf⟩,
    rfl, e0.bare, Un.kept hk, ⟨_, x.toInCall.ns, fun i y v h1 h2 h3 => ?_⟩, fun y c h => ⟨_, x.cell y c h⟩, e0.hok.fresh (Nat.le_refl _), fun y c h => ?_, fun p hp => absurd (show p ∈ ([] : List (Addr × Obj)) from hp) (by simp), e0.hok.kept hk, ?_⟩
  · exact name_of_addr x.apart (PySem.mem_of_lookup h1) (PySem.mem_of_lookup h2)
  · have hy : scope.names.lookup y = some .cell ∨ scope.names.lookup y = some .free := hy
    rcases hy with hy | hy
    · exact cell_has hy
    · exact absurd rfl (S.nofree _ (PySem.mem_of_lookup hy))
  · exact Nat.le_of_lt (x.above y c (PySem.mem_of_lookup h))
  · have hi : i < vs.length := by
      unfold start at h2
      by_cases hi : i < vs.length
      · exact hi
      · rw [List.getElem?_append_right (by simpa using hi)] at h2
        rw [List.getElem?_replicate] at h2
        split at h2 <;> cases h2
    have ha : vs[i]? = some v := by
      unfold start at h2
      rw [List.getElem?_append_left (by simpa using hi), List.getElem?_map] at h2
      cases e : vs[i]? with
      | none => rw [e] at h2; cases h2
      | some a => rw [e] at h2; cases h2; rfl
    obtain ⟨u, hu, rv⟩ := r.get ha
    have hp : ps[i]? = some y := by
      rw [← S.pre, List.getElem?_take_of_lt (by omega)]; exact h1
    have ndP : ps.Nodup := by rw [← S.pre]; exact S.nd.sublist (List.take_sublist _ _)
    refine ⟨u, rv, ?_⟩
    rcases S.par y (List.mem_of_getElem? hp) with k | k
    · exact .inl ⟨k, bindL_get ndP hp hu k⟩
    · obtain ⟨c, e⟩ := cell_has (n := s.heap.objs.size + 1) k
      refine .inr ⟨.inl k, c, e, ?_⟩
      have q := x.cell y c e
      rw [bindC_get ndP hp hu (by show scope.names.lookup y ≠ _; rw [k]; decide)] at q
      exact q
  · exact e0.hok.fresh (Nat.le_of_lt (x.above y c (PySem.mem_of_lookup h)))
  · unfold start
    show _ = N.length
    rw [List.length_append, List.length_map, List.length_replicate]
    omega

/-- THE RULE: a def (or a method) of the text, by its body. The body's reading t is chosen for each entry; it is run at the parameters' values -/
theorem fn_of {CX : CXT} {P : Program} {w : World} {K : PySem.W.Frag} {mg : Str → Option Value} {base : Heap} {k : Nat} {f : Addr} {name qual : Str} {params : Arguments} {body : List Stmt} {scope : Scope} {dV kV doc pm cdv ct oc : Value} {an od : Option Addr}
    {osl : Array (Option Value)} {N ps : List Str} {sp : Sp} (lk : K.lookup f = some ⟨oc, od, .func (PySem.W.fnOf name qual params body scope dV kV doc pm an cdv ct), osl⟩) (hcd : PySem.W.codeIn K cdv qual = true) (S : FnScope N ps scope)
    (len : ∀ vs H Q E, sp vs H Q E → vs.length = ps.length)
    (hbody : ∀ (A : Around) (outer : List Env) (s : Shared) (H : Hp) (vs : List V) (Q : VK) (E : XK), Room k (A.deeper (envOfC qual scope s.heap.objs.size f cdv)) → sp vs H Q E →
      ∃ t, PSs (cxOf CX P w K mg base N qual scope f cdv A outer s H E) body t ∧ t { nx := fun _ H' => Q .non H', rt := Q } (start N vs) H) :
    FnOk P w K mg base CX (k + 1) f (PySem.W.fnOf name qual params body scope dV kV doc pm an cdv ct) ps sp := by
  refine ⟨len, fun A outer s H args us vs Q E hr e0 hb r hsp => ?_⟩
  have hl := len _ _ _ _ hsp
  have KX : K.In s.heap := e0.mod.kin.keeps fun b o e => (e0.bs b o e).1
  have lim : s.heap.NoLimit := e0.mod.nolimit.keeps fun b o e => (e0.bs b o e).1
  have hkind : ∀ y ∈ ps.zip us, scope.names.lookup y.1 = some .local ∨ (scope.names.lookup y.1 = some .cell ∧ ((cellsFrom (s.heap.objs.size + 1) scope.names []).lookup y.1).isSome = true) := fun ⟨n, v⟩ hy => by
    rcases S.par n (List.of_mem_zip hy).1 with q | q
    · exact .inl q
    · exact .inr ⟨q, PySem.W.cellsFrom_some _ _ _ (.inl q)⟩
  refine codeAny_call_function hr.depth (KX _ _ lk) rfl S.co S.gen rfl (PySem.W.codeRec_of KX hcd) (hb _ _ _ _ ?_)
  refine wpAny_newFunctionEnv_cells S.kind hkind fun env he s1 x => ?_
  subst he
  refine ⟨lim.keeps x.toInCall.keep, codeAny_func ?_⟩
  obtain ⟨t, ht, hq⟩ := hbody A outer s H vs Q E (hr.deeper _) hsp
  have I : Inv (cxOf CX P w K mg base N qual scope f cdv A outer s H E) [] (start N vs) H s1 := inv_start S hr.hd e0 hl r x
  refine wpAny_mono (ht [] s1 (start N vs) H _ I hq) (fun fl s' hs => ?_) fun e s' hs => hs
  have fin : ∀ {σ' : St} {H' : Hp} {v : V} {u : Value}, Inv (cxOf CX P w K mg base N qual scope f cdv A outer s H E) [] σ' H' s' → RelV v u → Q v H' → CE outer P w H s Q u s' :=
    fun {σ' H' v u} J rv q => ⟨v, H', J.os, J.bare, J.base, J.hok, rv, q⟩
  cases fl with
  | ret u =>
    obtain ⟨v, σ', H', J, rv, q⟩ := hs
    exact fin J rv q
  | next =>
    obtain ⟨σ', H', J, q⟩ := hs
    exact fin (v := V.non) (u := Value.none) J rfl q
  | brk =>
    obtain ⟨_, _, _, q⟩ := hs
    exact False.elim q
  | cont =>
    obtain ⟨_, _, _, q⟩ := hs
    exact False.elim q
end L2

namespace L2
open PySem PySem.Spec PyProof.Rows
section
variable {X : Cx} {x : Str} {p pos : Pos} {e : Expr} {es : List Expr} {t : TA} {id T : String} {r : List V → Hp → VK → Prop}

def tCB (r : List V → Hp → VK → Prop) (t : TA) : TE := fun σ H Q => t σ H fun vs H1 => r vs H1 Q
/-- f(e, ..), f a built-in function -/
theorem pe_callB (hc : CallR X (.builtin id) r) (hg : Gl X x) (hm : X.mg x = none) (hv : bootBuiltins x = some (.builtin id)) (ha : PA X (e :: es) t) (hn : x ≠ "__name__" := by decide) (hdb : (x == ("__debug__" : Str)) = false := by decide)
    (he : starEach (e :: es) X.env = (false, eval e X.env) :: starEach es X.env := by rfl) (hpl : (backTo pos (starEach es X.env)).any (·.1) = false := by rfl) : PE X (.Call (.Name x p) (e :: es) [] pos) (tCB r t) := by
  intro pins s σ H Q I h
  refine wpAny_Call_Name_kw (ld_blt I hg hm hv ?_ hn hdb)
  exact PyProof.Rows.callWith_builtin1 (thn (ha pos pins s σ H _ I h) fun us s1 ⟨vs, H1, I1, r1, q1⟩ => hc pins s1 σ H1 vs us Q I1 r1 q1) he hpl
/-- T(e, ..), T a built-in type -/
theorem pe_callTy (hc : CallR X (.type T) r) (hg : Gl X x) (hm : X.mg x = none) (hv : bootBuiltins x = some (.type T)) (ha : PA X (e :: es) t) (hn : x ≠ "__name__" := by decide) (hdb : (x == ("__debug__" : Str)) = false := by decide)
    (he : starEach (e :: es) X.env = (false, eval e X.env) :: starEach es X.env := by rfl) (hpl : (backTo pos (starEach es X.env)).any (·.1) = false := by rfl) : PE X (.Call (.Name x p) (e :: es) [] pos) (tCB r t) := by
  intro pins s σ H Q I h
  refine wpAny_Call_Name_kw (ld_blt I hg hm hv ?_ hn hdb)
  exact PyProof.Rows.callWith_type1 (thn (ha pos pins s σ H _ I h) fun us s1 ⟨vs, H1, I1, r1, q1⟩ => hc pins s1 σ H1 vs us Q I1 r1 q1) he hpl
end
end L2

namespace L2
open PySem PySem.Spec PyProof.Rows

/-! ### lists of pairs as tables -/
section
variable {κ : Type} [DecidableEq κ]
def valV (kvs : List (κ × V)) (k : κ) : Option V := (kvs.find? fun kv => decide (kv.1 = k)).map (·.2)
/-- in its place, or at the end -/
def putK (kvs : List (κ × V)) (k : κ) (v : V) : List (κ × V) :=
  if (kvs.any fun kv => decide (kv.1 = k)) = true then kvs.map (fun kv => if kv.1 = k then (kv.1, v) else kv) else kvs ++ [(k, v)]
def dropK (kvs : List (κ × V)) (k : κ) : List (κ × V) := kvs.filter fun kv => decide (kv.1 ≠ k)

theorem valV_pos {p : κ × V} {r : List (κ × V)} {k : κ} (e : p.1 = k) : valV (p :: r) k = some p.2 := by simp [valV, List.find?_cons, e]
theorem valV_neg {p : κ × V} {r : List (κ × V)} {k : κ} (e : ¬ p.1 = k) : valV (p :: r) k = valV r k := by simp [valV, List.find?_cons, e]
theorem valV_any (k : κ) : ∀ kvs : List (κ × V), (kvs.any fun kv => decide (kv.1 = k)) = (valV kvs k).isSome
  | [] => rfl
  | p :: r => by
    rw [List.any_cons]
    by_cases e : p.1 = k
    · simp only [valV_pos e, decide_eq_true e, Bool.true_or, Option.isSome_some]
    · rw [valV_neg e, decide_eq_false e, Bool.false_or]; exact valV_any k r
theorem length_putK (kvs : List (κ × V)) (k : κ) (v : V) : (putK kvs k v).length ≤ kvs.length + 1 := by
  unfold putK
  split
  · rw [List.length_map]; omega
  · rw [List.length_append, List.length_cons, List.length_nil]; omega
theorem RelO.isSome_eq {o : Option V} {u : Option Value} (r : RelO o u) : o.isSome = u.isSome := by
  cases o with
  | none => cases u with
    | none => rfl
    | some _ => exact (show False from r).elim
  | some _ => cases u with
    | none => exact (show False from r).elim
    | some _ => rfl
theorem RelO.getD {o : Option V} {u : Option Value} {d : V} {d' : Value} (r : RelO o u) (rd : RelV d d') : RelV (o.getD d) (u.getD d') := by
  cases o with
  | none => cases u with
    | none => exact rd
    | some _ => exact (show False from r).elim
  | some _ => cases u with
    | none => exact (show False from r).elim
    | some _ => exact r

/-- raw tables of the same keys -/
theorem KV.val {kvs : List (κ × V)} {vs : List (κ × Value)} (r : KV kvs vs) (k : κ) : RelO (valV kvs k) (valueAt vs k) := by
  unfold KV at r
  induction r with
  | nil => exact True.intro
  | @cons p q ps qs h t ih =>
    obtain ⟨h1, h2⟩ := h
    by_cases e : p.1 = k
    · have e' : q.1 = k := h1.symm.trans e
      have b : valueAt (q :: qs) k = some q.2 := by simp [valueAt, List.find?_cons, e']
      rw [valV_pos e, b]; exact h2
    · have e' : ¬ q.1 = k := fun z => e (h1.trans z)
      have b : valueAt (q :: qs) k = valueAt qs k := by simp [valueAt, List.find?_cons, e']
      rw [valV_neg e, b]; exact ih
theorem KV.any {kvs : List (κ × V)} {vs : List (κ × Value)} (r : KV kvs vs) (k : κ) : (kvs.any fun kv => decide (kv.1 = k)) = vs.any fun kv => decide (kv.1 = k) := by
  unfold KV at r
  induction r with
  | nil => rfl
  | cons h t ih => rw [List.any_cons, List.any_cons, ih, h.1]
theorem KV.repl {kvs : List (κ × V)} {vs : List (κ × Value)} (r : KV kvs vs) (k : κ) {y : V} {u : Value} (ry : RelV y u) :
    KV (kvs.map fun kv => if kv.1 = k then (kv.1, y) else kv) (vs.map fun kv => if kv.1 = k then (kv.1, u) else kv) := by
  unfold KV at r ⊢
  induction r with
  | nil => exact .nil
  | @cons p q ps qs h t ih =>
    rw [List.map_cons, List.map_cons]
    refine .cons ?_ ih
    obtain ⟨h1, h2⟩ := h
    by_cases e : p.1 = k
    · rw [if_pos e, if_pos (h1.symm.trans e)]; exact ⟨h1, ry⟩
    · rw [if_neg e, if_neg (fun z => e (h1.trans z))]; exact ⟨h1, h2⟩
theorem KV.put {kvs : List (κ × V)} {vs : List (κ × Value)} (r : KV kvs vs) (k : κ) {y : V} {u : Value} (ry : RelV y u) : KV (putK kvs k y) (stored vs k u) := by
  unfold putK stored
  rw [r.any k]
  by_cases e : (vs.any fun kv => decide (kv.1 = k)) = true
  · rw [if_pos e, if_pos e]; exact r.repl k ry
  · rw [if_neg e, if_neg e]; exact Paired.snoc r ⟨rfl, ry⟩
theorem KV.drop {kvs : List (κ × V)} {vs : List (κ × Value)} (r : KV kvs vs) (k : κ) : KV (dropK kvs k) (without vs k) := by
  unfold KV at r ⊢
  unfold dropK without
  induction r with
  | nil => exact .nil
  | @cons p q ps qs h t ih =>
    obtain ⟨h1, h2⟩ := h
    rw [List.filter_cons, List.filter_cons]
    by_cases e : p.1 = k
    · have a : ¬ decide (p.1 ≠ k) = true := by simp [e]
      have b : ¬ decide (q.1 ≠ k) = true := by simp [h1.symm.trans e]
      rw [if_neg a, if_neg b]; exact ih
    · have e' : ¬ q.1 = k := fun z => e (h1.trans z)
      have a : decide (p.1 ≠ k) = true := by simp [e]
      have b : decide (q.1 ≠ k) = true := by simp [e']
      rw [if_pos a, if_pos b]; exact .cons ⟨h1, h2⟩ ih
theorem KV.keys {kvs : List (κ × V)} {vs : List (κ × Value)} (r : KV kvs vs) : kvs.map (·.1) = vs.map (·.1) := by
  unfold KV at r
  induction r with
  | nil => rfl
  | cons h t ih => rw [List.map_cons, List.map_cons, ih, h.1]
theorem KV.length {kvs : List (κ × V)} {vs : List (κ × Value)} (r : KV kvs vs) : kvs.length = vs.length := Paired.length r
end


/-! ### a tracked dict, its keys ints and texts or tuples of these -/
theorem kV_is {P : Program} {w : World} {k : Key} {u : Value} (r : RelV (kV k) u) : (mixKind P w).is k u = true := by
  cases k with
  | inl i => obtain ⟨t, e⟩ := (show ∃ t, u = Value.int i t from r); subst e; exact mixKind_int P w i t
  | inr x => obtain ⟨t, e⟩ := (show ∃ t, u = Value.str x t from r); subst e; exact mixKind_str P w x t
theorem items_are {P : Program} {w : World} : ∀ {ks : List Key} {us : List Value}, Vals (ks.map kV) us → ItemsAre (mixKind P w) ks us
  | [], _, r => by rw [List.map_nil] at r; cases r; exact .nil
  | k :: ks, _, r => by
    rw [List.map_cons] at r
    cases r with
    | cons h t => exact .cons (kV_is h) (items_are t)

/-- raw entries of a dict with tuple keys -/
abbrev KT (H : Hp) : List (List Key × V) → List (List Key × Addr × Value) → Prop := Paired fun p q => p.1 = q.1 ∧ H q.2.1 = some (.tup (p.1.map kV)) ∧ RelV p.2 q.2.2
theorem KT.val {H : Hp} {kvs : List (List Key × V)} {xs : List (List Key × Addr × Value)} (r : KT H kvs xs) (k : List Key) : RelO (valV kvs k) ((atKey xs k).map (·.2)) := by
  induction r with
  | nil => exact True.intro
  | @cons p q ps qs h t ih =>
    obtain ⟨h1, _, h2⟩ := h
    by_cases e : p.1 = k
    · have e' : q.1 = k := h1.symm.trans e
      have b : atKey (q :: qs) k = some q.2 := by simp [atKey, List.find?_cons, e']
      rw [valV_pos e, b]; exact h2
    · have e' : ¬ q.1 = k := fun z => e (h1.trans z)
      have b : atKey (q :: qs) k = atKey qs k := by simp [atKey, List.find?_cons, e']
      rw [valV_neg e, b]; exact ih
theorem KT.repl {H : Hp} {kvs : List (List Key × V)} {xs : List (List Key × Addr × Value)} (r : KT H kvs xs) (k : List Key) {y : V} {u : Value} (ry : RelV y u) :
    KT H (kvs.map fun kv => if kv.1 = k then (kv.1, y) else kv) (xs.map (putAt k u)) := by
  induction r with
  | nil => exact .nil
  | @cons p q ps qs h t ih =>
    rw [List.map_cons, List.map_cons]
    refine .cons ?_ ih
    obtain ⟨h1, h2, h3⟩ := h
    unfold putAt
    by_cases e : p.1 = k
    · rw [if_pos e, if_pos (h1.symm.trans e)]; exact ⟨h1, h2, ry⟩
    · rw [if_neg e, if_neg (fun z => e (h1.trans z))]; exact ⟨h1, h2, h3⟩
theorem KT.put {H : Hp} {kvs : List (List Key × V)} {xs : List (List Key × Addr × Value)} (r : KT H kvs xs) (k : List Key) {b : Addr} {y : V} {u : Value} (hb : H b = some (.tup (k.map kV))) (ry : RelV y u) :
    KT H (putK kvs k y) (storedH xs k b u) := by
  have e : (kvs.any fun kv => decide (kv.1 = k)) = (atKey xs k).isSome := by
    rw [valV_any, (r.val k).isSome_eq, Option.isSome_map]
  unfold putK storedH
  rw [e]
  by_cases q : (atKey xs k).isSome = true
  · rw [if_pos q, if_pos q]; exact r.repl k ry
  · rw [if_neg q, if_neg q]; exact Paired.snoc r ⟨rfl, hb, ry⟩
theorem KT.keeps {H H' : Hp} {kvs : List (List Key × V)} {xs : List (List Key × Addr × Value)} (r : KT H kvs xs) (ht : ∀ b ys, H b = some (.tup ys) → H' b = some (.tup ys)) : KT H' kvs xs :=
  Paired.mapP r fun _ _ z => ⟨z.1, ht _ _ z.2.1, z.2.2⟩

section
variable {P : Program} {w : World} {H : Hp} {h : Heap} {a : Addr}
theorem rd_of {u : HO} (ok : HOk P w H h) (e : Rd H a u) : ObjOk P w H h a u := e.ok ok
theorem dk_rd {kvs : List (Key × V)} (ok : HOk P w H h) (e : Rd H a (.dK kvs)) : kvs.length ≤ sizeLine ∧ (a == sysModules) = false ∧ ∃ vs, KV kvs vs ∧ h.DictOf (mixKind P w) a vs :=
  show ObjOk P w H h a (.dK kvs) from rd_of ok e
theorem dk_of {kvs : List (Key × V)} (ok : HOk P w H h) (e : H a = some (.dK kvs)) : kvs.length ≤ sizeLine ∧ (a == sysModules) = false ∧ ∃ vs, KV kvs vs ∧ h.DictOf (mixKind P w) a vs := dk_rd ok (.inl e)
/-- a tracked tuple of ints and texts is a key -/
theorem key_of {ks : List Key} (ok : HOk P w H h) (e : H a = some (.tup (ks.map kV))) : (tupleKind (mixKind P w)).is h ks a := by
  obtain ⟨_, its, r, o, h1, h2, ⟨n, h3⟩, _⟩ := (show ObjOk P w H h a (.tup (ks.map kV)) from ok a _ e)
  exact ⟨o, its.toArray, n, h1, h2, h3, by simpa using items_are r⟩
theorem dt_rd {kvs : List (List Key × V)} (ok : HOk P w H h) (e : Rd H a (.dT kvs)) : kvs.length ≤ sizeLine ∧ (a == sysModules) = false ∧
    ∃ xs, KT H kvs xs ∧ h.DictOfH (tupleKind (mixKind P w)) a xs := by
  obtain ⟨z, y, xs, r, o, es, ep, h1, h2, h3, h4, h5⟩ := (show ObjOk P w H h a (.dT kvs) from rd_of ok e)
  refine ⟨z, y, xs, r, o, es, ep, h1, h2, h3, h4, fun x hx => ?_, h5⟩
  have all : ∀ {l : List (List Key × V)} {m : List (List Key × Addr × Value)}, KT H l m → ∀ x ∈ m, (tupleKind (mixKind P w)).is h x.1 x.2.1 := by
    intro l m q
    induction q with
    | nil => intro x hx; exact nomatch hx
    | @cons p q ps qs hq t ih =>
      intro x hx
      rcases List.mem_cons.mp hx with e | hx
      · subst e
        exact key_of ok (by rw [← hq.1]; exact hq.2.1)
      · exact ih x hx
  exact all r x hx
theorem dt_of {kvs : List (List Key × V)} (ok : HOk P w H h) (e : H a = some (.dT kvs)) : kvs.length ≤ sizeLine ∧ (a == sysModules) = false ∧
    ∃ xs, KT H kvs xs ∧ h.DictOfH (tupleKind (mixKind P w)) a xs := dt_rd ok (.inl e)
end

/-- what the dict at a holds at the key y -/
def DGet (H : Hp) (a : Addr) (y : V) (r : Option V) : Prop :=
  (∃ kvs k, Rd H a (.dK kvs) ∧ y = kV k ∧ r = valV kvs k) ∨ ∃ kvs k b, Rd H a (.dT kvs) ∧ y = .ref b ∧ H b = some (.tup (k.map kV)) ∧ r = valV kvs k
/-- the heap behind a[y] = v -/
def DPut (H : Hp) (a : Addr) (y v : V) (H' : Hp) : Prop :=
  (∃ kvs k, H a = some (.dK kvs) ∧ y = kV k ∧ kvs.length < sizeLine ∧ H' = upd H a (.dK (putK kvs k v))) ∨
  ∃ kvs k b, H a = some (.dT kvs) ∧ y = .ref b ∧ H b = some (.tup (k.map kV)) ∧ kvs.length < sizeLine ∧ H' = upd H a (.dT (putK kvs k v))
theorem DGet.k {H : Hp} {a : Addr} {kvs : List (Key × V)} {k : Key} (e : H a = some (.dK kvs)) : DGet H a (kV k) (valV kvs k) := .inl ⟨kvs, k, .inl e, rfl, rfl⟩
theorem DGet.t {H : Hp} {a b : Addr} {kvs : List (List Key × V)} {k : List Key} (e : H a = some (.dT kvs)) (eb : H b = some (.tup (k.map kV))) : DGet H a (.ref b) (valV kvs k) := .inr ⟨kvs, k, b, .inl e, rfl, eb, rfl⟩
theorem DPut.k {H : Hp} {a : Addr} {kvs : List (Key × V)} {k : Key} {v : V} (e : H a = some (.dK kvs)) (hl : kvs.length < sizeLine) : DPut H a (kV k) v (upd H a (.dK (putK kvs k v))) := .inl ⟨kvs, k, e, rfl, hl, rfl⟩
theorem DPut.t {H : Hp} {a b : Addr} {kvs : List (List Key × V)} {k : List Key} {v : V} (e : H a = some (.dT kvs)) (eb : H b = some (.tup (k.map kV))) (hl : kvs.length < sizeLine) :
    DPut H a (.ref b) v (upd H a (.dT (putK kvs k v))) := .inr ⟨kvs, k, b, e, rfl, eb, hl, rfl⟩


section
variable {X : Cx} {pins : List (Addr × Obj)} {σ : St} {H : Hp} {s : Shared} {a : Addr} {y v : V} {u r : Value} {o : Option V} {A : Around} {E : Value → Shared → Prop}

theorem Inv.big (I : Inv X pins σ H s) : sysModules < s.heap.objs.size := by
  have h : mainGlobals < s.heap.objs.size := (I.mod.glob.keeps I.bk).lt
  exact Nat.lt_trans (by decide) h

/-- d[y], there -/
theorem d_getItem {Q : Value → Shared → Prop} (hu : A.units + 1 < cLine) (I : Inv X pins σ H s) (g : DGet H a y (some v)) (ry : RelV y u) (h : ∀ w' s', Inv X pins σ H s' → RelV v w' → Q w' s') :
    wpAny (model X.prog X.w) A (getItem (.ref a) u) Q E s := by
  rcases g with ⟨kvs, k, e, ey, l⟩ | ⟨kvs, k, b, e, ey, eb, l⟩
  · subst ey
    obtain ⟨z, hd, vs, rel, dd⟩ := dk_rd I.hok e
    obtain ⟨w', hw, rw'⟩ := RelO.some_of (v := v) (o := valueAt vs k) (by rw [l]; exact rel.val k)
    exact wpAny_getItem_of (kV_is ry) dd.mapOf hw (h w' _ (I.tok _) rw')
  · subst ey
    cases (show u = Value.ref b from ry)
    obtain ⟨z, hd, xs, rel, dd⟩ := dt_rd I.hok e
    obtain ⟨w', hw, rw'⟩ := RelO.some_of (v := v) (o := (atKey xs k).map (·.2)) (by rw [l]; exact rel.val k)
    obtain ⟨p, hp, hp2⟩ := Option.map_eq_some_iff.mp hw
    refine wpAny_getItem_heap (tupleKind_room_in1 hu) (key_of I.hok eb) dd hp ?_
    rw [hp2]
    exact h w' _ (I.tok _) rw'
/-- y in d -/
theorem d_in {Q : Value → Shared → Prop} (hu : A.units + 1 < cLine) (I : Inv X pins σ H s) (g : DGet H a y o) (ry : RelV y u) (h : ∀ s', Inv X pins σ H s' → Q (.bool o.isSome) s') :
    wpAny (model X.prog X.w) A (compareOp .In u (.ref a)) Q E s := by
  rcases g with ⟨kvs, k, e, ey, l⟩ | ⟨kvs, k, b, e, ey, eb, l⟩
  · subst ey
    obtain ⟨z, hd, vs, rel, dd⟩ := dk_rd I.hok e
    refine wpAny_in_of (kV_is ry) hd dd.mapOf ?_
    rw [← (rel.val k).isSome_eq, ← l]
    exact h _ (I.tok _)
  · subst ey
    cases (show u = Value.ref b from ry)
    obtain ⟨z, hd, xs, rel, dd⟩ := dt_rd I.hok e
    refine wpAny_in_heap (tupleKind_room_in1 hu) (key_of I.hok eb) hd dd ?_
    have q := (rel.val k).isSome_eq
    rw [Option.isSome_map] at q
    rw [← q, ← l]
    exact h _ (I.tok _)
/-- a dict's object is replaced -/
theorem d_write {h' : Heap} {t' : Nat} {ob : HO} (I : Inv X pins σ H s) (mu : Mut (H a)) (hs : Heap.SameBut a s.heap h') (he : ∃ q, h'.get? a = some q) (new : ObjOk X.prog X.w (upd H a ob) h' a ob) :
    Inv X pins σ (upd H a ob) { s with heap := h', toks := t' } :=
  I.write (x := a) (e := a) mu (.inl rfl) (fun b q hb z => (hs.2 b hb).trans z) he new
theorem dk_new {P : Program} {w : World} {H' : Hp} {h' : Heap} {kvs : List (Key × V)} {vs : List (Key × Value)} (z : kvs.length ≤ sizeLine) (hd : (a == sysModules) = false) (rel : KV kvs vs) (dd : h'.DictOf (mixKind P w) a vs) :
    ObjOk P w H' h' a (.dK kvs) := ⟨z, hd, vs, rel, dd⟩
/-- d[y] = v -/
theorem d_setItem {H' : Hp} {Q : Unit → Shared → Prop} (hu : A.units + 1 < cLine) (I : Inv X pins σ H s) (g : DPut H a y v H') (ry : RelV y u) (rv : RelV v r) (h : ∀ s', Inv X pins σ H' s' → Q () s') :
    wpAny (model X.prog X.w) A (setItem (.ref a) u r) Q E s := by
  rcases g with ⟨kvs, k, e, ey, l, eH⟩ | ⟨kvs, k, b, e, ey, eb, l, eH⟩
  · subst ey eH
    obtain ⟨z, hd, vs, rel, dd⟩ := dk_of I.hok e
    have hz : vs.length ≤ sizeLine := by rw [← rel.length]; exact z
    have hl : (putK kvs k v).length ≤ sizeLine := by have := length_putK kvs k v; omega
    refine wpAny_setItem_pairs (hsz := hz) (kV_is ry) dd fun h' dd' hs => h _ ?_
    have he : ∃ q, h'.get? a = some q := let ⟨q, _, _, hq, _⟩ := dd'; ⟨q, hq⟩
    exact d_write I (by rw [e]; exact True.intro) hs he (dk_new hl hd (rel.put k rv) dd')
  · subst ey eH
    cases (show u = Value.ref b from ry)
    obtain ⟨z, hd, xs, rel, dd⟩ := dt_of I.hok e
    have hz : xs.length ≤ sizeLine := by rw [← Paired.length rel]; exact z
    have hl : (putK kvs k v).length ≤ sizeLine := by have := length_putK kvs k v; omega
    refine wpAny_setItem_heap (hsz := hz) (tupleKind_room_in1 hu) (key_of I.hok eb) dd fun h' dd' hs => h _ ?_
    obtain ⟨q, es, ep, hq, h2, h3, h4, _, h5⟩ := dd'
    refine d_write I (by rw [e]; exact True.intro) hs ⟨q, hq⟩ ⟨hl, hd, _, (rel.put k eb rv).keeps fun c ys ec => ?_, q, es, ep, hq, h2, h3, h4, h5⟩
    rw [upd_ne (ne_of ec e (fun z => nomatch z))]
    exact ec
end

section
variable {X : Cx} {pins : List (Addr × Obj)} {σ : St} {H : Hp} {s : Shared} {a : Addr} {kvs : List (Key × V)} {k : Key} {u : Value} {A : Around} {E : Value → Shared → Prop}
end


/-! ### readings and rules -/
/-- the element of a subscription, not a slice -/
def NoSl (i : Expr) : Prop := ∀ ov iv, subscripted i false ov iv = operate [ov, iv] (getItem ov iv)
theorem subD_of {prog : Program} {w : World} {A : Around} {E : Value → Shared → Prop} {s : Shared} {env : Env} {value slice : Expr} {pos : Pos} {T id : String} {Q : Value → Shared → Prop}
    (hl : typeLookup (.type T) "__getitem__" = pure (some (.builtin id))) (hs : NoSl slice)
    (h : wpAny (model prog w) A (eval value env) (fun o s₁ => wpAny (model prog w) A (eval slice env) (fun i s₂ => s₂.TypeIs o T ∧ wpAny (model prog w) A (getItem o i) Q E s₂) E s₁) E s) :
    wpAny (model prog w) A (eval (.Subscript value slice pos) env) Q E s := by
  refine Subscript_ (wpAny_mono h (fun o s₁ h₁ => wpAny_mono h₁ (fun i s₂ h₂ => ?_) fun _ _ x => x) fun _ _ x => x)
  obtain ⟨hT, h₂⟩ := h₂
  unfold subscriptTail
  refine wpAny_bind ?_
  rw [getitemInPython_of_ne hT.not_modules]
  refine wpAny_bind (wpAny_specialOf hT hl ?_)
  have fin : wpAny (model prog w) A (subscripted slice false o i) (fun r s₃ => wpAny (model prog w) A (letTemporaryGo value o r >>= fun _ => pure r) Q E s₃) E s₂ := by
    rw [hs o i]
    exact wpAny_operating (wpAny_mono h₂ (fun r s₃ h₃ => wpAny_bind (wpAny_letTemporaryGo (wpAny_pure h₃))) fun _ _ x => x)
  first
    | exact wpAny_pure (wpAny_bind fin)
    | exact wpAny_bind (wpAny_pure (wpAny_bind fin))
    | exact wpAny_bind fin

theorem dict_typeIs {X : Cx} {pins : List (Addr × Obj)} {σ : St} {H : Hp} {s : Shared} {a : Addr} {y : V} {o : Option V} (I : Inv X pins σ H s) (g : DGet H a y o) : s.TypeIs (.ref a) "dict" := by
  rcases g with ⟨kvs, k, e, _, _⟩ | ⟨kvs, k, b, e, _, _, _⟩
  · obtain ⟨_, _, vs, _, dd⟩ := dk_rd I.hok e
    exact dd.typeIs
  · obtain ⟨_, _, xs, _, dd⟩ := dt_rd I.hok e
    exact dd.typeIs
/-- d[y] -/
def tDGet (td ty : TE) : TE := fun σ H Q => td σ H fun x H1 => ty σ H1 fun y H2 => ∃ a v, x = .ref a ∧ DGet H2 a y (some v) ∧ Q v H2
/-- y in d, y not in d -/
def tDIn (ty td : TE) : TE := fun σ H Q => ty σ H fun y H1 => td σ H1 fun x H2 => ∃ a o, x = .ref a ∧ DGet H2 a y o ∧ Q (.bl o.isSome) H2
/-- d[y] = v -/
def sDPut (td ty tv : TE) : TS := fun D σ H => tv σ H fun v H1 => td σ H1 fun x H2 => ty σ H2 fun y H3 => ∃ a H4, x = .ref a ∧ DPut H3 a y v H4 ∧ D.nx σ H4
section
variable {X : Cx} {o i e value : Expr} {pos pos' tpos : Pos} {td ty tv : TE}
theorem pe_dget (hu : X.A.units + 1 < cLine) (ho : PE X o td) (hi : PE X i ty) (hs : NoSl i) : PE X (.Subscript o i pos) (tDGet td ty) := by
  intro pins s σ H Q I h
  refine subD_of PySem.F.slot_dict_getitem.lookup hs (thn (ho pins s σ H _ I h) fun u s1 ⟨x, H1, I1, rx, q1⟩ => thn (hi pins s1 σ H1 _ I1 q1) fun iv s2 ⟨y, H2, I2, ry, a, v, ex, g, q2⟩ => ?_)
  subst ex
  obtain rfl : u = Value.ref a := rx
  exact ⟨dict_typeIs I2 g, d_getItem hu I2 g ry fun w' s3 I3 rw' => ⟨v, H2, I3, rw', q2⟩⟩
theorem pc_din (hu : X.A.units + 1 < cLine) (hi : PE X i ty) (ho : PE X o td) : PC X .In i o (tDIn ty td) := by
  intro pins s σ H Q I h
  refine thn (hi pins s σ H _ I h) fun iv s1 ⟨y, H1, I1, ry, q1⟩ => thn (ho pins s1 σ H1 _ I1 q1) fun u s2 ⟨x, H2, I2, rx, a, ov, ex, g, q2⟩ => ?_
  subst ex
  obtain rfl : u = Value.ref a := rx
  exact d_in hu I2 g ry fun s3 I3 => ⟨.bl ov.isSome, H2, I3, rfl, q2⟩
theorem ps_dput (hu : X.A.units + 1 < cLine) (ho : PE X o td) (hi : PE X i ty) (hv : PE X value tv) (hs : swapsWith value (some (.Subscript o i pos')) pos.line X.env = pure false) :
    PS X (.Assign [.Subscript o i pos'] value pos) (sDPut td ty tv) := by
  intro pins s σ H D I h
  refine wpAny_Assign_Subscript (thn (hv pins s σ H _ I h) fun r s1 ⟨v, H1, I1, rv, q1⟩ => thn (ho pins s1 σ H1 _ I1 q1) fun u s2 ⟨x, H2, I2, rx, q2⟩ => thn (hi pins s2 σ H2 _ I2 q2) fun iv s3 ⟨y, H3, I3, ry, a, H4, ex, g, q3⟩ => ?_) hs
  subst ex
  obtain rfl : u = Value.ref a := rx
  exact d_setItem hu I3 g ry rv fun s4 I4 => ⟨σ, H4, I4, q3⟩
end


/-! ### displays -/
theorem dk_empty {P : Program} {w : World} {H : Hp} (h : Heap) (hb : sysModules < h.objs.size) : ObjOk P w H (h.push { cls := .type "dict", data := .dict #[] }) h.objs.size (.dK []) :=
  ⟨Nat.zero_le _, beq_eq_false_iff_ne.mpr (Ne.symm (Nat.ne_of_lt hb)), [], .nil, Heap.DictOf.new h⟩
section
variable {X : Cx} {pos : Pos}
end

/-- the pairs of a display, from the left -/
def tPairs : List (TE × TE) → St → Hp → (List (V × V) → Hp → Prop) → Prop
  | [], _, H, Q => Q [] H
  | (tk, tv) :: r, σ, H, Q => tk σ H fun x H1 => tv σ H1 fun y H2 => tPairs r σ H2 fun ps H3 => Q ((x, y) :: ps) H3
abbrev VV : List (V × V) → List (Value × Value) → Prop := Paired fun p q => RelV p.1 q.1 ∧ RelV p.2 q.2
def PPs (X : Cx) (pos : Pos) (keys : List (Option Expr)) (values : List Expr) (trs : List (TE × TE)) : Prop :=
  ∀ (pins : List (Addr × Obj)) (s : Shared) (σ : St) (H : Hp) (Q : List (V × V) → Hp → Prop), Inv X pins σ H s → tPairs trs σ H Q →
    wpAny (model X.prog X.w) X.A (evalPairs (pairTrees keys values X.env pos)) (fun vs s' => ∃ ps H', Inv X pins σ H' s' ∧ VV ps vs ∧ Q ps H') X.xe s
theorem pps_nil {X : Cx} {pos : Pos} : PPs X pos [] [] [] := fun pins s σ H Q I h => pairTrees_nil_walk ⟨[], H, I, .nil, h⟩
theorem pps_cons {X : Cx} {pos : Pos} {k v : Expr} {ks : List (Option Expr)} {vs : List Expr} {tk tv : TE} {trs : List (TE × TE)} (hk : PE X k tk) (hv : PE X v tv) (hr : PPs X pos ks vs trs) :
    PPs X pos (some k :: ks) (v :: vs) ((tk, tv) :: trs) := fun pins s σ H Q I h =>
  pairTrees_cons_walk (thn (hk pins s σ H _ I h) fun u s1 ⟨x, H1, I1, rx, q1⟩ => thn (hv pins s1 σ H1 _ I1 q1) fun w2 s2 ⟨y, H2, I2, ry, q2⟩ =>
    thn (hr pins s2 σ H2 _ I2 q2) fun ws s3 ⟨ps, H3, I3, rel, q3⟩ => ⟨(x, y) :: ps, H3, I3, .cons ⟨rx, ry⟩ rel, q3⟩)

def mergeK (kvs more : List (Key × V)) : List (Key × V) := more.foldl (fun acc kv => putK acc kv.1 kv.2) kvs
theorem KV.merge : ∀ {more : List (Key × V)} {rs : List (Key × Value)} {kvs : List (Key × V)} {vs : List (Key × Value)}, KV more rs → KV kvs vs → KV (mergeK kvs more) (merged vs rs) := by
  intro more rs kvs vs r
  unfold KV at r
  induction r generalizing kvs vs with
  | nil => intro q; exact q
  | @cons p q ps qs h t ih =>
    intro r0
    have e : KV (putK kvs p.1 p.2) (stored vs q.1 q.2) := by
      have := r0.put p.1 h.2
      rw [← h.1]; exact this
    exact ih e
theorem length_mergeK : ∀ (more kvs : List (Key × V)), (mergeK kvs more).length ≤ kvs.length + more.length
  | [], kvs => by show kvs.length ≤ kvs.length + 0; omega
  | p :: r, kvs => by
    have h1 := length_mergeK r (putK kvs p.1 p.2)
    have h2 := length_putK kvs p.1 p.2
    show (mergeK (putK kvs p.1 p.2) r).length ≤ _
    rw [List.length_cons]; omega
theorem carries_of {P : Program} {w : World} : ∀ {kvs : List (Key × V)} {ws : List (Value × Value)}, VV (kvs.map fun kv => (kV kv.1, kv.2)) ws → ∃ rs, Carries (mixKind P w) ws rs ∧ KV kvs rs
  | [], _, r => by rw [List.map_nil] at r; cases r; exact ⟨[], True.intro, .nil⟩
  | p :: kvs, _, r => by
    rw [List.map_cons] at r
    cases r with
    | @cons a b as bs h t =>
      obtain ⟨rs, c, q⟩ := carries_of (P := P) (w := w) t
      obtain ⟨b1, b2⟩ := b
      exact ⟨(p.1, b2) :: rs, ⟨kV_is h.1, rfl, c⟩, .cons ⟨rfl, h.2⟩ q⟩
/-- {k: v, ..} with keys ints and texts; the new dict stands empty while the pairs are made -/
def tDisp (trs : List (TE × TE)) : TE := fun σ H Q => ∀ p, H p = none → tPairs trs σ (upd H p (.dK [])) fun ps H2 => H2 p = some (.dK []) ∧ ∃ kvs : List (Key × V), ps = kvs.map (fun kv => (kV kv.1, kv.2)) ∧ kvs.length ≤ 15 ∧ Q (.ref p) (upd H2 p (.dK (mergeK [] kvs)))
theorem pe_disp {X : Cx} {pos : Pos} {keys : List (Option Expr)} {values : List Expr} {trs : List (TE × TE)} (h : PPs X pos keys values trs) (hall : keys.all (·.isSome) = true) (hl : keys.length = values.length) (h0 : keys ≠ [])
    (h15 : keys.length ≤ 15) : PE X (.Dict keys values pos) (tDisp trs) := by
  intro pins s σ H Q I q
  have hn := I.hok.fresh (Nat.le_refl s.heap.objs.size)
  have I1 := I.laid (a := s.heap.objs.size) (o := .dK []) (h' := s.heap.push { cls := .type "dict", data := .dict #[] }) (t' := s.toks) (fun _ _ q => Heap.get?_push_of_some _ q) (Nat.le_refl _) (dk_empty s.heap I.big)
  refine wpAny_Dict_walk (knd := mixKind X.prog X.w) hall hl h0 h15 (thn (h pins _ σ _ _ I1 (q _ hn)) fun ws s2 ⟨ps, H2, I2, rel, e, kvs, ep, lk, q2⟩ => ?_)
  subst ep
  obtain ⟨rs, c, rk⟩ := carries_of (P := X.prog) (w := X.w) rel
  obtain ⟨z, hd, vs0, r0, dd⟩ := dk_of I2.hok e
  cases r0
  refine ⟨rs, c, dd, fun h' dd' hs => ⟨.ref s.heap.objs.size, _, ?_, rfl, q2⟩⟩
  have hz : (mergeK [] kvs).length ≤ sizeLine := by
    have h1 := length_mergeK kvs []
    rw [List.length_nil] at h1
    rw [sizeLine_eq]; omega
  have he : ∃ q, h'.get? s.heap.objs.size = some q := let ⟨q, _, _, hq, _⟩ := dd'; ⟨q, hq⟩
  exact d_write I2 (by rw [e]; exact True.intro) hs he (dk_new hz hd (rk.merge .nil) dd')


/-! ### methods -/
/-- a method call o.m(e) of a built-in, with one argument: what must be seen of the text -/
structure M1 (X : Cx) (o : Expr) (m : Str) (apos : Pos) (e : Expr) (cpos : Pos) : Prop where
  base : attributeBase o m X.env (eval o X.env) = eval o X.env
  few : ((backTo cpos (starEach [e] X.env)).all (fun x => !x.1) && (backToKw cpos (keywordEach [] X.env)).all (fun x => x.1.isSome)
    && decide (([e] : List Expr).length + ([] : List Keyword).length + (if ([] : List Keyword).isEmpty then 0 else 1) < 30)) = true
  line : (apos.endLine == cpos.line) = true
  trees : backTo cpos (starEach [e] X.env) = [(false, eval e X.env)]
structure M2 (X : Cx) (o : Expr) (m : Str) (apos : Pos) (e f : Expr) (cpos : Pos) : Prop where
  base : attributeBase o m X.env (eval o X.env) = eval o X.env
  few : ((backTo cpos (starEach [e, f] X.env)).all (fun x => !x.1) && (backToKw cpos (keywordEach [] X.env)).all (fun x => x.1.isSome)
    && decide (([e, f] : List Expr).length + ([] : List Keyword).length + (if ([] : List Keyword).isEmpty then 0 else 1) < 30)) = true
  line : (apos.endLine == cpos.line) = true
  trees : backTo cpos (starEach [e, f] X.env) = [(false, eval e X.env), (false, eval f X.env)]

section
variable {X : Cx} {pins : List (Addr × Obj)} {σ : St} {H : Hp} {s : Shared} {a : Addr} {y d : V} {u r : Value} {o : Option V} {A : Around} {E : Value → Shared → Prop}
end

section
variable {X : Cx} {o e f : Expr} {apos cpos : Pos} {td ty tx : TE}
end

/-! ### dict(d): a copy -/
section
variable {X : Cx} {pins : List (Addr × Obj)} {σ : St} {H : Hp} {s : Shared} {a : Addr} {kvs : List (Key × V)} {A : Around} {E : Value → Shared → Prop}
end


section
variable {X : Cx} {pins : List (Addr × Obj)} {σ : St} {H : Hp} {s : Shared} {a : Addr} {y : V} {u : Value} {A : Around} {E : Value → Shared → Prop}
end
end L2

namespace HT
open PySem PyProof.Rows

/-- t < u of tuples of ints -/
def lexLt : List Int → List Int → Bool
  | [], [] => false
  | [], _ :: _ => true
  | _ :: _, [] => false
  | x :: xs, y :: ys => if x = y then lexLt xs ys else decide (x < y)
section
open PySem.SeqAt
open PySem.AutoSeq1 (wpAny_loadPart')
open PySem.MeetsSeq PySem.MeetsSeq2 PySem.MeetsSeq3

end

section
variable {prog : Program} {w : World} {A : Around} {E : Value → Shared → Prop} {s : Shared}

/-- t + u, t not empty -/
theorem cat_tup {t b : Addr} {vs ws : List Value} {Q : Value → Shared → Prop} (ht : IsTup s.heap t vs.toArray) (hb : IsTup s.heap b ws.toArray) (hv : vs ≠ [])
    (h1 : ws = [] → Q (.ref t) s) (h2 : ws ≠ [] → Q (.ref s.heap.objs.size) { s with heap := s.heap.push { cls := .type "tuple", data := .seq (vs ++ ws).toArray } })
    (hsz : vs.length + ws.length ≤ sizeLine) : wpAny (model prog w) A (binaryOp .Add (.ref t) (.ref b)) Q E s := by
  obtain ⟨⟨cls, dd, data, sl⟩, ho, hc, n, hd⟩ := id ht
  obtain ⟨⟨cls2, dd2, data2, sl2⟩, ho2, hc2, n2, hd2⟩ := id hb
  simp only at hc hd hc2 hd2
  subst hc hd hc2 hd2
  have e : vs.toArray ++ ws.toArray = (vs ++ ws).toArray := by simp
  by_cases hw : ws = []
  · exact concat_meets ⟨_, ho, rfl⟩ ⟨_, ho2, rfl⟩ noFill_tuple_add seq_tuple_add PySem.F.slot_tuple_add PySem.F.entry_tuple_add (PySem.F.args_tuple_add_2 _ _)
      (tuple_addW1 t b vs.toArray ws.toArray n n2 dd dd2 sl sl2 (by simpa using hv) (by simp [hw])) ⟨ho, ho2, h1 hw⟩
  · refine concat_meets ⟨_, ho, rfl⟩ ⟨_, ho2, rfl⟩ noFill_tuple_add seq_tuple_add PySem.F.slot_tuple_add PySem.F.entry_tuple_add (PySem.F.args_tuple_add_2 _ _)
      (tuple_addW2 t b vs.toArray ws.toArray n n2 dd dd2 sl sl2 (by simpa using hv) (by simpa using hw) (by rw [List.size_toArray, List.size_toArray]; exact hsz)) ⟨ho, ho2, ?_⟩
    rw [e]
    exact h2 hw

/-! ### t[a:b], not the whole -/
/-- a slice's bound as a place among n (d where it is left out) -/
def sIx (n d : Nat) : Option Int → Nat
  | none => d
  | some v => if v < 0 then (v + (n : Int)).toNat else min v.toNat n
theorem sIx_none (n d : Nat) : sIx n d none = d := rfl
theorem sIx_nat (n d k : Nat) : sIx n d (some (k : Int)) = min k n := by
  show (if (k : Int) < 0 then ((k : Int) + (n : Int)).toNat else min (k : Int).toNat n) = min k n
  rw [if_neg (by omega), Int.toNat_natCast]
theorem slicePart_ {v : Value} {o : Option Int} {Q : Option Int → Shared → Prop} (p : IsPart v o) (h : Q o s) : wpAny (model prog w) A (Builtin.Slice.slicePartIndex v) Q E s := by
  cases p with
  | none => exact slicePart_none h
  | int i t => exact slicePart_int h
end
end HT

namespace L2
open PySem PySem.Spec PyProof.Rows

/-! ### the parts of a slice -/
abbrev TO := St → Hp → (Option Int → Hp → Prop) → Prop
/-- a slice's part (left out, or an int) -/
def PO (X : Cx) (e : Option Expr) (t : TO) : Prop :=
  ∀ (pins : List (Addr × Obj)) (s : Shared) (σ : St) (H : Hp) (Q : Option Int → Hp → Prop), Inv X pins σ H s → t σ H Q →
    wpAny (model X.prog X.w) X.A (evalPart e X.env) (fun u s' => ∃ o H', Inv X pins σ H' s' ∧ IsPart u o ∧ Q o H') X.xe s
def tNoPart : TO := fun _ H Q => Q none H
def tPart (t : TE) : TO := fun σ H Q => t σ H fun x H1 => ∃ i, x = .int i ∧ Q (some i) H1

section
variable {X : Cx} {e : Expr} {te : TE} {lo hi : Option Expr} {tl th : TO} {pos p2 : Pos}

theorem po_none : PO X none tNoPart := by
  intro pins s σ H Q I h
  rw [evalPart_none]
  exact wpAny_pure ⟨none, H, I, .none, h⟩
theorem po_some (h : PE X e te) : PO X (some e) (tPart te) := by
  intro pins s σ H Q I hw
  rw [evalPart_some]
  refine thn (h pins s σ H _ I hw) fun u s1 ⟨x, H1, I1, r1, q1⟩ => ?_
  obtain ⟨i, rfl, q⟩ := q1
  obtain ⟨t, rfl⟩ := r1
  exact ⟨some i, H1, I1, .int i t, q⟩

/-- what a slice of a value is, by values: the slice object stands at sl -/
def SlR (X : Cx) (r : V → Option Int → Option Int → Hp → VK → Prop) : Prop :=
  ∀ (pins : List (Addr × Obj)) (s : Shared) (σ : St) (H : Hp) (x : V) (v vl vu : Value) (lo hi : Option Int) (sl : Addr) (Q : VK), Inv X pins σ H s → RelV x v → s.heap.IsSliceOf sl vl vu .none → IsPart vl lo → IsPart vu hi → r x lo hi H Q →
    ∃ T id, typeLookup (.type T) "__getitem__" = pure (some (.builtin id)) ∧ s.TypeIs v T ∧ wpAny (model X.prog X.w) X.A (getItem v (.ref sl)) (EP X pins σ Q) X.xe s
theorem SlR.or {r r' : V → Option Int → Option Int → Hp → VK → Prop} (h : SlR X r) (h' : SlR X r') : SlR X (fun x lo hi H Q => r x lo hi H Q ∨ r' x lo hi H Q) := by
  intro pins s σ H x v vl vu lo hi sl Q I rx hs pl pu q
  rcases q with q | q
  · exact h pins s σ H x v vl vu lo hi sl Q I rx hs pl pu q
  · exact h' pins s σ H x v vl vu lo hi sl Q I rx hs pl pu q
def tSl (r : V → Option Int → Option Int → Hp → VK → Prop) (te : TE) (tl th : TO) : TE := fun σ H Q => te σ H fun x H1 => tl σ H1 fun l H2 => th σ H2 fun u H3 => r x l u H3 Q
/-- a[lo:hi], any a -/
theorem pe_slice {r : V → Option Int → Option Int → Hp → VK → Prop} (hr : SlR X r) (he : PE X e te) (hl : PO X lo tl) (hu : PO X hi th) : PE X (.Subscript e (.Slice lo hi none p2) pos) (tSl r te tl th) := by
  intro pins s σ H Q I h
  refine Subscript_ (thn (he pins s σ H _ I h) fun v s1 ⟨x, H1, I1, r1, q1⟩ => ?_)
  refine wpAny_Slice (thn (hl pins s1 σ H1 _ I1 q1) fun vl s2 ⟨l, H2, I2, pl, q2⟩ => thn (hu pins s2 σ H2 _ I2 q2) fun vu s3 ⟨u, H3, I3, pu, q3⟩ => ?_)
  rw [evalPart_none]
  refine wpAny_pure ?_
  have I4 : Inv X pins σ H3 { s3 with heap := s3.heap.push { cls := .type "slice", data := .fields #[vl, vu, .none] } } := I3.kept (t' := s3.toks) fun b ob q => Heap.get?_push_of_some _ q
  obtain ⟨T, id, hT, ht, hg⟩ := hr pins { s3 with heap := s3.heap.push { cls := .type "slice", data := .fields #[vl, vu, .none] } } σ H3 x v vl vu l u s3.heap.objs.size Q I4 r1 (Heap.IsSliceOf.new ..) pl pu q3
  show wpAny (model X.prog X.w) X.A (subscriptTail e (.Slice lo hi none p2) v (.ref s3.heap.objs.size)) (EP X pins σ Q) X.xe { s3 with heap := s3.heap.push { cls := .type "slice", data := .fields #[vl, vu, .none] } }
  exact tail_any (ops := [.ref s3.heap.objs.size, v]) ht hT hg (by with_unfolding_all rfl)

/-- the items of xs[lo:hi] -/
def cutV (xs : List V) (lo hi : Option Int) : List V := (xs.drop (HT.sIx xs.length 0 lo)).take (HT.sIx xs.length xs.length hi - HT.sIx xs.length 0 lo)
theorem cutV_length (xs : List V) (lo hi : Option Int) : (cutV xs lo hi).length ≤ xs.length := by
  unfold cutV
  rw [List.length_take, List.length_drop]
  omega
/-! ### t < u, t + u -/
/-- t + u, t not empty: u empty gives t itself -/
def rCatT (K : PySem.W.Frag) : R2 := fun x y H Q => ∃ a b xs ys, x = .ref a ∧ y = .ref b ∧ SqT K H a xs ∧ SqT K H b ys ∧ xs ≠ [] ∧ xs.length + ys.length ≤ sizeLine ∧
  (ys = [] → Q (.ref a) H) ∧ (ys ≠ [] → ∀ p, H p = none → Q (.ref p) (upd H p (.tup (xs ++ ys))))
theorem Vals.nil_iff {xs : List V} {us : List Value} (r : Vals xs us) : us = [] ↔ xs = [] := by
  cases r with
  | nil => simp
  | cons _ _ => simp
theorem op_catT : OpR X (binaryOp .Add) (rCatT X.K) := by
  intro pins s σ H x y v u Q I rx ry h
  obtain ⟨a, b, xs, ys, rfl, rfl, ha, hb, hx, hz, q1, q2⟩ := h
  cases rx
  cases ry
  obtain ⟨its, r1, p1, _⟩ := I.tuple ha
  obtain ⟨its2, r2, p2, _⟩ := I.tuple hb
  refine HT.cat_tup p1 p2 (fun z => hx (r1.nil_iff.mp z)) (fun z => ⟨.ref a, H, I, rfl, q1 (r2.nil_iff.mp z)⟩) (fun z => ?_) (by rw [← r1.length, ← r2.length]; exact hz)
  refine ⟨.ref s.heap.objs.size, _, I.laid (t' := s.toks) (o := .tup (xs ++ ys)) (fun b ob q => Heap.get?_push_of_some _ q) (Nat.le_refl _) ?_, rfl, q2 (fun w => z (r2.nil_iff.mpr w)) _ (I.hok.fresh (Nat.le_refl _))⟩
  exact ⟨by rw [List.length_append]; exact hz, _, r1.append r2, IsTupD.new _ _⟩
end
end L2

namespace L2
open PySem PySem.Spec PyProof.Rows

/-! ### places -/
/-- the place that an index of any sign means -/
def ixN (n : Nat) (i : Int) : Option Nat := if 0 ≤ i then (if i < n then some i.toNat else none) else if -(n : Int) ≤ i then some (i + n).toNat else none
def atI {α : Type} (xs : List α) (i : Int) : Option α := (ixN xs.length i).bind fun j => xs[j]?
theorem ixN_seq {n : Nat} {i : Int} {j : Nat} (h : ixN n i = some j) : seqIndex? i n = some j ∧ j < n ∧ -(n : Int) ≤ i ∧ i < n := by
  unfold ixN at h
  by_cases h0 : 0 ≤ i
  · rw [if_pos h0] at h
    by_cases h1 : i < n
    · rw [if_pos h1] at h
      have e : i.toNat = j := Option.some.inj h
      exact ⟨by rw [seqIndex_of h0 h1, e], by omega, by omega, h1⟩
    · rw [if_neg h1] at h; cases h
  · rw [if_neg h0] at h
    by_cases h1 : -(n : Int) ≤ i
    · rw [if_pos h1] at h
      have e : (i + n).toNat = j := Option.some.inj h
      exact ⟨by rw [seqIndex_neg (by omega) h1, e], by omega, h1, by omega⟩
    · rw [if_neg h1] at h; cases h
theorem atI_get {α : Type} {xs : List α} {i : Int} {v : α} (h : atI xs i = some v) : ∃ j, seqIndex? i xs.length = some j ∧ xs[j]? = some v ∧ j < xs.length ∧ -(xs.length : Int) ≤ i ∧ i < xs.length := by
  unfold atI at h
  cases e : ixN xs.length i with
  | none => rw [e] at h; cases h
  | some j =>
    rw [e] at h
    obtain ⟨h1, h2, h3, h4⟩ := ixN_seq e
    exact ⟨j, h1, h, h2, h3, h4⟩
theorem atI_nat {α : Type} {xs : List α} {j : Nat} {v : α} (h : xs[j]? = some v) : atI xs (j : Int) = some v := by
  have hj : j < xs.length := (List.getElem?_eq_some_iff.mp h).1
  have e : ixN xs.length (j : Int) = some j := by
    unfold ixN
    rw [if_pos (by omega), if_pos (by omega)]; simp
  unfold atI; rw [e]; exact h
/-! ### what may be subscripted -/
/-- what stands as an index of a plain subscript -/
def PlainIx (b : Expr) : Prop := ∀ o i, subscripted b false o i = operate [o, i] (getItem o i)
/-- a subscript by values -/
def IxR (X : Cx) (r : R2) : Prop :=
  ∀ (value slice : Expr) (pins : List (Addr × Obj)) (s : Shared) (σ : St) (H : Hp) (x y : V) (v u : Value) (Q : VK), Inv X pins σ H s → RelV x v → RelV y u → r x y H Q →
    subscripted slice false v u = operate [v, u] (getItem v u) → wpAny (model X.prog X.w) X.A (subscriptTail value slice v u) (EP X pins σ Q) X.xe s
/-- a call of a builtin's method by values: the receiver, the arguments -/
def MtR (X : Cx) (id : String) (r : V → List V → Hp → VK → Prop) : Prop :=
  ∀ (pins : List (Addr × Obj)) (s : Shared) (σ : St) (H : Hp) (x : V) (xs : List V) (v : Value) (us : List Value) (Q : VK), Inv X pins σ H s → RelV x v → Vals xs us → r x xs H Q →
    wpAny (model X.prog X.w) X.A (call (.builtin id) (v :: us)) (EP X pins σ Q) X.xe s
section
variable {X : Cx} {a b : Expr} {ta tb : TE} {pos : Pos}
theorem IxR.or {r r' : R2} (h : IxR X r) (h' : IxR X r') : IxR X (fun x y H Q => r x y H Q ∨ r' x y H Q) := by
  intro value slice pins s σ H x y v u Q I rx ry q hs
  rcases q with q | q
  · exact h value slice pins s σ H x y v u Q I rx ry q hs
  · exact h' value slice pins s σ H x y v u Q I rx ry q hs
theorem MtR.or {id : String} {r r' : V → List V → Hp → VK → Prop} (h : MtR X id r) (h' : MtR X id r') : MtR X id (fun x xs H Q => r x xs H Q ∨ r' x xs H Q) := by
  intro pins s σ H x xs v us Q I rx rs q
  rcases q with q | q
  · exact h pins s σ H x xs v us Q I rx rs q
  · exact h' pins s σ H x xs v us Q I rx rs q
/-- a[b] -/
theorem pe_ix {r : R2} (hr : IxR X r) (ha : PE X a ta) (hb : PE X b tb) (hs : PlainIx b) : PE X (.Subscript a b pos) (tOp r ta tb) := by
  intro pins s σ H Q I h
  exact Subscript_ (binT ha hb I h fun v u s2 x y H2 I2 rx ry q => hr a b pins s2 σ H2 x y v u Q I2 rx ry q (hs _ _))

def rIxL (K : PySem.W.Frag) : R2 := fun x y H Q => ∃ p xs i v, x = .ref p ∧ y = .int i ∧ SqL K H p xs ∧ atI xs i = some v ∧ Q v H
def rIxT (K : PySem.W.Frag) : R2 := fun x y H Q => ∃ p xs i v, x = .ref p ∧ y = .int i ∧ SqT K H p xs ∧ atI xs i = some v ∧ Q v H
theorem ix_list : IxR X (rIxL X.K) := by
  intro value slice pins s σ H x y v u Q I rx ry h hs
  obtain ⟨p, xs, i, z, rfl, rfl, hq, he, q⟩ := h
  cases rx
  obtain ⟨t, rfl⟩ := ry
  obtain ⟨its, r, pl, hz⟩ := I.list hq
  obtain ⟨j, h1, h2, h3, h4, h5⟩ := atI_get he
  obtain ⟨w, ew, rw'⟩ := r.get h2
  have hl := r.length
  have hn := line63
  have fin : EP X pins σ Q w s := ⟨z, H, I, rw', q⟩
  by_cases h0 : 0 ≤ i
  · have hj : i.toNat = j := by
      rw [seqIndex_of h0 h5] at h1
      exact Option.some.inj h1
    exact item_listR pl.isList h0 (by omega) (by rw [hj]; simpa using ew) fin hs
  · have hj : (i + (its.toArray.size : Int)).toNat = j := by
      rw [seqIndex_neg (by omega) h4] at h1
      rw [List.size_toArray, ← hl]
      exact Option.some.inj h1
    exact subscriptTail_builtinR (x := w) pl.isList.typeIs slot_list_getitem.lookup
      (wpAny_getItem_list_neg (Q := fun r s' => r = w ∧ EP X pins σ Q r s') pl.isList (by omega) (by rw [List.size_toArray] <;> omega) (by omega) (by rw [hj]; simpa using ew) ⟨rfl, fin⟩) hs
theorem ix_tup : IxR X (rIxT X.K) := by
  intro value slice pins s σ H x y v u Q I rx ry h hs
  obtain ⟨p, xs, i, z, rfl, rfl, hq, he, q⟩ := h
  cases rx
  obtain ⟨t, rfl⟩ := ry
  obtain ⟨its, r, pl, hz⟩ := I.tuple hq
  obtain ⟨j, h1, h2, h3, h4, h5⟩ := atI_get he
  obtain ⟨w, ew, rw'⟩ := r.get h2
  have hl := r.length
  have hn := line63
  have fin : EP X pins σ Q w s := ⟨z, H, I, rw', q⟩
  exact subscriptTail_builtinR (x := w) pl.typeIs slot_tuple_getitem.lookup
    (getItem_tuple (j := j) (Q := fun r s' => r = w ∧ EP X pins σ Q r s') pl (by omega) (by omega) (by rw [List.size_toArray, ← hl]; exact h1) (by simpa using ew) ⟨rfl, fin⟩) hs
/-! ### xs[i] = v, any sign -/
/-- the list's object behind a store -/
theorem mapSeq_set (its : List Value) (n j : Nat) (u : Value) : Obj.mapSeq (·.setIfInBounds j u) { cls := .type "list", data := .seq its.toArray n } = { cls := .type "list", data := .seq (its.set j u).toArray n } := by
  simp [Obj.mapSeq]
theorem Inv.lst {pins : List (Addr × Obj)} {σ : St} {H : Hp} {s : Shared} {p : Addr} {xs : List V} (I : Inv X pins σ H s) (h : H p = some (.lst xs)) :
    ∃ (its : List Value) (n : Nat), Vals xs its ∧ s.heap.get? p = some { cls := .type "list", data := .seq its.toArray n } ∧ xs.length ≤ sizeLine := by
  obtain ⟨z, its, n, r, e⟩ := I.hok p _ h
  exact ⟨its, n, r, e, z⟩
/-- the list at p is written by an update of its object -/
theorem Inv.lstUpd {pins : List (Addr × Obj)} {σ : St} {H : Hp} {s : Shared} {p : Addr} {xs ys : List V} {its its' : List Value} {n n' : Nat} {f : Obj → Obj} (I : Inv X pins σ H s) (h : H p = some (.lst xs))
    (ho : s.heap.get? p = some { cls := .type "list", data := .seq its.toArray n }) (hf : f { cls := .type "list", data := .seq its.toArray n } = { cls := .type "list", data := .seq its'.toArray n' }) (r : Vals ys its') (hz : ys.length ≤ sizeLine) (t : Nat) :
    Inv X pins σ (upd H p (.lst ys)) { s with heap := s.heap.update p f, toks := t } := by
  have e : (s.heap.update p f).get? p = some { cls := .type "list", data := .seq its'.toArray n' } := by
    rw [Heap.get?_update_self f ho (by rw [hf] <;> rfl), hf]
  refine I.write (x := p) (e := p) (by rw [h]; trivial) (.inl rfl) (fun b u hb q => (Heap.get?_update_other _ _ (Ne.symm hb)).trans q) ⟨_, e⟩ ?_
  exact ⟨hz, its', n', r, e⟩
def rSetL : V → V → V → Hp → (Hp → Prop) → Prop := fun o i v H Q => ∃ p xs k j, o = .ref p ∧ i = .int k ∧ H p = some (.lst xs) ∧ ixN xs.length k = some j ∧ Q (upd H p (.lst (xs.set j v)))
theorem set_list : PSet X rSetL := by
  intro pins s σ H o i v ov iv u Q I ro ri rv h
  obtain ⟨p, xs, k, j, rfl, rfl, hp, hj, q⟩ := h
  cases ro
  obtain ⟨t, rfl⟩ := ri
  obtain ⟨its, n, r, ho, hz⟩ := I.lst hp
  obtain ⟨h1, h2, h3, h4⟩ := ixN_seq hj
  have hl := r.length
  have hn := line63
  have I' : Inv X pins σ (upd H p (.lst (xs.set j v))) { s with heap := s.heap.update p (Obj.mapSeq (·.setIfInBounds j u)) } :=
    I.lstUpd hp ho (mapSeq_set its n j u) (r.set rv j) (by rw [List.length_set]; exact hz) s.toks
  by_cases h0 : 0 ≤ k
  · have hk : k.toNat = j := by
      rw [seqIndex_of h0 h4] at h1
      exact Option.some.inj h1
    exact PySem.W.ki_setAt ho h0 (by omega) (by rw [List.size_toArray, ← hl]; exact h4) (by rw [hk]; exact ⟨_, I', q⟩)
  · have hk : (k + (its.toArray.size : Int)).toNat = j := by
      rw [seqIndex_neg (by omega) h3] at h1
      rw [List.size_toArray, ← hl]
      exact Option.some.inj h1
    exact PySem.W.ki_setBack ho (by omega) (by rw [List.size_toArray, ← hl]; exact h3) (by omega) (by rw [hk]; exact ⟨_, I', q⟩)

/-! ### slices -/
theorem slice_bounds (lo hi : Option Int) (n : Nat) : (sliceBounds lo hi none n).1 = ((HT.sIx n 0 lo : Nat) : Int) ∧ (sliceBounds lo hi none n).2.1 = ((HT.sIx n n hi : Nat) : Int) ∧ (sliceBounds lo hi none n).2.2 = 1 := by
  refine ⟨?_, ?_, rfl⟩
  · cases lo with
    | none => simp [sliceBounds, HT.sIx]
    | some i =>
      simp only [sliceBounds, HT.sIx, Option.getD_none, show (1 : Int) > 0 by decide, if_true]
      by_cases h : i < 0
      · simp only [h, if_true] <;> omega
      · simp only [h, if_false] <;> omega
  · cases hi with
    | none => simp [sliceBounds, HT.sIx]
    | some i =>
      simp only [sliceBounds, HT.sIx, Option.getD_none, show (1 : Int) > 0 by decide, if_true]
      by_cases h : i < 0
      · simp only [h, if_true] <;> omega
      · simp only [h, if_false] <;> omega
theorem slicePick_cut (its : List Value) (lo hi : Option Int) : slicePick its.toArray lo hi none = ((its.drop (HT.sIx its.length 0 lo)).take (HT.sIx its.length its.length hi - HT.sIx its.length 0 lo)).toArray := by
  obtain ⟨h1, h2, h3⟩ := slice_bounds lo hi its.toArray.size
  unfold slicePick
  rw [h1, h2, h3]
  simp only [sliceRange_one, pick_run, List.size_toArray] <;> rfl
/-- xs[lo:hi] of a list: a new list -/
def rSlL (K : PySem.W.Frag) : V → Option Int → Option Int → Hp → VK → Prop := fun x lo hi H Q => ∃ a xs, x = .ref a ∧ SqL K H a xs ∧ ∀ p, H p = none → Q (.ref p) (upd H p (.lst (cutV xs lo hi)))
theorem sl_list : SlR X (rSlL X.K) := by
  intro pins s σ H x v vl vu lo hi sl Q I rx hs pl pu h
  obtain ⟨a, xs, rfl, hx, q⟩ := h
  cases rx
  obtain ⟨its, r, ht, hz⟩ := I.list hx
  have hlen := r.length
  refine ⟨"list", _, slot_list_getitem.lookup, ht.isList.typeIs, ?_⟩
  refine wpAny_getItem_list_slice ht.isList hs pl pu .none (by simp) ?_ (by rw [List.size_toArray] <;> omega)
  rw [slicePick_cut, ← hlen]
  refine ⟨.ref s.heap.objs.size, _, I.laid (t' := s.toks) (o := .lst (cutV xs lo hi)) (fun b ob q => Heap.get?_push_of_some _ q) (Nat.le_refl _) ?_, rfl, q _ (I.hok.fresh (Nat.le_refl _))⟩
  exact ⟨Nat.le_trans (cutV_length xs lo hi) hz, _, 0, (r.drop (HT.sIx xs.length 0 lo)).take (HT.sIx xs.length xs.length hi - HT.sIx xs.length 0 lo), Heap.get?_push_size _ rfl⟩

/-! ### in, not in: flat items -/
/-! ### len, list(x), tuple(x) of any list or tuple that is read -/
theorem CallR.or {f : Value} {r r' : List V → Hp → VK → Prop} (h : CallR X f r) (h' : CallR X f r') : CallR X f (fun xs H Q => r xs H Q ∨ r' xs H Q) := by
  intro pins s σ H xs us Q I rs q
  rcases q with q | q
  · exact h pins s σ H xs us Q I rs q
  · exact h' pins s σ H xs us Q I rs q
theorem call_list_of : CallR X (.type "list") (fun xs H Q => ∃ p ys, xs = [.ref p] ∧ (SqL X.K H p ys ∨ SqT X.K H p ys) ∧ ∀ l, H l = none → Q (.ref l) (upd H l (.lst ys))) := by
  intro pins s σ H xs us Q I r h
  obtain ⟨p, ys, rfl, hq, q⟩ := h
  obtain ⟨u, rfl, rx⟩ := vals1 r
  cases rx
  have fin : ∀ (its : List Value), Vals ys its → ys.length ≤ sizeLine → ∀ (h' : Heap) (c' : Nat), (∀ b o', s.heap.get? b = some o' → h'.get? b = some o') →
      h'.get? s.heap.objs.size = some { cls := .type "list", dict := none, data := .seq its.toArray c', slots := #[] } → EP X pins σ Q (.ref s.heap.objs.size) { s with heap := h' } := fun its r' hz h' c' kp e =>
    ⟨.ref s.heap.objs.size, _, I.laid (t' := s.toks) kp (Nat.le_refl _) (show ObjOk X.prog X.w _ h' _ (.lst ys) from ⟨hz, its, c', r', e⟩), rfl, q _ (I.hok.fresh (Nat.le_refl _))⟩
  rcases hq with hq | hq
  · obtain ⟨its, r', pl, hz⟩ := I.list hq
    have hlen := r'.length
    obtain ⟨o, ho, hc, n, hd⟩ := pl.isList
    exact call_list_seq p (.inl rfl) ho hc hd (fun h' c' kp e => fin its r' hz h' c' kp e) (by simp only [List.size_toArray] <;> omega)
  · obtain ⟨its, r', pl, hz⟩ := I.tuple hq
    have hlen := r'.length
    obtain ⟨o, ho, hc, n, hd⟩ := pl
    exact call_list_seq p (.inr rfl) ho hc hd (fun h' c' kp e => fin its r' hz h' c' kp e) (by simp only [List.size_toArray] <;> omega)
theorem call_tuple_of : CallR X (.type "tuple") (fun xs H Q => ∃ p ys, xs = [.ref p] ∧ ((SqL X.K H p ys ∧ ∀ l, H l = none → Q (.ref l) (upd H l (.tup ys))) ∨ (SqT X.K H p ys ∧ Q (.ref p) H))) := by
  intro pins s σ H xs us Q I r h
  obtain ⟨p, ys, rfl, h⟩ := h
  obtain ⟨u, rfl, rx⟩ := vals1 r
  cases rx
  rcases h with ⟨hq, q⟩ | ⟨hq, q⟩
  · obtain ⟨its, r', pl, hz⟩ := I.list hq
    have hlen := r'.length
    refine call_tuple_list pl.isList (fun h' kp => ?_) (by simp only [List.size_toArray] <;> omega)
    have I1 : Inv X pins σ H { s with heap := h' } := I.kept (t' := s.toks) kp
    have I2 : Inv X pins σ (upd H h'.objs.size (.tup ys)) { s with heap := h'.push { cls := .type "tuple", data := .seq its.toArray } } :=
      I1.laid (t' := s.toks) (fun b o e => Heap.get?_push_of_some _ e) (Nat.le_refl _) (show ObjOk X.prog X.w _ _ _ (.tup ys) from ⟨hz, its, r', IsTupD.new _ _⟩)
    exact ⟨.ref h'.objs.size, _, I2, rfl, q _ (I1.hok.fresh (Nat.le_refl _))⟩
  · obtain ⟨its, r', pl, hz⟩ := I.tuple hq
    exact call_tuple_same pl ⟨.ref p, H, I, rfl, q⟩

/-! ### the call of a builtin's method: o.m(..) -/
/-- the value is of that builtin type -/
def tyV (K : PySem.W.Frag) (T : String) (x : V) (H : Hp) : Prop := match x with
  | .str _ => T = "str"
  | .int _ => T = "int"
  | .ref p => (T = "list" ∧ ∃ xs, SqL K H p xs) ∨ (T = "tuple" ∧ ∃ o, K.lookup p = some o ∧ o.cls = .type "tuple" ∧ o.dict = none) ∨
      (T = "dict" ∧ ((∃ kvs, H p = some (.dK kvs)) ∨ ∃ kvs, H p = some (.dT kvs))) ∨ (T = "set" ∧ ∃ S n, H p = some (.set S n))
  | _ => False
theorem tyV_is {pins : List (Addr × Obj)} {σ : St} {H : Hp} {s : Shared} {T : String} {x : V} {v : Value} (I : Inv X pins σ H s) (r : RelV x v) (ty : tyV X.K T x H) :
    s.TypeIs v T ∧ ∀ a, v = .ref a → ∃ ob, s.heap.get? a = some ob ∧ ob.dict = none := by
  cases x with
  | str z =>
    obtain ⟨t, rfl⟩ := r
    cases (show T = "str" from ty)
    exact ⟨typeIs_str s z t, fun _ e => nomatch e⟩
  | int i =>
    obtain ⟨t, rfl⟩ := r
    cases (show T = "int" from ty)
    exact ⟨typeIs_int s i t, fun _ e => nomatch e⟩
  | ref p =>
    cases r
    rcases ty with ⟨rfl, xs, hq⟩ | ⟨rfl, o, hk, hc, hd⟩ | ⟨rfl, hk⟩ | ⟨rfl, S, n, hk⟩
    · obtain ⟨its, _, pl, _⟩ := I.list hq
      refine ⟨pl.isList.typeIs, fun a e => ?_⟩
      cases e
      obtain ⟨o, n, e, c, hd, _⟩ := pl
      exact ⟨o, e, hd⟩
    · refine ⟨⟨o, I.kIn p o hk, hc⟩, fun a e => ?_⟩
      cases e
      exact ⟨o, I.kIn _ o hk, hd⟩
    · have z : ∃ o, s.heap.get? p = some o ∧ o.ExactDict := by
        rcases hk with ⟨kvs, hk⟩ | ⟨kvs, hk⟩
        · obtain ⟨_, _, _, _, o, _, _, e, ex, _⟩ := I.hok p _ hk
          exact ⟨o, e, ex⟩
        · obtain ⟨_, _, _, _, o, _, _, e, ex, _⟩ := I.hok p _ hk
          exact ⟨o, e, ex⟩
      obtain ⟨o, e, ex⟩ := z
      refine ⟨⟨o, e, ex.1⟩, fun a e2 => ?_⟩
      cases e2
      exact ⟨o, e, ex.2.1⟩
    · obtain ⟨o, _, _, _, e, ex, _⟩ := I.hok p _ hk
      refine ⟨⟨o, e, ex.1⟩, fun a e2 => ?_⟩
      cases e2
      exact ⟨o, e, ex.2.1⟩
  | _ => exact False.elim ty
def tBM0 (K : PySem.W.Frag) (T : String) (r : V → List V → Hp → VK → Prop) (to : TE) : TE := fun σ H Q => to σ H fun x H1 => tyV K T x H1 ∧ r x [] H1 Q
def tBM (K : PySem.W.Frag) (T : String) (r : V → List V → Hp → VK → Prop) (to : TE) (t : TA) : TE := fun σ H Q => to σ H fun x H1 => tyV K T x H1 ∧ t σ H1 fun xs H2 => r x xs H2 Q
variable {o e : Expr} {es : List Expr} {to : TE} {t : TA} {name : Str} {apos cpos : Pos} {T id : String} {r : V → List V → Hp → VK → Prop}
theorem pe_bm0 (pa : PlainAttrs T) (slot : Slot T name id) (hty : typeOf (.builtin id) = pure (.type "method_descriptor")) (hm : MtR X id r) (ho : PE X o to)
    (hbase : attributeBase o name X.env (eval o X.env) = eval o X.env := by rfl) (hline : (apos.endLine == cpos.line) = true := by rfl) : PE X (.Call (.Attribute o name apos) [] [] cpos) (tBM0 X.K T r to) := by
  intro pins s σ H Q I h
  refine wpAny_Call_method0_late hbase hline (thn (ho pins s σ H _ I h) fun v s1 ⟨x, H1, I1, r1, ty, q1⟩ => ?_)
  obtain ⟨h1, h2⟩ := tyV_is I1 r1 ty
  exact ⟨T, id, pa, slot, hty, h1, h2, Calls.callWith_builtin rfl (PySem.evalArgs_none (hm pins s1 σ H1 x [] v [] Q I1 r1 .nil q1))⟩
theorem pe_bm (pa : PlainAttrs T) (slot : Slot T name id) (hty : typeOf (.builtin id) = pure (.type "method_descriptor")) (hm : MtR X id r) (ho : PE X o to) (ha : PA X (e :: es) t)
    (hbase : attributeBase o name X.env (eval o X.env) = eval o X.env := by rfl)
    (hfew : ((backTo cpos (starEach (e :: es) X.env)).all (fun x => !x.1) && (backToKw cpos (keywordEach [] X.env)).all (fun x => x.1.isSome)
      && decide ((e :: es).length + ([] : List Keyword).length + (if ([] : List Keyword).isEmpty then 0 else 1) < 30)) = true := by rfl)
    (hline : (apos.endLine == cpos.line) = true := by rfl) (hs : starEach (e :: es) X.env = (false, eval e X.env) :: starEach es X.env := by rfl) (hplain : (backTo cpos (starEach es X.env)).any (·.1) = false := by rfl) :
    PE X (.Call (.Attribute o name apos) (e :: es) [] cpos) (tBM X.K T r to t) := by
  intro pins s σ H Q I h
  refine wpAny_Call_method_late hbase hfew hline rfl (thn (ho pins s σ H _ I h) fun v s1 ⟨x, H1, I1, r1, ty, q1⟩ => ?_)
  obtain ⟨h1, h2⟩ := tyV_is I1 r1 ty
  refine ⟨T, id, pa, slot, hty, h1, h2, ?_⟩
  have hA := ha cpos pins s1 σ H1 _ I1 q1
  rw [hs] at hA ⊢
  refine Calls.callWith_builtin (by show (false || (backTo cpos (starEach es X.env)).any (·.1)) = false; rw [hplain] <;> rfl) (Calls.evalArgs_plain ?_)
  exact thn hA fun us s2 ⟨vs, H2, I2, r2, q2⟩ => hm pins s2 σ H2 x vs v us Q I2 r1 r2 q2
/- xs.append(e), list.index on a module's tuple .. are MtR facts of 06m -/
end
end L2

namespace L2
open PySem PySem.Spec PyProof.Rows

def MtM (X : Cx) (id : String) (r : V → List V → Hp → VK → Prop) : Prop :=
  ∀ (pins : List (Addr × Obj)) (s : Shared) (σ : St) (H : Hp) (x : V) (xs : List V) (v : Value) (us : List Value) (Q : VK), Inv X pins σ H s → RelV x v → Vals xs us → r x xs H Q →
    wpAny (model X.prog X.w) X.A (call (.builtin id) (v :: us)) (EP X pins σ Q) X.xe s

/-! ### lists of values -/
theorem Vals.one : ∀ {x : V} {us : List Value}, Vals [x] us → ∃ u, us = [u] ∧ RelV x u
  | _, _, .cons r .nil => ⟨_, rfl, r⟩
theorem Vals.two : ∀ {x y : V} {us : List Value}, Vals [x, y] us → ∃ u v, us = [u, v] ∧ RelV x u ∧ RelV y v
  | _, _, _, .cons r (.cons q .nil) => ⟨_, _, rfl, r, q⟩
theorem Vals.zero : ∀ {us : List Value}, Vals [] us → us = []
  | _, .nil => rfl
theorem Vals.dropLast {xs : List V} {us : List Value} (h : Vals xs us) : Vals xs.dropLast us.dropLast := by
  induction h with
  | nil => exact .nil
  | cons r t ih =>
    cases t with
    | nil => exact .nil
    | cons q t' => exact .cons r ih
theorem Vals.reverse {xs : List V} {us : List Value} (h : Vals xs us) : Vals xs.reverse us.reverse := by
  induction h with
  | nil => exact .nil
  | cons r t ih => rw [List.reverse_cons, List.reverse_cons]; exact Vals.append ih (.cons r .nil)
theorem Vals.rep {xs : List V} {us : List Value} (h : Vals xs us) : ∀ k : Nat, Vals (List.replicate k xs).flatten (List.replicate k us).flatten
  | 0 => .nil
  | k + 1 => by
    rw [List.replicate_succ, List.replicate_succ, List.flatten_cons, List.flatten_cons]
    exact Vals.append h (Vals.rep h k)
theorem foldl_rep (its : List Value) : ∀ (k : Nat) (acc : List Value),
    List.foldl (fun x1 x2 => x1 ++ x2) acc.toArray (List.replicate k its.toArray) = (acc ++ (List.replicate k its).flatten).toArray
  | 0, acc => by simp
  | k + 1, acc => by
    have e : acc.toArray ++ its.toArray = (acc ++ its).toArray := by simp
    have e2 : (acc ++ its) ++ (List.replicate k its).flatten = acc ++ (List.replicate (k + 1) its).flatten := by
      rw [List.replicate_succ, List.flatten_cons, List.append_assoc]
    rw [← e2, ← foldl_rep its k (acc ++ its), ← e, List.replicate_succ, List.foldl_cons]

section
variable {X : Cx} {pins : List (Addr × Obj)} {σ : St} {H : Hp} {s : Shared} {l b : Addr} {xs ys zs : List V}

/-! ### the two steps: a tracked list is rewritten, a new list is laid -/
theorem Inv.lset {its its' : List Value} {n : Nat} {f : Array Value → Array Value} {t' : Nat} (I : Inv X pins σ H s) (hH : H l = some (.lst xs))
    (e : s.heap.get? l = some { cls := .type "list", data := .seq its.toArray n }) (hf : f its.toArray = its'.toArray) (hv : Vals ys its') (hz : ys.length ≤ sizeLine) :
    Inv X pins σ (upd H l (.lst ys)) { s with heap := s.heap.update l (Obj.mapSeq f), toks := t' } := by
  have q := PySem.IsL.update e f
  rw [hf] at q
  refine I.write (x := l) (e := l) (by rw [hH]; exact trivial) (.inl rfl) (fun b' u hb hu => (Heap.get?_update_other s.heap (Obj.mapSeq f) (Ne.symm hb)).trans hu) ⟨_, q⟩ ?_
  exact ⟨hz, its', _, hv, q⟩
theorem Inv.lnew {its : List Value} {t' : Nat} (I : Inv X pins σ H s) (hv : Vals ys its) (hz : ys.length ≤ sizeLine) :
    Inv X pins σ (upd H s.heap.objs.size (.lst ys)) { s with heap := s.heap.push { cls := .type "list", data := .seq its.toArray }, toks := t' } :=
  I.laid (fun _ _ q => Heap.get?_push_of_some _ q) (Nat.le_refl _) ⟨hz, its, 0, hv, Heap.get?_push_size _ rfl⟩
theorem Inv.fresh (I : Inv X pins σ H s) : H s.heap.objs.size = none := I.hok.fresh (Nat.le_refl _)
theorem Inv.lstM (I : Inv X pins σ H s) (hH : H l = some (.lst xs)) : xs.length ≤ sizeLine ∧ ∃ (its : List Value) (n : Nat), Vals xs its ∧ xs.length = its.length ∧ s.heap.get? l = some { cls := .type "list", data := .seq its.toArray n } := by
  obtain ⟨z, its, n, r, e⟩ := I.hok l _ hH
  exact ⟨z, its, n, r, r.length, e⟩

end

section
variable {X : Cx}

/-! ### methods -/
def rAppend : V → List V → Hp → VK → Prop := fun x vs H Q => ∃ l xs y, x = .ref l ∧ vs = [y] ∧ H l = some (.lst xs) ∧ xs.length < sizeLine ∧ Q .non (upd H l (.lst (xs ++ [y])))
theorem mt_append : MtM X "list.append" rAppend := by
  intro pins s σ H x vs v us Q I rx rv h
  obtain ⟨l, xs, y, rfl, rfl, hH, hz, q⟩ := h
  cases rx
  obtain ⟨u, rfl, ru⟩ := rv.one
  obtain ⟨z, its, n, r, hl, e⟩ := I.lstM hH
  refine call_meets F.slot_list_append ⟨_, e, rfl⟩ F.entry_list_append (F.args_list_append_2 _ _) (PySem.list_append l its.toArray n u (by rw [List.size_toArray]; omega)) ⟨e, ?_⟩
  refine ⟨.non, _, I.lset (its' := its ++ [u]) hH e (by simp) (r.append (.cons ru .nil)) ?_, rfl, q⟩
  rw [List.length_append, List.length_singleton]
  omega

def rReverse : V → List V → Hp → VK → Prop := fun x vs H Q => ∃ l xs, x = .ref l ∧ vs = [] ∧ H l = some (.lst xs) ∧ Q .non (upd H l (.lst xs.reverse))
theorem mt_reverse : MtM X "list.reverse" rReverse := by
  intro pins s σ H x vs v us Q I rx rv h
  obtain ⟨l, xs, rfl, rfl, hH, q⟩ := h
  cases rx
  have hus := rv.zero
  subst hus
  obtain ⟨z, its, n, r, hl, e⟩ := I.lstM hH
  refine call_meets F.slot_list_reverse ⟨_, e, rfl⟩ F.entry_list_reverse (F.args_list_reverse_1 _) (AutoSeq1.list_reverse_list_0 l its.toArray n (by rw [List.size_toArray]; omega)) ⟨e, ?_⟩
  refine ⟨.non, _, I.lset (its' := its.reverse) hH e (by simp) r.reverse ?_, rfl, q⟩
  rw [List.length_reverse]
  omega

/-! ### list + list, list += list, list * int -/
theorem len_rep {α : Type} (xs : List α) (k : Nat) : (List.replicate k xs).flatten.length = k * xs.length := by
  induction k with
  | zero => simp
  | succ k ih => rw [List.replicate_succ, List.flatten_cons, List.length_append, ih, Nat.succ_mul, Nat.add_comm]
/-! ### del xs[i] -/
end

/-! ### xs[a:b] = ys -/
section
variable {prog : Program} {w : World} {A : Around} {E : Value → Shared → Prop} {s : Shared}
end

section
variable {X : Cx}
end
end L2

namespace Att
open PySem PySem.W PySem.Calls PyProof.Rows

/-! ### the script -/
theorem ints_of_wellAll {P : Params} {h : Heap} : ∀ (ns : List Int) (vs : List Value), WellAll P h vs (ns.map WData.int) → IntsAre vs ns := by
  intro ns
  induction ns with
  | nil =>
    intro vs w
    rw [List.map_nil] at w
    cases w
    exact .nil
  | cons n ns ih =>
    intro vs w
    rw [List.map_cons] at w
    cases w with
    | cons a b =>
      cases a
      exact .cons _ _ (ih _ b)

theorem script_of {l : OpenLaw} {n : Nat} (hn : l.most = some n) {P : Params} {h : Heap} {args : List WData} {vals : List Value}
    (hpre : l.row.toRowW.claim.pre args = true) (hwl : WellAll P h vals args) :
    ∃ a vs ns, vals = [Value.ref a] ∧ args = [WData.list (ns.map WData.int)] ∧ h.get? a = some { cls := .type "list", data := .seq vs.toArray } ∧ IntsAre vs ns ∧ ns.length ≤ n := by
  have hsh : WShape.hasAll [] args [.list .int] = true := (pre_splitW hpre).1
  have hc : l.pre.holds [] { args := args } = true := (pre_splitW hpre).2
  obtain ⟨d, r, rfl, h1, h2⟩ := hasAllW_cons hsh
  obtain rfl := hasAllW_nil h2
  obtain ⟨xs, rfl, h3⟩ := hasW_list h1
  obtain ⟨ns, rfl⟩ := items_int h3
  have hlen : ns.length ≤ n := by
    unfold OpenLaw.pre at hc
    have h4 : (WTm.not (.lt (.lit (.int (n : Int))) (.len (.arg 0)))).holds [] { args := [.list (ns.map .int)] } = true := by
      have h4 := (holds_andW hc).1
      rw [hn] at h4
      exact h4
    have h5 := condW_of h4 (w_not (w_lt w_lit (w_len_list (w_arg rfl))))
    rw [List.length_map] at h5
    refine Nat.le_of_not_lt fun q => ?_
    have q' : (n : Int) < ((ns.length : Nat) : Int) := by omega
    first
      | (rw [decide_eq_true q'] at h5; exact absurd h5 (by decide))
      | (simp at h5; omega)
  cases hwl with
  | cons w1 w2 =>
    cases w2
    cases w1 with
    | list ho hall => exact ⟨_, _, ns, rfl, rfl, ho, ints_of_wellAll ns _ hall, hlen⟩

theorem post_true (l : OpenLaw) (args : List WData) : l.row.toRowW.claim.post args (.bool true) args = true :=
  postW_of (r := l.row.toRowW) (X := (true == true))
    (show WShape.has [] (.bool true) .bool = true by first | rfl | decide | simp [WShape.has, WShape.arms, WShape.armsAll])
    (show (WTm.eq .res (.lit (.bool true))).value [] { args := args, res := some (.bool true), after := args } = some (.bool (true == true)) from w_eq_bool (w_res rfl) w_lit) rfl

/-! ### the attachment: holds_open's last premise (the goal 'hc' behind k_head) from a wpAny of the law's body -/
/-- the same from a codeAny of the CALL (for a layer whose function contracts speak of calls) -/
theorem attach_call {l : OpenLaw} {n : Nat} {q : Program} {loose : List Str} {XP : (Str → Option Value) → Heap → Prop} {YP : World → Heap → Prop} {d : DefRec}
    (hn : l.most = some n) (hdf : d.params.defaults = [])
    (call : ∀ (w : World) (s₀ s₁ : Shared) (mg mb : Str → Option Value) (fa : Addr) (o : Obj) (pm cd doc : Value) (a : Addr) (vs : List Value) (ns : List Int),
      Ground q loose [] XP w s₀ mg mb s₁.heap → YP w s₁.heap →
      s₁.heap.get? fa = some o → o.data = .func (docDef d.name d.params d.body d.scope pm cd doc) → s₁.heap.CodeRec cd d.name → mg d.name = some (.ref fa) →
      s₁.heap.get? a = some { cls := .type "list", data := .seq vs.toArray } → IntsAre vs ns → ns.length ≤ n → s₁.gens = #[] →
      codeAny (model l.prog w) callerA (.call (.ref fa) ⟨[.ref a], []⟩) (fun r s' => r = .ok (.ret (.bool true)) ∧ OldK s₁.heap s'.heap ∧ s'.os = s₁.os ∧ AllBare s'.gens) s₁) :
    WalkO q loose XP YP l.row.toRowW d [] (fun f vs => PySem.call f vs) := by
  intro w s₀ s₁ mg mb G Y fa o pm cd doc dV kV ho hd hcd hD hmg hg args vals as hpre hlay hrd hwl hlo
  obtain rfl : dV = .none := Dflts.none hD hdf
  obtain rfl : kV = .none := Dflts.noKw hD
  obtain ⟨a, vs, ns, rfl, rfl, hobj, hints, hlen⟩ := script_of hn hpre hwl
  refine enter_call (codeAny_mono (call w s₀ s₁ mg mb fa o pm cd doc a vs ns G Y ho (fd_plain hd) hcd hmg hobj hints hlen hg) fun r s' hq => ?_)
  obtain ⟨rfl, h2, h3, h4⟩ := hq
  exact ⟨.inl ⟨.bool true, .bool true, [], rfl, fun _ => rfl, .bool true, post_true l _, fun _ => ⟨List.Pairwise.nil, fun _ hm => (nomatch hm)⟩⟩, h2, h3, h4⟩

/-! ### rules over ANY heap (no ledger) from facts about the written part K: the library's own take a ledger (News) for what they write -/
section
variable {prog : Program} {w : World} {A : Around} {E : Value → Shared → Prop} {s : Shared} {K : Frag}

/-! the whole heap as the ledger: makes every rule that writes through a ledger a rule over any heap -/
def ledger (h : Heap) (L d : Addr) : List (Addr × Obj) := (List.range h.objs.size).filterMap fun a => if a = L ∨ a = d then none else (h.get? a).map fun o => (a, o)
end
end Att

namespace L2
open PySem PySem.Spec PyProof.Rows

theorem vals_ints : ∀ {vs : List Value} {ns : List Int}, IntsAre vs ns → Vals (ns.map V.int) vs
  | _, _, .nil => .nil
  | _, _, .cons n t h => .cons ⟨t, rfl⟩ (vals_ints h)

/-- nothing is tracked but the script, known to the object (or it is an object of the module) -/
def Only (H : Hp) : Prop := ∀ b, H b = none ∨ ∃ o xs, H b = some (.frz o (.lst xs))

/-- THE HEAD: the law's promise, at the heap behind the top. F, the promise of the law's def, may use that base is part of the heap (so K.In base, base.Ns mainGlobals mg stand in Mod) -/
theorem law_call {P : Program} {w : World} {K : PySem.W.Frag} {mg mb : Str → Option Value} {CX : CXT} {k : Nat} {fa a : Addr} {fd : FuncData} {x : Str} {sp : Sp} {s₁ : Shared} {vs : List Value} {ns : List Int}
    (KX : K.In s₁.heap) (hns : s₁.heap.Ns mainGlobals mg) (hb : s₁.heap.Ns builtinsNs mb) (hbb : ∀ x : Str, x ≠ "__name__" → mb x = bootBuiltins x) (hlim : s₁.heap.NoLimit) (hg : s₁.gens = #[])
    (ha : s₁.heap.get? a = some { cls := .type "list", data := .seq vs.toArray }) (hi : IntsAre vs ns) (hl : ns.length ≤ sizeLine) (hr : Room k callerA)
    (F : ∀ base : Heap, K.In base → base.Ns mainGlobals mg → FnOk P w K mg base CX k fa fd [x] sp) (hbind : ∀ (s : Shared) (u : Value), BindsTo s fd ⟨[u], []⟩ [(x, u)])
    (hsp : ∀ H : Hp, Only H → SqL K H a (ns.map V.int) → sp [.ref a] H (fun v _ => v = .bl true) fun _ _ _ => False)
    (hCX : ∀ H e s', CX [] H s₁ (fun _ _ _ => False) e s' → False) :
    codeAny (model P w) callerA (.call (.ref fa) ⟨[.ref a], []⟩) (fun r s' => r = .ok (.ret (.bool true)) ∧ OldK s₁.heap s'.heap ∧ s'.os = s₁.os ∧ AllBare s'.gens) s₁ := by
  have rv := vals_ints hi
  have lenV := hi.length
  -- from an abstract heap in which nothing but the script may be tracked
  have core : ∀ H : Hp, Only H → SqL K H a (ns.map V.int) → HOk P w H s₁.heap → (∀ b, H b ≠ none → b = a) → (H a ≠ none → K.lookup a = none) →
      codeAny (model P w) callerA (.call (.ref fa) ⟨[.ref a], []⟩) (fun r s' => r = .ok (.ret (.bool true)) ∧ OldK s₁.heap s'.heap ∧ s'.os = s₁.os ∧ AllBare s'.gens) s₁ := by
    intro H hO hS hok hA hK
    have base_of : ∀ {b : Addr} {o : Obj}, s₁.heap.get? b = some o → H b = none → (hidT s₁.heap H).get? b = some o := fun e n => hidT_get e n
    have noA : ∀ {b : Addr} {o : Obj} {es : Array DictEntry} {ep : Nat}, s₁.heap.get? b = some o → o.data = .dict es ep → H b = none := fun {b o es ep} e d => by
      cases q : H b with
      | none => rfl
      | some u =>
        have e' : b = a := hA b (by rw [q]; simp)
        subst e'
        rw [ha] at e; cases e
        have d' : Data.seq vs.toArray _ = Data.dict es ep := d
        cases d'
    have nsK : ∀ {b : Addr} {m : Str → Option Value}, s₁.heap.Ns b m → (hidT s₁.heap H).Ns b m := fun {b m} ⟨o, es, ep, e, d, r⟩ => ⟨o, es, ep, base_of e (noA e d), d, r⟩
    have hKb : K.In (hidT s₁.heap H) := fun b o e => base_of (KX b o e) (by
      cases q : H b with
      | none => rfl
      | some u =>
        have e' : b = a := hA b (by rw [q]; simp)
        subst e'
        rw [hK (by rw [q]; simp)] at e; cases e)
    have hM : Mod K mg (hidT s₁.heap H) := ⟨hKb, nsK hns, ⟨mb, nsK hb, hbb⟩, let ⟨mc, h1, h2⟩ := hlim; ⟨mc, nsK h1, h2⟩⟩
    have e0 : Env0 P w K mg (hidT s₁.heap H) callerA [] s₁ H := ⟨rfl, hM, fun b o e => of_hidT e, Nat.le_of_eq (hidT_size _ _), trivial, fun b hb => absurd (show b ∈ ([] : List Addr) from hb) (by simp), hok, .of_eq hg⟩
    refine codeAny_mono ((F _ hKb (nsK hns)).run callerA [] s₁ H ⟨[.ref a], []⟩ [.ref a] [.ref a] _ _ hr e0 (hbind s₁ (.ref a)) (.cons rfl .nil) (hsp H hO hS)) fun r s' h => ?_
    cases r with
    | error e => exact (hCX H e s' h).elim
    | ok fl =>
      cases fl with
      | next => exact False.elim h
      | brk => exact False.elim h
      | cont => exact False.elim h
      | ret u =>
        obtain ⟨v, H', os, bare, un, hok', r', q⟩ := h
        have q' : v = .bl true := q
        subst q'
        obtain rfl : u = Value.bool true := r'
        refine ⟨rfl, OldK.of_keep fun b o e => ?_, os, bare⟩
        cases q : H b with
        | none => exact un.keep b o e q (by intro z; exact absurd (show b ∈ ([] : List Addr) from z) (by simp)) (by simp)
        | some u =>
          rcases hO b with z | ⟨ob, xs, z⟩
          · rw [q] at z; cases z
          · have z2 := un.frzs b ob _ z
            obtain ⟨e1, _⟩ := hok b _ z
            obtain ⟨e2, _⟩ := hok' b _ z2
            rw [e] at e1; cases e1
            exact e2
  cases hk : K.lookup a with
  | some o =>
    -- the script is one of the module's own objects
    have e := KX a o hk
    rw [ha] at e
    cases e
    refine core (fun _ => none) (fun _ => .inl rfl) (.inr ⟨_, vs.toArray, _, hk, rfl, rfl, rfl, by rw [List.size_toArray, lenV]; exact hl, by simpa using rv⟩) (fun b u z => by have z' : (none : Option HO) = some u := z; cases z') (fun b z => absurd rfl z) fun z => absurd rfl z
  | none =>
    refine core (fun b => if b = a then some (.frz { cls := .type "list", data := .seq vs.toArray } (.lst (ns.map V.int))) else none) (fun b => ?_) (.inl (.inr ⟨{ cls := .type "list", data := .seq vs.toArray }, if_pos rfl⟩)) (fun b u z => ?_) (fun b z => ?_) fun _ => hk
    · by_cases hb : b = a
      · exact .inr ⟨_, _, if_pos hb⟩
      · exact .inl (if_neg hb)
    · by_cases hb : b = a
      · have z' := (if_pos hb).symm.trans z
        cases z'
        subst hb
        exact ⟨ha, by rw [List.length_map]; exact hl, vs, _, rv, ha⟩
      · have z' := (if_neg hb).symm.trans z
        cases z'
    · by_cases hb : b = a
      · exact hb
      · exact absurd (if_neg hb) z
end L2

namespace L2
open PySem PySem.Spec PyProof.Rows

/-- the goal that k_head leaves (case hc), from the law's promise. F gives the function object fd (K's own) once, then the promise over every base -/
theorem walk_of {l : PySem.W.OpenLaw} {n k : Nat} {q : Program} {loose : List Str} {XP : (Str → Option Value) → Heap → Prop} {YP : World → Heap → Prop} {d : DefRec} {K : Params → PySem.W.Frag} {CX : World → CXT} {sp : World → Sp} {x : Str}
    (hn : l.most = some n) (hn2 : n ≤ sizeLine) (hdf : d.params.defaults = []) (hr : Room k callerA)
    (hY : ∀ (w : World) (h : Heap), YP w h → (K w.params).In h)
    (F : ∀ (w : World) (mg : Str → Option Value) (fa : Addr) (h : Heap), (K w.params).In h → h.Ns mainGlobals mg → mg d.name = some (.ref fa) →
      ∃ fd : FuncData, (∀ (s : Shared) (u : Value), BindsTo s fd ⟨[u], []⟩ [(x, u)]) ∧
        ∀ base : Heap, (K w.params).In base → base.Ns mainGlobals mg → FnOk l.prog w (K w.params) mg base (CX w) k fa fd [x] (sp w))
    (hsp : ∀ (w : World) (H : Hp) (a : Addr) (ns : List Int), ns.length ≤ n → Only H → SqL (K w.params) H a (ns.map V.int) → sp w [.ref a] H (fun v _ => v = .bl true) fun _ _ _ => False)
    (hCX : ∀ (w : World) (H : Hp) (s : Shared) (e : Value) (s' : Shared), CX w [] H s (fun _ _ _ => False) e s' → False) :
    PySem.W.WalkO q loose XP YP l.row.toRowW d [] (fun f vs => PySem.call f vs) := by
  refine Att.attach_call hn hdf fun w s₀ s₁ mg mb fa o pm cd doc a vs ns G Y ho hd hcd hmg hobj hints hlen hg => ?_
  have KX := hY w _ Y
  obtain ⟨fd, hb, hF⟩ := F w mg fa _ KX G.T.g hmg
  exact law_call KX G.T.g G.T.b G.T.builtins G.T.nolimit hg hobj hints (Nat.le_trans hlen hn2) hr hF hb (fun H hO hS => hsp w H a ns hlen hO hS) fun H e s' => hCX w H s₁ e s'
end L2


/-! SHORT WORDS over the layer: a def of the text, its body, what a loop and a test want. -/
namespace L2
open PySem PySem.Spec PyProof.Rows

/-! ### the text by places -/
def defArgs (s : Stmt) : Arguments := match s with
  | .FunctionDef _ a _ _ _ _ _ _ _ _ => a
  | _ => { posonlyargs := [], args := [], vararg := none, kwonlyargs := [], kw_defaults := [], kwarg := none, defaults := [] }
def defBody (s : Stmt) : List Stmt := match s with
  | .FunctionDef _ _ b _ _ _ _ _ _ _ => b
  | _ => []
def defScope (s : Stmt) : Scope := match s with
  | .FunctionDef _ _ _ _ _ _ sc _ _ _ => sc
  | _ => { kind := .function, names := [], isGenerator := false, isCoroutine := false }

/-! ### no exception leaves a def -/
abbrev CX0 : CXT := fun _ _ _ _ _ _ => False
abbrev E0 : XK := fun _ _ _ => False
theorem pass0 {X : Cx} : Passes CX0 X E0 := fun _ _ _ _ _ _ _ h => h.elim

/-! ### a def (or method) of the text as it stands behind the top -/
structure Fun (K : PySem.W.Frag) (x qual : Str) (st : Stmt) (f : Addr) (fd : FuncData) : Prop where
  ex : ∃ (oc : Value) (od : Option Addr) (kV doc pm : Value) (an : Option Addr) (cdv ct : Value) (osl : Array (Option Value)),
    fd = PySem.W.fnOf x qual (defArgs st) (defBody st) (defScope st) .none kV doc pm an cdv ct ∧ K.lookup f = some ⟨oc, od, .func fd, osl⟩ ∧ PySem.W.codeIn K cdv qual = true
  kp : PySem.W.keepIn K (.ref f) = true
section
variable {P : Program} {w : World} {K : PySem.W.Frag} {mg : Str → Option Value} {base : Heap}
/-- THE RULE for a def: its body as a term of rules, and the reading of that term -/
theorem Fun.ok {x qual : Str} {st : Stmt} {f : Addr} {fd : FuncData} {N ps : List Str} {k : Nat} {sp : Sp} (F : Fun K x qual st f fd) (S : FnScope N ps (defScope st)) (len : ∀ vs H Q E, sp vs H Q E → vs.length = ps.length)
    (hbody : ∀ (cdv : Value) (A : Around) (outer : List Env) (s : Shared) (H : Hp) (vs : List V) (Q : VK) (E : XK), Room k (A.deeper (envOfC qual (defScope st) s.heap.objs.size f cdv)) → sp vs H Q E →
      ∃ t, PSs (cxOf CX0 P w K mg base N qual (defScope st) f cdv A outer s H E).nox (defBody st) t ∧ t { nx := fun _ H' => Q .non H', rt := Q } (start N vs) H) : FnOk P w K mg base CX0 (k + 1) f fd ps sp := by
  obtain ⟨oc, od, kV, doc, pm, an, cdv, ct, osl, rfl, lk, hcd⟩ := F.ex
  refine fn_of lk hcd S len fun A outer s H vs Q E hr hsp => ?_
  obtain ⟨t, h, q⟩ := hbody cdv A outer s H vs Q E hr hsp
  exact ⟨t, h.nox, q⟩
/-- how its arguments bind (no defaults): h is «fun _ _ _ _ _ _ us hl => match us, hl with | [_, _], _ => rfl», one _ a parameter -/
theorem Fun.binds {x qual : Str} {st : Stmt} {f : Addr} {fd : FuncData} {ps : List Str} (F : Fun K x qual st f fd)
    (h : ∀ (kV doc pm : Value) (an : Option Addr) (cdv ct : Value) (us : List Value), us.length = ps.length → bindArgs (PySem.W.fnOf x qual (defArgs st) (defBody st) (defScope st) .none kV doc pm an cdv ct) ⟨us, []⟩ = pure (ps.zip us)) : Binds K fd ps [] := by
  obtain ⟨oc, od, kV, doc, pm, an, cdv, ct, osl, rfl, lk, hcd⟩ := F.ex
  exact .all (h kV doc pm an cdv ct)
theorem fun_mk {x qual : Str} {st : Stmt} {f : Addr} {oc : Value} {od an : Option Addr} {osl : Array (Option Value)} {kV doc pm cdv ct : Value} (l : K.lookup f = some ⟨oc, od, .func (PySem.W.fnOf x qual (defArgs st) (defBody st) (defScope st) .none kV doc pm an cdv ct), osl⟩)
    (c : PySem.W.codeIn K cdv qual = true) (k : PySem.W.keepIn K (.ref f) = true) : Fun K x qual st f (PySem.W.fnOf x qual (defArgs st) (defBody st) (defScope st) .none kV doc pm an cdv ct) := ⟨⟨oc, od, kV, doc, pm, an, cdv, ct, osl, rfl, l, c⟩, k⟩
end
theorem hu_of {A : Around} {k : Nat} (hr : Room k A) : A.units + 1 < cLine := Nat.lt_of_le_of_lt (Nat.add_le_add_left (by decide : 1 ≤ 64) _) hr.units
theorem small1000 {n : Nat} (h : n ≤ 1000) : n < sizeLine := Nat.lt_of_le_of_lt h (by decide)

/-! ### expressions in short: the name that stands in the i-th slot -/
section
variable {X : Cx}
end

/-! ### tests -/
theorem iteF {A B : Prop} (h : B) : if false = true then A else B := by
  rw [if_neg Bool.false_ne_true]
  exact h
theorem iteT {A B : Prop} (h : A) : if true = true then A else B := by
  rw [if_pos rfl]
  exact h
theorem ite2 {c A B : Prop} [Decidable c] (h1 : c → A) (h2 : ¬ c → B) : if c then A else B := by
  by_cases h : c
  · rw [if_pos h]
    exact h1 h
  · rw [if_neg h]
    exact h2 h
/-! ### heaps -/
/-- all that was tracked is as it was -/
def Same (H H' : Hp) : Prop := ∀ b o, H b = some o → H' b = some o
theorem Same.refl (H : Hp) : Same H H := fun _ _ h => h
theorem Same.trans {H H1 H2 : Hp} (a : Same H H1) (b : Same H1 H2) : Same H H2 := fun c o h => b c o (a c o h)
theorem Same.free {H H' : Hp} (e : Same H H') {l : Addr} (h : H' l = Option.none) : H l = Option.none := by
  cases q : H l with
  | none => rfl
  | some o =>
    rw [e l o q] at h
    cases h
theorem Same.seq {K : PySem.W.Frag} {H H' : Hp} {a : Addr} {xs : List V} (e : Same H H') (h : SqL K H a xs) : SqL K H' a xs := by
  rcases h with (h | ⟨o, h⟩) | h
  · exact .inl (.inl (e _ _ h))
  · exact .inl (.inr ⟨o, e _ _ h⟩)
  · exact .inr h

/-! ### a dict's pairs: keys that differ -/
section
variable {κ : Type} [DecidableEq κ]
end
end L2


set_option Elab.async false
set_option linter.all false
set_option maxRecDepth 100000
namespace L2
open PySem PySem.Spec PyProof.Rows
section
variable {X : Cx}
/-- isinstance(x, T) of one built-in type -/
theorem call_isinst : CallR X (.builtin "isinstance") (fun xs H Q => ∃ x T t b, xs = [x, .ty T] ∧ TyOf X.K H x t ∧ PySem.W.kitOne X.K t (.type T) = some b ∧ Q (.bl b) H) := by
  intro pins s σ H xs us Q I r h
  obtain ⟨x, T, t, b, rfl, ty, e, q⟩ := h
  obtain ⟨u, c, rfl, ru, rc⟩ := vals2 r
  cases rc
  exact isinst_ok I ru ty e fun tk => ⟨.bl b, H, I.tok tk, rfl, q⟩
theorem op_isnot_bl : OpR X (compareOp .IsNot) (fun x y H Q => ∃ a b, x = .bl a ∧ y = .bl b ∧ Q (.bl (a != b)) H) := by
  intro pins s σ H x y v u Q I rx ry h
  obtain ⟨a, b, rfl, rfl, q⟩ := h
  cases rx
  cases ry
  exact isnot_bool ⟨.bl _, H, I, rfl, q⟩
/-- t + u of any two tuples: some tuple of both -/
def rCatA (K : PySem.W.Frag) : R2 := fun x y H Q => ∃ a b xs ys, x = .ref a ∧ y = .ref b ∧ H a = some (.tup xs) ∧ H b = some (.tup ys) ∧ xs.length + ys.length ≤ sizeLine ∧
  ∀ p H', H' p = some (.tup (xs ++ ys)) → Same H H' → Q (.ref p) H'
theorem op_catA : OpR X (binaryOp .Add) (rCatA X.K) := by
  intro pins s σ H x y v u Q I rx ry h
  obtain ⟨a, b, xs, ys, rfl, rfl, ha, hb, hz, q⟩ := h
  by_cases hx : xs = []
  · subst hx
    cases rx
    cases ry
    obtain ⟨its, r1, p1, _⟩ := I.tuple (.of ha)
    obtain ⟨its2, r2, p2, _⟩ := I.tuple (.of hb)
    obtain ⟨⟨cls, dd, data, sl⟩, ho, hc, n, hd⟩ := id p1
    obtain ⟨⟨cls2, dd2, data2, sl2⟩, ho2, hc2, n2, hd2⟩ := id p2
    simp only at hc hd hc2 hd2
    subst hc hd hc2 hd2
    have hi : its = [] := r1.nil_iff.mpr rfl
    exact concat_meets ⟨_, ho, rfl⟩ ⟨_, ho2, rfl⟩ noFill_tuple_add seq_tuple_add PySem.F.slot_tuple_add PySem.F.entry_tuple_add (PySem.F.args_tuple_add_2 _ _)
      (tuple_addW0 a b its.toArray its2.toArray n n2 dd dd2 sl sl2 (by simp [hi])) ⟨ho, ho2, ⟨.ref b, H, I, rfl, q b H hb fun _ _ e => e⟩⟩
  · refine op_catT pins s σ H _ _ v u Q I rx ry ⟨a, b, xs, ys, rfl, rfl, .of ha, .of hb, hx, hz, fun e => ?_, fun e p hp => ?_⟩
    · subst e
      exact q a H (by rw [List.append_nil]; exact ha) fun _ _ e => e
    · exact q p _ upd_same fun c o e => by rw [upd_ne (ne_of_none e hp)]; exact e
end
theorem tuple_mulW1 (l : Addr) (items : Array Value) (n : Nat) (dd : Option Addr) (sl : Array (Option Value)) (u : Tok) :
    Meets (Builtin.«tuple.__mul__» ⟨[.ref l, .int 1 u], []⟩) (fun _ R s => s.heap.get? l = some { cls := .type "tuple", dict := dd, data := .seq items n, slots := sl } ∧ R (.ok (.ret (Value.ref l))) s) :=
  .of_wp fun prog w A R s h => by
    obtain ⟨hp, g, d, tk, os⟩ := s; obtain ⟨hl, h⟩ := h
    have f1 := AutoSeq1.idx_int
    wp_walk using AutoSeq1.wpAny_loadPart' hl
    exact ⟨_, rfl, h⟩
theorem tuple_mulW (l : Addr) (items : Array Value) (n : Nat) (dd : Option Addr) (sl : Array (Option Value)) (x : Int) (u : Tok) (hx : 2 ≤ x) (hc0 : x < 2 ^ 63) (hc1 : ¬ items.isEmpty = true) (hsz : items.size * x.toNat ≤ sizeLine) :
    Meets (Builtin.«tuple.__mul__» ⟨[.ref l, .int x u], []⟩) (fun _ R s => s.heap.get? l = some { cls := .type "tuple", dict := dd, data := .seq items n, slots := sl } ∧ R (.ok (.ret (Value.ref s.heap.objs.size))) { s with heap := s.heap.push { cls := Value.type "tuple", data := Data.seq (List.foldl (fun x1 x2 => x1 ++ x2) #[] (List.replicate x.toNat items)) }, toks := s.toks }) :=
  .of_wp fun prog w A R s h => by
    obtain ⟨hp, g, d, tk, os⟩ := s; obtain ⟨hl, h⟩ := h
    have f1 := AutoSeq1.idx_int
    wp_walk
    have e1 : ¬ ((decide (x < -2 ^ 63) || decide (x ≥ 2 ^ 63)) = true) := by simp; omega
    have e2 : ¬ ((items.isEmpty || x == 1) = true) := by
      intro z
      rcases Bool.or_eq_true_iff.mp z with z | z
      · exact hc1 z
      · have := eq_of_beq z
        omega
    have e3 : ¬ ((decide (x ≤ 0) || items.isEmpty) = true) := by
      intro z
      rcases Bool.or_eq_true_iff.mp z with z | z
      · have := of_decide_eq_true z
        omega
      · exact hc1 z
    have xe : x = (x.toNat : Int) := by omega
    have pe : (items.size : Int) * x = ((items.size * x.toNat : Nat) : Int) := by rw [Int.natCast_mul, ← xe]
    have lz : (sizeLine : Nat) ≤ (2 ^ 63 - 1) / 8 := by decide
    have e4 : ¬ ((items.size : Int) * x > (2 ^ 63 - 1) / 8) := by rw [pe]; omega
    have e5 : ¬ (Builtin.Tuple.tupleTooMany ((items.size : Int) * x) = true) := by
      rw [pe]
      unfold Builtin.Tuple.tupleTooMany
      intro z
      have := of_decide_eq_true z
      omega
    have e6 : sizeOk (.seq (List.foldl (fun x1 x2 => x1 ++ x2) #[] (List.replicate x.toNat items))) := by
      have := foldl_rep items.toList x.toNat []
      show (List.foldl (fun x1 x2 => x1 ++ x2) #[] (List.replicate x.toNat items)).size ≤ sizeLine
      have h2 : List.foldl (fun x1 x2 => x1 ++ x2) #[] (List.replicate x.toNat items) = (List.replicate x.toNat items.toList).flatten.toArray := by simpa using this
      rw [h2, List.size_toArray, len_rep, Array.length_toList, Nat.mul_comm]
      exact hsz
    generalize hB : ((2 : Int) ^ 63 - 1) / 8 = B at e4
    rw [if_neg e1]
    refine wpAny_bind (tupleItemsOf_ ⟨_, hl, rfl, n, rfl⟩ ?_)
    rw [if_neg e2]
    show wpAny _ _ (if (decide (x ≤ 0) || items.isEmpty) = true then _ else _) _ _ _
    rw [if_neg e3]
    show wpAny _ _ (if (items.size : Int) * x > B then _ else _) _ _ _
    rw [if_neg e4]
    show wpAny _ _ (if Builtin.Tuple.tupleTooMany ((items.size : Int) * x) = true then _ else _) _ _ _
    rw [if_neg e5]
    show wpAny _ _ (Builtin.Tuple.tupleExact _ >>= _) _ _ _
    refine wpAny_bind (m := Builtin.Tuple.tupleExact _) (wpAny_newObj_type ?_ e6)
    exact wpAny_pure ⟨_, rfl, h⟩
/-- t * k of a tuple, k from 1 on, t not empty -/
def rRepT : R2 := fun x y H Q => ∃ l k xs, x = .ref l ∧ y = .int k ∧ H l = some (.tup xs) ∧ 1 ≤ k ∧ k < 2 ^ 63 ∧ xs ≠ [] ∧ xs.length * k.toNat ≤ sizeLine ∧
  ∀ p H', H' p = some (.tup (List.replicate k.toNat xs).flatten) → Same H H' → Q (.ref p) H'
theorem noFill_tuple_mul : fillsNumberSlot (.type "tuple") "mul" = pure false :=
  PySem.fillsNumberSlot_seq (id := "tuple.__mul__") (r := some (.builtin "tuple.__rmul__")) F.slot_tuple_mul.lookup (by decide +kernel) F.slot_tuple_rmul.lookup (by decide +kernel)
theorem repeat_tuple : seqRepeat? (.type "tuple") = pure (some (.builtin "tuple.__mul__")) := by
  unfold seqRepeat?
  rw [PySem.seqSlot_of (T := "tuple") (name := "__mul__") (id := "tuple.__mul__") F.slot_tuple_mul.lookup (by decide +kernel), PySem.seqSlot_of (T := "tuple") (name := "__rmul__") (id := "tuple.__rmul__") F.slot_tuple_rmul.lookup (by decide +kernel)]
  rfl
theorem int_rmul_tuple (a : Int) (t : Tok) (l : Addr) (items : Array Value) (n : Nat) (dd : Option Addr) (sl : Array (Option Value)) :
    Meets (Builtin.«int.__rmul__» ⟨[.int a t, .ref l], []⟩) (fun _ R s => s.heap.get? l = some { cls := .type "tuple", dict := dd, data := .seq items n, slots := sl } ∧ R (.ok (.ret Value.notImplemented)) s) :=
  .of_wp fun prog w A R s h => by obtain ⟨hp, g, d, tk, os⟩ := s; obtain ⟨hl, h⟩ := h; wp_walk; exact ⟨_, rfl, h⟩
section
variable {X : Cx}
theorem op_repT : OpR X (binaryOp .Mult) rRepT := by
  intro pins s σ H x y v u Q I rx ry h
  obtain ⟨l, k, xs, rfl, rfl, hH, h1, h2, hx, hz, q⟩ := h
  cases rx
  obtain ⟨t, rfl⟩ := ry
  obtain ⟨its, r, pt, zz⟩ := I.tuple (.of hH)
  have hlen := r.length
  obtain ⟨⟨cls, dd, data, sl⟩, e, hc, n, hd⟩ := id pt
  simp only at hc hd
  subst hc hd
  refine wpAny_binaryOp_repeat_ref (T := "tuple") (U := "int") (by decide) ⟨_, e, rfl⟩ (fun s' => typeIs_int s' k t) noFill_tuple_mul F.fills_int_mul F.slot_int_rmul repeat_tuple F.slot_int_index.lookup
    (call_meets F.slot_int_rmul (typeIs_int s k t) F.entry_int_rmul (F.args_int_rmul_2 _ _) (int_rmul_tuple k t l its.toArray n dd sl) ⟨e, rfl, ⟨_, e, rfl⟩, ?_⟩)
  by_cases hk : k = 1
  · subst hk
    exact call_meets F.slot_tuple_mul ⟨_, e, rfl⟩ F.entry_tuple_mul (F.args_tuple_mul_2 _ _) (tuple_mulW1 l its.toArray n dd sl t) ⟨e, ⟨.ref l, H, I, rfl, q l H (by simpa using hH) fun _ _ e => e⟩⟩
  · have hfold : List.foldl (fun x1 x2 => x1 ++ x2) #[] (List.replicate k.toNat its.toArray) = (List.replicate k.toNat its).flatten.toArray := by
      have := foldl_rep its k.toNat []
      simpa using this
    refine call_meets F.slot_tuple_mul ⟨_, e, rfl⟩ F.entry_tuple_mul (F.args_tuple_mul_2 _ _) (tuple_mulW l its.toArray n dd sl k t (by omega) h2 (fun z => hx (r.nil_iff.mp (by simpa using z))) (by rw [List.size_toArray, ← hlen]; exact hz)) ⟨e, ?_⟩
    rw [hfold]
    refine ⟨.ref s.heap.objs.size, _, I.laid (t' := s.toks) (o := .tup (List.replicate k.toNat xs).flatten) (fun b ob q => Heap.get?_push_of_some _ q) (Nat.le_refl _) ?_, rfl, q _ _ upd_same fun c o e => by rw [upd_ne (ne_of_none e (I.hok.fresh (Nat.le_refl _)))]; exact e⟩
    exact ⟨by rw [len_rep, Nat.mul_comm]; exact hz, _, r.rep k.toNat, IsTupD.new _ _⟩
end
end L2


set_option Elab.async false
set_option linter.all false
set_option maxRecDepth 100000
namespace HT
open PySem PySem.Spec PyProof.Rows
section
variable {prog : Program} {w : World} {A : Around} {E : Value → Shared → Prop} {s : Shared}
end
end HT
namespace L2
open PySem PySem.Spec PyProof.Rows
section
variable {X : Cx}
/-! ### deep data -/
/-- what a value is, whatever lies where -/
inductive Dt where
  | non | bl (b : Bool) | int (i : Int) | str (x : Str) | tup (l : List Dt) | lst (l : List Dt) | dct
mutual
def Is (H : Hp) : Dt → V → Prop
  | .non, v => v = .non
  | .bl b, v => v = .bl b
  | .int i, v => v = .int i
  | .str x, v => v = .str x
  | .tup l, v => ∃ a xs, v = .ref a ∧ H a = some (.tup xs) ∧ IsL H l xs
  | .lst l, v => ∃ a xs, v = .ref a ∧ H a = some (.lst xs) ∧ IsL H l xs
  | .dct, v => ∃ a kvs, v = .ref a ∧ H a = some (.dK kvs) ∧ valV kvs (Sum.inr "at" : Key) = none
def IsL (H : Hp) : List Dt → List V → Prop
  | [], xs => xs = []
  | d :: ds, xs => ∃ x r, xs = x :: r ∧ Is H d x ∧ IsL H ds r
end
/-- data stays: tuples, lists and dicts but pens are as they were -/
def Stay (H H' : Hp) : Prop := ∀ b o, H b = some o → (∀ kvs, o = .dK kvs → valV kvs (Sum.inr "at" : Key) = none) → H' b = some o
theorem Stay.refl (H : Hp) : Stay H H := fun _ _ e _ => e
theorem Stay.trans {H H1 H2 : Hp} (a : Stay H H1) (b : Stay H1 H2) : Stay H H2 := fun c o e n => b c o (a c o e n) n
theorem Stay.same {H H1 : Hp} (a : Same H H1) : Stay H H1 := fun c o e _ => a c o e
theorem Stay.upd {H : Hp} {p : Addr} {o : HO} (h : H p = none) : Stay H (upd H p o) := fun c u e _ => by rw [upd_ne (ne_of_none e h)]; exact e
theorem Same.upd {H : Hp} {p : Addr} {o : HO} (h : H p = none) : Same H (upd H p o) := fun c u e => by rw [upd_ne (ne_of_none e h)]; exact e
theorem Stay.tup {H H1 : Hp} (a : Stay H H1) {p : Addr} {xs : List V} (h : H p = some (.tup xs)) : H1 p = some (.tup xs) := a _ _ h fun _ e => by cases e
theorem Stay.lst {H H1 : Hp} (a : Stay H H1) {p : Addr} {xs : List V} (h : H p = some (.lst xs)) : H1 p = some (.lst xs) := a _ _ h fun _ e => by cases e
mutual
theorem Is.stay {H H1 : Hp} (a : Stay H H1) : ∀ {d : Dt} {v : V}, Is H d v → Is H1 d v
  | .non, _, h => h
  | .bl _, _, h => h
  | .int _, _, h => h
  | .str _, _, h => h
  | .tup l, v, h => by
    obtain ⟨p, xs, e, hp, hl⟩ := h
    exact ⟨p, xs, e, a.tup hp, IsL.stay a hl⟩
  | .lst l, v, h => by
    obtain ⟨p, xs, e, hp, hl⟩ := h
    exact ⟨p, xs, e, a.lst hp, IsL.stay a hl⟩
  | .dct, v, h => by
    obtain ⟨p, kvs, e, hp, hl⟩ := h
    exact ⟨p, kvs, e, a _ _ hp fun kvs' e => by cases e; exact hl, hl⟩
theorem IsL.stay {H H1 : Hp} (a : Stay H H1) : ∀ {ds : List Dt} {xs : List V}, IsL H ds xs → IsL H1 ds xs
  | [], _, h => h
  | d :: ds, xs, h => by
    obtain ⟨x, r, e, h1, h2⟩ := h
    exact ⟨x, r, e, Is.stay a h1, IsL.stay a h2⟩
end
theorem IsL.length {H : Hp} : ∀ {ds : List Dt} {xs : List V}, IsL H ds xs → xs.length = ds.length
  | [], _, h => by cases h; rfl
  | d :: ds, xs, h => by
    obtain ⟨x, r, rfl, _, h2⟩ := h
    rw [List.length_cons, List.length_cons, IsL.length h2]
theorem IsL.get {H : Hp} : ∀ {ds : List Dt} {xs : List V} {i : Nat} {x : V}, IsL H ds xs → xs[i]? = some x → ∃ d, ds[i]? = some d ∧ Is H d x
  | [], _, _, _, h, e => by cases h; simp at e
  | d :: ds, xs, i, x, h, e => by
    obtain ⟨y, r, rfl, h1, h2⟩ := h
    cases i with
    | zero => simp at e; subst e; exact ⟨d, rfl, h1⟩
    | succ i =>
      obtain ⟨d', q1, q2⟩ := IsL.get (i := i) (x := x) h2 (by simpa using e)
      exact ⟨d', by simpa using q1, q2⟩
theorem IsL.getD {H : Hp} : ∀ {ds : List Dt} {xs : List V} {i : Nat} {d : Dt}, IsL H ds xs → ds[i]? = some d → ∃ x, xs[i]? = some x ∧ Is H d x
  | [], _, _, _, _, e => by simp at e
  | d :: ds, xs, i, x, h, e => by
    obtain ⟨y, r, rfl, h1, h2⟩ := h
    cases i with
    | zero => simp at e; subst e; exact ⟨y, rfl, h1⟩
    | succ i =>
      obtain ⟨d', q1, q2⟩ := IsL.getD (i := i) (d := x) h2 (by simpa using e)
      exact ⟨d', by simpa using q1, q2⟩
theorem IsL.append {H : Hp} : ∀ {ds es : List Dt} {xs ys : List V}, IsL H ds xs → IsL H es ys → IsL H (ds ++ es) (xs ++ ys)
  | [], _, _, _, h, k => by cases h; exact k
  | d :: ds, es, xs, ys, h, k => by
    obtain ⟨y, r, rfl, h1, h2⟩ := h
    exact ⟨y, r ++ ys, rfl, h1, IsL.append h2 k⟩
theorem IsL.take {H : Hp} : ∀ {ds : List Dt} {xs : List V} (n : Nat), IsL H ds xs → IsL H (ds.take n) (xs.take n)
  | _, _, 0, _ => by simp [IsL]
  | [], _, n + 1, h => by cases h; simp [IsL]
  | d :: ds, xs, n + 1, h => by
    obtain ⟨y, r, rfl, h1, h2⟩ := h
    exact ⟨y, r.take n, rfl, h1, IsL.take n h2⟩
theorem IsL.drop {H : Hp} : ∀ {ds : List Dt} {xs : List V} (n : Nat), IsL H ds xs → IsL H (ds.drop n) (xs.drop n)
  | _, _, 0, h => h
  | [], _, n + 1, h => by cases h; simp [IsL]
  | d :: ds, xs, n + 1, h => by
    obtain ⟨y, r, rfl, h1, h2⟩ := h
    exact IsL.drop n h2
theorem IsL.one {H : Hp} {d : Dt} {x : V} (h : Is H d x) : IsL H [d] [x] := ⟨x, [], rfl, h, rfl⟩
theorem IsL.ints {H : Hp} : ∀ {ns : List Int}, IsL H (ns.map .int) (ns.map .int)
  | [] => rfl
  | n :: ns => ⟨_, _, rfl, rfl, IsL.ints⟩
theorem IsL.of_ints {H : Hp} : ∀ {ns : List Int} {xs : List V}, IsL H (ns.map .int) xs → xs = ns.map .int
  | [], _, h => h
  | n :: ns, xs, h => by
    obtain ⟨y, r, rfl, h1, h2⟩ := h
    cases h1
    rw [IsL.of_ints h2]
    rfl
/-- the type of a datum -/
def Dt.ty : Dt → String
  | .non => "NoneType" | .bl _ => "bool" | .int _ => "int" | .str _ => "str" | .tup _ => "tuple" | .lst _ => "list" | .dct => "dict"
theorem Is.ty {K : PySem.W.Frag} {H : Hp} : ∀ {d : Dt} {v : V}, Is H d v → TyOf K H v (.type d.ty)
  | .non, _, h => by cases h; exact .non
  | .bl _, _, h => by cases h; exact .bl _
  | .int _, _, h => by cases h; exact .int _
  | .str _, _, h => by cases h; exact .str _
  | .tup l, v, h => by obtain ⟨p, xs, rfl, hp, hl⟩ := h; exact .tup hp
  | .lst l, v, h => by obtain ⟨p, xs, rfl, hp, hl⟩ := h; exact .lst hp
  | .dct, v, h => by obtain ⟨p, xs, rfl, hp, hl⟩ := h; exact .dK hp
def Dt.isTup : Dt → Bool
  | .tup _ => true | _ => false
def Dt.isLst : Dt → Bool
  | .lst _ => true | _ => false
def Dt.isInt : Dt → Bool
  | .int _ => true | .bl _ => true | _ => false
def Dt.isBl : Dt → Bool
  | .bl _ => true | _ => false
def Dt.isWhole : Dt → Bool
  | .int _ => true | _ => false
theorem kit_tup (K : PySem.W.Frag) (d : Dt) : PySem.W.kitOne K (.type d.ty) (.type "tuple") = some d.isTup := by cases d <;> rfl
theorem kit_lst (K : PySem.W.Frag) (d : Dt) : PySem.W.kitOne K (.type d.ty) (.type "list") = some d.isLst := by cases d <;> rfl
theorem kit_int (K : PySem.W.Frag) (d : Dt) : PySem.W.kitOne K (.type d.ty) (.type "int") = some d.isInt := by cases d <;> rfl
theorem kit_bl (K : PySem.W.Frag) (d : Dt) : PySem.W.kitOne K (.type d.ty) (.type "bool") = some d.isBl := by cases d <;> rfl
end
end L2


set_option Elab.async false
set_option linter.all false
set_option maxRecDepth 100000
namespace L2
open PySem PySem.Spec PyProof.Rows
/-! ### what a comprehension's frame captures -/
def capL (env : Env) : List (Str × NameKind) → List (Str × Addr) → List (Str × Addr)
  | [], cs => cs
  | x :: r, cs => capL env r (if (x.2 == NameKind.free) = true then (x.1, (env.cells.lookup x.1).getD 0) :: cs else cs)
theorem closure_of {env : Env} {scope : Scope} (h : ∀ x ∈ scope.names, x.2 = .free → ∃ c, env.cells.lookup x.1 = some c) : closureFor scope env = pure (capL env scope.names []) := by
  have gen : ∀ (names : List (Str × NameKind)) (cs : List (Str × Addr)), (∀ x ∈ names, x.2 = .free → ∃ c, env.cells.lookup x.1 = some c) →
      (forIn names cs (fun x r => match x with
        | (name, kind) => if (kind == NameKind.free) = true then do let a ← cellOf env name; pure (ForInStep.yield ((name, a) :: r)) else pure (ForInStep.yield r)) : Sem (List (Str × Addr))) = pure (capL env names cs) := by
    intro names
    induction names with
    | nil => intro cs _; rfl
    | cons x r ih =>
      intro cs hh
      obtain ⟨n, k⟩ := x
      rw [List.forIn_cons]
      by_cases hk : (k == NameKind.free) = true
      · obtain ⟨c, hc⟩ := hh (n, k) List.mem_cons_self (eq_of_beq hk)
        have hc' : env.cells.lookup n = some c := hc
        have e : cellOf env n = pure c := by unfold cellOf; rw [hc']
        simp only [hk, if_true, e, pure_bind]
        rw [ih _ fun y hy => hh y (List.mem_cons_of_mem _ hy)]
        show pure _ = pure (capL env r (if (k == NameKind.free) = true then (n, (env.cells.lookup n).getD 0) :: cs else cs))
        rw [if_pos hk, hc']
        rfl
      · simp only [hk, pure_bind]
        have e2 : capL env ((n, k) :: r) cs = capL env r cs := by
          show capL env r (if (k == NameKind.free) = true then _ else cs) = _
          rw [if_neg hk]
        rw [e2]
        exact ih _ fun y hy => hh y (List.mem_cons_of_mem _ hy)
  unfold closureFor
  have := gen scope.names [] h
  simpa using this
theorem capL_some {env : Env} : ∀ {names : List (Str × NameKind)} {cs : List (Str × Addr)} {x : Str} {c : Addr}, (∀ y ∈ names, y.2 = .free → ∃ c, env.cells.lookup y.1 = some c) → (capL env names cs).lookup x = some c → env.cells.lookup x = some c ∨ cs.lookup x = some c
  | [], _, _, _, _, h => .inr h
  | (n, k) :: r, cs, x, c, hh, h => by
    have ih := capL_some (names := r) (x := x) (c := c) (fun y hy => hh y (List.mem_cons_of_mem _ hy)) h
    rcases ih with ih | ih
    · exact .inl ih
    · by_cases hk : (k == NameKind.free) = true
      · obtain ⟨c', hc⟩ := hh (n, k) List.mem_cons_self (eq_of_beq hk)
        have hc' : env.cells.lookup n = some c' := hc
        rw [if_pos hk, hc'] at ih
        rw [List.lookup_cons] at ih
        cases e : x == n with
        | true =>
          rw [e] at ih
          have := eq_of_beq e
          subst this
          have ih' : some c' = some c := ih
          cases ih'
          exact .inl hc'
        | false =>
          rw [e] at ih
          exact .inr ih
      · rw [if_neg hk] at ih
        exact .inr ih
theorem capL_keeps {env : Env} : ∀ {names : List (Str × NameKind)} {cs : List (Str × Addr)} {x : Str}, (∃ c, cs.lookup x = some c) → ∃ c, (capL env names cs).lookup x = some c
  | [], _, _, h => h
  | (n, k) :: r, cs, x, h => by
    refine capL_keeps (names := r) ?_
    by_cases hk : (k == NameKind.free) = true
    · rw [if_pos hk, List.lookup_cons]
      cases e : x == n with
      | true => exact ⟨_, rfl⟩
      | false => exact h
    · rw [if_neg hk]
      exact h
theorem capL_has {env : Env} : ∀ {names : List (Str × NameKind)} {cs : List (Str × Addr)} {x : Str}, names.lookup x = some .free → ∃ c, (capL env names cs).lookup x = some c
  | [], _, _, h => by simp at h
  | (n, k) :: r, cs, x, h => by
    rw [List.lookup_cons] at h
    cases e : x == n with
    | true =>
      rw [e] at h
      have h' : some k = some NameKind.free := h
      cases h'
      refine capL_keeps (names := r) ?_
      rw [if_pos (by rfl), List.lookup_cons, e]
      exact ⟨_, rfl⟩
    | false =>
      rw [e] at h
      exact capL_has (names := r) h
theorem lookup_relabel_back {env : Env} : ∀ {names : List (Str × NameKind)} {x : Str} {k : NameKind}, (∀ y ∈ names, y.2 ≠ .cell) →
    (names.map fun (n, k) => if (k == NameKind.free && env.scope.kind == .function && env.kindOf n == some .cell) then (n, NameKind.cell) else (n, k)).lookup x = some k → (k = .cell ∨ k = .free) → names.lookup x = some .free
  | [], _, _, _, h, _ => by simp at h
  | (n, k) :: r, x, k', hc, h, hk => by
    have ih := @lookup_relabel_back env r x k' (fun y hy => hc y (List.mem_cons_of_mem _ hy))
    rw [List.map_cons] at h
    rw [List.lookup_cons]
    by_cases hcond : (k == NameKind.free && env.scope.kind == .function && env.kindOf n == some .cell) = true
    · have h' : List.lookup x ((n, NameKind.cell) :: r.map fun (n, k) => if (k == NameKind.free && env.scope.kind == .function && env.kindOf n == some .cell) then (n, NameKind.cell) else (n, k)) = some k' := by
        have := h
        simp only [hcond, if_true] at this
        exact this
      rw [List.lookup_cons] at h'
      cases e : x == n with
      | true =>
        have : k = .free := by
          rw [Bool.and_eq_true, Bool.and_eq_true] at hcond
          exact eq_of_beq hcond.1.1
        subst this
        rfl
      | false =>
        rw [e] at h'
        exact ih h' hk
    · have h' : List.lookup x ((n, k) :: r.map fun (n, k) => if (k == NameKind.free && env.scope.kind == .function && env.kindOf n == some .cell) then (n, NameKind.cell) else (n, k)) = some k' := by
        have := h
        simp only [hcond] at this
        exact this
      rw [List.lookup_cons] at h'
      cases e : x == n with
      | true =>
        rw [e] at h'
        have h2 : some k = some k' := h'
        cases h2
        rcases hk with hk | hk
        · exact absurd hk (hc (n, k) List.mem_cons_self)
        · subst hk; rfl
      | false =>
        rw [e] at h'
        exact ih h' hk
theorem lookup_relabel_free {env : Env} : ∀ {names : List (Str × NameKind)} {x : Str}, names.lookup x = some .free →
    (names.map fun (n, k) => if (k == NameKind.free && env.scope.kind == .function && env.kindOf n == some .cell) then (n, NameKind.cell) else (n, k)).lookup x = some .cell ∨
    (names.map fun (n, k) => if (k == NameKind.free && env.scope.kind == .function && env.kindOf n == some .cell) then (n, NameKind.cell) else (n, k)).lookup x = some .free
  | [], _, h => by simp at h
  | (n, k) :: r, x, h => by
    have ih := @lookup_relabel_free env r x
    rw [List.lookup_cons] at h
    rw [List.map_cons]
    cases e : x == n with
    | true =>
      rw [e] at h
      have h' : some k = some NameKind.free := h
      cases h'
      by_cases hcond : ((NameKind.free == NameKind.free) && env.scope.kind == .function && env.kindOf n == some .cell) = true
      · left; simp only [hcond, if_true]; rw [List.lookup_cons, e]
      · right; simp only [hcond]; rw [if_neg Bool.false_ne_true, List.lookup_cons, e]
    | false =>
      rw [e] at h
      have h' : r.lookup x = some NameKind.free := h
      by_cases hcond : ((k == NameKind.free) && env.scope.kind == .function && env.kindOf n == some .cell) = true
      · simp only [hcond, if_true]; rw [List.lookup_cons, e]; exact ih h'
      · simp only [hcond]; rw [if_neg Bool.false_ne_true, List.lookup_cons, e]; exact ih h'
end L2


set_option Elab.async false
set_option linter.all false
set_option maxRecDepth 100000
namespace L2
open PySem PySem.Spec PyProof.Rows
/-- the context of a comprehension's own frame -/
def compCx (X : Cx) (scope : Scope) (N : List Str) (C : Addr) (s : Shared) (H : Hp) (ex : List Addr) : Cx where
  prog := X.prog
  w := X.w
  K := X.K
  mg := X.mg
  base := X.base
  A := X.A
  N := N
  s₀ := s
  H₀ := H
  env := compEnvC scope (capL X.env scope.names []) C X.env
  outer := X.stack
  stack := X.stack
  ex := ex
  fn := fun _ => false
  calm := X.calm
  pn := []
  xe := fun _ _ => False
/-- the captured names' slots: cix tells for each name of the frame none (a target), or the slot outside -/
def caps (XN : List Str) (Xnames names : List (Str × NameKind)) (N : List Str) (cix : List (Option Nat)) : Bool :=
  N.length == cix.length && (names.all fun y => y.2 != .cell) && ((N.zip cix).all fun p => match p.2 with
    | none => true
    | some i => XN[i]? == some p.1 && names.lookup p.1 == some .free && (Xnames.lookup p.1 == some .cell || Xnames.lookup p.1 == some .free)) &&
  (names.all fun y => y.2 != .free || (Xnames.lookup y.1 == some .cell || Xnames.lookup y.1 == some .free))
def capS (σ : St) (cix : List (Option Nat)) : St := cix.map fun o => match o with
  | none => none
  | some i => (σ[i]?).join
structure CompOk (X : Cx) (scope : Scope) (N : List Str) (cix : List (Option Nat)) : Prop where
  kind : scope.kind = .function
  names : ∀ x ∈ scope.names, x.2 = .local → scope.names.lookup x.1 = some .local
  caps : caps X.N X.env.scope.names scope.names N cix = true
section
variable {X : Cx} {pins : List (Addr × Obj)} {σ : St} {H : Hp} {s : Shared} {scope : Scope} {N : List Str} {cix : List (Option Nat)}
theorem CompOk.cell (c : CompOk X scope N cix) : ∀ y ∈ scope.names, y.2 ≠ .cell := fun y hy e => by
  have h := c.caps
  unfold L2.caps at h
  rw [Bool.and_eq_true, Bool.and_eq_true, Bool.and_eq_true] at h
  have := List.all_eq_true.mp h.1.1.2 y hy
  rw [e] at this
  exact absurd this (by decide)
theorem CompOk.len (c : CompOk X scope N cix) : N.length = cix.length := by
  have h := c.caps
  unfold L2.caps at h
  rw [Bool.and_eq_true, Bool.and_eq_true, Bool.and_eq_true] at h
  exact eq_of_beq h.1.1.1
theorem CompOk.cells (c : CompOk X scope N cix) (ok : X.Ok) : ∀ x ∈ scope.names, x.2 = .free → ∃ a, X.env.cells.lookup x.1 = some a := fun x hx e => by
  have h := c.caps
  unfold L2.caps at h
  rw [Bool.and_eq_true] at h
  have q := List.all_eq_true.mp h.2 x hx
  rw [e] at q
  have q' : (X.env.scope.names.lookup x.1 == some NameKind.cell || X.env.scope.names.lookup x.1 == some NameKind.free) = true := by simpa using q
  rcases Bool.or_eq_true_iff.mp q' with q | q
  · exact ok.has _ (.inl (eq_of_beq q))
  · exact ok.has _ (.inr (eq_of_beq q))
theorem CompOk.cap (c : CompOk X scope N cix) {j i : Nat} {x : Str} (h1 : N[j]? = some x) (h2 : cix[j]? = some (some i)) : X.N[i]? = some x ∧ scope.names.lookup x = some .free ∧ (X.env.scope.names.lookup x = some .cell ∨ X.env.scope.names.lookup x = some .free) := by
  have h := c.caps
  unfold L2.caps at h
  rw [Bool.and_eq_true, Bool.and_eq_true] at h
  have hm : (x, some i) ∈ N.zip cix := by
    refine List.mem_of_getElem? (i := j) ?_
    rw [List.getElem?_zip_eq_some]
    exact ⟨h1, h2⟩
  have q := List.all_eq_true.mp h.1.2 _ hm
  simp only [Bool.and_eq_true] at q
  refine ⟨eq_of_beq q.1.1, eq_of_beq q.1.2, ?_⟩
  rcases Bool.or_eq_true_iff.mp q.2 with q | q
  · exact .inl (eq_of_beq q)
  · exact .inr (eq_of_beq q)
/-- the frame of a comprehension has been made -/
theorem inv_comp {fp : List Addr} {h' : Heap} {tk : Nat} {m : Str → Option Value} (I : Inv X pins σ H s) (c : CompOk X scope N cix) (hf : ∀ b ∈ fp, FpOk X pins H b) (hfo : ∀ b ∈ fp, b < s.heap.objs.size)
    (hn : h'.Ns s.heap.objs.size m) (hk : ∀ b o, s.heap.get? b = some o → h'.get? b = some o) :
    Inv (compCx X scope N s.heap.objs.size s H fp) [] (capS σ cix) H { s with heap := h', toks := tk } := by
  have hcl := c.cells I.ok
  have back : ∀ x a, (capL X.env scope.names []).lookup x = some a → X.env.cells.lookup x = some a := fun x a e => by
    rcases capL_some hcl e with z | z
    · exact z
    · simp at z
  refine ⟨⟨I.mod, c.kind, I.ok.glob, I.ok.blt, Nat.le_refl _, fun x y a e1 e2 => I.ok.inj x y a (back x a e1) (back y a e2), fun x hx => ?_, fun x a z _ => absurd (show (false : Bool) = true from z) (by decide), I.ok.hd, I.ok.frames, .inl rfl,
    fun b hb => ⟨Nat.ne_of_lt (hfo b hb), fun x a e => (hf b hb).2.2.2.2.1 x a (back x a e)⟩, I.bs, Nat.le_trans I.ok.bsz I.sz, fun b o e hb => ?_, fun b hb z => ?_, I.stack, I.stkFree⟩,
    I.os ▸ rfl, I.bare, Un.kept hk, ⟨m, hn, fun j x v h1 h2 h3 => ?_⟩, fun x a e => ?_, I.hok.fresh (Nat.le_refl _), fun x a e => I.freeC x a (back x a e), fun p hp => absurd (show p ∈ ([] : List (Addr × Obj)) from hp) (by simp), I.hok.kept hk, ?_⟩
  · have hx' : ((relabel scope X.env).names.lookup x = some .cell ∨ (relabel scope X.env).names.lookup x = some .free) := hx
    rcases hx' with z | z
    · exact capL_has (lookup_relabel_back c.cell z (.inl rfl))
    · exact capL_has (lookup_relabel_back c.cell z (.inr rfl))
  · rcases (hf b hb).2.2.2.1 with z | z
    · exact I.ok.noex b o e z
    · exact absurd (Nat.lt_of_lt_of_le (Heap.lt_size e) (Nat.le_trans I.ok.bsz z)) (Nat.lt_irrefl _)
  · rcases List.mem_cons.mp (I.stkSub b z) with e | e
    · exact (hf b hb).2.1 e
    · exact (hf b hb).2.2.1 e
  · have h1' : N[j]? = some x := h1
    unfold capS at h2
    rw [List.getElem?_map] at h2
    cases e : cix[j]? with
    | none => rw [e] at h2; cases h2
    | some o =>
      rw [e] at h2
      cases o with
      | none => cases h2
      | some i =>
        have h2' : (σ[i]?).join = some v := Option.some.inj h2
        have h2'' : σ[i]? = some (some v) := by
          cases q : σ[i]? with
          | none => rw [q] at h2'; cases h2'
          | some z => rw [q] at h2'; have : z = some v := h2'; rw [this]
        obtain ⟨q1, q2, q3⟩ := c.cap h1' e
        obtain ⟨m0, hn0, hl0⟩ := I.loc
        obtain ⟨u, ru, hu⟩ := hl0 i x v q1 h2'' (q3.elim (fun z => .inr (.inl z)) fun z => .inr (.inr z))
        refine ⟨u, ru, .inr ⟨lookup_relabel_free q2, ?_⟩⟩
        rcases hu with ⟨z, _⟩ | ⟨_, a, ha, hcell⟩
        · have z' : X.env.scope.names.lookup x = some .local := z
          rcases q3 with q3 | q3 <;> rw [z'] at q3 <;> cases q3
        · obtain ⟨a', ha'⟩ := capL_has (env := X.env) (cs := []) q2
          have : a' = a := by have := (back x a' ha').symm.trans ha; exact Option.some.inj this
          subst this
          obtain ⟨oc, hoc, hd⟩ := hcell
          exact ⟨a', ha', oc, hk _ _ hoc, hd⟩
  · obtain ⟨v, oc, hoc, hd⟩ := I.cell x a (back x a e)
    exact ⟨v, oc, hk _ _ hoc, hd⟩
  · show (capS σ cix).length = N.length
    unfold capS
    rw [List.length_map, c.len]
theorem hok_sameBut {P : Program} {w : World} {H : Hp} {h h' : Heap} {a : Addr} (x : HOk P w H h) (hn : H a = none) (hs : Heap.SameBut a h h') : HOk P w H h' := fun b o e => by
  refine (x b o e).stay (fun c u hc q => (hs.2 c ?_).trans q) (fun _ q => q) fun _ _ q => q
  rcases hc with rfl | hc
  · exact ne_of_none e hn
  · exact ne_of_none hc hn
/-- the frame is let go -/
theorem inv_uncomp {fp : List Addr} {σ' : St} {H' : Hp} {s' : Shared} {h'' : Heap} (I : Inv X pins σ H s) (hf : ∀ b ∈ fp, FpOk X pins H b) (I' : Inv (compCx X scope N s.heap.objs.size s H fp) [] σ' H' s') (hs : Heap.SameBut s.heap.objs.size s'.heap h'') :
    Inv X pins σ H' { s' with heap := h'' } := by
  have ne : ∀ b o, s.heap.get? b = some o → b ≠ s.heap.objs.size := fun b o e => Nat.ne_of_lt (Heap.lt_size e)
  have u := I'.base
  refine Inv.call' (ch := fp) I I'.os ⟨fun b o e n hb hx => ?_, fun b o e n hb hx => ?_, u.free, fun b o e hx => ?_, u.tups, u.frzs, u.tbls⟩ (hok_sameBut I'.hok I'.free hs) I'.bare fun b hb => ⟨(hf b hb).2.2.2.1, (hf b hb).2.1, (hf b hb).2.2.2.2.1, (hf b hb).2.2.2.2.2⟩
  · exact (hs.2 b (ne b o e)).trans (u.keep b o e n hb hx)
  · obtain ⟨sl, q⟩ := u.slot b o e n hb hx
    exact ⟨sl, (hs.2 b (ne b o e)).trans q⟩
  · obtain ⟨o', q⟩ := u.there b o e hx
    exact ⟨o', (hs.2 b (ne b o e)).trans q⟩
end
/-! ### the loop of one clause -/
section
variable {prog : Program} {w : World} {A : Around} {R : Result → Shared → Prop} {s : Shared}
theorem codeAny_comp1 {elt target iter : Expr} {ifs : List Expr} {scope : Scope} {pos : Pos} {it acc : Value} {env : Env} (I : Nat → Shared → Prop)
    (turn : ∀ n s, I n s → wpAny (model prog w) A (pyNext it) (fun r s₁ => match r with
      | none => R (.ok .next) s₁
      | some v => wpAny (model prog w) A (letOwnedTupleGo target it v) (fun _ s₂ => wpAny (model prog w) A (assign target env v) (fun _ s₃ =>
          wpAny (model prog w) A (forIn ifs true fun c r => if r = true then do let ok ← isTrue c env (eval c env); pure (ForInStep.yield ok) else pure (ForInStep.yield r)) (fun ok s₄ =>
            if ok = true then wpAny (model prog w) A (eval elt env) (fun x s₅ =>
              wpAny (model prog w) A (call (.builtin "list.append") [acc, x]) (fun _ s₆ => ∃ m, m < n ∧ I m s₆) (fun _ _ => False) s₅) (fun _ _ => False) s₄
            else ∃ m, m < n ∧ I m s₄) (fun _ _ => False) s₃) (fun _ _ => False) s₂) (fun _ _ => False) s₁) (fun _ _ => False) s)
    (n : Nat) (h : I n s) :
    codeAny (model prog w) A (.compLoop (.ListComp elt [⟨target, iter, ifs, 0⟩] scope pos) 0 it acc env) R s := by
  refine codeAny_loop rfl I (fun n s hI => ?_) n h
  show wpAny _ A ((compTurn (.ListComp elt [⟨target, iter, ifs, 0⟩] scope pos) 0 it acc env).onRaise (fun x => do noteFrame x env; theTreesLotGoes x)) _ _ s
  refine wpAny_noted ?_
  rw [compTurn_list]
  refine wpAny_bind (wpAny_standAt (wpAny_bind (wpAny_mono (turn n s hI) (fun r s₁ h₁ => ?_) fun _ _ h' => h'.elim)))
  cases r with
  | none => exact wpAny_pure h₁
  | some v =>
    refine wpAny_bind (wpAny_mono h₁ (fun _ s₂ h₂ => ?_) fun _ _ h' => h'.elim)
    refine wpAny_bind (wpAny_mono h₂ (fun _ s₃ h₃ => wpAny_bind (wpAny_mono h₃ (fun ok s₄ h₄ => ?_) fun _ _ h' => h'.elim)) fun _ _ h' => h'.elim)
    cases ok with
    | false => exact wpAny_pure ⟨rfl, h₄⟩
    | true =>
      exact wpAny_bind (wpAny_bind (wpAny_mono h₄ (fun x s₅ h₅ => wpAny_bind (wpAny_mono h₅ (fun _ s₆ h₆ => wpAny_pure (wpAny_pure ⟨rfl, h₆⟩)) fun _ _ h' => h'.elim)) fun _ _ h' => h'.elim))
end
/-! ### the rule -/
/-- the tests of a clause, one after another -/
def PTs (X : Cx) (ifs : List Expr) (t : TT) : Prop :=
  ∀ (pins : List (Addr × Obj)) (s : Shared) (σ : St) (H : Hp) (Q : Bool → Hp → Prop), Inv X pins σ H s → t σ H Q →
    wpAny (model X.prog X.w) X.A (forIn ifs true fun c r => if r = true then do let ok ← isTrue c X.env (eval c X.env); pure (ForInStep.yield ok) else pure (ForInStep.yield r)) (TP X pins σ Q) X.xe s
def tNoTest : TT := fun _ H Q => Q true H
theorem pts_nil {X : Cx} : PTs X [] tNoTest := fun pins s σ H Q I h => wpAny_tests_nil ⟨H, I, h⟩
theorem pts_one {X : Cx} {c : Expr} {t : TT} (h : PT X c t) : PTs X [c] t := fun pins s σ H Q I q => wpAny_tests_one (h pins s σ H Q I q)
def tComp (wi : TI) (g : TG) (ti : TT) (te : TE) (cix : List (Option Nat)) : TE := fun σ H Q => wi σ H fun J H1 => ∀ acc, H1 acc = none → ∃ W : Nat → Nat → St → Hp → Prop, (∃ m, W 0 m (capS σ cix) (upd H1 acc (.lst []))) ∧
  ∀ i m σ' H', W i m σ' H' → (J.stop i H' ∧ Q (.ref acc) H') ∨ (J.go i H' ∧ ∃ N : St → Hp → Prop, (∀ σ2 H2, N σ2 H2 → ∃ m', m' < m ∧ W (i + 1) m' σ2 H2) ∧
    ∀ x H2, J.yld i H' x H2 → g x σ' H2 fun σ3 H3 => ti σ3 H3 fun ok H4 => if ok = true then te σ3 H4 fun v H5 => ∃ xs, H5 acc = some (.lst xs) ∧ xs.length < sizeLine ∧ N σ3 (upd H5 acc (.lst (xs ++ [v]))) else N σ3 H4)
theorem pe_comp {X : Cx} {elt tg iter : Expr} {ifs : List Expr} {scope : Scope} {pos : Pos} {wi : TI} {g : TG} {ti : TT} {te : TE} {N : List Str} {cix : List (Option Nat)} (hc : X.calm = true) (c : CompOk X scope N cix)
    (hi : PI X tg iter wi) (hg : ∀ C s H ex, PG (compCx X scope N C s H ex) tg g) (ht : ∀ C s H ex, PTs (compCx X scope N C s H ex) ifs ti) (he : ∀ C s H ex, PE (compCx X scope N C s H ex) elt te)
    (hs : ∀ x, foldedSetIterable iter X.env x = pure x := by intro _; rfl) : PE X (.ListComp elt [⟨tg, iter, ifs, 0⟩] scope pos) (tComp wi g ti te cix) := by
  intro pins s σ H Q I h
  rw [eval_ListComp]
  refine wpAny_comprehension_free (use := none) rfl hs (closure_of (c.cells I.ok)) c.kind c.names (thn (hi pins s σ H _ I h) fun xv s1 h1 => thn h1 fun itv s2 h2 => ?_)
  obtain ⟨it, fp, tn, J, H2, e, I2, T, st2, f2, q2⟩ := h2
  subst e
  refine wpAny_newObj_type (wpAny_newFunctionEnv c.cell (by intro y hy; simp at hy) (fun h4 hns4 hsb4 => ?_) c.kind)
  dsimp only at hns4 hsb4 ⊢
  have hnone := I2.hok.fresh (Nat.le_refl s2.heap.objs.size)
  -- the new list
  have I3 : Inv X pins σ (upd H2 s2.heap.objs.size (.lst [])) { s2 with heap := s2.heap.push { cls := .type "list", dict := none, data := .seq ([] : List Value).toArray }, toks := s2.toks } := I2.lnew (t' := s2.toks) .nil (by simp)
  obtain ⟨W, ⟨m0, w0⟩, turn⟩ := q2 s2.heap.objs.size hnone
  have ltF : ∀ b ∈ fp, b < s2.heap.objs.size := fun b hb => by
    obtain ⟨o, ho, _⟩ := T.obj _ _ st2 b hb
    exact Heap.lt_size ho
  have f3 : ∀ b ∈ fp, FpOk X pins (upd H2 s2.heap.objs.size (.lst [])) b := fun b hb => ⟨by rw [upd_ne (Nat.ne_of_lt (ltF b hb))]; exact (f2 b hb).1, (f2 b hb).2⟩
  have kp : ∀ b o, (s2.heap.push { cls := .type "list", dict := none, data := .seq ([] : List Value).toArray }).get? b = some o → h4.get? b = some o := fun b o e =>
    hsb4.extBut b o (Nat.ne_of_lt (Heap.lt_size e)) (Heap.get?_push_of_some _ e)
  have sz3 : s2.heap.objs.size < (s2.heap.push { cls := .type "list", dict := none, data := .seq ([] : List Value).toArray }).objs.size := by rw [Heap.size_push]; exact Nat.lt_succ_self _
  have I4 := inv_comp (tk := s2.toks + ([] : List (Str × Value)).length) I3 c f3 (fun b hb => Nat.lt_trans (ltF b hb) sz3) hns4 kp
  have st4 : tn 0 h4 := T.keep _ _ _ st2 fun b hb o e => kp b o (Heap.get?_push_of_some _ e)
  generalize hX : compCx X scope N (s2.heap.push { cls := .type "list", dict := none, data := .seq ([] : List Value).toArray }).objs.size
    { s2 with heap := s2.heap.push { cls := .type "list", dict := none, data := .seq ([] : List Value).toArray }, toks := s2.toks } (upd H2 s2.heap.objs.size (.lst [])) fp = X' at I4
  have pX : X'.prog = X.prog := by rw [← hX]; rfl
  have wX : X'.w = X.w := by rw [← hX]; rfl
  have KX : X'.K = X.K := by rw [← hX]; rfl
  have AX : X'.A = X.A := by rw [← hX]; rfl
  have cX : X'.calm = true := by rw [← hX]; exact hc
  have xX : X'.xe = fun _ _ => False := by rw [← hX]; rfl
  have eX : X'.env = compEnvC scope (capL X.env scope.names []) (s2.heap.push { cls := .type "list", dict := none, data := .seq ([] : List Value).toArray }).objs.size X.env := by rw [← hX]; rfl
  have hg' : PG X' tg g := by rw [← hX]; exact hg _ _ _ _
  have ht' : PTs X' ifs ti := by rw [← hX]; exact ht _ _ _ _
  have he' : PE X' elt te := by rw [← hX]; exact he _ _ _ _
  have f4 : ∀ {H' : Hp}, (∀ b ∈ fp, H' b = none) → ∀ b ∈ fp, FpOk X' [] H' b := fun {H'} hn b hb => by
    refine ⟨hn b hb, ?_, ?_, .inl ?_, ?_, ?_⟩
    · rw [eX]; exact Nat.ne_of_lt (Nat.lt_trans (ltF b hb) sz3)
    · have e1 : X'.fs = frs X.stack := by rw [← hX]; rfl
      rw [e1]
      intro z
      rcases List.mem_cons.mp (I2.stkSub b z) with e | e
      · exact (f2 b hb).2.1 e
      · exact (f2 b hb).2.2.1 e
    · rw [← hX]; exact hb
    · rw [eX]
      intro x a e
      rcases capL_some (c.cells I.ok) e with z | z
      · exact (f2 b hb).2.2.2.2.1 x a z
      · simp at z
    · intro p hp
      have e1 : X'.pn ++ ([] : List (Addr × Obj)) = [] := by rw [← hX]; rfl
      rw [e1] at hp
      simp at hp
  -- the loop
  have loop : ∀ s4 : Shared, s4 = { s2 with heap := h4, toks := s2.toks + ([] : List (Str × Value)).length } →
      codeAny (model X.prog X.w) X.A (.compLoop (.ListComp elt [⟨tg, iter, ifs, 0⟩] scope pos) 0 (.ref it) (.ref s2.heap.objs.size) X'.env)
        (compPost (model X.prog X.w) X.A X.xe none (EP X pins σ Q) (.ref s2.heap.objs.size) (s2.heap.push { cls := .type "list", dict := none, data := .seq ([] : List Value).toArray }).objs.size) s4 := by
    rintro s4 rfl
    refine codeAny_comp1 (fun n s' => ∃ i σ' H', Inv X' [] σ' H' s' ∧ tn i s'.heap ∧ (∀ b ∈ fp, H' b = none) ∧ W i n σ' H') ?_ m0 ⟨0, capS σ cix, _, I4, st4, fun b hb => (f3 b hb).1, w0⟩
    rintro n s5 ⟨i, σ5, H5, I5, st5, fr5, w5⟩
    rcases turn i n σ5 H5 w5 with ⟨stop, qn⟩ | ⟨go, Nx, hN, step⟩
    · have := T.done X' pX wX KX cX i [] s5 σ5 H5 (fun _ _ => False) I5 (f4 fr5) st5 stop
      rw [AX] at this
      refine thn this fun r s6 ⟨hr, I6⟩ => ?_
      subst hr
      obtain ⟨m6, hn6, _⟩ := I6.loc
      rw [eX] at hn6
      refine ⟨m6, hn6, fun h7 hs7 => ?_⟩
      have I6' := I6
      rw [← hX] at I6'
      exact ⟨.ref s2.heap.objs.size, H5, inv_uncomp I3 f3 I6' hs7, rfl, qn⟩
    · have := T.item X' pX wX KX cX i [] s5 σ5 H5 (fun _ _ => False) I5 (f4 fr5) st5 go
      rw [AX] at this
      refine thn this fun r s6 ⟨u, hr, h6⟩ => ?_
      subst hr
      refine thn h6 fun _ s7 ⟨x, H7, I7, r7, y7, st7, fr7⟩ => ?_
      have I7' := I7.pinned (f4 fr7) (T.obj _ _ st7)
      have a7 := hg' _ s7 σ5 H7 x u _ I7' r7 (step x H7 y7)
      rw [pX, wX, AX, xX] at a7
      refine thn a7 fun _ s8 ⟨σ8, H8, I8, q8⟩ => ?_
      have t8 := ht' _ s8 σ8 H8 _ I8 q8
      rw [pX, wX, AX, xX] at t8
      refine thn t8 fun ok s9 ⟨H9, I9, q9⟩ => ?_
      have again : ∀ {s' : Shared} {σ' : St} {H' : Hp}, Inv X' ([] ++ pinsAt fp s7.heap) σ' H' s' → Nx σ' H' → ∃ m, m < n ∧ ∃ i σ' H', Inv X' [] σ' H' s' ∧ tn i s'.heap ∧ (∀ b ∈ fp, H' b = none) ∧ W i m σ' H' := fun {s' σ' H'} J' n' => by
        obtain ⟨m', hm, w'⟩ := hN σ' H' n'
        refine ⟨m', hm, i + 1, σ', H', J'.unpinned, T.keep _ _ _ st7 fun b hb o e => (J'.pin (b, o) (List.mem_append_right _ (List.mem_append_right _ (mem_pinsAt hb e)))).1, fun b hb => ?_, w'⟩
        obtain ⟨o, e, d⟩ := T.obj _ _ st7 b hb
        exact (J'.pin (b, o) (List.mem_append_right _ (List.mem_append_right _ (mem_pinsAt hb e)))).2.1
      cases ok with
      | false => exact again I9 q9
      | true =>
        have e9 := he' _ s9 σ8 H9 _ I9 q9
        rw [pX, wX, AX, xX] at e9
        refine thn e9 fun u2 s10 ⟨v, H10, I10, r10, q10⟩ => ?_
        obtain ⟨xs, hxs, hlt, nx⟩ := q10
        have m10 := mt_append (X := X') _ s10 σ8 H10 (.ref s2.heap.objs.size) [v] (.ref s2.heap.objs.size) [u2] (fun _ H' => Nx σ8 H') I10 rfl (.cons r10 .nil) ⟨_, xs, v, rfl, rfl, hxs, hlt, nx⟩
        rw [pX, wX, AX, xX] at m10
        refine thn m10 fun _ s11 ⟨_, H11, I11, _, n11⟩ => again I11 n11
  have l0 := loop _ rfl
  rw [eX] at l0
  exact codeAny_compStart_list l0 (T.self X.A 0 _ _ _ st4 l0)
end L2


set_option Elab.async false
set_option linter.all false
set_option maxRecDepth 100000
namespace L2
open PySem PySem.Spec PyProof.Rows
/-- a def of the text, known by its name -/
structure Dfn (K : PySem.W.Frag) (mg : Str → Option Value) (x : Str) (st : Stmt) (ps : List Str) (f : Addr) (fd : FuncData) : Prop where
  F : Fun K x x st f fd
  b : Binds K fd ps []
  m : mg x = some (.ref f)
section
variable {X : Cx}
theorem pe_fn {x : Str} {st : Stmt} {ps : List Str} {f : Addr} {fd : FuncData} {sp : Sp} {j k : Nat} {e : Expr} {es : List Expr} {t : TA} {p pos : Pos} (D : Dfn X.K X.mg x st ps f fd) (G : FnOk X.prog X.w X.K X.mg X.base CX0 j f fd ps sp) (hr : Room k X.A)
    (ha : PA X (e :: es) t) (hjk : j ≤ k := by decide) (hg : Gl X x := by rfl) (hdb : (x == ("__debug__" : Str)) = false := by decide) (he : starEach (e :: es) X.env = (false, eval e X.env) :: starEach es X.env := by rfl) (hpl : (backTo pos (starEach es X.env)).any (·.1) = false := by rfl) :
    PE X (.Call (.Name x p) (e :: es) [] pos) (tCall sp [] E0 t) :=
  pe_call G (hr.mono hjk) hg D.m D.F.kp D.b .nil pass0 ha hdb he hpl
theorem range_all {bs : List Bool} : ((List.range bs.length).all fun i => bs.getD i true) = bs.all id := by
  rw [Bool.eq_iff_iff, List.all_eq_true, List.all_eq_true]
  constructor
  · intro h b hb
    obtain ⟨i, hi, e⟩ := List.mem_iff_getElem.mp hb
    have := h i (List.mem_range.mpr hi)
    simpa [hi, e] using this
  · intro h i hi
    have hi' := List.mem_range.mp hi
    have := h bs[i] (List.getElem_mem hi')
    simpa [hi'] using this
theorem call_all (hc : X.calm = true) : CallR X (.builtin "all") (fun xs H Q => ∃ (p : Addr) (bs : List Bool), xs = [.ref p] ∧ H p = some (.lst (bs.map V.bl)) ∧ Q (.bl (bs.all id)) H) := by
  intro pins s σ H xs us Q I r h
  obtain ⟨p, bs, rfl, hp, q⟩ := h
  obtain ⟨u, rfl, ru⟩ := vals1 r
  cases ru
  obtain ⟨its, rv, pl, hz⟩ := I.list (.of hp)
  have hlen := rv.length
  rw [List.length_map] at hlen
  have W : Walks X.prog X.w X.A.in1 s.heap.objs.size [s.heap.objs.size, p] [s.heap.objs.size] its.toArray.size (fun i v => its.toArray[i]? = some v) (fun i h => h.IsListIter s.heap.objs.size p i ∧ h.IsList p its.toArray) := by
    refine Walks.list (A := X.A.in1) (I.ok.hd hc) s.heap.objs.size p ?_ its.toArray
    obtain ⟨o, _, ho, _⟩ := pl
    exact Nat.ne_of_lt (Heap.lt_size ho)
  refine call_all_walk (wpAny_pyIter_list pl.isList ⟨s.heap.objs.size, _, _, _, _, _, fun i => bs.getD i true, rfl, W, ⟨?_, ?_⟩, ?_, ?_⟩)
  · exact ⟨_, Heap.get?_push_size _ rfl, rfl, rfl⟩
  · exact pl.isList.at fun o e => Heap.get?_push_of_some _ e
  · intro i v s' Q' E' hP hQ
    have hP' : its[i]? = some v := by simpa using hP
    have hi : i < bs.length := by
      have := (List.getElem?_eq_some_iff.mp hP').1
      omega
    have hb : (bs.map V.bl)[i]? = some (V.bl bs[i]) := by simp [hi]
    obtain ⟨u', hu', rb⟩ := rv.get hb
    rw [hP'] at hu'
    cases hu'
    cases rb
    have : bs.getD i true = bs[i] := by simp [hi]
    dsimp only at hQ
    rw [this] at hQ
    exact wpAny_truthy_bool hQ
  · intro h' tk hk
    have e : (List.range its.toArray.size).all (fun i => bs.getD i true) = bs.all id := by
      rw [List.size_toArray, ← hlen]
      exact range_all
    rw [e]
    exact ⟨.bl _, H, I.kept (t' := tk) fun b o eb => hk b o (by simp; exact Nat.ne_of_lt (Heap.lt_size eb)) (Heap.get?_push_of_some _ eb), rfl, q⟩
end
end L2


set_option Elab.async false
set_option linter.all false
set_option maxRecDepth 100000
/-! The layer's judgements in structures: what is behind them is not opened while a term of rules is read. -/
namespace L2
open PySem PySem.Spec PyProof.Rows
structure QE (X : Cx) (e : Expr) (t : TE) : Prop where
  run : PE X e t
structure QT (X : Cx) (e : Expr) (t : TT) : Prop where
  run : PT X e t
structure QW (X : Cx) (e : Expr) (t : TT) : Prop where
  run : PW X e t
structure QC (X : Cx) (op : CmpOp) (a b : Expr) (t : TE) : Prop where
  run : PC X op a b t
structure QA (X : Cx) (es : List Expr) (t : TA) : Prop where
  run : PA X es t
structure QS (X : Cx) (s : Stmt) (t : TS) : Prop where
  run : PS X s t
structure QSs (X : Cx) (s : List Stmt) (t : TS) : Prop where
  run : PSs X s t
structure QG (X : Cx) (e : Expr) (t : TG) : Prop where
  run : PG X e t
structure QGs (X : Cx) (es : List Expr) (t : TGs) : Prop where
  run : PGs X es t
structure QI (X : Cx) (tg e : Expr) (t : TI) : Prop where
  run : PI X tg e t
structure QO (X : Cx) (e : Option Expr) (t : TO) : Prop where
  run : PO X e t
structure QP (X : Cx) (pos : Pos) (ks : List (Option Expr)) (vs : List Expr) (t : List (TE × TE)) : Prop where
  run : PPs X pos ks vs t
structure QTs (X : Cx) (es : List Expr) (t : TT) : Prop where
  run : PTs X es t
structure OpQ (X : Cx) (f : Value → Value → Sem Value) (r : R2) : Prop where
  run : OpR X f r
structure UnQ (X : Cx) (f : Value → Sem Value) (r : V → Hp → VK → Prop) : Prop where
  run : UnR X f r
structure CallQ (X : Cx) (f : Value) (r : List V → Hp → VK → Prop) : Prop where
  run : CallR X f r
structure IxQ (X : Cx) (r : R2) : Prop where
  run : IxR X r
structure SlQ (X : Cx) (r : V → Option Int → Option Int → Hp → VK → Prop) : Prop where
  run : SlR X r
section
variable {X : Cx} {e a b c : Expr} {es : List Expr} {te ta tb tc : TE} {t u : TT} {pos p : Pos}
/-! names, constants -/
theorem qv (i : Nat) {x : Str} {pos : Pos} (hN : X.N[i]? = some x := by rfl) (hv : Vis X.env.scope x := by first | exact Or.inl rfl | exact Or.inr (Or.inl rfl) | exact Or.inr (Or.inr rfl)) (hd : (x == ("__debug__" : Str)) = false := by decide)
    (hcd : (x == ("__classdict__" : Str)) = false := by decide) : QE X (.Name x pos) (tVar i) := ⟨pe_var hN hv hd hcd⟩
theorem qe_int {i : Int} {j : Nat} : QE X (.Constant (.int i) j pos) (tC (.int i)) := ⟨pe_int⟩
theorem qe_bl {k : Bool} {j : Nat} : QE X (.Constant (.bool k) j pos) (tC (.bl k)) := ⟨pe_bl⟩
theorem qe_str {x : Str} {j : Nat} : QE X (.Constant (.str x) j pos) (tC (.str x)) := ⟨pe_str⟩
theorem qe_bltn {x : Str} {v : V} {w : Value} (hg : Gl X x) (hm : X.mg x = none) (hv : bootBuiltins x = some w) (r : RelV v w) (hn : x ≠ "__name__" := by decide) (hd : (x == ("__debug__" : Str)) = false := by decide) : QE X (.Name x pos) (tC v) := ⟨pe_bltn hg hm hv r hn hd⟩
/-! operators -/
theorem oq_add : OpQ X (binaryOp .Add) (rI0 fun i j => .int (i + j)) := ⟨op_add⟩
theorem oq_sub : OpQ X (binaryOp .Sub) (rI0 fun i j => .int (i - j)) := ⟨op_sub⟩
theorem oq_mul : OpQ X (binaryOp .Mult) (rI CMul fun i j => .int (i * j)) := ⟨op_mul⟩
theorem oq_fdiv : OpQ X (binaryOp .FloorDiv) (rI CDiv fun i j => .int (i / j)) := ⟨op_fdiv⟩
theorem oq_mod : OpQ X (binaryOp .Mod) (rI (fun _ j => 0 < j) fun i j => .int (i % j)) := ⟨op_mod⟩
theorem oq_pow : OpQ X (binaryOp .Pow) (rI CPow fun i j => .int (i ^ j.toNat)) := ⟨op_pow⟩
theorem oq_catA : OpQ X (binaryOp .Add) (rCatA X.K) := ⟨op_catA⟩
theorem oq_repT : OpQ X (binaryOp .Mult) rRepT := ⟨op_repT⟩
theorem oq_lt : OpQ X (compareOp .Lt) (rI0 fun i j => .bl (decide (i < j))) := ⟨op_lt⟩
theorem oq_le : OpQ X (compareOp .LtE) (rI0 fun i j => .bl (decide (i ≤ j))) := ⟨op_le⟩
theorem oq_gt : OpQ X (compareOp .Gt) (rI0 fun i j => .bl (decide (j < i))) := ⟨op_gt⟩
theorem oq_ge : OpQ X (compareOp .GtE) (rI0 fun i j => .bl (decide (j ≤ i))) := ⟨op_ge⟩
theorem oq_eq : OpQ X (compareOp .Eq) rEq := ⟨op_eq⟩
theorem oq_ne : OpQ X (compareOp .NotEq) rNe := ⟨op_ne⟩
theorem oq_isnot_bl : OpQ X (compareOp .IsNot) (fun x y H Q => ∃ a b, x = .bl a ∧ y = .bl b ∧ Q (.bl (a != b)) H) := ⟨op_isnot_bl⟩
theorem uq_neg : UnQ X (unaryOp .USub) (rU fun i => .int (-i)) := ⟨un_neg⟩
theorem qe_op {op : Operator} {r : R2} (ho : OpQ X (binaryOp op) r) (ha : QE X a ta) (hb : QE X b tb) : QE X (.BinOp a op b pos) (tOp r ta tb) := ⟨pe_op ho.run ha.run hb.run⟩
theorem qe_un {op : UnaryOp} {r : V → Hp → VK → Prop} (ho : UnQ X (unaryOp op) r) (ha : QE X a ta) : QE X (.UnaryOp op a pos) (tUn r ta) := ⟨pe_un ho.run ha.run⟩
theorem qe_cmpR {op : CmpOp} {r : R2} (ho : OpQ X (compareOp op) r) (ha : QE X a ta) (hb : QE X b tb) (hm : behindInMarks op b = false) : QE X (.Compare a [op] [b] pos) (tOp r ta tb) := ⟨pe_cmpR ho.run ha.run hb.run hm⟩
theorem qt_cmpR {op : CmpOp} {r : R2} (ho : OpQ X (compareOp op) r) (ha : QE X a ta) (hb : QE X b tb) (hm : behindInMarks op b = false) : QT X (.Compare a [op] [b] pos) (tTest (tOp r ta tb)) := ⟨pt_cmpR ho.run ha.run hb.run hm⟩
theorem qc_din (hu : X.A.units + 1 < cLine) (ha : QE X a ta) (hb : QE X b tb) : QC X .In a b (tDIn ta tb) := ⟨pc_din hu ha.run hb.run⟩
theorem qt_cmp {op : CmpOp} (h : QC X op a b te) (h1 : behindInMarks op b = false := by first | exact nobehind _ (by decide) (by decide) | rfl) : QT X (.Compare a [op] [b] pos) (tB te) := ⟨pt_cmp h.run h1⟩
theorem qt_val (h : QE X e te) (he : ∀ whole, isTrue e X.env whole = (do let v ← whole; standAt e.pos; holding [v] (truthy v)) := by intro _; rfl) : QT X e (tB te) := ⟨pt_val h.run he⟩
theorem qt_not (h : QT X a t) : QT X (.UnaryOp .Not a pos) (tNot t) := ⟨pt_not h.run⟩
theorem qw_and1 (h : QT X a t) : QW X (.BoolOp .And [a] pos) t := ⟨pw_and1 h.run⟩
theorem qw_or1 (h : QT X a t) : QW X (.BoolOp .Or [a] pos) t := ⟨pw_or1 h.run⟩
theorem qw_and {rest : List Expr} (h : QT X a t) (h' : QW X (.BoolOp .And (b :: rest) pos) u) : QW X (.BoolOp .And (a :: b :: rest) pos) (tAnd t u) := ⟨pw_and h.run h'.run⟩
theorem qw_or {rest : List Expr} (h : QT X a t) (h' : QW X (.BoolOp .Or (b :: rest) pos) u) : QW X (.BoolOp .Or (a :: b :: rest) pos) (tOr t u) := ⟨pw_or h.run h'.run⟩
theorem QW.pt (h : QW X e t) : QT X e t := ⟨h.run.pt⟩
theorem qe_one {op : BoolOp} (h : QE X a ta) : QE X (.BoolOp op [a] pos) ta := ⟨pe_one h.run⟩
theorem qe_and {rest : List Expr} (ha : QE X a ta) (hb : QE X (.BoolOp .And (b :: rest) pos) tb) : QE X (.BoolOp .And (a :: b :: rest) pos) (tAndV ta tb) := ⟨pe_and ha.run hb.run⟩
theorem qe_not (ha : QE X a ta) : QE X (.UnaryOp .Not a pos) (tNotV ta) := ⟨pe_not ha.run⟩
theorem qe_ifExp (hc : QT X c t) (ha : QE X a ta) (hb : QE X b tb) : QE X (.IfExp c a b pos) (tIf t ta tb) := ⟨pe_ifExp hc.run ha.run hb.run⟩
/-! arguments, displays -/
theorem qa_nil : QA X [] tNil := ⟨pa_nil⟩
theorem qa_cons {ts : TA} (ha : QE X e te) (hr : QA X es ts) (hs : starEach (e :: es) X.env = (false, eval e X.env) :: starEach es X.env := by rfl) : QA X (e :: es) (tCons te ts) := ⟨pa_cons ha.run hr.run hs⟩
theorem qe_tup {x1} {ts : TA} (h : QA X es ts) : QE X (.Tuple es x1 pos) (tTup ts) := ⟨pe_tup h.run⟩
theorem qe_lst {ts : TA} (h : QA X es ts) : QE X (.List es pos) (tLst ts) := ⟨pe_lst h.run⟩
theorem qps_nil : QP X pos [] [] [] := ⟨pps_nil⟩
theorem qps_cons {k v : Expr} {ks : List (Option Expr)} {vs : List Expr} {tk tv : TE} {trs : List (TE × TE)} (hk : QE X k tk) (hv : QE X v tv) (hr : QP X pos ks vs trs) : QP X pos (some k :: ks) (v :: vs) ((tk, tv) :: trs) := ⟨pps_cons hk.run hv.run hr.run⟩
theorem qe_disp {keys : List (Option Expr)} {values : List Expr} {trs : List (TE × TE)} (h : QP X pos keys values trs) (hall : keys.all (·.isSome) = true) (hl : keys.length = values.length) (h0 : keys ≠ []) (h15 : keys.length ≤ 15) : QE X (.Dict keys values pos) (tDisp trs) := ⟨pe_disp h.run hall hl h0 h15⟩
/-! subscripts -/
theorem qo_none : QO X none tNoPart := ⟨po_none⟩
theorem qo_some (h : QE X e te) : QO X (some e) (tPart te) := ⟨po_some h.run⟩
theorem sq_list : SlQ X (rSlL X.K) := ⟨sl_list⟩
theorem qe_slice {r : V → Option Int → Option Int → Hp → VK → Prop} {lo hi : Option Expr} {tl th : TO} {p2 : Pos} (hr : SlQ X r) (he : QE X e te) (hl : QO X lo tl) (hu : QO X hi th) : QE X (.Subscript e (.Slice lo hi none p2) pos) (tSl r te tl th) := ⟨pe_slice hr.run he.run hl.run hu.run⟩
theorem xq_list : IxQ X (rIxL X.K) := ⟨ix_list⟩
theorem xq_tup : IxQ X (rIxT X.K) := ⟨ix_tup⟩
theorem qe_ix {r : R2} (hr : IxQ X r) (ha : QE X a ta) (hb : QE X b tb) (hs : PlainIx b) : QE X (.Subscript a b pos) (tOp r ta tb) := ⟨pe_ix hr.run ha.run hb.run hs⟩
theorem qe_dget (hu : X.A.units + 1 < cLine) (ha : QE X a ta) (hb : QE X b tb) (hs : NoSl b) : QE X (.Subscript a b pos) (tDGet ta tb) := ⟨pe_dget hu ha.run hb.run hs⟩
/-! calls -/
theorem cq_len : CallQ X (.builtin "len") (fun xs H Q => ∃ x n, xs = [x] ∧ LenV X.K x H n ∧ Q (.int n) H) := ⟨call_len⟩
theorem cq_abs : CallQ X (.builtin "abs") (fun xs H Q => ∃ i, xs = [.int i] ∧ Q (.int (if i < 0 then -i else i)) H) := ⟨call_abs⟩
theorem cq_min2 (hc : X.calm = true) : CallQ X (.builtin "min") (fun xs H Q => ∃ i j, xs = [.int i, .int j] ∧ Q (.int (if j < i then j else i)) H) := ⟨call_min2 hc⟩
theorem cq_isinst : CallQ X (.builtin "isinstance") (fun xs H Q => ∃ x T t b, xs = [x, .ty T] ∧ TyOf X.K H x t ∧ PySem.W.kitOne X.K t (.type T) = some b ∧ Q (.bl b) H) := ⟨call_isinst⟩
theorem cq_all (hc : X.calm = true) : CallQ X (.builtin "all") (fun xs H Q => ∃ (p : Addr) (bs : List Bool), xs = [.ref p] ∧ H p = some (.lst (bs.map V.bl)) ∧ Q (.bl (bs.all id)) H) := ⟨call_all hc⟩
theorem cq_list_of : CallQ X (.type "list") (fun xs H Q => ∃ p ys, xs = [.ref p] ∧ (SqL X.K H p ys ∨ SqT X.K H p ys) ∧ ∀ l, H l = none → Q (.ref l) (upd H l (.lst ys))) := ⟨call_list_of⟩
theorem cq_tuple_of : CallQ X (.type "tuple") (fun xs H Q => ∃ p ys, xs = [.ref p] ∧ ((SqL X.K H p ys ∧ ∀ l, H l = none → Q (.ref l) (upd H l (.tup ys))) ∨ (SqT X.K H p ys ∧ Q (.ref p) H))) := ⟨call_tuple_of⟩
theorem qe_callB {id : String} {r : List V → Hp → VK → Prop} {x : Str} {ts : TA} (hc : CallQ X (.builtin id) r) (hg : Gl X x) (hm : X.mg x = none) (hv : bootBuiltins x = some (.builtin id)) (ha : QA X (e :: es) ts) (hn : x ≠ "__name__" := by decide) (hdb : (x == ("__debug__" : Str)) = false := by decide)
    (he : starEach (e :: es) X.env = (false, eval e X.env) :: starEach es X.env := by rfl) (hpl : (backTo pos (starEach es X.env)).any (·.1) = false := by rfl) : QE X (.Call (.Name x p) (e :: es) [] pos) (tCB r ts) := ⟨pe_callB hc.run hg hm hv ha.run hn hdb he hpl⟩
theorem qe_callTy {T : String} {r : List V → Hp → VK → Prop} {x : Str} {ts : TA} (hc : CallQ X (.type T) r) (hg : Gl X x) (hm : X.mg x = none) (hv : bootBuiltins x = some (.type T)) (ha : QA X (e :: es) ts) (hn : x ≠ "__name__" := by decide) (hdb : (x == ("__debug__" : Str)) = false := by decide)
    (he : starEach (e :: es) X.env = (false, eval e X.env) :: starEach es X.env := by rfl) (hpl : (backTo pos (starEach es X.env)).any (·.1) = false := by rfl) : QE X (.Call (.Name x p) (e :: es) [] pos) (tCB r ts) := ⟨pe_callTy hc.run hg hm hv ha.run hn hdb he hpl⟩
theorem qe_fn {x : Str} {st : Stmt} {ps : List Str} {f : Addr} {fd : FuncData} {sp : Sp} {j k : Nat} {ts : TA} (D : Dfn X.K X.mg x st ps f fd) (G : FnOk X.prog X.w X.K X.mg X.base CX0 j f fd ps sp) (hr : Room k X.A)
    (ha : QA X (e :: es) ts) (hjk : j ≤ k := by decide) (hg : Gl X x := by rfl) (hdb : (x == ("__debug__" : Str)) = false := by decide) (he : starEach (e :: es) X.env = (false, eval e X.env) :: starEach es X.env := by rfl) (hpl : (backTo pos (starEach es X.env)).any (·.1) = false := by rfl) :
    QE X (.Call (.Name x p) (e :: es) [] pos) (tCall sp [] E0 ts) := ⟨pe_fn D G hr ha.run hjk hg hdb he hpl⟩
/-! targets, iterators -/
theorem qg_name {i : Nat} {x : Str} (hN : X.N.Nodup) (hi : X.N[i]? = some x) (hx : Loc X.env.scope x) (hf : X.fn x = true ∨ X.env.scope.names.lookup x = some .local := by first | exact .inl rfl | exact .inr rfl | assumption) : QG X (.Name x pos) (gName i) := ⟨pg_name hN hi hx hf⟩
theorem qgs_nil : QGs X [] gNil := ⟨pgs_nil⟩
theorem qgs_cons {g : TG} {gs : TGs} (h1 : QG X e g) (h2 : QGs X es gs) (hs : (assignEach (e :: es) X.env).map (·.2) = assign e X.env :: (assignEach es X.env).map (·.2) := by rfl) : QGs X (e :: es) (gCons g gs) := ⟨pgs_cons h1.run h2.run hs⟩
theorem qg_tup {k : Nat} {gs : TGs} {n : Nat} (hc : X.calm = true) (h : QGs X es gs) (hn : (assignEach es X.env).length = n := by rfl) (hst : (assignEach es X.env).findIdx? (·.1) = none := by rfl) : QG X (.Tuple es k pos) (gTup X.K n gs) := ⟨pg_tup hc h.run hn hst⟩
theorem qi_list {tg : Expr} (hl : QE X e te) : QI X tg e (iList X.K te) := ⟨pi_list hl.run⟩
theorem qi_tup {tg : Expr} (hl : QE X e te) : QI X tg e (iTup X.K te) := ⟨pi_tup hl.run⟩
theorem qi_range1 {tg : Expr} {ts : TA} (hg : Gl X "range") (hm : X.mg "range" = none) (ha : QA X [a] ts) (hs : starEach [a] X.env = [(false, eval a X.env)] := by rfl) : QI X tg (.Call (.Name "range" p) [a] [] pos) (iRng1 ts) := ⟨pi_range1 hg hm ha.run hs⟩
/-! comprehensions -/
theorem qts_nil : QTs X [] tNoTest := ⟨pts_nil⟩
theorem qts_one (h : QT X c t) : QTs X [c] t := ⟨pts_one h.run⟩
theorem qe_comp {elt tg iter : Expr} {ifs : List Expr} {scope : Scope} {wi : TI} {g : TG} {ti : TT} {N : List Str} {cix : List (Option Nat)} (hc : X.calm = true) (c : CompOk X scope N cix)
    (hi : QI X tg iter wi) (hg : ∀ C s H ex, QG (compCx X scope N C s H ex) tg g) (ht : ∀ C s H ex, QTs (compCx X scope N C s H ex) ifs ti) (he : ∀ C s H ex, QE (compCx X scope N C s H ex) elt te)
    (hs : ∀ x, foldedSetIterable iter X.env x = pure x := by intro _; rfl) : QE X (.ListComp elt [⟨tg, iter, ifs, 0⟩] scope pos) (tComp wi g ti te cix) := ⟨pe_comp hc c hi.run (fun C s H ex => (hg C s H ex).run) (fun C s H ex => (ht C s H ex).run) (fun C s H ex => (he C s H ex).run) hs⟩
end
/-! statements -/
section
variable {X : Cx} {st : Stmt} {sts body a b : List Stmt} {t u : TS} {e o i : Expr} {te td ty tv : TE} {pos : Pos}
theorem qss_nil : QSs X [] tNext := ⟨pss_nil⟩
theorem qss_cons (h1 : QS X st t) (h2 : QSs X sts u) : QSs X (st :: sts) (tSeq t u) := ⟨pss_cons h1.run h2.run⟩
theorem qss_one (h1 : QS X st t) : QSs X [st] t := ⟨pss_one h1.run⟩
theorem qs_expr (he : QE X e te) (hs : swapsWith e none pos.line X.env = pure false := by rfl) : QS X (.Expr e pos) (tDrop te) := ⟨ps_expr he.run hs⟩
theorem qs_ret (he : QE X e te) : QS X (.Return (some e) pos) (tRet te) := ⟨ps_ret he.run⟩
theorem qs_if {c : Expr} {tc : TT} (hc : QT X c tc) (ha : QSs X a t) (hb : QSs X b u) : QS X (.If c a b pos) (tIfS tc t u) := ⟨ps_if hc.run ha.run hb.run⟩
theorem qs_set {i : Nat} {x : Str} {pos' : Pos} (hN : X.N.Nodup) (hi : X.N[i]? = some x) (hx : Loc X.env.scope x) (he : QE X e te) (hs : swapsWith e (some (.Name x pos')) pos.line X.env = pure false := by rfl) (hf : X.fn x = true ∨ X.env.scope.names.lookup x = some .local := by first | exact .inl rfl | exact .inr rfl | assumption) :
    QS X (.Assign [.Name x pos'] e pos) (tAsg te (gName i)) := ⟨ps_set hN hi hx he.run hs hf⟩
theorem qs_asg {tg : Expr} {g : TG} (he : QE X e te) (hg : QG X tg g) (hs : swapsWithSole [tg] e pos.line X.env = pure false := by rfl) (hw : swappedStores [tg] e X.env = pure none := by rfl)
    (h1 : (assignEach [tg] X.env).map (·.2) = [assign tg X.env] := by rfl) : QS X (.Assign [tg] e pos) (tAsg te g) := ⟨ps_asg he.run hg.run hs hw h1⟩
theorem qs_dput {pos' : Pos} (hu : X.A.units + 1 < cLine) (ho : QE X o td) (hi : QE X i ty) (hv : QE X e tv) (hs : swapsWith e (some (.Subscript o i pos')) pos.line X.env = pure false) : QS X (.Assign [.Subscript o i pos'] e pos) (sDPut td ty tv) := ⟨ps_dput hu ho.run hi.run hv.run hs⟩
theorem qs_for {tg iter : Expr} {wi : TI} {g : TG} (hp : PassesOwn (model X.prog X.w) X.A X.env X.xe) (hc : X.calm = true) (hi : QI X tg iter wi) (hg : QG X tg g) (hb : QSs X body t) (hs : ∀ x, foldedSetIterable iter X.env x = pure x := by intro _; rfl) : QS X (.For tg iter body [] pos) (tFor wi g t) := ⟨ps_for hp hc hi.run hg.run hb.run hs⟩
end
theorem Fun.okQ {P : Program} {w : World} {K : PySem.W.Frag} {mg : Str → Option Value} {base : Heap} {x qual : Str} {st : Stmt} {f : Addr} {fd : FuncData} {N ps : List Str} {k : Nat} {sp : Sp} (F : Fun K x qual st f fd) (S : FnScope N ps (defScope st)) (len : ∀ vs H Q E, sp vs H Q E → vs.length = ps.length)
    (hbody : ∀ (cdv : Value) (A : Around) (outer : List Env) (s : Shared) (H : Hp) (vs : List V) (Q : VK) (E : XK), Room k (A.deeper (envOfC qual (defScope st) s.heap.objs.size f cdv)) → sp vs H Q E →
      ∃ t, QSs (cxOf CX0 P w K mg base N qual (defScope st) f cdv A outer s H E).nox (defBody st) t ∧ t { nx := fun _ H' => Q .non H', rt := Q } (start N vs) H) : FnOk P w K mg base CX0 (k + 1) f fd ps sp :=
  F.ok S len fun cdv A outer s H vs Q E hr h => by
    obtain ⟨t, h1, h2⟩ := hbody cdv A outer s H vs Q E hr h
    exact ⟨t, h1.run, h2⟩
end L2


set_option Elab.async false
set_option linter.all false
set_option maxRecDepth 100000
namespace L2
open PySem PySem.Spec PyProof.Rows
theorem s_ca : ¬ (("cells" : Str) = "at") := by decide +kernel
theorem s_cl : ¬ (("cells" : Str) = "left") := by decide +kernel
theorem s_al : ¬ (("at" : Str) = "left") := by decide +kernel
theorem k_ca : ¬ (Sum.inr "cells" : Key) = (Sum.inr "at" : Key) := fun z => s_ca (Sum.inr.inj z)
theorem k_cl : ¬ (Sum.inr "cells" : Key) = (Sum.inr "left" : Key) := fun z => s_cl (Sum.inr.inj z)
theorem k_al : ¬ (Sum.inr "at" : Key) = (Sum.inr "left" : Key) := fun z => s_al (Sum.inr.inj z)
def penK (c : Addr) (a l : Int) : List (Key × V) := [(Sum.inr "cells", .ref c), (Sum.inr "at", .int a), (Sum.inr "left", .int l)]
theorem pen_c (c : Addr) (a l : Int) : valV (penK c a l) (Sum.inr "cells" : Key) = some (.ref c) := valV_pos rfl
theorem pen_a (c : Addr) (a l : Int) : valV (penK c a l) (Sum.inr "at" : Key) = some (.int a) := by
  unfold penK
  rw [valV_neg k_ca, valV_pos rfl]
theorem pen_l (c : Addr) (a l : Int) : valV (penK c a l) (Sum.inr "left" : Key) = some (.int l) := by
  unfold penK
  rw [valV_neg k_cl, valV_neg k_al, valV_pos rfl]
theorem pen_pa (c : Addr) (a l b : Int) : putK (penK c a l) (Sum.inr "at" : Key) (.int b) = penK c b l := by
  unfold putK penK
  have e1 := k_ca
  have e2 : ¬ (Sum.inr "left" : Key) = (Sum.inr "at" : Key) := fun z => k_al z.symm
  simp [e1, e2]
theorem pen_pl (c : Addr) (a l b : Int) : putK (penK c a l) (Sum.inr "left" : Key) (.int b) = penK c a b := by
  unfold putK penK
  have e1 := k_cl
  have e2 := k_al
  simp [e1, e2]
theorem pen_mk (c : Addr) (a l : Int) : mergeK [] (penK c a l) = penK c a l := by
  unfold mergeK penK
  have e1 := k_ca
  have e2 := k_cl
  have e3 := k_al
  simp [putK, e1, e2, e3]
/-- a pen: at most n cells are drawn, its cells are ns -/
structure Pen (H : Hp) (p c : Addr) (ns : List Int) (n : Nat) : Prop where
  ob : ∃ a l : Int, H p = some (.dK (penK c a l)) ∧ 0 ≤ a ∧ a ≤ n ∧ 0 ≤ l
  ls : H c = some (.lst (ns.map V.int))
  len : ns.length ≤ 63
theorem Pen.mono {H : Hp} {p c : Addr} {ns : List Int} {n m : Nat} (P : Pen H p c ns n) (h : n ≤ m) : Pen H p c ns m := by
  obtain ⟨⟨a, l, h1, h2, h3, h4⟩, h5, h6⟩ := P
  exact ⟨⟨a, l, h1, h2, by omega, h4⟩, h5, h6⟩
theorem Pen.same {H H' : Hp} {p c : Addr} {ns : List Int} {n : Nat} (P : Pen H p c ns n) (h : Same H H') : Pen H' p c ns n := by
  obtain ⟨⟨a, l, h1, h2, h3, h4⟩, h5, h6⟩ := P
  exact ⟨⟨a, l, h _ _ h1, h2, h3, h4⟩, h _ _ h5, h6⟩
theorem stay_pen {H : Hp} {p c : Addr} {a l : Int} {o : HO} (h : H p = some (.dK (penK c a l))) : Stay H (upd H p o) := fun b u e n => by
  by_cases hb : b = p
  · subst hb
    rw [h] at e
    cases e
    have := n _ rfl
    rw [pen_a] at this
    cases this
  · rw [upd_ne hb]; exact e
section
variable {H : Hp} {p c : Addr} {a l : Int}
theorem pen_gc (h : H p = some (.dK (penK c a l))) : DGet H p (.str "cells") (some (.ref c)) := by
  have := DGet.k (k := (Sum.inr "cells" : Key)) h
  rw [pen_c] at this
  exact this
theorem pen_ga (h : H p = some (.dK (penK c a l))) : DGet H p (.str "at") (some (.int a)) := by
  have := DGet.k (k := (Sum.inr "at" : Key)) h
  rw [pen_a] at this
  exact this
theorem pen_gl (h : H p = some (.dK (penK c a l))) : DGet H p (.str "left") (some (.int l)) := by
  have := DGet.k (k := (Sum.inr "left" : Key)) h
  rw [pen_l] at this
  exact this
theorem pen_sa (h : H p = some (.dK (penK c a l))) (b : Int) : DPut H p (.str "at") (.int b) (upd H p (.dK (penK c b l))) := by
  have := DPut.k (k := (Sum.inr "at" : Key)) (v := .int b) h (by show 3 < sizeLine; decide)
  rw [pen_pa] at this
  exact this
theorem pen_sl (h : H p = some (.dK (penK c a l))) (b : Int) : DPut H p (.str "left") (.int b) (upd H p (.dK (penK c a b))) := by
  have := DPut.k (k := (Sum.inr "left" : Key)) (v := .int b) h (by show 3 < sizeLine; decide)
  rw [pen_pl] at this
  exact this
end
theorem at_mod (ns : List Int) (a : Int) (h : 0 < ((ns.map V.int).length : Int)) : ∃ z, atI (ns.map V.int) (a % ((ns.map V.int).length : Int)) = some (.int z) := by
  have h0 := Int.emod_nonneg a (show ((ns.map V.int).length : Int) ≠ 0 by omega)
  have h1 := Int.emod_lt_of_pos a h
  generalize hm : a % ((ns.map V.int).length : Int) = m at h0 h1
  obtain ⟨j, rfl⟩ : ∃ j : Nat, m = j := ⟨m.toNat, by omega⟩
  have hj : j < ns.length := by rw [List.length_map] at h1; omega
  exact ⟨ns[j], atI_nat (by simp [hj])⟩
theorem at_prime (a : Int) : ∃ z, atI ([.int 2147483647, .int 2147483629, .int 2147483587, .int 2147483579, .int 2147483563, .int 2147483549, .int 2147483543] : List V) (a % 7) = some (.int z) ∧ 0 < z ∧ z ≤ 2147483647 := by
  have h0 := Int.emod_nonneg a (show (7 : Int) ≠ 0 by decide)
  have h1 := Int.emod_lt_of_pos a (show (0 : Int) < 7 by decide)
  generalize a % 7 = m at h0 h1
  obtain ⟨j, rfl⟩ : ∃ j : Nat, m = j := ⟨m.toNat, by omega⟩
  have hj : j = 0 ∨ j = 1 ∨ j = 2 ∨ j = 3 ∨ j = 4 ∨ j = 5 ∨ j = 6 := by omega
  rcases hj with rfl | rfl | rfl | rfl | rfl | rfl | rfl <;> exact ⟨_, atI_nat rfl, by decide, by decide⟩
theorem sq_bound {a : Int} {n : Nat} (h0 : 0 ≤ a) (h1 : a ≤ n) (h2 : n ≤ 1000000) : 0 ≤ 60013 * a * a ∧ 60013 * a * a ≤ 60013000000000000 := by
  have e : 60013 * a * a = 60013 * (a * a) := Int.mul_assoc _ _ _
  have m0 : 0 ≤ a * a := Int.mul_nonneg h0 h0
  have m1 : a * a ≤ 1000000 * 1000000 := Int.mul_le_mul (by omega) (by omega) h0 (by omega)
  rw [e]
  omega
theorem atI_mem {xs : List V} {i : Int} (h0 : 0 ≤ i) (h1 : i < xs.length) : ∃ v, atI xs i = some v ∧ v ∈ xs := by
  obtain ⟨j, rfl⟩ : ∃ j : Nat, i = j := ⟨i.toNat, by omega⟩
  have hj : j < xs.length := by omega
  exact ⟨xs[j], atI_nat (List.getElem?_eq_getElem hj), List.getElem_mem hj⟩
/-- two ways that go on alike: the rest is said once, for every letter -/
theorem meet {α : Type} {G : Prop} (P : α → Prop) (h : (∀ a, P a) → G) (r : ∀ a, P a) : G := h r
theorem meet0 {G : Prop} (P : Prop) (h : P → G) (r : P) : G := h r
/-- a draw -/
def spDraw : Sp := fun vs H Q _ => ∃ (p c : Addr) (ns : List Int) (n : Nat) (many : Int), vs = [.ref p, .int many] ∧ Pen H p c ns n ∧ n ≤ 1000000 ∧ 1 ≤ many ∧ many < 1073741824 ∧
  ∀ (r : Int) (H' : Hp), 0 ≤ r → r < many → Pen H' p c ns (n + 1) → Stay H H' → Q (.int r) H'
def spPen (K : PySem.W.Frag) : Sp := fun vs H Q _ => ∃ (a : Addr) (ns : List Int), vs = [.ref a] ∧ SqL K H a (ns.map V.int) ∧ ns.length ≤ 63 ∧ ∀ (p c : Addr) (H' : Hp), Pen H' p c ns 0 → Same H H' → Q (.ref p) H'
/-- the product -/
def prodI (ns : List Int) : Int := ns.foldl (· * ·) 1
theorem prodI_snoc (ns : List Int) (n : Int) : prodI (ns ++ [n]) = prodI ns * n := by unfold prodI; rw [List.foldl_append]; rfl
theorem take_succ_get {α : Type} {l : List α} {i : Nat} {x : α} (h : l[i]? = some x) : l.take (i + 1) = l.take i ++ [x] := by
  rw [List.take_succ, h]; rfl
def spProd : Sp := fun vs H Q _ => ∃ (a : Addr) (ns : List Int), vs = [.ref a] ∧ H a = some (.tup (ns.map V.int)) ∧ (∀ n ∈ ns, 2 ≤ n ∧ n ≤ 4) ∧ Q (.int (prodI ns)) H
def spWhole : Sp := fun vs H Q _ => ∃ (v : V) (d : Dt), vs = [v] ∧ Is H d v ∧ Q (.bl d.isWhole) H
def spTruth : Sp := fun vs H Q _ => ∃ (a b : Bool), vs = [.bl a, .bl b] ∧ Q (.bl (a == b)) H
def Dt.inBox : Dt → Bool
  | .int i => decide (2 ≤ i) && decide (i ≤ 4)
  | _ => false
def Dt.val : Dt → Int
  | .int i => i
  | _ => 0
/-- what a room is -/
def roomB : Dt → Bool
  | .tup l => decide (1 ≤ l.length) && decide (l.length ≤ 8) && l.all Dt.inBox && decide (prodI (l.map Dt.val) ≤ 256)
  | _ => false
/-- a room is drawn -/
def spMkRoom : Sp := fun vs H Q _ => ∃ (p c : Addr) (ns : List Int) (n : Nat) (most : Int), vs = [.ref p, .int most] ∧ Pen H p c ns n ∧ n + 20 ≤ 1000000 ∧ 4 ≤ most ∧ most ≤ 256 ∧
  ∀ (a : Addr) (rm : List Int) (H' : Hp), H' a = some (.tup (rm.map V.int)) → rm ≠ [] → rm.length ≤ 8 → (∀ r ∈ rm, 2 ≤ r ∧ r ≤ 4) → prodI rm ≤ most → Pen H' p c ns (n + 10) → Stay H H' → Q (.ref a) H'
/-- every item is some datum -/
def AllIs (H : Hp) (xs : List V) : Prop := ∀ x ∈ xs, ∃ d, Is H d x
theorem AllIs.dts {H : Hp} : ∀ {xs : List V}, AllIs H xs → ∃ ds, IsL H ds xs
  | [], _ => ⟨[], rfl⟩
  | x :: xs, h => by
    obtain ⟨d, hd⟩ := h x List.mem_cons_self
    obtain ⟨ds, hds⟩ := AllIs.dts (xs := xs) fun y hy => h y (List.mem_cons_of_mem _ hy)
    exact ⟨d :: ds, x, xs, rfl, hd, hds⟩
theorem AllIs.tup {H : Hp} {xs : List V} {a : Addr} (h : AllIs H xs) (ha : H a = some (.tup xs)) : ∃ d, Is H d (.ref a) := by
  obtain ⟨ds, hds⟩ := h.dts
  exact ⟨.tup ds, a, xs, rfl, ha, hds⟩
theorem AllIs.append {H : Hp} {xs ys : List V} (h : AllIs H xs) (k : AllIs H ys) : AllIs H (xs ++ ys) := fun x hx => by
  rcases List.mem_append.mp hx with z | z
  · exact h x z
  · exact k x z
theorem AllIs.stay {H H' : Hp} {xs : List V} (h : AllIs H xs) (s : Stay H H') : AllIs H' xs := fun x hx => by
  obtain ⟨d, hd⟩ := h x hx
  exact ⟨d, hd.stay s⟩
theorem AllIs.ints {H : Hp} {ns : List Int} : AllIs H (ns.map V.int) := fun x hx => by
  obtain ⟨n, _, rfl⟩ := List.mem_map.mp hx
  exact ⟨.int n, rfl⟩
theorem AllIs.one {H : Hp} {x : V} {d : Dt} (h : Is H d x) : AllIs H [x] := fun y hy => by
  rw [List.mem_singleton.mp hy]
  exact ⟨d, h⟩
/-- a law: a list of at most 63 ints comes in, True comes out -/
def spLaw (K : PySem.W.Frag) : Sp := fun vs H Q _ => ∃ (a : Addr) (ns : List Int), vs = [.ref a] ∧ SqL K H a (ns.map V.int) ∧ ns.length ≤ 63 ∧ ∀ H', Q (.bl true) H'
/-- of each thing it is known that it is no room -/
def NoRoom (H : Hp) (xs : List V) : Prop := ∀ x ∈ xs, ∃ d, Is H d x ∧ roomB d = false
theorem NoRoom.nil {H : Hp} : NoRoom H [] := fun _ h => by simp at h
theorem NoRoom.cons {H : Hp} {x : V} {xs : List V} {d : Dt} (hd : Is H d x) (hb : roomB d = false) (h : NoRoom H xs) : NoRoom H (x :: xs) := fun y hy => by
  rcases List.mem_cons.mp hy with rfl | hy
  · exact ⟨d, hd, hb⟩
  · exact h y hy
theorem NoRoom.append {H : Hp} {xs ys : List V} (h : NoRoom H xs) (k : NoRoom H ys) : NoRoom H (xs ++ ys) := fun y hy => by
  rcases List.mem_append.mp hy with hy | hy
  · exact h y hy
  · exact k y hy
theorem NoRoom.stay {H H' : Hp} {xs : List V} (h : NoRoom H xs) (s : Stay H H') : NoRoom H' xs := fun y hy => by
  obtain ⟨d, h1, h2⟩ := h y hy
  exact ⟨d, h1.stay s, h2⟩
theorem rep_flat (n : Int) (k : Nat) : (List.replicate k [V.int n]).flatten = (List.replicate k n).map V.int := by
  induction k with
  | zero => rfl
  | succ k ih => rw [List.replicate_succ, List.flatten_cons, ih, List.replicate_succ, List.map_cons]; rfl
/-- a comprehension's turn without a test -/
theorem noTest {g : TG} {x : V} {σ : St} {H : Hp} {A B : St → Hp → Prop} (h : g x σ H A) : g x σ H fun σ3 H3 => tNoTest σ3 H3 fun ok H4 => if ok = true then A σ3 H4 else B σ3 H4 := by
  have e : (fun σ3 H3 => tNoTest σ3 H3 fun ok H4 => if ok = true then A σ3 H4 else B σ3 H4) = A := by
    funext σ3 H3
    show (if true = true then A σ3 H3 else B σ3 H3) = A σ3 H3
    rw [if_pos rfl]
  rw [e]
  exact h
end L2


set_option Elab.async false
set_option linter.all false
set_option maxRecDepth 100000
namespace L2
open PySem PySem.Spec PyProof.Rows
/-! ### enumerate of a tuple -/
section
variable {prog : Program} {w : World} {A : Around} {E : Value → Shared → Prop} {s : Shared}
theorem nextOf_tuple_item {it t : Addr} {i : Nat} {items} {x : Value} {Q : Value → Shared → Prop} (hit : s.heap.IsTupleIter it t i) (ht : s.heap.IsTuple t items) (hx : items[i]? = some x)
    (hQ : ∀ h', h'.IsTupleIter it t (i + 1) → Heap.SameBut it s.heap h' → Q x { s with heap := h' }) : wpAny (model prog w) A (Builtin.SmallTypes.nextOf (.ref it)) Q E s := by
  obtain ⟨o, ho, hc, hd⟩ := id hit
  obtain ⟨ol, hol, _, nl, hdl⟩ := ht
  unfold Builtin.SmallTypes.nextOf
  refine wpAny_bind (wpAny_callSpecial?_slot (name := Str.ofString "__next__") hit.typeIs F.slot_tuple_iterator_next
    (wpAny_call_entry F.slot_tuple_iterator_next hit.typeIs F.entry_tuple_iterator_next ?_ (F.args_tuple_iterator_next_1 _)))
  show wpAny _ _ (field (.ref it) 0 >>= _) _ _ s
  refine wpAny_bind (wpAny_field ho hd (x := .ref t) rfl ?_)
  show wpAny _ _ (if (Value.ref t == Value.none) = true then _ else _) _ _ s
  rw [if_neg (show ¬ ((Value.ref t == Value.none) = true) from Bool.false_ne_true)]
  show wpAny _ _ (field (.ref it) 1 >>= _) _ _ s
  refine wpAny_bind (wpAny_field ho hd (x := .int i 0) rfl ?_)
  show wpAny _ _ (seqItems? (.ref t) >>= _) _ _ s
  refine wpAny_bind (wpAny_seqItems hol hdl ?_)
  simp only [Int.toNat_natCast, hx]
  refine wpAny_bind (wpAny_setField ho hd (by simp) (wpAny_pure ⟨x, rfl, wpAny_pure (hQ _ ?_ (Heap.SameBut.update ..))⟩))
  exact ⟨_, Heap.get?_update_self _ ho (Obj.isFreed_of_fields (Obj.data_mapFields hd _)), (Obj.cls_mapFields ..).trans hc, by
    rw [Obj.data_mapFields hd]; simp [rawInt]⟩
theorem nextOf_tuple_end {it t : Addr} {i : Nat} {items} {Q : Value → Shared → Prop} (hh : A.handled = none) (hit : s.heap.IsTupleIter it t i) (ht : s.heap.IsTuple t items) (hx : items[i]? = none)
    (hE : ∀ h' e, Heap.ExtBut it s.heap h' → (∃ o, h'.get? e = some o ∧ o.cls = .type "StopIteration") → E (.ref e) { s with heap := h' }) : wpAny (model prog w) A (Builtin.SmallTypes.nextOf (.ref it)) Q E s := by
  obtain ⟨o, ho, hc, hd⟩ := id hit
  obtain ⟨ol, hol, _, nl, hdl⟩ := ht
  unfold Builtin.SmallTypes.nextOf
  refine wpAny_bind (wpAny_callSpecial?_slot (name := Str.ofString "__next__") hit.typeIs F.slot_tuple_iterator_next
    (wpAny_call_entry F.slot_tuple_iterator_next hit.typeIs F.entry_tuple_iterator_next ?_ (F.args_tuple_iterator_next_1 _)))
  show wpAny _ _ (field (.ref it) 0 >>= _) _ _ s
  refine wpAny_bind (wpAny_field ho hd (x := .ref t) rfl ?_)
  show wpAny _ _ (if (Value.ref t == Value.none) = true then _ else _) _ _ s
  rw [if_neg (show ¬ ((Value.ref t == Value.none) = true) from Bool.false_ne_true)]
  show wpAny _ _ (field (.ref it) 1 >>= _) _ _ s
  refine wpAny_bind (wpAny_field ho hd (x := .int i 0) rfl ?_)
  show wpAny _ _ (seqItems? (.ref t) >>= _) _ _ s
  refine wpAny_bind (wpAny_seqItems hol hdl ?_)
  simp only [Int.toNat_natCast, hx]
  refine wpAny_bind (wpAny_rule (wpAny_bind (wpAny_setField ho hd (by simp) ?_)))
  show wpAny _ _ (newExc (.type "StopIteration") [] >>= _) _ _ _
  refine wpAny_bind ?_
  simp only [newExc, newTuple]
  refine wpAny_bind (wpAny_newObj_type ?_ (by size_fits))
  refine wpAny_bind (m := firstArgMember _ _) (wpAny_of_eq (a := Value.none) (by first | rfl | (simp only [firstArgMember]; rfl)) ?_)
  refine wpAny_newObj_type ?_ (by size_fits)
  simp only [raiseNew]
  refine wpAny_bind (wpAny_handled ?_)
  first | rw [show A.in1.handled = none from hh] | rw [hh]
  refine wpAny_bind (wpAny_pure (wpAny_throw ?_))
  exact hE _ _ (((Heap.SameBut.update ..).extBut.push _).push _) ⟨_, Heap.get?_push_size _ rfl, rfl⟩
theorem draws_tuple (hh : A.handled = none) (it l : Addr) (hne : l ≠ it) (items : Array Value) :
    Draws prog w A it [it, l] items.size (fun i v => items[i]? = some v) (fun i h => h.IsTupleIter it l i ∧ h.IsTuple l items) where
  live := fun _ _ st => let ⟨o, ho, _⟩ := st.1; ⟨o, ho⟩
  frame := fun _ _ _ st hk => ⟨let ⟨o, ho, r⟩ := st.1; ⟨o, hk it (by simp) o ho, r⟩, let ⟨o, ho, r⟩ := st.2; ⟨o, hk l (by simp) o ho, r⟩⟩
  item := fun i s Q E hi st hQ => by
    refine nextOf_tuple_item st.1 st.2 (x := items[i]) (by simp [hi]) fun h' hit' hs' => ?_
    exact hQ _ h' s.toks (by simp [hi]) ⟨hit', st.2.extBut hs'.extBut hne⟩ hs'
  done := fun s Q E st hE => nextOf_tuple_end hh st.1 st.2 (by simp) hE
theorem meets_enumerate_newT (l : Addr) (items : Array Value) (n : Nat) (dct : Option Addr) (sl : Array (Option Value)) :
    Meets (Builtin.«enumerate.__new__» ⟨[.type "enumerate", .ref l], []⟩) (fun _ R s => s.heap.get? l = some { cls := .type "tuple", dict := dct, data := .seq items n, slots := sl } ∧
      R (.ok (.ret (.ref (s.heap.push { cls := .type "tuple_iterator", data := .fields #[.ref l, .int 0 0] }).objs.size)))
        { s with heap := (s.heap.push { cls := .type "tuple_iterator", data := .fields #[.ref l, .int 0 0] }).push { cls := .type "enumerate", data := .fields #[.none, .bool false, .ref s.heap.objs.size, rawInt 0, .none, .none] } }) :=
  .of_wp fun prog w A R s h => by
    obtain ⟨hp, g, d, tk, os⟩ := s; obtain ⟨hl, h⟩ := h
    have hsub := sub_enumerate
    have hL : Heap.IsTuple (Shared.heap ⟨hp, g, d, tk, os⟩) l items := ⟨_, hl, rfl, n, rfl⟩
    wp_walk using AutoSeq1.wpAny_loadPart' hl
    refine wpAny_stack_any fun st => wpAny_pure ?_
    split
    · rename_i c _ _ _ _ _
      cases (c == Value.type "enumerate")
      · wp_walk using AutoSeq1.wpAny_loadPart' hl, wpAny_pyIter_tuple hL
        exact ⟨_, rfl, h⟩
      · wp_walk using AutoSeq1.wpAny_loadPart' hl, wpAny_pyIter_tuple hL
        exact ⟨_, rfl, h⟩
    · wp_walk using AutoSeq1.wpAny_loadPart' hl, wpAny_pyIter_tuple hL
      exact ⟨_, rfl, h⟩
theorem call_enumerate_tuple {l : Addr} {items : Array Value} {Q : Value → Shared → Prop} (hL : s.heap.IsTuple l items)
    (h : ∀ h', IsEnum h' (s.heap.objs.size + 1) s.heap.objs.size 0 .none → h'.IsTupleIter s.heap.objs.size l 0 → h'.objs.size = s.heap.objs.size + 2 →
      (∀ b o, s.heap.get? b = some o → h'.get? b = some o) → Q (.ref (s.heap.objs.size + 1)) { s with heap := h' }) :
    wpAny (model prog w) A (call (.type "enumerate") [.ref l]) Q E s := by
  obtain ⟨⟨c, dct, dt, sl⟩, hl, hc, n, hd⟩ := hL
  replace hc : c = .type "tuple" := hc
  replace hd : dt = .seq items n := hd
  subst hc hd
  refine callType_new F.called_enumerate (by decide) (F.typeCall_enumerate_1 _) (F.newCall_enumerate_1 _) (fun obj => F.args_object_init_2 obj _) F.entry_enumerate_new
    (meets_enumerate_newT l items n dct sl) ⟨hl, ?_⟩
  have hz : (s.heap.push { cls := .type "tuple_iterator", data := .fields #[.ref l, .int 0 0] }).objs.size = s.heap.objs.size + 1 := Heap.size_push ..
  show _ ∧ _
  rw [hz]
  have he : IsEnum ((s.heap.push { cls := .type "tuple_iterator", data := .fields #[.ref l, .int 0 0] }).push
      { cls := .type "enumerate", data := .fields #[.none, .bool false, .ref s.heap.objs.size, rawInt 0, .none, .none] }) (s.heap.objs.size + 1) s.heap.objs.size 0 .none := by
    have := Heap.get?_push_size (s.heap.push { cls := .type "tuple_iterator", data := .fields #[.ref l, .int 0 0] })
      (o := { cls := .type "enumerate", data := .fields #[.none, .bool false, .ref s.heap.objs.size, rawInt 0, .none, .none] }) rfl
    rw [hz] at this; exact this
  refine ⟨⟨_, he, rfl⟩, h _ he ⟨_, Heap.get?_push_of_some _ (Heap.get?_push_size _ rfl), rfl, rfl⟩ (by rw [Heap.size_push, hz]) fun b o x => Heap.get?_push_of_some _ (Heap.get?_push_of_some _ x)⟩
end
/-- (0, x0), (1, x1), .. of the tuple at a; each pair a new tuple -/
def Ite (K : PySem.W.Frag) (a : Addr) : It :=
  ⟨fun i H => ∃ xs x, SqT K H a xs ∧ xs[i]? = some x, fun i H v H' => ∃ T x, v = .ref T ∧ H T = none ∧ H' = upd H T (.tup [.int i, x]) ∧ ∀ xs, SqT K H a xs → xs[i]? = some x, fun i H => ∃ xs, SqT K H a xs ∧ xs.length ≤ i⟩
theorem turn_enum {P : Program} {w : World} {K : PySem.W.Frag} {elts : List Expr} {x1} {tpos : Pos} (a it e : Addr) (hei : e ≠ it) :
    Turn P w K (.Tuple elts x1 tpos) (Ite K a) [e, it] e (fun i h => (∃ old, IsEnum h e it i old) ∧ h.IsTupleIter it a i) where
  mem := by simp
  obj := fun i h st b hb => by
    rcases List.mem_cons.mp hb with rfl | hb
    · obtain ⟨⟨old, he⟩, _⟩ := st
      exact ⟨_, he, fun v z => by
        have z' : Data.fields _ = Data.cell v := z
        cases z'⟩
    · rw [List.mem_singleton.mp hb]
      obtain ⟨_, o, e, c, d⟩ := st
      exact ⟨o, e, fun v z => by rw [d] at z; cases z⟩
  keep := fun i h h' st k => by
    obtain ⟨⟨old, he⟩, o, ho, r⟩ := st
    exact ⟨⟨old, k e (by simp) _ he⟩, o, k it (by simp) _ ho, r⟩
  item := by
    intro X hP hw hK hc i pins s σ H E I hf st hg
    subst hP hw hK
    obtain ⟨xs, x, hq, hx⟩ := hg
    obtain ⟨its, rv, p, hz⟩ := I.tuple hq
    obtain ⟨u, hu, ru⟩ := rv.get hx
    obtain ⟨f0, f1, f2, f3, f4, f5⟩ := hf e (by simp)
    obtain ⟨g0, g1, g2, g3, g4, g5⟩ := hf it (by simp)
    obtain ⟨⟨old, he⟩, hit⟩ := st
    have hsz : i < its.toArray.size := by
      have := (List.getElem?_eq_some_iff.mp hu).1
      simpa using this
    have hai : a ≠ it := by
      intro z
      obtain ⟨o, ho, hcl, _⟩ := p
      obtain ⟨o', ho', hcl', _⟩ := hit
      rw [z, ho'] at ho
      cases ho
      rw [hcl'] at hcl
      exact absurd (Value.type.inj hcl) (by decide)
    have hea : e ≠ a := by
      intro z
      obtain ⟨o, ho, hcl, _⟩ := p
      rw [← z, he] at ho
      cases ho
      have : Value.type "enumerate" = Value.type "tuple" := hcl
      exact absurd (Value.type.inj this) (by decide)
    refine wpAny_pyNext_enum_itemD (draws_tuple (A := X.A.in1) (I.ok.hd hc) it a hai its.toArray) he ⟨hit, p⟩ hsz hei (by simp [hei, hea]) fun y h' tk hy ho hst hT hsz' hk => ?_
    have hy' : y = u := by
      have : its.toArray[i]? = some y := hy
      have : its[i]? = some y := by simpa using this
      rw [hu] at this
      exact (Option.some.inj this).symm
    subst hy'
    refine ⟨_, rfl, ?_⟩
    refine wpAny_letOwnedTupleGo_enum ho fun h'' he'' hs'' => ?_
    -- from s to h'': the records at e and it have turned, one tuple is new
    have hTe : s.heap.objs.size ≠ e := Nat.ne_of_gt (Heap.lt_size he)
    have hTi : s.heap.objs.size ≠ it := by
      obtain ⟨o, hoi, _⟩ := hit
      exact Nat.ne_of_gt (Heap.lt_size hoi)
    have hnone := I.hok.fresh (Nat.le_refl s.heap.objs.size)
    have kp : ∀ b o, b ≠ e → b ≠ it → s.heap.get? b = some o → h''.get? b = some o := fun b o h1 h2 hb => (hs''.2 b h1).trans (hk b o h1 h2 hb)
    have hT'' : h''.get? s.heap.objs.size = some { cls := .type "tuple", data := .seq #[.int i tk, y] } := (hs''.2 _ hTe).trans hT
    obtain ⟨oe, hoe⟩ : ∃ o, h''.get? e = some o := ⟨_, he''⟩
    obtain ⟨oi, hoi⟩ : ∃ o, h''.get? it = some o := by
      obtain ⟨⟨o, ho2, _⟩, _⟩ := hst
      exact ⟨o, (hs''.2 it (Ne.symm hei)).trans ho2⟩
    have objK : ∀ b u', H b = some u' → b ≠ e ∧ b ≠ it := fun b u' hb => ⟨ne_of_none hb f0, ne_of_none hb g0⟩
    have hok' : HOk X.prog X.w (upd H s.heap.objs.size (.tup [.int i, x])) h'' := by
      intro b u' hb
      by_cases hbT : b = s.heap.objs.size
      · subst hbT
        rw [upd_same] at hb
        cases hb
        exact ⟨by show 2 ≤ sizeLine; decide, [.int i tk, y], .cons ⟨tk, rfl⟩ (.cons ru .nil), _, hT'', rfl, ⟨0, rfl⟩, rfl⟩
      · rw [upd_ne hbT] at hb
        refine (I.hok b u' hb).stay (fun c v hcv q => ?_) (fun c q => ?_) (fun c ys q => ?_)
        · refine kp c v ?_ ?_ q
          · rcases hcv with rfl | hcv
            · exact (objK _ _ hb).1
            · exact ne_of_none hcv f0
          · rcases hcv with rfl | hcv
            · exact (objK _ _ hb).2
            · exact ne_of_none hcv g0
        · rw [upd_ne (ne_of_none q hnone)]; exact q
        · rw [upd_ne (ne_of_none q hnone)]; exact q
    have I1 : Inv X pins σ (upd H s.heap.objs.size (.tup [.int i, x])) { s with heap := h'', toks := tk + 1 } := by
      refine Inv.step (ch := [e, it]) (g' := s.gens) (d' := s.drawn) (t' := tk + 1) I (fun b hb => ?_) (fun b o h1 h2 h3 h4 h5 => ?_) (fun b o h1 h2 h3 h4 h5 => ?_) (fun b o h3 h4 h5 => ?_) (fun b o h3 h4 => ?_) (fun b ys q => ?_) (fun b o u' q => ?_) (fun b ps q => ?_) (fun m hm => ?_) hok' I.bare
      · rcases List.mem_cons.mp hb with rfl | hb
        · exact ⟨f3, f1, f4, f5⟩
        · rw [List.mem_singleton.mp hb]
          exact ⟨g3, g1, g4, g5⟩
      · exact kp b o (fun z => h3 (by simp [z])) (fun z => h3 (by simp [z])) h4
      · exact ⟨o.slots, kp b o (fun z => h3 (by simp [z])) (fun z => h3 (by simp [z])) h4⟩
      · rw [upd_ne (Nat.ne_of_lt (Heap.lt_size h4))]; exact h5
      · exact ⟨o, kp b o (fun z => h3 (by simp [z])) (fun z => h3 (by simp [z])) h4⟩
      · rw [upd_ne (ne_of_none q hnone)]; exact q
      · rw [upd_ne (ne_of_none q hnone)]; exact q
      · exact ⟨#[], by rw [upd_ne (ne_of_none q hnone), Array.append_empty]; exact q⟩
      · obtain ⟨o, es, ep, ho1, r1⟩ := hm
        exact ⟨o, es, ep, kp _ o (Ne.symm f1) (Ne.symm g1) ho1, r1⟩
    refine ⟨.ref s.heap.objs.size, _, I1, rfl, ⟨s.heap.objs.size, x, rfl, hnone, rfl, fun ys hy2 => by rw [I.tuple_inj hy2 hq]; exact hx⟩, ⟨⟨y, by have := he''; push_cast; exact this⟩, ?_⟩, fun b hb => ?_⟩
    · obtain ⟨⟨o, ho2, r2⟩, _⟩ := hst
      exact ⟨o, (hs''.2 it (Ne.symm hei)).trans ho2, r2⟩
    · rcases List.mem_cons.mp hb with rfl | hb
      · rw [upd_ne (Ne.symm hTe)]; exact f0
      · rw [List.mem_singleton.mp hb, upd_ne (Ne.symm hTi)]; exact g0
  done := by
    intro X hP hw hK hc i pins s σ H E I hf st hg
    subst hP hw hK
    obtain ⟨xs, hq, hx⟩ := hg
    obtain ⟨its, rv, p, hz⟩ := I.tuple hq
    obtain ⟨f0, f1, f2, f3, f4, f5⟩ := hf it (by simp)
    obtain ⟨⟨old, he⟩, hit⟩ := st
    have hl := rv.length
    have hT : s.TypeIs (.ref e) "enumerate" := ⟨_, he, rfl⟩
    unfold pyNext
    refine wpAny_bind (wpAny_attempt (wpAny_callSpecial?_slot (name := Str.ofString "__next__") hT F.slot_enumerate_next
      (wpAny_call_entry F.slot_enumerate_next hT F.entry_enumerate_next ?_ (F.args_enumerate_next_1 _))))
    show wpAny _ _ (field (.ref e) 2 >>= _) _ _ _
    refine wpAny_bind (wpAny_field he rfl (x := .ref it) rfl ?_)
    refine wpAny_bind (nextOf_tuple_end (A := X.A.in1) (I.ok.hd hc) hit p (by simp; omega) fun h' x he' hx' => ?_)
    obtain ⟨o, ho, hc'⟩ := hx'
    refine wpAny_bind (wpAny_isInstance (T := "StopIteration") (b := true) ⟨o, ho, hc'⟩ isSubtype_stop ?_)
    exact wpAny_pure ⟨rfl, I.turned (t' := s.toks) (fun b o hb e => he' b o hb e) f0 f1 f3 f4 f5⟩
  self := fun A i s Q E st h => by
    obtain ⟨⟨old, he⟩, hit⟩ := st
    exact wpAny_pyIter_enum he h
def iEnum (K : PySem.W.Frag) (ta : TA) : TI := fun σ H R => ta σ H fun vs H1 => ∃ a, vs = [.ref a] ∧ (∃ xs, SqT K H1 a xs) ∧ R (Ite K a) H1
theorem pi_enum {X : Cx} {elts : List Expr} {x1} {tpos : Pos} {a : Expr} {ta : TA} {p pos : Pos} (hg : Gl X "enumerate") (hm : X.mg "enumerate" = none) (ha : PA X [a] ta) (hs : starEach [a] X.env = [(false, eval a X.env)] := by rfl) :
    PI X (.Tuple elts x1 tpos) (.Call (.Name "enumerate" p) [a] [] pos) (iEnum X.K ta) := by
  intro pins s σ H R I h
  refine Call_ (ld_blt I hg hm boot_enumerate (PyProof.Rows.callWith_type1 (thn (ha pos pins s σ H _ I h) fun us s1 ⟨vs, H1, I1, r1, q1⟩ => ?_) hs rfl))
  obtain ⟨b, rfl, ⟨xs, hq⟩, q⟩ := q1
  obtain ⟨u, rfl, ru⟩ := vals1 r1
  cases ru
  obtain ⟨its, rv, pt, hz⟩ := I1.tuple hq
  refine call_enumerate_tuple (show s1.heap.IsTuple b its.toArray from pt) fun h' he hit hsz hk => ?_
  have I2 : Inv X pins σ H1 { s1 with heap := h', toks := s1.toks } := I1.kept (t' := s1.toks) hk
  refine wpAny_pyIter_enum he ?_
  refine ⟨s1.heap.objs.size + 1, [s1.heap.objs.size + 1, s1.heap.objs.size], _, _, H1, rfl, I2, turn_enum b s1.heap.objs.size (s1.heap.objs.size + 1) (Nat.succ_ne_self _), ⟨⟨_, he⟩, hit⟩, fun c hc => ?_, q⟩
  rcases List.mem_cons.mp hc with rfl | hc
  · exact I1.fpOk (Nat.le_succ _) (I1.hok.fresh (Nat.le_succ _))
  · rw [List.mem_singleton.mp hc]
    exact I1.fpOk (Nat.le_refl _) (I1.hok.fresh (Nat.le_refl _))
theorem qi_enum {X : Cx} {elts : List Expr} {x1} {tpos : Pos} {a : Expr} {ta : TA} {p pos : Pos} (hg : Gl X "enumerate") (hm : X.mg "enumerate" = none) (ha : QA X [a] ta) (hs : starEach [a] X.env = [(false, eval a X.env)] := by rfl) :
    QI X (.Tuple elts x1 tpos) (.Call (.Name "enumerate" p) [a] [] pos) (iEnum X.K ta) := ⟨pi_enum hg hm ha.run hs⟩
theorem for_enum {K : PySem.W.Frag} {a : Addr} {xs : List V} {g : TG} {tb : TS} {D : Ends} {σ : St} {H : Hp} (Pv : Nat → St → Hp → Prop) (h0 : Pv 0 σ H) (hl : ∀ i σ H, i ≤ xs.length → Pv i σ H → SqT K H a xs)
    (hs : ∀ i x T σ H, xs[i]? = some x → Pv i σ H → H T = none → g (.ref T) σ (upd H T (.tup [.int i, x])) fun σ2 H2 => tb { D with nx := Pv (i + 1), ct := Pv (i + 1), bk := D.nx } σ2 H2) (hd : ∀ σ H, Pv xs.length σ H → D.nx σ H) :
    ∃ W : Nat → Nat → St → Hp → Prop, (∃ m, W 0 m σ H) ∧ ∀ i m σ H, W i m σ H →
      ((Ite K a).stop i H ∧ D.nx σ H) ∨ ((Ite K a).go i H ∧ ∃ N : St → Hp → Prop, (∀ σ' H', N σ' H' → ∃ m', m' < m ∧ W (i + 1) m' σ' H') ∧ ∀ x H', (Ite K a).yld i H x H' → g x σ H' fun σ2 H2 => tb { D with nx := N, ct := N, bk := D.nx } σ2 H2) := by
  refine ⟨fun i m σ H => m = xs.length - i ∧ i ≤ xs.length ∧ Pv i σ H, ⟨xs.length, by simp, Nat.zero_le _, h0⟩, ?_⟩
  rintro i m σ H ⟨rfl, hi, p⟩
  have q := hl i σ H hi p
  by_cases hlt : i < xs.length
  · refine .inr ⟨⟨xs, xs[i], q, by simp [hlt]⟩, Pv (i + 1), fun σ' H' p' => ⟨xs.length - (i + 1), by omega, rfl, hlt, p'⟩, fun x H' y => ?_⟩
    obtain ⟨T, z, rfl, hT, rfl, y⟩ := y
    exact hs i z T σ H (y xs q) p hT
  · have e : i = xs.length := by omega
    subst e
    exact .inl ⟨⟨xs, q, Nat.le_refl _⟩, hd σ H p⟩
/-! ### xs.append(e) -/
end L2


set_option Elab.async false
set_option linter.all false
set_option maxRecDepth 100000
namespace L2
open PySem PySem.Spec PyProof.Rows
/-! ### == of data -/
mutual
def Dt.toW : Dt → PySem.W.Dat
  | .non => .none
  | .bl b => .bool b
  | .int i => .int i
  | .str x => .str x
  | .tup l => .tuple (Dt.toWs l)
  | .lst l => .list (Dt.toWs l)
  | .dct => .bytes #[]
def Dt.toWs : List Dt → List PySem.W.Dat
  | [] => []
  | d :: ds => d.toW :: Dt.toWs ds
end
mutual
theorem toW_inj : ∀ {d e : Dt}, d.toW = e.toW → d = e
  | .non, e, h => by cases e <;> simp [Dt.toW] at h ⊢
  | .bl b, e, h => by cases e <;> simp [Dt.toW] at h ⊢; exact h
  | .int b, e, h => by cases e <;> simp [Dt.toW] at h ⊢; exact h
  | .str b, e, h => by cases e <;> simp [Dt.toW] at h ⊢; exact h
  | .tup l, e, h => by
    cases e with
    | tup m => simp only [Dt.toW, PySem.W.Dat.tuple.injEq] at h; rw [toWs_inj h]
    | _ => simp [Dt.toW] at h
  | .lst l, e, h => by
    cases e with
    | lst m => simp only [Dt.toW, PySem.W.Dat.list.injEq] at h; rw [toWs_inj h]
    | _ => simp [Dt.toW] at h
  | .dct, e, h => by cases e <;> simp [Dt.toW] at h ⊢
theorem toWs_inj : ∀ {l m : List Dt}, Dt.toWs l = Dt.toWs m → l = m
  | [], m, h => by cases m <;> simp [Dt.toWs] at h ⊢
  | d :: l, m, h => by
    cases m with
    | nil => simp [Dt.toWs] at h
    | cons e m =>
      simp only [Dt.toWs, List.cons.injEq] at h
      rw [toW_inj h.1, toWs_inj h.2]
end
/-- data that == takes: at most eight deep, no truths, no dicts -/
def Dt.eqOk (d : Dt) : Prop := PySem.W.kqdOk 8 d.toW = true
section
variable {P : Program} {w : World} {H : Hp} {h : Heap}
mutual
theorem is_reads (ok : HOk P w H h) : ∀ (n : Nat) {d : Dt} {v : V} {u : Value}, Is H d v → RelV v u → PySem.W.kqdOk n d.toW = true → ∃ as, Reads h u (PySem.W.kqdP d.toW) as
  | _, .non, _, _, h1, r, _ => by cases h1; cases r; exact ⟨_, Reads.none⟩
  | n, .bl b, _, _, _, _, k => by cases n <;> simp [Dt.toW, PySem.W.kqdOk] at k
  | _, .int i, _, _, h1, r, _ => by cases h1; obtain ⟨t, rfl⟩ := r; exact ⟨_, Reads.int i t⟩
  | _, .str x, _, _, h1, r, _ => by cases h1; obtain ⟨t, rfl⟩ := r; exact ⟨_, Reads.str x t⟩
  | 0, .tup l, _, _, _, _, k => by simp [Dt.toW, PySem.W.kqdOk] at k
  | n + 1, .tup l, _, _, h1, r, k => by
    obtain ⟨a, xs, rfl, ha, hl⟩ := h1
    cases r
    obtain ⟨_, its, rv, o, ho, hc, ⟨m, hd⟩, _⟩ := ok a _ ha
    obtain ⟨as, q⟩ := is_readsAll ok n hl rv (by simpa [Dt.toW, PySem.W.kqdOk] using k)
    exact ⟨as, reads_tuple_at ho hc hd (by simpa using q)⟩
  | 0, .lst l, _, _, _, _, k => by simp [Dt.toW, PySem.W.kqdOk] at k
  | n + 1, .lst l, _, _, h1, r, k => by
    obtain ⟨a, xs, rfl, ha, hl⟩ := h1
    cases r
    obtain ⟨_, its, m, rv, e⟩ := ok a _ ha
    obtain ⟨as, q⟩ := is_readsAll ok n hl rv (by simpa [Dt.toW, PySem.W.kqdOk] using k)
    exact ⟨_, reads_list_at e rfl rfl (by simpa using q)⟩
  | n, .dct, _, _, _, _, k => by cases n <;> simp [Dt.toW, PySem.W.kqdOk] at k
theorem is_readsAll (ok : HOk P w H h) : ∀ (n : Nat) {ds : List Dt} {xs : List V} {us : List Value}, IsL H ds xs → Vals xs us → (∀ d ∈ Dt.toWs ds, PySem.W.kqdOk n d = true) → ∃ as, ReadsAll h us (PySem.W.kqdPs (Dt.toWs ds)) as
  | _, [], _, _, h1, r, _ => by cases h1; cases r; exact ⟨_, ReadsAll.nil⟩
  | n, d :: ds, _, _, h1, r, k => by
    obtain ⟨x, xr, rfl, hd, hr⟩ := h1
    cases r with
    | cons rx rr =>
      obtain ⟨as, q⟩ := is_reads ok n hd rx (k _ (by simp [Dt.toWs]))
      obtain ⟨bs, q2⟩ := is_readsAll ok n hr rr fun e he => k e (by simp [Dt.toWs, he])
      exact ⟨_, ReadsAll.cons q q2⟩
end
end
theorem eqOk_shaped {d : Dt} (h : d.eqOk) : SeqAt.shaped (PySem.W.kqdP d.toW) = true := by
  have l := PySem.W.kqd_lay 8 _ h
  unfold SeqAt.shaped
  rw [l.1, Bool.true_and]
  exact decide_eq_true (Nat.le_trans l.2 (by decide))
def rEqD : R2 := fun x y H Q => ∃ d e, Is H d x ∧ Is H e y ∧ d.eqOk ∧ e.eqOk ∧ ∀ b : Bool, (b = true ↔ d = e) → Q (.bl b) H
def rNeD : R2 := fun x y H Q => ∃ d e, Is H d x ∧ Is H e y ∧ d.eqOk ∧ e.eqOk ∧ ∀ b : Bool, (b = true ↔ d = e) → Q (.bl (!b)) H
section
variable {X : Cx}
theorem eqv_iff {d e : Dt} (h1 : d.eqOk) (h2 : e.eqOk) : PyData.eqv (PySem.W.kqdP d.toW) (PySem.W.kqdP e.toW) = true ↔ d = e :=
  (PySem.W.kqd_eqv 8 d.toW e.toW 8 h1 h2).trans ⟨toW_inj, fun z => by rw [z]⟩
theorem op_eqD (hu : X.A.units + 64 < cLine) : OpR X (compareOp .Eq) rEqD := by
  intro pins s σ H x y v u Q I rx ry h
  obtain ⟨d, e, hd, he, kd, ke, q⟩ := h
  obtain ⟨as, ra⟩ := is_reads I.hok 8 hd rx kd
  obtain ⟨bs, rb⟩ := is_reads I.hok 8 he ry ke
  exact eq_dataH ra rb (eqOk_shaped kd) (eqOk_shaped ke) hu ⟨.bl _, H, I, rfl, q _ (eqv_iff kd ke)⟩
theorem op_neD (hu : X.A.units + 64 < cLine) : OpR X (compareOp .NotEq) rNeD := by
  intro pins s σ H x y v u Q I rx ry h
  obtain ⟨d, e, hd, he, kd, ke, q⟩ := h
  obtain ⟨as, ra⟩ := is_reads I.hok 8 hd rx kd
  obtain ⟨bs, rb⟩ := is_reads I.hok 8 he ry ke
  exact ne_dataH ra rb (eqOk_shaped kd) (eqOk_shaped ke) hu ⟨.bl _, H, I, rfl, q _ (eqv_iff kd ke)⟩
theorem oq_eqD (hu : X.A.units + 64 < cLine) : OpQ X (compareOp .Eq) rEqD := ⟨op_eqD hu⟩
theorem oq_neD (hu : X.A.units + 64 < cLine) : OpQ X (compareOp .NotEq) rNeD := ⟨op_neD hu⟩
/-- xs.append(e) -/
theorem qe_app {o e : Expr} {to : TE} {t : TA} {apos cpos : Pos} (ho : QE X o to) (ha : QA X [e] t) (hbase : attributeBase o "append" X.env (eval o X.env) = eval o X.env := by rfl)
    (hfew : ((backTo cpos (starEach [e] X.env)).all (fun x => !x.1) && (backToKw cpos (keywordEach [] X.env)).all (fun x => x.1.isSome) && decide (([e] : List Expr).length + ([] : List Keyword).length + (if ([] : List Keyword).isEmpty then 0 else 1) < 30)) = true := by rfl)
    (hline : (apos.endLine == cpos.line) = true := by rfl) (hs : starEach [e] X.env = (false, eval e X.env) :: starEach [] X.env := by rfl) (hplain : (backTo cpos (starEach [] X.env)).any (·.1) = false := by rfl) :
    QE X (.Call (.Attribute o "append" apos) [e] [] cpos) (tBM X.K "list" rAppend to t) := ⟨pe_bm PySem.F.plainAttrs_list PySem.F.slot_list_append PySem.F.type_list_append mt_append ho.run ha.run hbase hfew hline hs hplain⟩
end
end L2


set_option Elab.async false
set_option linter.all false
set_option maxRecDepth 100000
namespace L2
open PySem PySem.Spec PyProof.Rows
/-- a room stands at ra -/
structure RoomAt (H : Hp) (ra : Addr) (rm : List Int) : Prop where
  at' : H ra = some (.tup (rm.map V.int))
  ne : rm ≠ []
  few : rm.length ≤ 8
  box : ∀ r ∈ rm, 2 ≤ r ∧ r ≤ 4
theorem RoomAt.stay {H H' : Hp} {ra : Addr} {rm : List Int} (h : RoomAt H ra rm) (s : Stay H H') : RoomAt H' ra rm := ⟨s.tup h.at', h.ne, h.few, h.box⟩
theorem RoomAt.pos {H : Hp} {ra : Addr} {rm : List Int} (h : RoomAt H ra rm) : 1 ≤ rm.length := by
  cases rm with
  | nil => exact absurd rfl h.ne
  | cons _ _ => simp
def many (rm : List Int) (i : Int) : Int := rm.getD i.toNat 0
theorem RoomAt.get {H : Hp} {ra : Addr} {rm : List Int} (h : RoomAt H ra rm) {i : Int} (h0 : 0 ≤ i) (h1 : i < rm.length) : atI (rm.map V.int) i = some (.int (many rm i)) ∧ 2 ≤ many rm i ∧ many rm i ≤ 4 := by
  obtain ⟨j, rfl⟩ : ∃ j : Nat, i = j := ⟨i.toNat, by omega⟩
  have hj : j < rm.length := by omega
  have e : many rm (j : Int) = rm[j] := by unfold many; simp [hj]
  rw [e]
  exact ⟨atI_nat (by simp [hj]), h.box _ (List.getElem_mem hj)⟩
def boxOk (rm : List Int) : Dt → Bool
  | .int i => decide (0 ≤ i) && decide (i < rm.length)
  | _ => false
def worthOk (rm : List Int) (i : Int) : Dt → Bool
  | .int j => decide (0 ≤ j) && decide (j < many rm i)
  | _ => false
def choiceB (rm : List Int) : Dt → Bool
  | .tup [a, b] => boxOk rm a && worthOk rm a.val b
  | _ => false
def headV : Dt → Int
  | .tup (a :: _) => a.val
  | _ => 0
def givenF (rm : List Int) : Int → List Dt → Bool
  | _, [] => true
  | last, d :: r => choiceB rm d && decide (last < headV d) && givenF rm (headV d) r
def givenB (rm : List Int) : Dt → Bool
  | .tup l => givenF rm (-1) l
  | _ => false
def pairD (q : Int × Int) : Dt := .tup [.int q.1, .int q.2]
/-- a given: boxes rise, worths are within -/
structure Giv (rm : List Int) (g : List (Int × Int)) : Prop where
  ok : ∀ q ∈ g, 0 ≤ q.1 ∧ q.1 < rm.length ∧ 0 ≤ q.2 ∧ q.2 < many rm q.1
  up : g.Pairwise fun a b => a.1 < b.1
theorem giv_ok {rm : List Int} : ∀ {g : List (Int × Int)} {last : Int}, Giv rm g → (∀ q ∈ g, last < q.1) → givenF rm last (g.map pairD) = true
  | [], _, _, _ => rfl
  | q :: g, last, h, hl => by
    have hq := h.ok q List.mem_cons_self
    have hu := List.pairwise_cons.mp h.up
    have ih := giv_ok (g := g) (last := q.1) ⟨fun x hx => h.ok x (List.mem_cons_of_mem _ hx), hu.2⟩ hu.1
    have h1 := hl q List.mem_cons_self
    show (choiceB rm (pairD q) && decide (last < headV (pairD q)) && givenF rm (headV (pairD q)) (g.map pairD)) = true
    have e1 : choiceB rm (pairD q) = true := by
      show (boxOk rm (.int q.1) && worthOk rm q.1 (.int q.2)) = true
      simp only [boxOk, worthOk, Bool.and_eq_true, decide_eq_true_eq]
      exact ⟨⟨hq.1, hq.2.1⟩, hq.2.2.1, hq.2.2.2⟩
    have e2 : headV (pairD q) = q.1 := rfl
    rw [e1, e2, ih]
    simp [h1]
theorem Giv.givenB {rm : List Int} {g : List (Int × Int)} (h : Giv rm g) : givenB rm (.tup (g.map pairD)) = true := giv_ok h fun q hq => by have := (h.ok q hq).1; omega
theorem eqOk_pairs {g : List (Int × Int)} : (Dt.tup (g.map pairD)).eqOk ∧ (Dt.lst (g.map pairD)).eqOk := by
  have e : ∀ g : List (Int × Int), (Dt.toWs (g.map pairD)).all (PySem.W.kqdOk 7) = true := by
    intro g
    induction g with
    | nil => rfl
    | cons n ns ih => simp only [List.map_cons, Dt.toWs, List.all_cons, ih, Bool.and_true]; rfl
  exact ⟨e g, e g⟩
/-! data without lists stay where the tuples stay -/
def StayT (H H' : Hp) : Prop := ∀ b xs, H b = some (.tup xs) → H' b = some (.tup xs)
theorem StayT.app {H : Hp} {a : Addr} {xs ys : List V} (h : H a = some (.lst xs)) : StayT H (upd H a (.lst ys)) := fun b zs e => by
  by_cases hb : b = a
  · subst hb; rw [h] at e; cases e
  · rw [upd_ne hb]; exact e
mutual
def Dt.noL : Dt → Bool
  | .tup l => Dt.noLs l
  | .lst _ => false
  | .dct => false
  | _ => true
def Dt.noLs : List Dt → Bool
  | [] => true
  | d :: ds => d.noL && Dt.noLs ds
end
mutual
theorem Is.stayT {H H1 : Hp} (a : StayT H H1) : ∀ {d : Dt} {v : V}, d.noL = true → Is H d v → Is H1 d v
  | .non, _, _, h => h
  | .bl _, _, _, h => h
  | .int _, _, _, h => h
  | .str _, _, _, h => h
  | .tup l, _, n, h => by
    obtain ⟨p, xs, e, hp, hl⟩ := h
    exact ⟨p, xs, e, a _ _ hp, IsL.stayT a (by simpa [Dt.noL] using n) hl⟩
  | .lst l, _, n, _ => by simp [Dt.noL] at n
  | .dct, _, n, _ => by simp [Dt.noL] at n
theorem IsL.stayT {H H1 : Hp} (a : StayT H H1) : ∀ {ds : List Dt} {xs : List V}, Dt.noLs ds = true → IsL H ds xs → IsL H1 ds xs
  | [], _, _, h => h
  | d :: ds, _, n, h => by
    obtain ⟨x, r, e, hd, hr⟩ := h
    have n' : d.noL = true ∧ Dt.noLs ds = true := by simpa [Dt.noLs] using n
    exact ⟨x, r, e, Is.stayT a n'.1 hd, IsL.stayT a n'.2 hr⟩
end
theorem noL_pairs : ∀ g : List (Int × Int), Dt.noLs (g.map pairD) = true
  | [] => rfl
  | q :: g => by
    show (Dt.noL (pairD q) && Dt.noLs (g.map pairD)) = true
    rw [noL_pairs g]
    rfl
theorem Giv.snoc {rm : List Int} {g : List (Int × Int)} {i w : Int} (h : Giv rm g) (hl : ∀ q ∈ g, q.1 < i) (h0 : 0 ≤ i) (h1 : i < rm.length) (h2 : 0 ≤ w) (h3 : w < many rm i) : Giv rm (g ++ [(i, w)]) := by
  refine ⟨fun q hq => ?_, List.pairwise_append.mpr ⟨h.up, List.pairwise_singleton _ _, fun a ha b hb => ?_⟩⟩
  · rcases List.mem_append.mp hq with z | z
    · exact h.ok q z
    · rw [List.mem_singleton.mp z]; exact ⟨h0, h1, h2, h3⟩
  · rw [List.mem_singleton.mp hb]; exact hl a ha
theorem Pen.app {H : Hp} {p c fa : Addr} {ns : List Int} {n : Nat} {xs ys : List V} (P : Pen H p c ns n) (hf : H fa = some (.lst xs)) (hc : c ≠ fa) : Pen (upd H fa (.lst ys)) p c ns n := by
  obtain ⟨⟨a, l, h1, h2, h3, h4⟩, h5, h6⟩ := P
  have hp : p ≠ fa := fun e => by subst e; rw [hf] at h1; cases h1
  exact ⟨⟨a, l, by rw [upd_ne hp]; exact h1, h2, h3, h4⟩, by rw [upd_ne hc]; exact h5, h6⟩
theorem stay_app {H H1 : Hp} {fa : Addr} {o : HO} (s : Stay H H1) (hf : ∀ b o, H b = some o → (∀ kvs, o = .dK kvs → valV kvs (Sum.inr "at" : Key) = none) → b ≠ fa) : Stay H (upd H1 fa o) := fun b u e nn => by
  rw [upd_ne (hf b u e nn)]; exact s b u e nn
theorem IsL.all {H : Hp} : ∀ {ds : List Dt} {xs : List V}, IsL H ds xs → AllIs H xs
  | [], _, h => by cases h; exact fun x hx => by simp at hx
  | d :: ds, _, h => by
    obtain ⟨x, r, rfl, hd, hr⟩ := h
    intro y hy
    rcases List.mem_cons.mp hy with rfl | hy
    · exact ⟨d, hd⟩
    · exact IsL.all hr y hy
/-! promises -/
def spMkGiven : Sp := fun vs H Q _ => ∃ (p c ra : Addr) (ns rm : List Int) (n : Nat) (apart : Int), vs = [.ref p, .ref ra, .int apart] ∧ Pen H p c ns n ∧ n + 40 ≤ 1000000 ∧ RoomAt H ra rm ∧
  ∀ (a : Addr) (g : List (Int × Int)) (H' : Hp), Is H' (.tup (g.map pairD)) (.ref a) → Giv rm g → (∀ q ∈ g, q.1 ≠ apart) → g.length ≤ 8 → Pen H' p c ns (n + 30) → Stay H H' → Q (.ref a) H'
end L2


set_option Elab.async false
set_option linter.all false
set_option maxRecDepth 100000
/-! What is new lies at some new place of some later heap: no text of the heap is carried on. -/
namespace L2
open PySem PySem.Spec PyProof.Rows
/-- what holds of every later heap with o at a new place -/
def New (H : Hp) (o : HO) (R : V → Hp → Prop) : Prop := ∀ (p : Addr) (H' : Hp), H p = none → H' p = some o → Same H H' → R (.ref p) H'
theorem New.at {H : Hp} {o : HO} {R : V → Hp → Prop} (h : New H o R) {p : Addr} (hp : H p = none) : R (.ref p) (upd H p o) := h p _ hp upd_same (Same.upd hp)
def tTupN (t : TA) : TE := fun σ H Q => t σ H fun xs H1 => xs.length ≤ sizeLine ∧ New H1 (.tup xs) Q
def tLstN (t : TA) : TE := fun σ H Q => t σ H fun xs H1 => xs.length ≤ sizeLine ∧ New H1 (.lst xs) Q
section
variable {X : Cx} {es : List Expr} {t : TA} {pos : Pos}
theorem pe_tupN {x1} (h : PA X es t) : PE X (.Tuple es x1 pos) (tTupN t) := by
  intro pins s σ H Q I hq
  refine wpAny_Tuple_spliced (thn (h pos pins s σ H _ I hq) fun us s1 ⟨xs, H1, I1, r, z, q⟩ => ⟨by rw [← r.length]; exact z, ?_⟩)
  have hf : H1 s1.heap.objs.size = none := I1.hok.fresh (Nat.le_refl _)
  refine ⟨.ref s1.heap.objs.size, upd H1 s1.heap.objs.size (.tup xs), I1.laid (t' := s1.toks) (fun b u e => Heap.get?_push_of_some _ e) (Nat.le_refl _) ?_, rfl, q.at hf⟩
  exact ⟨z, us, r, ⟨_, Heap.get?_push_size _ rfl, rfl, ⟨_, rfl⟩, rfl⟩⟩
theorem pe_lstN (h : PA X es t) : PE X (.List es pos) (tLstN t) := by
  intro pins s σ H Q I hq
  refine wpAny_List_spliced (thn (h pos pins s σ H _ I hq) fun us s1 ⟨xs, H1, I1, r, z, q⟩ => ⟨by rw [← r.length]; exact z, ?_⟩)
  have hf : H1 s1.heap.objs.size = none := I1.hok.fresh (Nat.le_refl _)
  refine ⟨.ref s1.heap.objs.size, upd H1 s1.heap.objs.size (.lst xs), I1.laid (t' := s1.toks) (fun b u e => Heap.get?_push_of_some _ e) (Nat.le_refl _) ?_, rfl, q.at hf⟩
  exact ⟨z, us, 0, r, Heap.get?_push_size _ rfl⟩
theorem qe_tupN {x1} (h : QA X es t) : QE X (.Tuple es x1 pos) (tTupN t) := ⟨pe_tupN h.run⟩
theorem qe_lstN (h : QA X es t) : QE X (.List es pos) (tLstN t) := ⟨pe_lstN h.run⟩
theorem CallQ.weak {f : Value} {r r' : List V → Hp → VK → Prop} (h : CallQ X f r) (k : ∀ xs H Q, r' xs H Q → r xs H Q) : CallQ X f r' := ⟨fun pins s σ H xs us Q I rr z => h.run pins s σ H xs us Q I rr (k _ _ _ z)⟩
theorem OpQ.weak {f : Value → Value → Sem Value} {r r' : R2} (h : OpQ X f r) (k : ∀ x y H Q, r' x y H Q → r x y H Q) : OpQ X f r' := ⟨fun pins s σ H x y v u Q I rx ry z => h.run pins s σ H x y v u Q I rx ry (k _ _ _ _ z)⟩
def rListN (K : PySem.W.Frag) : List V → Hp → VK → Prop := fun xs H Q => ∃ p ys, xs = [.ref p] ∧ (SqL K H p ys ∨ SqT K H p ys) ∧ New H (.lst ys) Q
def rTupleN (K : PySem.W.Frag) : List V → Hp → VK → Prop := fun xs H Q => ∃ p ys, xs = [.ref p] ∧ ((SqL K H p ys ∧ New H (.tup ys) Q) ∨ (SqT K H p ys ∧ Q (.ref p) H))
theorem cq_list_ofN : CallQ X (.type "list") (rListN X.K) := cq_list_of.weak fun xs H Q ⟨p, ys, e, h, n⟩ => ⟨p, ys, e, h, fun l hl => n.at hl⟩
theorem cq_tuple_ofN : CallQ X (.type "tuple") (rTupleN X.K) := cq_tuple_of.weak fun xs H Q ⟨p, ys, e, h⟩ => ⟨p, ys, e, h.elim (fun ⟨a, n⟩ => .inl ⟨a, fun l hl => n.at hl⟩) .inr⟩
end
/-! comprehensions, by a word of each turn -/
def compT (g : TG) (ti : TT) (te : TE) (acc : Addr) (N : St → Hp → Prop) (x : V) (σ : St) (H : Hp) : Prop :=
  g x σ H fun σ3 H3 => ti σ3 H3 fun ok H4 => if ok = true then te σ3 H4 fun v H5 => ∃ xs, H5 acc = some (.lst xs) ∧ xs.length < sizeLine ∧ N σ3 (upd H5 acc (.lst (xs ++ [v]))) else N σ3 H4
def compG (J : It) (g : TG) (ti : TT) (te : TE) (acc : Addr) (Q : VK) (σ : St) (H : Hp) : Prop := ∃ W : Nat → Nat → St → Hp → Prop, (∃ m, W 0 m σ H) ∧
  ∀ i m σ' H', W i m σ' H' → (J.stop i H' ∧ Q (.ref acc) H') ∨ (J.go i H' ∧ ∃ N : St → Hp → Prop, (∀ σ2 H2, N σ2 H2 → ∃ m', m' < m ∧ W (i + 1) m' σ2 H2) ∧ ∀ x H2, J.yld i H' x H2 → compT g ti te acc N x σ' H2)
def tCompG (wi : TI) (g : TG) (ti : TT) (te : TE) (cix : List (Option Nat)) : TE := fun σ H Q => wi σ H fun J H1 => ∀ acc, H1 acc = none → compG J g ti te acc Q (capS σ cix) (upd H1 acc (.lst []))
theorem qe_compG {X : Cx} {pos : Pos} {te : TE} {elt tg iter : Expr} {ifs : List Expr} {scope : Scope} {wi : TI} {g : TG} {ti : TT} {N : List Str} {cix : List (Option Nat)} (hc : X.calm = true) (c : CompOk X scope N cix)
    (hi : QI X tg iter wi) (hg : ∀ C s H ex, QG (compCx X scope N C s H ex) tg g) (ht : ∀ C s H ex, QTs (compCx X scope N C s H ex) ifs ti) (he : ∀ C s H ex, QE (compCx X scope N C s H ex) elt te)
    (hs : ∀ x, foldedSetIterable iter X.env x = pure x := by intro _; rfl) : QE X (.ListComp elt [⟨tg, iter, ifs, 0⟩] scope pos) (tCompG wi g ti te cix) := qe_comp hc c hi hg ht he hs
section
variable {K : PySem.W.Frag} {a acc : Addr} {xs : List V} {g : TG} {ti : TT} {te : TE} {σ : St} {H : Hp} {Q : VK}
theorem comp_tup (hacc : H acc = none) (Pv : Nat → St → Hp → Prop) (h0 : ∀ H', H' acc = some (.lst []) → Same H H' → Pv 0 σ H') (hl : ∀ i σ H, i ≤ xs.length → Pv i σ H → SqT K H a xs)
    (hs : ∀ i x σ H, xs[i]? = some x → Pv i σ H → compT g ti te acc (Pv (i + 1)) x σ H) (hd : ∀ σ H, Pv xs.length σ H → Q (.ref acc) H) : compG (Itt K a) g ti te acc Q σ (upd H acc (.lst [])) := by
  refine ⟨fun i m σ H => m = xs.length - i ∧ i ≤ xs.length ∧ Pv i σ H, ⟨xs.length, by simp, Nat.zero_le _, h0 _ upd_same (Same.upd hacc)⟩, ?_⟩
  rintro i m σ H ⟨rfl, hi, p⟩
  have q := hl i σ H hi p
  by_cases hlt : i < xs.length
  · refine .inr ⟨⟨xs, xs[i], q, by simp [hlt]⟩, Pv (i + 1), fun σ' H' p' => ⟨xs.length - (i + 1), by omega, rfl, hlt, p'⟩, fun x H' y => ?_⟩
    obtain ⟨e, y⟩ := y
    subst e
    exact hs i x σ _ (y xs q) p
  · have e : i = xs.length := by omega
    subst e
    exact .inl ⟨⟨xs, q, Nat.le_refl _⟩, hd σ H p⟩
end
/-- a comprehension's turn without a test -/
theorem compNo {g : TG} {te : TE} {acc : Addr} {N : St → Hp → Prop} {x : V} {σ : St} {H : Hp} (h : g x σ H fun σ3 H3 => te σ3 H3 fun v H5 => ∃ xs, H5 acc = some (.lst xs) ∧ xs.length < sizeLine ∧ N σ3 (upd H5 acc (.lst (xs ++ [v])))) : compT g tNoTest te acc N x σ H := noTest h
theorem same_acc {H H1 : Hp} {acc : Addr} {o : HO} (h : H acc = none) (s : Same H H1) : Same H (upd H1 acc o) := fun b u e => by rw [upd_ne (ne_of_none e h)]; exact s b u e
theorem stay_acc {H H1 : Hp} {acc : Addr} {o : HO} (h : H acc = none) (s : Stay H H1) : Stay H (upd H1 acc o) := fun b u e nn => by rw [upd_ne (ne_of_none e h)]; exact s b u e nn
theorem IsL.rep {H : Hp} {d : Dt} {v : V} (h : Is H d v) : ∀ n : Nat, IsL H (List.replicate n d) (List.replicate n [v]).flatten
  | 0 => rfl
  | n + 1 => by
    rw [List.replicate_succ, List.replicate_succ, List.flatten_cons]
    exact ⟨v, _, rfl, h, IsL.rep h n⟩
/-- of each thing it is known that it is nothing of some kind -/
def NoneOf (H : Hp) (B : Dt → Bool) (xs : List V) : Prop := ∀ x ∈ xs, ∃ d, Is H d x ∧ B d = false
theorem NoneOf.nil {H : Hp} {B : Dt → Bool} : NoneOf H B [] := fun _ h => by simp at h
theorem NoneOf.cons {H : Hp} {B : Dt → Bool} {x : V} {xs : List V} {d : Dt} (hd : Is H d x) (hb : B d = false) (h : NoneOf H B xs) : NoneOf H B (x :: xs) := fun y hy => by
  rcases List.mem_cons.mp hy with rfl | hy
  · exact ⟨d, hd, hb⟩
  · exact h y hy
/-! rules within a comprehension: the text's fragment by its own name -/
section
variable {X : Cx} (K : PySem.W.Frag) (h : X.K = K)
include h
theorem oq_catAK : OpQ X (binaryOp .Add) (rCatA K) := h ▸ oq_catA
end
theorem qg_tupK {X : Cx} (K : PySem.W.Frag) (hK : X.K = K) {es : List Expr} {pos : Pos} {k : Nat} {gs : TGs} {n : Nat} (hc : X.calm = true) (h : QGs X es gs) (hn : (assignEach es X.env).length = n := by rfl) (hst : (assignEach es X.env).findIdx? (·.1) = none := by rfl) : QG X (.Tuple es k pos) (gTup K n gs) := hK ▸ qg_tup hc h hn hst
theorem qi_tupK {X : Cx} (K : PySem.W.Frag) (hK : X.K = K) {e tg : Expr} {te : TE} (hl : QE X e te) : QI X tg e (iTup K te) := hK ▸ qi_tup hl
theorem qi_listK {X : Cx} (K : PySem.W.Frag) (hK : X.K = K) {e tg : Expr} {te : TE} (hl : QE X e te) : QI X tg e (iList K te) := hK ▸ qi_list hl
end L2


set_option Elab.async false
set_option linter.all false
set_option maxRecDepth 100000
namespace L2
open PySem PySem.Spec PyProof.Rows
/-! wishes and books -/
structure Wi where
  g : List (Int × Int)
  b : Int
  r : Int
  w : Int
def wishD (x : Wi) : Dt := .tup [.tup (x.g.map pairD), .int x.b, .int x.r, .int x.w]
structure WishOk (rm : List Int) (x : Wi) : Prop where
  giv : Giv rm x.g
  b0 : 0 ≤ x.b
  b1 : x.b < rm.length
  apart : ∀ q ∈ x.g, q.1 ≠ x.b
  r0 : 0 ≤ x.r
  r1 : x.r < many rm x.b
  w0 : 0 ≤ x.w
  w1 : x.w < many rm x.b
  ne : x.r ≠ x.w
def heads : Dt → List Int
  | .tup l => l.map headV
  | _ => []
def wishB (rm : List Int) : Dt → Bool
  | .tup [g, b, r, w] => givenB rm g && boxOk rm b && !(heads g).contains b.val && (worthOk rm b.val r && worthOk rm b.val w && !(decide (r.val = w.val)))
  | _ => false
def bookB (rm : List Int) : Dt → Bool
  | .tup l => decide (l.length ≤ 600) && l.all (wishB rm)
  | _ => false
theorem heads_pairs (g : List (Int × Int)) : heads (.tup (g.map pairD)) = g.map (·.1) := by
  show (g.map pairD).map headV = _
  rw [List.map_map]
  rfl
theorem WishOk.wishB {rm : List Int} {x : Wi} (h : WishOk rm x) : wishB rm (wishD x) = true := by
  have e1 : boxOk rm (.int x.b) = true := by
    show (decide (0 ≤ x.b) && decide (x.b < (rm.length : Int))) = true
    rw [decide_eq_true h.b0, decide_eq_true h.b1]; rfl
  have e2 : worthOk rm x.b (.int x.r) = true := by
    show (decide (0 ≤ x.r) && decide (x.r < many rm x.b)) = true
    rw [decide_eq_true h.r0, decide_eq_true h.r1]; rfl
  have e3 : worthOk rm x.b (.int x.w) = true := by
    show (decide (0 ≤ x.w) && decide (x.w < many rm x.b)) = true
    rw [decide_eq_true h.w0, decide_eq_true h.w1]; rfl
  have e4 : (heads (.tup (x.g.map pairD))).contains x.b = false := by
    rw [heads_pairs, Bool.eq_false_iff]
    intro z
    have z' := List.contains_iff_mem.mp z
    obtain ⟨q, hq, e⟩ := List.mem_map.mp z'
    exact h.apart q hq e
  show (givenB rm (.tup (x.g.map pairD)) && boxOk rm (.int x.b) && !(heads (.tup (x.g.map pairD))).contains x.b && (worthOk rm x.b (.int x.r) && worthOk rm x.b (.int x.w) && !(decide (x.r = x.w)))) = true
  rw [h.giv.givenB, e1, e2, e3, e4, decide_eq_false h.ne]
  rfl
/-! each of some things is a datum of some kind -/
def AllOf (H : Hp) (R : Dt → Prop) (xs : List V) : Prop := ∀ x ∈ xs, ∃ d, Is H d x ∧ R d
section
variable {H H' : Hp} {R : Dt → Prop} {xs ys : List V}
theorem AllOf.nil : AllOf H R [] := fun _ h => by simp at h
theorem AllOf.cons {x : V} {d : Dt} (hd : Is H d x) (hr : R d) (h : AllOf H R xs) : AllOf H R (x :: xs) := fun y hy => by
  rcases List.mem_cons.mp hy with rfl | hy
  · exact ⟨d, hd, hr⟩
  · exact h y hy
theorem AllOf.append (h : AllOf H R xs) (k : AllOf H R ys) : AllOf H R (xs ++ ys) := fun x hx => by
  rcases List.mem_append.mp hx with z | z
  · exact h x z
  · exact k x z
theorem AllOf.sub (h : AllOf H R xs) (k : ∀ y ∈ ys, y ∈ xs) : AllOf H R ys := fun x hx => h x (k x hx)
theorem AllOf.rep (h : AllOf H R xs) (n : Nat) : AllOf H R (List.replicate n xs).flatten := h.sub fun y hy => by
  obtain ⟨l, hl, hy⟩ := List.mem_flatten.mp hy
  rw [List.eq_of_mem_replicate hl] at hy
  exact hy
theorem AllOf.stay (h : AllOf H R xs) (s : Stay H H') : AllOf H' R xs := fun x hx => by
  obtain ⟨d, hd, hr⟩ := h x hx
  exact ⟨d, hd.stay s, hr⟩
theorem AllOf.stayT (h : AllOf H R xs) (s : StayT H H') (hn : ∀ d, R d → d.noL = true) : AllOf H' R xs := fun x hx => by
  obtain ⟨d, hd, hr⟩ := h x hx
  exact ⟨d, hd.stayT s (hn d hr), hr⟩
theorem AllOf.dts : ∀ {xs : List V}, AllOf H R xs → ∃ ds, IsL H ds xs ∧ ∀ d ∈ ds, R d
  | [], _ => ⟨[], rfl, fun _ h => by simp at h⟩
  | x :: xs, h => by
    obtain ⟨d, hd, hr⟩ := h x List.mem_cons_self
    obtain ⟨ds, hds, hrs⟩ := AllOf.dts (xs := xs) fun y hy => h y (List.mem_cons_of_mem _ hy)
    exact ⟨d :: ds, ⟨x, xs, rfl, hd, hds⟩, fun e he => by
      rcases List.mem_cons.mp he with rfl | he
      · exact hr
      · exact hrs e he⟩
end
def IsWish (rm : List Int) (d : Dt) : Prop := ∃ x, d = wishD x ∧ WishOk rm x
theorem noL_wish (x : Wi) : (wishD x).noL = true := by
  show Dt.noLs [.tup (x.g.map pairD), .int x.b, .int x.r, .int x.w] = true
  show (Dt.noLs (x.g.map pairD) && _) = true
  rw [noL_pairs]
  rfl
theorem IsWish.noL {rm : List Int} {d : Dt} (h : IsWish rm d) : d.noL = true := by
  obtain ⟨x, rfl, _⟩ := h
  exact noL_wish x
theorem IsWish.b {rm : List Int} {d : Dt} (h : IsWish rm d) : wishB rm d = true := by
  obtain ⟨x, rfl, h⟩ := h
  exact h.wishB
theorem kqd_wish (x : Wi) : PySem.W.kqdOk 7 (wishD x).toW = true := by
  have e : ∀ g : List (Int × Int), (Dt.toWs (g.map pairD)).all (PySem.W.kqdOk 5) = true := by
    intro g
    induction g with
    | nil => rfl
    | cons n ns ih => simp only [List.map_cons, Dt.toWs, List.all_cons, ih, Bool.and_true]; rfl
  show ((Dt.toWs (x.g.map pairD)).all (PySem.W.kqdOk 5) && _) = true
  rw [e]
  rfl
theorem eqOk_wishes {rm : List Int} {ds : List Dt} (h : ∀ d ∈ ds, IsWish rm d) : (Dt.tup ds).eqOk ∧ (Dt.lst ds).eqOk := by
  have e : ∀ ds : List Dt, (∀ d ∈ ds, IsWish rm d) → (Dt.toWs ds).all (PySem.W.kqdOk 7) = true := by
    intro ds
    induction ds with
    | nil => intro _; rfl
    | cons n ns ih =>
      intro h
      obtain ⟨x, rfl, _⟩ := h n List.mem_cons_self
      simp only [Dt.toWs, List.all_cons, ih fun d hd => h d (List.mem_cons_of_mem _ hd), kqd_wish x, Bool.and_true]
  exact ⟨e ds h, e ds h⟩
theorem bookB_true {rm : List Int} {ds : List Dt} (h : ∀ d ∈ ds, IsWish rm d) (hl : ds.length ≤ 600) : bookB rm (.tup ds) = true := by
  show (decide (ds.length ≤ 600) && ds.all (wishB rm)) = true
  rw [decide_eq_true hl, Bool.true_and, List.all_eq_true]
  exact fun d hd => (h d hd).b
/-- boxes rise: a given has no more tuples than the room boxes -/
theorem giv_len {m : Int} : ∀ {g : List (Int × Int)} {lo : Int}, (∀ q ∈ g, lo ≤ q.1 ∧ q.1 < m) → (g.Pairwise fun a b => a.1 < b.1) → lo ≤ m → (g.length : Int) ≤ m - lo
  | [], lo, _, _, h => by simp; omega
  | q :: g, lo, h, hp, hm => by
    have h1 := h q List.mem_cons_self
    have hp' := List.pairwise_cons.mp hp
    have ih := giv_len (g := g) (lo := q.1 + 1) (fun x hx => ⟨by have := hp'.1 x hx; omega, (h x (List.mem_cons_of_mem _ hx)).2⟩) hp'.2 (by omega)
    rw [List.length_cons]
    omega
theorem giv_few {rm : List Int} {g : List (Int × Int)} (h : Giv rm g) (h8 : rm.length ≤ 8) : g.length ≤ 100 := by
  have := giv_len (g := g) (lo := 0) (m := rm.length) (fun q hq => ⟨(h.ok q hq).1, (h.ok q hq).2.1⟩) h.up (by omega)
  omega
/-! promises -/
end L2


set_option Elab.async false
set_option linter.all false
set_option maxRecDepth 100000
namespace L2
open PySem PySem.Spec PyProof.Rows
theorem WishOk.drop {rm : List Int} {x : Wi} (h : WishOk rm x) (k : Nat) : WishOk rm { x with g := x.g.drop k } :=
  ⟨⟨fun q hq => h.giv.ok q (List.mem_of_mem_drop hq), h.giv.up.sublist (List.drop_sublist _ _)⟩, h.b0, h.b1, fun q hq => h.apart q (List.mem_of_mem_drop hq), h.r0, h.r1, h.w0, h.w1, h.ne⟩
theorem WishOk.turn {rm : List Int} {x : Wi} (h : WishOk rm x) : WishOk rm { x with r := x.w, w := x.r } :=
  ⟨h.giv, h.b0, h.b1, h.apart, h.w0, h.w1, h.r0, h.r1, fun e => h.ne e.symm⟩
section
variable {rm : List Int} {g b r w : Dt}
end
/-- a tuple of wishes is a book -/
theorem AllOf.book {H : Hp} {rm : List Int} {xs : List V} {a : Addr} (h : AllOf H (IsWish rm) xs) (ha : H a = some (.tup xs)) (hl : xs.length ≤ 600) : ∃ d, Is H d (.ref a) ∧ bookB rm d = true ∧ d.eqOk := by
  obtain ⟨ds, hds, hw⟩ := h.dts
  exact ⟨.tup ds, ⟨a, xs, rfl, ha, hds⟩, bookB_true hw (by rw [← hds.length]; exact hl), (eqOk_wishes hw).1⟩
mutual
theorem Is.one {H : Hp} : ∀ {d e : Dt} {v : V}, Is H d v → Is H e v → d = e
  | .non, e, _, h, k => by cases h; cases e <;> first | rfl | (cases k; done) | (obtain ⟨_, _, z, _⟩ := k; cases z)
  | .bl b, e, _, h, k => by cases h; cases e <;> first | (cases k; rfl) | (cases k; done) | (obtain ⟨_, _, z, _⟩ := k; cases z)
  | .int b, e, _, h, k => by cases h; cases e <;> first | (cases k; rfl) | (cases k; done) | (obtain ⟨_, _, z, _⟩ := k; cases z)
  | .str b, e, _, h, k => by cases h; cases e <;> first | (cases k; rfl) | (cases k; done) | (obtain ⟨_, _, z, _⟩ := k; cases z)
  | .tup l, e, _, h, k => by
    obtain ⟨a, xs, rfl, ha, hl⟩ := h
    cases e with
    | tup m =>
      obtain ⟨b, ys, z, hb, hm⟩ := k
      cases z
      rw [ha] at hb
      cases hb
      rw [IsL.oneL hl hm]
    | lst m => obtain ⟨b, ys, z, hb, hm⟩ := k; cases z; rw [ha] at hb; cases hb
    | dct => obtain ⟨b, ys, z, hb, hm⟩ := k; cases z; rw [ha] at hb; cases hb
    | _ => cases k
  | .lst l, e, _, h, k => by
    obtain ⟨a, xs, rfl, ha, hl⟩ := h
    cases e with
    | lst m =>
      obtain ⟨b, ys, z, hb, hm⟩ := k
      cases z
      rw [ha] at hb
      cases hb
      rw [IsL.oneL hl hm]
    | tup m => obtain ⟨b, ys, z, hb, hm⟩ := k; cases z; rw [ha] at hb; cases hb
    | dct => obtain ⟨b, ys, z, hb, hm⟩ := k; cases z; rw [ha] at hb; cases hb
    | _ => cases k
  | .dct, e, _, h, k => by
    obtain ⟨a, xs, rfl, ha, hl⟩ := h
    cases e with
    | tup m => obtain ⟨b, ys, z, hb, hm⟩ := k; cases z; rw [ha] at hb; cases hb
    | lst m => obtain ⟨b, ys, z, hb, hm⟩ := k; cases z; rw [ha] at hb; cases hb
    | dct => rfl
    | _ => cases k
theorem IsL.oneL {H : Hp} : ∀ {ds es : List Dt} {xs : List V}, IsL H ds xs → IsL H es xs → ds = es
  | [], es, _, h, k => by
    cases h
    cases es with
    | nil => rfl
    | cons _ _ => obtain ⟨_, _, z, _⟩ := k; cases z
  | d :: ds, es, _, h, k => by
    obtain ⟨x, r, rfl, hd, hr⟩ := h
    cases es with
    | nil => cases k
    | cons e es =>
      obtain ⟨y, r', z, he, hr'⟩ := k
      cases z
      rw [Is.one hd he, IsL.oneL hr hr']
end
theorem AllOf.all {H : Hp} {R : Dt → Prop} {xs : List V} (h : AllOf H R xs) : AllIs H xs := fun x hx => by
  obtain ⟨d, hd, _⟩ := h x hx
  exact ⟨d, hd⟩
end L2


set_option Elab.async false
set_option linter.all false
set_option maxRecDepth 100000
/-! t[::-1], xs[i] = v, and more -/
namespace HT
open PySem PySem.Spec PyProof.Rows
section
variable {prog : Program} {w : World} {A : Around} {E : Value → Shared → Prop} {s : Shared}
theorem adjust_rev (n : Nat) : Builtin.Slice.sliceAdjust none none (-1) (n : Int) = ((n : Int) - 1, -1) := by
  unfold Builtin.Slice.sliceAdjust
  simp
theorem places_rev (n : Nat) : Builtin.Slice.slicePlaces ((n : Int) - 1) (-1) (-1) = n := by
  unfold Builtin.Slice.slicePlaces
  have h1 : ¬ ((-1 : Int) > 0) := by omega
  simp only [h1, if_false]
  have e : - (-1 : Int) = 1 := rfl
  rw [e, Int.ediv_one]
  split <;> omega
theorem fm_congr {α β : Type} {f g : α → Option β} : ∀ {l : List α}, (∀ m ∈ l, f m = g m) → l.filterMap f = l.filterMap g
  | [], _ => rfl
  | a :: l, h => by rw [List.filterMap_cons, List.filterMap_cons, h a List.mem_cons_self, fm_congr fun m hm => h m (List.mem_cons_of_mem _ hm)]
theorem pick_rev (xs : Array Value) : ((List.range xs.size).filterMap fun (m : Nat) => xs[((xs.size : Int) - 1 + (m : Int) * (-1)).toNat]?).toArray = xs.toList.reverse.toArray := by
  congr 1
  have e : ∀ m ∈ List.range xs.size, xs[((xs.size : Int) - 1 + (m : Int) * (-1)).toNat]? = some (xs.toList.reverse.getD m .none) := by
    intro m hm
    have hm' := List.mem_range.mp hm
    have e1 : ((xs.size : Int) - 1 + (m : Int) * (-1)).toNat = xs.size - 1 - m := by omega
    rw [e1]
    have h2 : xs.size - 1 - m < xs.size := by omega
    rw [Array.getElem?_eq_getElem h2]
    congr 1
    rw [List.getD_eq_getElem?_getD, List.getElem?_reverse (by rw [Array.length_toList]; exact hm'), Array.length_toList, Array.getElem?_toList, Array.getElem?_eq_getElem h2]
    rfl
  rw [fm_congr e]
  rw [List.filterMap_eq_map' (f := fun m => xs.toList.reverse.getD m .none)]
  refine List.ext_getElem? fun i => ?_
  rw [List.getElem?_map]
  by_cases hi : i < xs.size
  · rw [List.getElem?_range hi]
    show some (xs.toList.reverse.getD i .none) = _
    have hl : i < xs.toList.reverse.length := by rw [List.length_reverse, Array.length_toList]; exact hi
    rw [List.getD_eq_getElem?_getD, List.getElem?_eq_getElem hl]
    rfl
  · rw [List.getElem?_eq_none (by rw [List.length_range]; omega), List.getElem?_eq_none (by rw [List.length_reverse, Array.length_toList]; omega)]
    rfl
theorem sliceApplied_rev {sl : Addr} {t : Tok} {n : Nat} {Q : Int × Int × Nat → Shared → Prop} (hs : s.heap.IsSliceOf sl .none .none (.int (-1) t)) (h : Q ((n : Int) - 1, -1, n) s) : wpAny (model prog w) A (Builtin.Slice.sliceApplied (.ref sl) (pure (n : Int))) Q E s := by
  obtain ⟨os, hos, hcs, hds⟩ := id hs
  unfold Builtin.Slice.sliceApplied Builtin.Slice.sliceFields
  refine wpAny_bind (wpAny_bind (wpAny_field hos hds (x := .none) rfl (wpAny_bind (wpAny_field hos hds (x := .none) rfl (wpAny_bind (wpAny_field hos hds (x := .int (-1) t) rfl (wpAny_pure ?_)))))))
  refine wpAny_bind (slicePart_ (.int (-1) t) ?_)
  show wpAny _ _ (if ((-1 : Int) == 0) = true then _ else _) _ _ s
  rw [if_neg (by decide)]
  refine wpAny_bind (slicePart_ .none (wpAny_bind (slicePart_ .none (wpAny_bind (wpAny_pure ?_)))))
  show wpAny _ _ (match Builtin.Slice.sliceAdjust none none (-1) (n : Int) with | (lo, hi) => pure (lo, (-1 : Int), Builtin.Slice.slicePlaces lo hi (-1))) _ _ s
  rw [adjust_rev n]
  show wpAny _ _ (pure ((n : Int) - 1, (-1 : Int), Builtin.Slice.slicePlaces ((n : Int) - 1) (-1) (-1))) _ _ s
  rw [places_rev]
  exact wpAny_pure h
theorem getItem_tuple_rev {t sl : Addr} {items : Array Value} {tk : Tok} {Q : Value → Shared → Prop} (ht : IsTup s.heap t items) (hs : s.heap.IsSliceOf sl .none .none (.int (-1) tk))
    (h : Q (.ref s.heap.objs.size) { s with heap := s.heap.push { cls := .type "tuple", data := .seq items.toList.reverse.toArray } })
    (hsz : items.size ≤ sizeLine) : wpAny (model prog w) A (getItem (.ref t) (.ref sl)) Q E s := by
  have htake : sizeOk (.seq items.toList.reverse.toArray) := by
    show items.toList.reverse.toArray.size ≤ sizeLine
    rw [List.size_toArray, List.length_reverse, Array.length_toList]
    exact hsz
  obtain ⟨os, hos, hcs, hds⟩ := id hs
  have hTs : s.TypeIs (.ref sl) "slice" := ⟨os, hos, hcs⟩
  unfold getItem
  try with_reducible refine wpAny_holding ?_
  first | refine wpAny_bind (wpAny_pure ?_) | skip
  refine wpAny_bind (wpAny_sequenceKey ht.typeIs (by decide) ?_)
  refine wpAny_bind (wpAny_callSpecial?_slot (name := Str.ofString "__getitem__") ht.typeIs PyProof.Rows.slot_tuple_getitem
    (wpAny_call_entry PyProof.Rows.slot_tuple_getitem ht.typeIs entry_tuple_getitem ?_ (args_tuple_getitem _ _)))
  show wpAny _ _ (Builtin.Tuple.tupleItemsOf (.ref t) >>= _) _ _ s
  refine wpAny_bind (tupleItemsOf_ ht ?_)
  refine wpAny_bind (wpAny_typeOf hTs ?_)
  rw [if_pos (by decide)]
  refine wpAny_bind (sliceApplied_rev hs ?_)
  have hno : ¬ ((((items.size : Int) - 1) == 0 && (-1 : Int) == 1 && items.size == items.size) = true) := by
    intro q
    rw [Bool.and_eq_true, Bool.and_eq_true] at q
    exact absurd q.1.2 (by decide)
  show wpAny _ _ (if (((items.size : Int) - 1) == 0 && (-1 : Int) == 1 && items.size == items.size) = true then _ else _) _ _ s
  rw [if_neg hno, pick_rev]
  first
    | exact wpAny_bind (m := Builtin.Tuple.tupleExact _) (wpAny_newObj_type (wpAny_pure ⟨_, rfl, wpAny_pure h⟩) htake)
    | exact wpAny_bind (m := Builtin.Tuple.tupleExact _) (wpAny_newObj_type (wpAny_bind (wpAny_pure (wpAny_pure ⟨_, rfl, wpAny_pure h⟩))) htake)
end
end HT
namespace L2
open PySem PySem.Spec PyProof.Rows
section
variable {X : Cx} {e : Expr} {te : TE} {pos p2 p3 p4 : Pos} {j : Nat}
theorem vals_reverse {xs : List V} {us : List Value} (r : Vals xs us) : Vals xs.reverse us.reverse := by
  induction r with
  | nil => exact .nil
  | cons h _ ih => rw [List.reverse_cons, List.reverse_cons]; exact ih.append (.cons h .nil)
/-- t[::-1] of a tuple -/
def tRevT (te : TE) : TE := fun σ H Q => te σ H fun x H1 => ∃ a xs, x = .ref a ∧ H1 a = some (.tup xs) ∧ New H1 (.tup xs.reverse) Q
theorem pe_revT (he : PE X e te) : PE X (.Subscript e (.Slice none none (some (.UnaryOp .USub (.Constant (.int 1) j p4) p3)) p2) pos) (tRevT te) := by
  intro pins s σ H Q I h
  refine Subscript_ (thn (he pins s σ H _ I h) fun v s1 ⟨x, H1, I1, r1, q1⟩ => ?_)
  obtain ⟨a, xs, rfl, ha, q⟩ := q1
  cases r1
  refine wpAny_Slice ?_
  rw [evalPart_none]
  refine wpAny_pure (wpAny_pure ?_)
  rw [evalPart_some]
  refine thn (pe_un (un_neg (X := X)) (pe_int (X := X)) pins s1 σ H1 (fun z H2 => z = .int (-1) ∧ H2 = H1) I1 ⟨1, rfl, rfl, rfl⟩) fun u s2 ⟨z, H2, I2, r2, e1, e2⟩ => ?_
  subst e1 e2
  obtain ⟨tk, rfl⟩ := r2
  have I3 : Inv X pins σ H2 { s2 with heap := s2.heap.push { cls := .type "slice", data := .fields #[.none, .none, .int (-1) tk] } } := I2.kept (t' := s2.toks) fun b ob q => Heap.get?_push_of_some _ q
  obtain ⟨its, r, ht, hz⟩ := I3.tuple (.of ha)
  have hlen : its.toArray.size = xs.length := by rw [List.size_toArray]; exact r.length.symm
  show wpAny (model X.prog X.w) X.A (subscriptTail e _ (.ref a) (.ref s2.heap.objs.size)) (EP X pins σ Q) X.xe { s2 with heap := s2.heap.push { cls := .type "slice", data := .fields #[.none, .none, .int (-1) tk] } }
  refine tail_any (ops := [.ref a, .ref s2.heap.objs.size]) ht.typeIs PyProof.Rows.slot_tuple_getitem.lookup ?_ (by with_unfolding_all rfl)
  refine HT.getItem_tuple_rev ht (Heap.IsSliceOf.new ..) ?_ (by rw [hlen]; exact hz)
  refine ⟨.ref _, _, I3.laid (t' := s2.toks) (o := .tup xs.reverse) (fun b ob q => Heap.get?_push_of_some _ q) (Nat.le_refl _) ?_, rfl, q.at (I3.hok.fresh (Nat.le_refl _))⟩
  exact ⟨by rw [List.length_reverse]; exact hz, _, vals_reverse r, IsTupD.new _ _⟩
theorem qe_revT (he : QE X e te) : QE X (.Subscript e (.Slice none none (some (.UnaryOp .USub (.Constant (.int 1) j p4) p3)) p2) pos) (tRevT te) := ⟨pe_revT he.run⟩
theorem slicePick_rev (xs : Array Value) : slicePick xs none none (some (-1)) = xs.toList.reverse.toArray := by
  rw [← HT.pick_rev]
  unfold slicePick
  congr 1
  have e1 : sliceBounds none none (some (-1)) xs.size = ((xs.size : Int) - 1, -1, -1) := by simp [sliceBounds]
  rw [e1]
  unfold sliceRange
  have e2 : (if (-1 : Int) > 0 then (if (xs.size : Int) - 1 < -1 then (-1 - ((xs.size : Int) - 1) + -1 - 1) / -1 else 0) else if (xs.size : Int) - 1 > -1 then ((xs.size : Int) - 1 - -1 - -1 - 1) / - -1 else 0).toNat = xs.size := by
    rw [if_neg (by decide), show - (-1 : Int) = 1 from rfl, Int.ediv_one]
    split <;> omega
  show List.filterMap (fun x => xs[x]?) (List.map _ (List.range (if (-1 : Int) > 0 then (if (xs.size : Int) - 1 < -1 then (-1 - ((xs.size : Int) - 1) + -1 - 1) / -1 else 0) else if (xs.size : Int) - 1 > -1 then ((xs.size : Int) - 1 - -1 - -1 - 1) / - -1 else 0).toNat)) = _
  rw [e2, List.filterMap_map]
  refine HT.fm_congr fun m hm => ?_
  show xs[((xs.size : Int) - 1 + -1 * (m : Int)).toNat]? = _
  rw [show (xs.size : Int) - 1 + -1 * (m : Int) = (xs.size : Int) - 1 + (m : Int) * -1 by omega]
/-- xs[::-1] of a list -/
def tRevL (te : TE) : TE := fun σ H Q => te σ H fun x H1 => ∃ a xs, x = .ref a ∧ H1 a = some (.lst xs) ∧ New H1 (.lst xs.reverse) Q
theorem pe_revL (he : PE X e te) : PE X (.Subscript e (.Slice none none (some (.UnaryOp .USub (.Constant (.int 1) j p4) p3)) p2) pos) (tRevL te) := by
  intro pins s σ H Q I h
  refine Subscript_ (thn (he pins s σ H _ I h) fun v s1 ⟨x, H1, I1, r1, q1⟩ => ?_)
  obtain ⟨a, xs, rfl, ha, q⟩ := q1
  cases r1
  refine wpAny_Slice ?_
  rw [evalPart_none]
  refine wpAny_pure (wpAny_pure ?_)
  rw [evalPart_some]
  refine thn (pe_un (un_neg (X := X)) (pe_int (X := X)) pins s1 σ H1 (fun z H2 => z = .int (-1) ∧ H2 = H1) I1 ⟨1, rfl, rfl, rfl⟩) fun u s2 ⟨z, H2, I2, r2, e1, e2⟩ => ?_
  subst e1 e2
  obtain ⟨tk, rfl⟩ := r2
  have I3 : Inv X pins σ H2 { s2 with heap := s2.heap.push { cls := .type "slice", data := .fields #[.none, .none, .int (-1) tk] } } := I2.kept (t' := s2.toks) fun b ob q => Heap.get?_push_of_some _ q
  obtain ⟨its, r, ht, hz⟩ := I3.list (.of ha)
  have hlen := r.length
  show wpAny (model X.prog X.w) X.A (subscriptTail e _ (.ref a) (.ref s2.heap.objs.size)) (EP X pins σ Q) X.xe { s2 with heap := s2.heap.push { cls := .type "slice", data := .fields #[.none, .none, .int (-1) tk] } }
  refine tail_any (ops := [.ref a, .ref s2.heap.objs.size]) ht.isList.typeIs slot_list_getitem.lookup ?_ (by with_unfolding_all rfl)
  refine wpAny_getItem_list_slice ht.isList (Heap.IsSliceOf.new ..) .none .none (.int (-1) tk) (by simp) ?_ (by rw [List.size_toArray] <;> omega)
  rw [slicePick_rev]
  refine ⟨.ref _, _, I3.laid (t' := s2.toks) (o := .lst xs.reverse) (fun b ob q => Heap.get?_push_of_some _ q) (Nat.le_refl _) ?_, rfl, q.at (I3.hok.fresh (Nat.le_refl _))⟩
  exact ⟨by rw [List.length_reverse]; exact hz, its.reverse, 0, vals_reverse r, Heap.get?_push_size _ rfl⟩
theorem qe_revL (he : QE X e te) : QE X (.Subscript e (.Slice none none (some (.UnaryOp .USub (.Constant (.int 1) j p4) p3)) p2) pos) (tRevL te) := ⟨pe_revL he.run⟩
/-- xs[i] = v, i within -/
def rSetN : V → V → V → Hp → (Hp → Prop) → Prop := fun o i v H Q => ∃ p xs k, o = .ref p ∧ i = .int k ∧ H p = some (.lst xs) ∧ 0 ≤ k ∧ k < xs.length ∧ Q (upd H p (.lst (xs.set k.toNat v)))
theorem qg_subN {o i : Expr} {to ti : TE} (ho : QE X o to) (hi : QE X i ti) (ha : ∀ v, assign (.Subscript o i pos) X.env v = (do
      let ov ← holding [v] (eval o X.env)
      let iv ← holding [v, ov] (eval i X.env)
      standAt pos
      holding [v, ov, iv] (setItem ov iv v)
      release [v, ov, iv] []) := by intro _; rfl) : QG X (.Subscript o i pos) (gSub to ti rSetN) :=
  ⟨pg_sub ho.run hi.run (fun pins s σ H o i v ov iv u Q I ro ri rv ⟨p, xs, k, e1, e2, hp, h0, h1, q⟩ => set_list pins s σ H o i v ov iv u Q I ro ri rv ⟨p, xs, k, k.toNat, e1, e2, hp, by unfold ixN; rw [if_pos h0, if_pos h1], q⟩) ha⟩
end
section
variable {X : Cx}
end
end L2


set_option Elab.async false
set_option linter.all false
set_option maxRecDepth 100000
namespace L2
open PySem PySem.Spec PyProof.Rows
/-! standings -/
theorem many_get {st : List Int} {b : Int} (h0 : 0 ≤ b) (h1 : b < st.length) : atI (st.map V.int) b = some (.int (many st b)) := by
  obtain ⟨j, rfl⟩ : ∃ j : Nat, b = j := ⟨b.toNat, by omega⟩
  have hj : j < st.length := by omega
  have e : many st (j : Int) = st[j] := by unfold many; simp [hj]
  rw [e]
  exact atI_nat (by simp [hj])
def keepsB (st : List Int) (g : List (Int × Int)) : Bool := g.all fun q => decide (many st q.1 = q.2)
/-- a book stands at ba -/
structure BookAt (H : Hp) (rm : List Int) (ba : Addr) (xs : List V) (bk : List Wi) : Prop where
  at' : H ba = some (.tup xs)
  is : IsL H (bk.map wishD) xs
  ok : ∀ x ∈ bk, WishOk rm x
theorem BookAt.stay {H H' : Hp} {rm : List Int} {ba : Addr} {xs : List V} {bk : List Wi} (h : BookAt H rm ba xs bk) (s : Stay H H') : BookAt H' rm ba xs bk := ⟨s.tup h.at', h.is.stay s, h.ok⟩
theorem BookAt.all {H : Hp} {rm : List Int} {ba : Addr} {xs : List V} {bk : List Wi} (h : BookAt H rm ba xs bk) : AllOf H (IsWish rm) xs := by
  have : ∀ {bk : List Wi} {xs : List V}, IsL H (bk.map wishD) xs → (∀ x ∈ bk, WishOk rm x) → AllOf H (IsWish rm) xs := by
    intro bk
    induction bk with
    | nil => intro xs h _; cases h; exact .nil
    | cons x bk ih =>
      intro xs h hb
      obtain ⟨y, r, rfl, hy, hr⟩ := h
      exact .cons hy ⟨x, rfl, hb x List.mem_cons_self⟩ (ih hr fun z hz => hb z (List.mem_cons_of_mem _ hz))
  exact this h.is h.ok
theorem BookAt.len {H : Hp} {rm : List Int} {ba : Addr} {xs : List V} {bk : List Wi} (h : BookAt H rm ba xs bk) : xs.length = bk.length := by
  have := h.is.length
  rwa [List.length_map] at this
theorem BookAt.get {H : Hp} {rm : List Int} {ba : Addr} {xs : List V} {bk : List Wi} (h : BookAt H rm ba xs bk) {i : Nat} {v : V} (hv : xs[i]? = some v) : ∃ x, bk[i]? = some x ∧ Is H (wishD x) v ∧ WishOk rm x := by
  obtain ⟨d, hd, his⟩ := h.is.get hv
  rw [List.getElem?_map] at hd
  obtain ⟨x, hx, rfl⟩ := Option.map_eq_some_iff.mp hd
  exact ⟨x, hx, his, h.ok x (List.mem_of_getElem? hx)⟩
theorem many_nat (st : List Int) (j : Nat) : many st (j : Int) = st.getD j 0 := by unfold many; simp
theorem many_snoc_lt {st : List Int} {r b : Int} (h0 : 0 ≤ b) (h1 : b < st.length) : many (st ++ [r]) b = many st b := by
  obtain ⟨j, rfl⟩ : ∃ j : Nat, b = j := ⟨b.toNat, by omega⟩
  have hj : j < st.length := by omega
  rw [many_nat, many_nat, List.getD_eq_getElem?_getD, List.getD_eq_getElem?_getD, List.getElem?_append_left hj]
theorem many_snoc_eq {st : List Int} {r : Int} : many (st ++ [r]) (st.length : Int) = r := by
  rw [many_nat, List.getD_eq_getElem?_getD, List.getElem?_append_right (Nat.le_refl _), Nat.sub_self]
  rfl
theorem many_rep {n : Nat} {r b : Int} (h0 : 0 ≤ b) (h1 : b < n) : many (List.replicate n r) b = r := by
  obtain ⟨j, rfl⟩ : ∃ j : Nat, b = j := ⟨b.toNat, by omega⟩
  have hj : j < n := by omega
  rw [many_nat, List.getD_eq_getElem?_getD, List.getElem?_replicate, if_pos hj]
  rfl
theorem many_map {st : List Int} {f : Int → Int} {b : Int} (h0 : 0 ≤ b) (h1 : b < st.length) : many (st.map f) b = f (many st b) := by
  obtain ⟨j, rfl⟩ : ∃ j : Nat, b = j := ⟨b.toNat, by omega⟩
  have hj : j < st.length := by omega
  rw [many_nat, many_nat, List.getD_eq_getElem?_getD, List.getD_eq_getElem?_getD, List.getElem?_map, List.getElem?_eq_getElem hj]
  rfl
theorem many_of_get {st : List Int} {i : Nat} {m : Int} (h : st[i]? = some m) : many st (i : Int) = m := by
  rw [many_nat, List.getD_eq_getElem?_getD, h]
  rfl
theorem room_many {rm : List Int} (hb : ∀ r ∈ rm, 2 ≤ r ∧ r ≤ 4) {b : Int} (h0 : 0 ≤ b) (h1 : b < rm.length) : 2 ≤ many rm b ∧ many rm b ≤ 4 := by
  obtain ⟨j, rfl⟩ : ∃ j : Nat, b = j := ⟨b.toNat, by omega⟩
  have hj : j < rm.length := by omega
  rw [many_of_get (List.getElem?_eq_getElem hj)]
  exact hb _ (List.getElem_mem hj)
/-! promises -/
def spKeeps : Sp := fun vs H Q _ => ∃ (a ga : Addr) (st : List Int) (gs : List V) (g : List (Int × Int)), vs = [.ref a, .ref ga] ∧ H a = some (.tup (st.map V.int)) ∧ H ga = some (.tup gs) ∧ IsL H (g.map pairD) gs ∧ (∀ q ∈ g, 0 ≤ q.1 ∧ q.1 < st.length) ∧ Q (.bl (keepsB st g)) H
def spMkStanding : Sp := fun vs H Q _ => ∃ (p c ra : Addr) (ns rm : List Int) (n : Nat), vs = [.ref p, .ref ra] ∧ Pen H p c ns n ∧ n + 20 ≤ 1000000 ∧ RoomAt H ra rm ∧
  ∀ (a : Addr) (st : List Int) (H' : Hp), H' a = some (.tup (st.map V.int)) → st.length = rm.length → (∀ b : Int, 0 ≤ b → b < rm.length → 0 ≤ many st b ∧ many st b < many rm b) → Pen H' p c ns (n + 10) → Stay H H' → Q (.ref a) H'
def IsSt (n : Nat) (d : Dt) : Prop := ∃ st : List Int, d = .tup (st.map .int) ∧ st.length = n
theorem noLs_ints : ∀ st : List Int, Dt.noLs (st.map .int) = true
  | [] => rfl
  | _ :: st => by
    show (true && Dt.noLs (st.map .int)) = true
    rw [noLs_ints st]
    rfl
theorem IsSt.noL {n : Nat} {d : Dt} (h : IsSt n d) : d.noL = true := by
  obtain ⟨st, rfl, _⟩ := h
  exact noLs_ints st
theorem kqd_ints (st : List Int) : PySem.W.kqdOk 7 (Dt.tup (st.map .int)).toW = true := by
  have e : ∀ ns : List Int, (Dt.toWs (ns.map .int)).all (PySem.W.kqdOk 6) = true := by
    intro ns
    induction ns with
    | nil => rfl
    | cons n ns ih => simp only [List.map_cons, Dt.toWs, List.all_cons, ih, Bool.and_true]; rfl
  exact e st
theorem eqOk_sts {n : Nat} {ds : List Dt} (h : ∀ d ∈ ds, IsSt n d) : (Dt.lst ds).eqOk := by
  have e : ∀ ds : List Dt, (∀ d ∈ ds, IsSt n d) → (Dt.toWs ds).all (PySem.W.kqdOk 7) = true := by
    intro ds
    induction ds with
    | nil => intro _; rfl
    | cons m ms ih =>
      intro h
      obtain ⟨x, rfl, _⟩ := h m List.mem_cons_self
      simp only [Dt.toWs, List.all_cons, ih fun d hd => h d (List.mem_cons_of_mem _ hd), kqd_ints x, Bool.and_true]
  exact e ds h
end L2


set_option Elab.async false
set_option linter.all false
set_option maxRecDepth 100000
set_option maxHeartbeats 4000000
/-! x = [comprehension], x a plain local: stored ahead of the comprehension's own names let go -/
namespace L2
open PySem PySem.Spec PyProof.Rows
theorem ps_setC {X : Cx} {elt tg iter : Expr} {ifs : List Expr} {scope : Scope} {pos spos : Pos} {wi : TI} {g : TG} {ti : TT} {te : TE} {N : List Str} {cix : List (Option Nat)} {ix : Nat} {nx : Str} {px : Pos} (hNd : X.N.Nodup) (hix : X.N[ix]? = some nx) (hlx : X.env.scope.names.lookup nx = some .local) (hc : X.calm = true) (c : CompOk X scope N cix)
    (hi : PI X tg iter wi) (hg : ∀ C s H ex, PG (compCx X scope N C s H ex) tg g) (ht : ∀ C s H ex, PTs (compCx X scope N C s H ex) ifs ti) (he : ∀ C s H ex, PE (compCx X scope N C s H ex) elt te)
    (hsw : swapsWithSole [.Name nx px] (.ListComp elt [⟨tg, iter, ifs, 0⟩] scope pos) spos.line X.env = pure true)
    (hs : ∀ x, foldedSetIterable iter X.env x = pure x := by intro _; rfl)
    (h1a : (assignEach [.Name nx px] X.env).map (·.2) = [assign (.Name nx px) X.env] := by rfl) : PS X (.Assign [.Name nx px] (.ListComp elt [⟨tg, iter, ifs, 0⟩] scope pos) spos) (tAsg (tComp wi g ti te cix) (gName ix)) := by
  intro pins s σ H D I h0
  have h : tComp wi g ti te cix σ H (fun x H1 => D.nx (σ.set ix (some x)) H1) := h0
  rw [exec_Assign_arm]
  refine wpAny_bind (wpAny_standAt ?_)
  rw [hsw]
  refine wpAny_bind (wpAny_pure ?_)
  rw [if_pos rfl]
  refine wpAny_bind ?_
  rw [evalThenUse.eq_1]
  refine wpAny_bind ?_
  generalize hU : (fun v => assignAll v ((assignEach [.Name nx px] X.env).map (·.2))) = U
  refine wpAny_comprehension_free (g := ⟨tg, iter, ifs, 0⟩) (gs := []) (use := some U) rfl hs (closure_of (c.cells I.ok)) c.kind c.names ?_
  refine (thn (hi pins s σ H _ I h) fun xv s1 h1 => thn h1 fun itv s2 h2 => ?_)
  obtain ⟨it, fp, tn, J, H2, e, I2, T, st2, f2, q2⟩ := h2
  subst e
  refine wpAny_newObj_type (wpAny_newFunctionEnv c.cell (by intro y hy; simp at hy) (fun h4 hns4 hsb4 => ?_) c.kind)
  dsimp only at hns4 hsb4 ⊢
  have hnone := I2.hok.fresh (Nat.le_refl s2.heap.objs.size)
  -- the new list
  have I3 : Inv X pins σ (upd H2 s2.heap.objs.size (.lst [])) { s2 with heap := s2.heap.push { cls := .type "list", dict := none, data := .seq ([] : List Value).toArray }, toks := s2.toks } := I2.lnew (t' := s2.toks) .nil (by simp)
  obtain ⟨W, ⟨m0, w0⟩, turn⟩ := q2 s2.heap.objs.size hnone
  have ltF : ∀ b ∈ fp, b < s2.heap.objs.size := fun b hb => by
    obtain ⟨o, ho, _⟩ := T.obj _ _ st2 b hb
    exact Heap.lt_size ho
  have f3 : ∀ b ∈ fp, FpOk X pins (upd H2 s2.heap.objs.size (.lst [])) b := fun b hb => ⟨by rw [upd_ne (Nat.ne_of_lt (ltF b hb))]; exact (f2 b hb).1, (f2 b hb).2⟩
  have kp : ∀ b o, (s2.heap.push { cls := .type "list", dict := none, data := .seq ([] : List Value).toArray }).get? b = some o → h4.get? b = some o := fun b o e =>
    hsb4.extBut b o (Nat.ne_of_lt (Heap.lt_size e)) (Heap.get?_push_of_some _ e)
  have sz3 : s2.heap.objs.size < (s2.heap.push { cls := .type "list", dict := none, data := .seq ([] : List Value).toArray }).objs.size := by rw [Heap.size_push]; exact Nat.lt_succ_self _
  have I4 := inv_comp (tk := s2.toks + ([] : List (Str × Value)).length) I3 c f3 (fun b hb => Nat.lt_trans (ltF b hb) sz3) hns4 kp
  have st4 : tn 0 h4 := T.keep _ _ _ st2 fun b hb o e => kp b o (Heap.get?_push_of_some _ e)
  generalize hX : compCx X scope N (s2.heap.push { cls := .type "list", dict := none, data := .seq ([] : List Value).toArray }).objs.size
    { s2 with heap := s2.heap.push { cls := .type "list", dict := none, data := .seq ([] : List Value).toArray }, toks := s2.toks } (upd H2 s2.heap.objs.size (.lst [])) fp = X' at I4
  have pX : X'.prog = X.prog := by rw [← hX]; rfl
  have wX : X'.w = X.w := by rw [← hX]; rfl
  have KX : X'.K = X.K := by rw [← hX]; rfl
  have AX : X'.A = X.A := by rw [← hX]; rfl
  have cX : X'.calm = true := by rw [← hX]; exact hc
  have xX : X'.xe = fun _ _ => False := by rw [← hX]; rfl
  have eX : X'.env = compEnvC scope (capL X.env scope.names []) (s2.heap.push { cls := .type "list", dict := none, data := .seq ([] : List Value).toArray }).objs.size X.env := by rw [← hX]; rfl
  have hg' : PG X' tg g := by rw [← hX]; exact hg _ _ _ _
  have ht' : PTs X' ifs ti := by rw [← hX]; exact ht _ _ _ _
  have he' : PE X' elt te := by rw [← hX]; exact he _ _ _ _
  have f4 : ∀ {H' : Hp}, (∀ b ∈ fp, H' b = none) → ∀ b ∈ fp, FpOk X' [] H' b := fun {H'} hn b hb => by
    refine ⟨hn b hb, ?_, ?_, .inl ?_, ?_, ?_⟩
    · rw [eX]; exact Nat.ne_of_lt (Nat.lt_trans (ltF b hb) sz3)
    · have e1 : X'.fs = frs X.stack := by rw [← hX]; rfl
      rw [e1]
      intro z
      rcases List.mem_cons.mp (I2.stkSub b z) with e | e
      · exact (f2 b hb).2.1 e
      · exact (f2 b hb).2.2.1 e
    · rw [← hX]; exact hb
    · rw [eX]
      intro x a e
      rcases capL_some (c.cells I.ok) e with z | z
      · exact (f2 b hb).2.2.2.2.1 x a z
      · simp at z
    · intro p hp
      have e1 : X'.pn ++ ([] : List (Addr × Obj)) = [] := by rw [← hX]; rfl
      rw [e1] at hp
      simp at hp
  -- the loop
  have loop : ∀ s4 : Shared, s4 = { s2 with heap := h4, toks := s2.toks + ([] : List (Str × Value)).length } →
      codeAny (model X.prog X.w) X.A (.compLoop (.ListComp elt [⟨tg, iter, ifs, 0⟩] scope pos) 0 (.ref it) (.ref s2.heap.objs.size) X'.env)
        (compPost (model X.prog X.w) X.A X.xe (some U) (fun _ s => wpAny (model X.prog X.w) X.A (pure ()) (fun _ s => wpAny (model X.prog X.w) X.A (pure Flow.next) (SP X pins D) X.xe s) X.xe s) (.ref s2.heap.objs.size) (s2.heap.push { cls := .type "list", dict := none, data := .seq ([] : List Value).toArray }).objs.size) s4 := by
    rintro s4 rfl
    refine codeAny_comp1 (fun n s' => ∃ i σ' H', Inv X' [] σ' H' s' ∧ tn i s'.heap ∧ (∀ b ∈ fp, H' b = none) ∧ W i n σ' H') ?_ m0 ⟨0, capS σ cix, _, I4, st4, fun b hb => (f3 b hb).1, w0⟩
    rintro n s5 ⟨i, σ5, H5, I5, st5, fr5, w5⟩
    rcases turn i n σ5 H5 w5 with ⟨stop, qn⟩ | ⟨go, Nx, hN, step⟩
    · have := T.done X' pX wX KX cX i [] s5 σ5 H5 (fun _ _ => False) I5 (f4 fr5) st5 stop
      rw [AX] at this
      refine thn this fun r s6 ⟨hr, I6⟩ => ?_
      subst hr
      obtain ⟨m6, hn6, _⟩ := I6.loc
      have hfr : H5 (s2.heap.push { cls := .type "list", dict := none, data := .seq ([] : List Value).toArray }).objs.size = none := by
        have := I6.free
        rw [eX] at this
        exact this
      rw [eX] at hn6
      have I6' := I6
      rw [← hX] at I6'
      have IX := inv_uncomp I3 f3 I6' ⟨rfl, fun _ _ => rfl⟩
      have fC := I3.fpOk (Nat.le_refl _) hfr
      have hUv : U (.ref s2.heap.objs.size) = assignAll (.ref s2.heap.objs.size) [assign (.Name nx px) X.env] := by
        rw [← hU, ← h1a]
      show wpAny _ _ (U (.ref s2.heap.objs.size)) _ _ s6
      rw [hUv]
      refine wpAny_assign_Name (x := nx) (pos := px) ?_
      refine store_ok2 IX hNd hix (Or.inl hlx) (v := .ref s2.heap.objs.size) rfl (fun s7 I7 ⟨a7, hs7, ha7⟩ => ?_) (.inr hlx)
      have hCa : (s2.heap.push { cls := .type "list", dict := none, data := .seq ([] : List Value).toArray }).objs.size ≠ a7 := by
        intro z
        rcases ha7 with e | e
        · exact fC.2.1 (z.trans e)
        · exact fC.2.2.2.2.1 nx a7 e z.symm
      obtain ⟨oC, esC, epC, hoC, rC⟩ := hn6
      refine ⟨m6, ⟨oC, esC, epC, (hs7.2 _ hCa).trans hoC, rC⟩, fun h8 hs8 => ?_⟩
      refine wpAny_pure (wpAny_pure ?_)
      exact ⟨_, H5, I7.turned (t' := s7.toks) (fun b o hb e => (hs8.2 b hb).trans e) hfr fC.2.1 fC.2.2.2.1 fC.2.2.2.2.1 fC.2.2.2.2.2, qn⟩
    · have := T.item X' pX wX KX cX i [] s5 σ5 H5 (fun _ _ => False) I5 (f4 fr5) st5 go
      rw [AX] at this
      refine thn this fun r s6 ⟨u, hr, h6⟩ => ?_
      subst hr
      refine thn h6 fun _ s7 ⟨x, H7, I7, r7, y7, st7, fr7⟩ => ?_
      have I7' := I7.pinned (f4 fr7) (T.obj _ _ st7)
      have a7 := hg' _ s7 σ5 H7 x u _ I7' r7 (step x H7 y7)
      rw [pX, wX, AX, xX] at a7
      refine thn a7 fun _ s8 ⟨σ8, H8, I8, q8⟩ => ?_
      have t8 := ht' _ s8 σ8 H8 _ I8 q8
      rw [pX, wX, AX, xX] at t8
      refine thn t8 fun ok s9 ⟨H9, I9, q9⟩ => ?_
      have again : ∀ {s' : Shared} {σ' : St} {H' : Hp}, Inv X' ([] ++ pinsAt fp s7.heap) σ' H' s' → Nx σ' H' → ∃ m, m < n ∧ ∃ i σ' H', Inv X' [] σ' H' s' ∧ tn i s'.heap ∧ (∀ b ∈ fp, H' b = none) ∧ W i m σ' H' := fun {s' σ' H'} J' n' => by
        obtain ⟨m', hm, w'⟩ := hN σ' H' n'
        refine ⟨m', hm, i + 1, σ', H', J'.unpinned, T.keep _ _ _ st7 fun b hb o e => (J'.pin (b, o) (List.mem_append_right _ (List.mem_append_right _ (mem_pinsAt hb e)))).1, fun b hb => ?_, w'⟩
        obtain ⟨o, e, d⟩ := T.obj _ _ st7 b hb
        exact (J'.pin (b, o) (List.mem_append_right _ (List.mem_append_right _ (mem_pinsAt hb e)))).2.1
      cases ok with
      | false => exact again I9 q9
      | true =>
        have e9 := he' _ s9 σ8 H9 _ I9 q9
        rw [pX, wX, AX, xX] at e9
        refine thn e9 fun u2 s10 ⟨v, H10, I10, r10, q10⟩ => ?_
        obtain ⟨xs, hxs, hlt, nx⟩ := q10
        have m10 := mt_append (X := X') _ s10 σ8 H10 (.ref s2.heap.objs.size) [v] (.ref s2.heap.objs.size) [u2] (fun _ H' => Nx σ8 H') I10 rfl (.cons r10 .nil) ⟨_, xs, v, rfl, rfl, hxs, hlt, nx⟩
        rw [pX, wX, AX, xX] at m10
        refine thn m10 fun _ s11 ⟨_, H11, I11, _, n11⟩ => again I11 n11
  have l0 := loop _ rfl
  rw [eX] at l0
  exact codeAny_compStart_list l0 (T.self X.A 0 _ _ _ st4 l0)

theorem qs_setC {X : Cx} {elt tg iter : Expr} {ifs : List Expr} {scope : Scope} {pos spos : Pos} {wi : TI} {g : TG} {ti : TT} {te : TE} {N : List Str} {cix : List (Option Nat)} {ix : Nat} {nx : Str} {px : Pos} (hNd : X.N.Nodup) (hix : X.N[ix]? = some nx) (hlx : X.env.scope.names.lookup nx = some .local) (hc : X.calm = true) (c : CompOk X scope N cix)
    (hi : QI X tg iter wi) (hg : ∀ C s H ex, QG (compCx X scope N C s H ex) tg g) (ht : ∀ C s H ex, QTs (compCx X scope N C s H ex) ifs ti) (he : ∀ C s H ex, QE (compCx X scope N C s H ex) elt te)
    (hsw : swapsWithSole [.Name nx px] (.ListComp elt [⟨tg, iter, ifs, 0⟩] scope pos) spos.line X.env = pure true := by rfl)
    (hs : ∀ x, foldedSetIterable iter X.env x = pure x := by intro _; rfl)
    (h1a : (assignEach [.Name nx px] X.env).map (·.2) = [assign (.Name nx px) X.env] := by rfl) : QS X (.Assign [.Name nx px] (.ListComp elt [⟨tg, iter, ifs, 0⟩] scope pos) spos) (tAsg (tCompG wi g ti te cix) (gName ix)) :=
  ⟨ps_setC hNd hix hlx hc c hi.run (fun C s H ex => (hg C s H ex).run) (fun C s H ex => (ht C s H ex).run) (fun C s H ex => (he C s H ex).run) hsw hs h1a⟩
end L2


set_option Elab.async false
set_option linter.all false
set_option maxRecDepth 100000
set_option maxHeartbeats 1000000
namespace L2
open PySem PySem.Spec PyProof.Rows
/-! ### zip of two tuples -/
section
variable {prog : Program} {w : World} {A : Around} {E : Value → Shared → Prop} {s : Shared}
end
theorem BookAt.eqOk {H : Hp} {rm : List Int} {ba : Addr} {xs : List V} {bk : List Wi} (h : BookAt H rm ba xs bk) : (Dt.tup (bk.map wishD)).eqOk ∧ (Dt.lst (bk.map wishD)).eqOk := eqOk_wishes (rm := rm) fun d hd => by
  obtain ⟨x, hx, rfl⟩ := List.mem_map.mp hd
  exact ⟨x, rfl, h.ok x hx⟩
theorem BookAt.d {H : Hp} {rm : List Int} {ba : Addr} {xs : List V} {bk : List Wi} (h : BookAt H rm ba xs bk) : Is H (.tup (bk.map wishD)) (.ref ba) := ⟨ba, xs, rfl, h.at', h.is⟩
theorem BookAt.bookB {H : Hp} {rm : List Int} {ba : Addr} {xs : List V} {bk : List Wi} (h : BookAt H rm ba xs bk) (hl : xs.length ≤ 600) : bookB rm (.tup (bk.map wishD)) = true := bookB_true (fun d hd => by
  obtain ⟨x, hx, rfl⟩ := List.mem_map.mp hd
  exact ⟨x, rfl, h.ok x hx⟩) (by rw [List.length_map, ← h.len]; exact hl)
end L2


set_option Elab.async false
set_option linter.all false
set_option maxRecDepth 100000
namespace L2
open PySem PySem.Spec PyProof.Rows
section
variable {X : Cx}
end
/-! what a standing is, of any datum -/
end L2


set_option Elab.async false
set_option linter.all false
set_option maxRecDepth 100000
set_option maxHeartbeats 1000000
namespace L2
open PySem PySem.Spec PyProof.Rows
/-! ### comprehensions of two clauses -/
section
variable {prog : Program} {w : World} {A : Around} {R : Result → Shared → Prop} {s : Shared}
theorem codeAny_comp2_in {elt target iter : Expr} {c1 : Comprehension} {ifs : List Expr} {scope : Scope} {pos : Pos} {it acc : Value} {env : Env} (I : Nat → Shared → Prop)
    (turn : ∀ n s, I n s → wpAny (model prog w) A (pyNext it) (fun r s₁ => match r with
      | none => R (.ok .next) s₁
      | some v => wpAny (model prog w) A (letOwnedTupleGo target it v) (fun _ s₂ => wpAny (model prog w) A (assign target env v) (fun _ s₃ =>
          wpAny (model prog w) A (forIn ifs true fun c r => if r = true then do let ok ← isTrue c env (eval c env); pure (ForInStep.yield ok) else pure (ForInStep.yield r)) (fun ok s₄ =>
            if ok = true then wpAny (model prog w) A (eval elt env) (fun x s₅ =>
              wpAny (model prog w) A (call (.builtin "list.append") [acc, x]) (fun _ s₆ => ∃ m, m < n ∧ I m s₆) (fun _ _ => False) s₅) (fun _ _ => False) s₄
            else ∃ m, m < n ∧ I m s₄) (fun _ _ => False) s₃) (fun _ _ => False) s₂) (fun _ _ => False) s₁) (fun _ _ => False) s)
    (n : Nat) (h : I n s) :
    codeAny (model prog w) A (.compLoop (.ListComp elt [c1, ⟨target, iter, ifs, 0⟩] scope pos) 1 it acc env) R s := by
  refine codeAny_loop rfl I (fun n s hI => ?_) n h
  show wpAny _ A ((compTurn (.ListComp elt [c1, ⟨target, iter, ifs, 0⟩] scope pos) 1 it acc env).onRaise (fun x => do noteFrame x env; theTreesLotGoes x)) _ _ s
  refine wpAny_noted ?_
  unfold compTurn
  refine wpAny_bind (wpAny_standAt (wpAny_bind (wpAny_mono (turn n s hI) (fun r s₁ h₁ => ?_) fun _ _ h' => h'.elim)))
  cases r with
  | none => exact wpAny_pure h₁
  | some v =>
    refine wpAny_bind (wpAny_mono h₁ (fun _ s₂ h₂ => ?_) fun _ _ h' => h'.elim)
    refine wpAny_bind (wpAny_mono h₂ (fun _ s₃ h₃ => wpAny_bind (wpAny_mono h₃ (fun ok s₄ h₄ => ?_) fun _ _ h' => h'.elim)) fun _ _ h' => h'.elim)
    cases ok with
    | false => exact wpAny_pure ⟨rfl, h₄⟩
    | true =>
      exact wpAny_bind (wpAny_bind (wpAny_mono h₄ (fun x s₅ h₅ => wpAny_bind (wpAny_mono h₅ (fun _ s₆ h₆ => wpAny_pure (wpAny_pure ⟨rfl, h₆⟩)) fun _ _ h' => h'.elim)) fun _ _ h' => h'.elim))
theorem codeAny_comp2_start {elt target iter : Expr} {c1 : Comprehension} {ifs : List Expr} {scope : Scope} {pos : Pos} {it acc : Value} {env : Env}
    (h1 : codeAny (model prog w) A (.compLoop (.ListComp elt [c1, ⟨target, iter, ifs, 0⟩] scope pos) 1 it acc env) R s)
    (h2 : wpAny (model prog w) A (pyIter it) (fun it' s' => codeAny (model prog w) A (.compLoop (.ListComp elt [c1, ⟨target, iter, ifs, 0⟩] scope pos) 1 it' acc env) R s') (fun _ _ => False) s) :
    codeAny (model prog w) A (.compStart (.ListComp elt [c1, ⟨target, iter, ifs, 0⟩] scope pos) 1 it acc env) R s := by
  refine codeAny_of_tree ?_
  show wpAny _ A ((compStart (.ListComp elt [c1, ⟨target, iter, ifs, 0⟩] scope pos) 1 it acc env).onRaise (fun x => do noteFrame x env; standAt theWindowsPlace)) _ _ s
  refine wpAny_onRaise ?_
  unfold compStart
  rw [if_neg (by show ¬ ((0 != 0) = true); decide)]
  refine wpAny_bind (wpAny_askSetting ?_)
  split
  · exact wpAny_pure ⟨rfl, h1⟩
  · refine wpAny_bind (wpAny_rule ?_)
    refine wpAny_bind (wpAny_standAt ?_)
    refine wpAny_bind (wpAny_mono h2 (fun it' s' h' => wpAny_pure ⟨rfl, h'⟩) fun _ _ h' => h'.elim)
theorem codeAny_comp2_out {elt target iter t2 it2 : Expr} {ifs ifs2 : List Expr} {scope : Scope} {pos : Pos} {it acc : Value} {env : Env} (hf : ∀ x, foldedSetIterable it2 env x = pure x) (I : Nat → Shared → Prop)
    (turn : ∀ n s, I n s → wpAny (model prog w) A (pyNext it) (fun r s₁ => match r with
      | none => R (.ok .next) s₁
      | some v => wpAny (model prog w) A (letOwnedTupleGo target it v) (fun _ s₂ => wpAny (model prog w) A (assign target env v) (fun _ s₃ =>
          wpAny (model prog w) A (forIn ifs true fun c r => if r = true then do let ok ← isTrue c env (eval c env); pure (ForInStep.yield ok) else pure (ForInStep.yield r)) (fun ok s₄ =>
            if ok = true then wpAny (model prog w) A (eval it2 env) (fun x s₅ => wpAny (model prog w) A (pyIter x) (fun iv s₆ =>
              codeAny (model prog w) A (.compStart (.ListComp elt [⟨target, iter, ifs, 0⟩, ⟨t2, it2, ifs2, 0⟩] scope pos) 1 iv acc env) (fun r s₇ => match r with
                | .ok _ => ∃ m, m < n ∧ I m s₇
                | .error _ => False) s₆) (fun _ _ => False) s₅) (fun _ _ => False) s₄
            else ∃ m, m < n ∧ I m s₄) (fun _ _ => False) s₃) (fun _ _ => False) s₂) (fun _ _ => False) s₁) (fun _ _ => False) s)
    (n : Nat) (h : I n s) :
    codeAny (model prog w) A (.compLoop (.ListComp elt [⟨target, iter, ifs, 0⟩, ⟨t2, it2, ifs2, 0⟩] scope pos) 0 it acc env) R s := by
  refine codeAny_loop rfl I (fun n s hI => ?_) n h
  show wpAny _ A ((compTurn (.ListComp elt [⟨target, iter, ifs, 0⟩, ⟨t2, it2, ifs2, 0⟩] scope pos) 0 it acc env).onRaise (fun x => do noteFrame x env; theTreesLotGoes x)) _ _ s
  refine wpAny_noted ?_
  unfold compTurn
  refine wpAny_bind (wpAny_standAt (wpAny_bind (wpAny_mono (turn n s hI) (fun r s₁ h₁ => ?_) fun _ _ h' => h'.elim)))
  cases r with
  | none => exact wpAny_pure h₁
  | some v =>
    refine wpAny_bind (wpAny_mono h₁ (fun _ s₂ h₂ => ?_) fun _ _ h' => h'.elim)
    refine wpAny_bind (wpAny_mono h₂ (fun _ s₃ h₃ => wpAny_bind (wpAny_mono h₃ (fun ok s₄ h₄ => ?_) fun _ _ h' => h'.elim)) fun _ _ h' => h'.elim)
    cases ok with
    | false => exact wpAny_pure ⟨rfl, h₄⟩
    | true =>
      refine wpAny_bind (wpAny_mono h₄ (fun x s₅ h₅ => ?_) fun _ _ h' => h'.elim)
      refine wpAny_bind (wpAny_standAt ?_)
      show wpAny _ _ (foldedSetIterable it2 env x >>= _) _ _ _
      rw [hf]
      refine wpAny_bind (wpAny_pure ?_)
      show wpAny _ _ (holding [x] (pyIter x) >>= _) _ _ _
      refine wpAny_bind (wpAny_holding (wpAny_mono h₅ (fun iv s₆ h₆ => ?_) fun _ _ h' => h'.elim))
      refine wpAny_bind (wpAny_runOwn (h := none) ?_)
      refine codeAny_mono (show codeAny (model prog w) (A.mark none) _ _ s₆ from h₆) fun r s₇ h₇ => ?_
      cases r with
      | ok f => exact wpAny_pure ⟨rfl, h₇⟩
      | error e => exact h₇.elim
end
def innerG (J : It) (g : TG) (ti : TT) (te : TE) (acc : Addr) (N : St → Hp → Prop) (σ : St) (H : Hp) : Prop := ∃ W : Nat → Nat → St → Hp → Prop, (∃ m, W 0 m σ H) ∧
  ∀ i m σ' H', W i m σ' H' → (J.stop i H' ∧ N σ' H') ∨ (J.go i H' ∧ ∃ N2 : St → Hp → Prop, (∀ σ2 H2, N2 σ2 H2 → ∃ m', m' < m ∧ W (i + 1) m' σ2 H2) ∧ ∀ x H2, J.yld i H' x H2 → compT g ti te acc N2 x σ' H2)
def comp2T (g : TG) (ti : TT) (wi2 : TI) (g2 : TG) (ti2 : TT) (te : TE) (acc : Addr) (N : St → Hp → Prop) (x : V) (σ : St) (H : Hp) : Prop :=
  g x σ H fun σ3 H3 => ti σ3 H3 fun ok H4 => if ok = true then wi2 σ3 H4 fun J2 H5 => innerG J2 g2 ti2 te acc N σ3 H5 else N σ3 H4
def comp2G (J : It) (g : TG) (ti : TT) (wi2 : TI) (g2 : TG) (ti2 : TT) (te : TE) (acc : Addr) (Q : VK) (σ : St) (H : Hp) : Prop := ∃ W : Nat → Nat → St → Hp → Prop, (∃ m, W 0 m σ H) ∧
  ∀ i m σ' H', W i m σ' H' → (J.stop i H' ∧ Q (.ref acc) H') ∨ (J.go i H' ∧ ∃ N : St → Hp → Prop, (∀ σ2 H2, N σ2 H2 → ∃ m', m' < m ∧ W (i + 1) m' σ2 H2) ∧ ∀ x H2, J.yld i H' x H2 → comp2T g ti wi2 g2 ti2 te acc N x σ' H2)
def tComp2 (wi : TI) (g : TG) (ti : TT) (wi2 : TI) (g2 : TG) (ti2 : TT) (te : TE) (cix : List (Option Nat)) : TE := fun σ H Q => wi σ H fun J H1 => ∀ acc, H1 acc = none → comp2G J g ti wi2 g2 ti2 te acc Q (capS σ cix) (upd H1 acc (.lst []))
theorem ps_setC2 {X : Cx} {elt tg iter tg2 iter2 : Expr} {ifs ifs2 : List Expr} {scope : Scope} {pos spos : Pos} {wi wi2 : TI} {g g2 : TG} {ti ti2 : TT} {te : TE} {N : List Str} {cix : List (Option Nat)} {ix : Nat} {nx : Str} {px : Pos} (hNd : X.N.Nodup) (hix : X.N[ix]? = some nx) (hlx : X.env.scope.names.lookup nx = some .local) (hc : X.calm = true) (c : CompOk X scope N cix)
    (hi : PI X tg iter wi) (hg : ∀ C s H ex, PG (compCx X scope N C s H ex) tg g) (ht : ∀ C s H ex, PTs (compCx X scope N C s H ex) ifs ti)
    (hi2 : ∀ C s H ex, PI (compCx X scope N C s H ex) tg2 iter2 wi2) (hg2 : ∀ C s H ex, PG (compCx X scope N C s H ex) tg2 g2) (ht2 : ∀ C s H ex, PTs (compCx X scope N C s H ex) ifs2 ti2) (he : ∀ C s H ex, PE (compCx X scope N C s H ex) elt te)
    (hsw : swapsWithSole [.Name nx px] (.ListComp elt [⟨tg, iter, ifs, 0⟩, ⟨tg2, iter2, ifs2, 0⟩] scope pos) spos.line X.env = pure true)
    (hs : ∀ x, foldedSetIterable iter X.env x = pure x := by intro _; rfl) (hs2 : ∀ C s H ex x, foldedSetIterable iter2 (compCx X scope N C s H ex).env x = pure x := by intro _ _ _ _ _; rfl)
    (h1a : (assignEach [.Name nx px] X.env).map (·.2) = [assign (.Name nx px) X.env] := by rfl) : PS X (.Assign [.Name nx px] (.ListComp elt [⟨tg, iter, ifs, 0⟩, ⟨tg2, iter2, ifs2, 0⟩] scope pos) spos) (tAsg (tComp2 wi g ti wi2 g2 ti2 te cix) (gName ix)) := by
  intro pins s σ H D I h0
  have h : tComp2 wi g ti wi2 g2 ti2 te cix σ H (fun x H1 => D.nx (σ.set ix (some x)) H1) := h0
  rw [exec_Assign_arm]
  refine wpAny_bind (wpAny_standAt ?_)
  rw [hsw]
  refine wpAny_bind (wpAny_pure ?_)
  rw [if_pos rfl]
  refine wpAny_bind ?_
  rw [evalThenUse.eq_1]
  refine wpAny_bind ?_
  generalize hU : (fun v => assignAll v ((assignEach [.Name nx px] X.env).map (·.2))) = U
  refine wpAny_comprehension_free (g := ⟨tg, iter, ifs, 0⟩) (gs := [⟨tg2, iter2, ifs2, 0⟩]) (use := some U) rfl hs (closure_of (c.cells I.ok)) c.kind c.names ?_
  refine (thn (hi pins s σ H _ I h) fun xv s1 h1 => thn h1 fun itv s2 h2 => ?_)
  obtain ⟨it, fp, tn, J, H2, e, I2, T, st2, f2, q2⟩ := h2
  subst e
  refine wpAny_newObj_type (wpAny_newFunctionEnv c.cell (by intro y hy; simp at hy) (fun h4 hns4 hsb4 => ?_) c.kind)
  dsimp only at hns4 hsb4 ⊢
  have hnone := I2.hok.fresh (Nat.le_refl s2.heap.objs.size)
  -- the new list
  have I3 : Inv X pins σ (upd H2 s2.heap.objs.size (.lst [])) { s2 with heap := s2.heap.push { cls := .type "list", dict := none, data := .seq ([] : List Value).toArray }, toks := s2.toks } := I2.lnew (t' := s2.toks) .nil (by simp)
  obtain ⟨W, ⟨m0, w0⟩, turn⟩ := q2 s2.heap.objs.size hnone
  have ltF : ∀ b ∈ fp, b < s2.heap.objs.size := fun b hb => by
    obtain ⟨o, ho, _⟩ := T.obj _ _ st2 b hb
    exact Heap.lt_size ho
  have f3 : ∀ b ∈ fp, FpOk X pins (upd H2 s2.heap.objs.size (.lst [])) b := fun b hb => ⟨by rw [upd_ne (Nat.ne_of_lt (ltF b hb))]; exact (f2 b hb).1, (f2 b hb).2⟩
  have kp : ∀ b o, (s2.heap.push { cls := .type "list", dict := none, data := .seq ([] : List Value).toArray }).get? b = some o → h4.get? b = some o := fun b o e =>
    hsb4.extBut b o (Nat.ne_of_lt (Heap.lt_size e)) (Heap.get?_push_of_some _ e)
  have sz3 : s2.heap.objs.size < (s2.heap.push { cls := .type "list", dict := none, data := .seq ([] : List Value).toArray }).objs.size := by rw [Heap.size_push]; exact Nat.lt_succ_self _
  have I4 := inv_comp (tk := s2.toks + ([] : List (Str × Value)).length) I3 c f3 (fun b hb => Nat.lt_trans (ltF b hb) sz3) hns4 kp
  have st4 : tn 0 h4 := T.keep _ _ _ st2 fun b hb o e => kp b o (Heap.get?_push_of_some _ e)
  generalize hX : compCx X scope N (s2.heap.push { cls := .type "list", dict := none, data := .seq ([] : List Value).toArray }).objs.size
    { s2 with heap := s2.heap.push { cls := .type "list", dict := none, data := .seq ([] : List Value).toArray }, toks := s2.toks } (upd H2 s2.heap.objs.size (.lst [])) fp = X' at I4
  have pX : X'.prog = X.prog := by rw [← hX]; rfl
  have wX : X'.w = X.w := by rw [← hX]; rfl
  have KX : X'.K = X.K := by rw [← hX]; rfl
  have AX : X'.A = X.A := by rw [← hX]; rfl
  have cX : X'.calm = true := by rw [← hX]; exact hc
  have xX : X'.xe = fun _ _ => False := by rw [← hX]; rfl
  have eX : X'.env = compEnvC scope (capL X.env scope.names []) (s2.heap.push { cls := .type "list", dict := none, data := .seq ([] : List Value).toArray }).objs.size X.env := by rw [← hX]; rfl
  have hg' : PG X' tg g := by rw [← hX]; exact hg _ _ _ _
  have ht' : PTs X' ifs ti := by rw [← hX]; exact ht _ _ _ _
  have he' : PE X' elt te := by rw [← hX]; exact he _ _ _ _
  have hi2' : PI X' tg2 iter2 wi2 := by rw [← hX]; exact hi2 _ _ _ _
  have hg2' : PG X' tg2 g2 := by rw [← hX]; exact hg2 _ _ _ _
  have ht2' : PTs X' ifs2 ti2 := by rw [← hX]; exact ht2 _ _ _ _
  have hs2' : ∀ x, foldedSetIterable iter2 X'.env x = pure x := by rw [← hX]; exact hs2 _ _ _ _
  have f4 : ∀ {H' : Hp}, (∀ b ∈ fp, H' b = none) → ∀ b ∈ fp, FpOk X' [] H' b := fun {H'} hn b hb => by
    refine ⟨hn b hb, ?_, ?_, .inl ?_, ?_, ?_⟩
    · rw [eX]; exact Nat.ne_of_lt (Nat.lt_trans (ltF b hb) sz3)
    · have e1 : X'.fs = frs X.stack := by rw [← hX]; rfl
      rw [e1]
      intro z
      rcases List.mem_cons.mp (I2.stkSub b z) with e | e
      · exact (f2 b hb).2.1 e
      · exact (f2 b hb).2.2.1 e
    · rw [← hX]; exact hb
    · rw [eX]
      intro x a e
      rcases capL_some (c.cells I.ok) e with z | z
      · exact (f2 b hb).2.2.2.2.1 x a z
      · simp at z
    · intro p hp
      have e1 : X'.pn ++ ([] : List (Addr × Obj)) = [] := by rw [← hX]; rfl
      rw [e1] at hp
      simp at hp
  -- the loop
  have loop : ∀ s4 : Shared, s4 = { s2 with heap := h4, toks := s2.toks + ([] : List (Str × Value)).length } →
      codeAny (model X.prog X.w) X.A (.compLoop (.ListComp elt [⟨tg, iter, ifs, 0⟩, ⟨tg2, iter2, ifs2, 0⟩] scope pos) 0 (.ref it) (.ref s2.heap.objs.size) X'.env)
        (compPost (model X.prog X.w) X.A X.xe (some U) (fun _ s => wpAny (model X.prog X.w) X.A (pure ()) (fun _ s => wpAny (model X.prog X.w) X.A (pure Flow.next) (SP X pins D) X.xe s) X.xe s) (.ref s2.heap.objs.size) (s2.heap.push { cls := .type "list", dict := none, data := .seq ([] : List Value).toArray }).objs.size) s4 := by
    rintro s4 rfl
    refine codeAny_comp2_out hs2' (fun n s' => ∃ i σ' H', Inv X' [] σ' H' s' ∧ tn i s'.heap ∧ (∀ b ∈ fp, H' b = none) ∧ W i n σ' H') ?_ m0 ⟨0, capS σ cix, _, I4, st4, fun b hb => (f3 b hb).1, w0⟩
    rintro n s5 ⟨i, σ5, H5, I5, st5, fr5, w5⟩
    rcases turn i n σ5 H5 w5 with ⟨stop, qn⟩ | ⟨go, Nx, hN, step⟩
    · have := T.done X' pX wX KX cX i [] s5 σ5 H5 (fun _ _ => False) I5 (f4 fr5) st5 stop
      rw [AX] at this
      refine thn this fun r s6 ⟨hr, I6⟩ => ?_
      subst hr
      obtain ⟨m6, hn6, _⟩ := I6.loc
      have hfr : H5 (s2.heap.push { cls := .type "list", dict := none, data := .seq ([] : List Value).toArray }).objs.size = none := by
        have := I6.free
        rw [eX] at this
        exact this
      rw [eX] at hn6
      have I6' := I6
      rw [← hX] at I6'
      have IX := inv_uncomp I3 f3 I6' ⟨rfl, fun _ _ => rfl⟩
      have fC := I3.fpOk (Nat.le_refl _) hfr
      have hUv : U (.ref s2.heap.objs.size) = assignAll (.ref s2.heap.objs.size) [assign (.Name nx px) X.env] := by
        rw [← hU, ← h1a]
      show wpAny _ _ (U (.ref s2.heap.objs.size)) _ _ s6
      rw [hUv]
      refine wpAny_assign_Name (x := nx) (pos := px) ?_
      refine store_ok2 IX hNd hix (Or.inl hlx) (v := .ref s2.heap.objs.size) rfl (fun s7 I7 ⟨a7, hs7, ha7⟩ => ?_) (.inr hlx)
      have hCa : (s2.heap.push { cls := .type "list", dict := none, data := .seq ([] : List Value).toArray }).objs.size ≠ a7 := by
        intro z
        rcases ha7 with e | e
        · exact fC.2.1 (z.trans e)
        · exact fC.2.2.2.2.1 nx a7 e z.symm
      obtain ⟨oC, esC, epC, hoC, rC⟩ := hn6
      refine ⟨m6, ⟨oC, esC, epC, (hs7.2 _ hCa).trans hoC, rC⟩, fun h8 hs8 => ?_⟩
      refine wpAny_pure (wpAny_pure ?_)
      exact ⟨_, H5, I7.turned (t' := s7.toks) (fun b o hb e => (hs8.2 b hb).trans e) hfr fC.2.1 fC.2.2.2.1 fC.2.2.2.2.1 fC.2.2.2.2.2, qn⟩
    · have := T.item X' pX wX KX cX i [] s5 σ5 H5 (fun _ _ => False) I5 (f4 fr5) st5 go
      rw [AX] at this
      refine thn this fun r s6 ⟨u, hr, h6⟩ => ?_
      subst hr
      refine thn h6 fun _ s7 ⟨x, H7, I7, r7, y7, st7, fr7⟩ => ?_
      have I7' := I7.pinned (f4 fr7) (T.obj _ _ st7)
      have a7 := hg' _ s7 σ5 H7 x u _ I7' r7 (step x H7 y7)
      rw [pX, wX, AX, xX] at a7
      refine thn a7 fun _ s8 ⟨σ8, H8, I8, q8⟩ => ?_
      have t8 := ht' _ s8 σ8 H8 _ I8 q8
      rw [pX, wX, AX, xX] at t8
      refine thn t8 fun ok s9 ⟨H9, I9, q9⟩ => ?_
      have again : ∀ {s' : Shared} {σ' : St} {H' : Hp}, Inv X' ([] ++ pinsAt fp s7.heap) σ' H' s' → Nx σ' H' → ∃ m, m < n ∧ ∃ i σ' H', Inv X' [] σ' H' s' ∧ tn i s'.heap ∧ (∀ b ∈ fp, H' b = none) ∧ W i m σ' H' := fun {s' σ' H'} J' n' => by
        obtain ⟨m', hm, w'⟩ := hN σ' H' n'
        refine ⟨m', hm, i + 1, σ', H', J'.unpinned, T.keep _ _ _ st7 fun b hb o e => (J'.pin (b, o) (List.mem_append_right _ (List.mem_append_right _ (mem_pinsAt hb e)))).1, fun b hb => ?_, w'⟩
        obtain ⟨o, e, d⟩ := T.obj _ _ st7 b hb
        exact (J'.pin (b, o) (List.mem_append_right _ (List.mem_append_right _ (mem_pinsAt hb e)))).2.1
      cases ok with
      | false => exact again I9 q9
      | true =>
        have e9 := hi2' _ s9 σ8 H9 _ I9 q9
        rw [pX, wX, AX, xX] at e9
        refine thn e9 fun xv2 s10 h10 => thn h10 fun itv2 s11 h11 => ?_
        obtain ⟨it2, fp2, tn2, J2, H11, e2, I11, T2, st11, f11, W2, ⟨m20, w20⟩, turn2⟩ := h11
        subst e2
        rw [pX, wX, KX] at T2
        have stat : ∀ {H' : Hp}, (∀ b ∈ fp2, H' b = none) → ∀ b ∈ fp2, FpOk X' ([] ++ pinsAt fp s7.heap) H' b := fun hn b hb => ⟨hn b hb, (f11 b hb).2⟩
        have loop2 : codeAny (model X.prog X.w) X.A (.compLoop (.ListComp elt [⟨tg, iter, ifs, 0⟩, ⟨tg2, iter2, ifs2, 0⟩] scope pos) 1 (.ref it2) (.ref s2.heap.objs.size) X'.env) (fun r s₇ => match r with
            | .ok _ => ∃ m, m < n ∧ ∃ i σ' H', Inv X' [] σ' H' s₇ ∧ tn i s₇.heap ∧ (∀ b ∈ fp, H' b = none) ∧ W i m σ' H'
            | .error _ => False) s11 := by
          refine codeAny_comp2_in (fun n2 s' => ∃ i σ' H', Inv X' ([] ++ pinsAt fp s7.heap) σ' H' s' ∧ tn2 i s'.heap ∧ (∀ b ∈ fp2, H' b = none) ∧ W2 i n2 σ' H') ?_ m20 ⟨0, σ8, H11, I11, st11, fun b hb => (f11 b hb).1, w20⟩
          rintro n2 s12 ⟨i2, σ12, H12, I12, st12, fr12, w12⟩
          rcases turn2 i2 n2 σ12 H12 w12 with ⟨stop2, qn2⟩ | ⟨go2, Nx2, hN2, step2⟩
          · have := T2.done X' pX wX KX cX i2 _ s12 σ12 H12 (fun _ _ => False) I12 (stat fr12) st12 stop2
            rw [AX] at this
            refine thn this fun r s13 ⟨hr, I13⟩ => ?_
            subst hr
            exact again I13 qn2
          · have := T2.item X' pX wX KX cX i2 _ s12 σ12 H12 (fun _ _ => False) I12 (stat fr12) st12 go2
            rw [AX] at this
            refine thn this fun r s13 ⟨u, hr, h13⟩ => ?_
            subst hr
            refine thn h13 fun _ s14 ⟨x, H14, I14, r14, y14, st14, fr14⟩ => ?_
            have I14' := I14.pinned (stat fr14) (T2.obj _ _ st14)
            have a14 := hg2' _ s14 σ12 H14 x u _ I14' r14 (step2 x H14 y14)
            rw [pX, wX, AX, xX] at a14
            refine thn a14 fun _ s15 ⟨σ15, H15, I15, q15⟩ => ?_
            have t15 := ht2' _ s15 σ15 H15 _ I15 q15
            rw [pX, wX, AX, xX] at t15
            refine thn t15 fun ok s16 ⟨H16, I16, q16⟩ => ?_
            have again2 : ∀ {s' : Shared} {σ' : St} {H' : Hp}, Inv X' (([] ++ pinsAt fp s7.heap) ++ pinsAt fp2 s14.heap) σ' H' s' → Nx2 σ' H' → ∃ m, m < n2 ∧ ∃ i σ' H', Inv X' ([] ++ pinsAt fp s7.heap) σ' H' s' ∧ tn2 i s'.heap ∧ (∀ b ∈ fp2, H' b = none) ∧ W2 i m σ' H' := fun {s' σ' H'} J' n' => by
              obtain ⟨m', hm, w'⟩ := hN2 σ' H' n'
              refine ⟨m', hm, i2 + 1, σ', H', J'.unpinned, T2.keep _ _ _ st14 fun b hb o e => (J'.pin (b, o) (List.mem_append_right _ (List.mem_append_right _ (mem_pinsAt hb e)))).1, fun b hb => ?_, w'⟩
              obtain ⟨o, e, d⟩ := T2.obj _ _ st14 b hb
              exact (J'.pin (b, o) (List.mem_append_right _ (List.mem_append_right _ (mem_pinsAt hb e)))).2.1
            cases ok with
            | false => exact again2 I16 q16
            | true =>
              have e16 := he' _ s16 σ15 H16 _ I16 q16
              rw [pX, wX, AX, xX] at e16
              refine thn e16 fun u2 s17 ⟨v, H17, I17, r17, q17⟩ => ?_
              obtain ⟨xs, hxs, hlt, nx⟩ := q17
              have m17 := mt_append (X := X') _ s17 σ15 H17 (.ref s2.heap.objs.size) [v] (.ref s2.heap.objs.size) [u2] (fun _ H' => Nx2 σ15 H') I17 rfl (.cons r17 .nil) ⟨_, xs, v, rfl, rfl, hxs, hlt, nx⟩
              rw [pX, wX, AX, xX] at m17
              refine thn m17 fun _ s18 ⟨_, H18, I18, _, n18⟩ => again2 I18 n18
        exact codeAny_comp2_start loop2 (T2.self X.A 0 _ _ _ st11 loop2)
  have l0 := loop _ rfl
  rw [eX] at l0
  exact codeAny_compStart_list l0 (T.self X.A 0 _ _ _ st4 l0)
theorem qs_setC2 {X : Cx} {elt tg iter tg2 iter2 : Expr} {ifs ifs2 : List Expr} {scope : Scope} {pos spos : Pos} {wi wi2 : TI} {g g2 : TG} {ti ti2 : TT} {te : TE} {N : List Str} {cix : List (Option Nat)} {ix : Nat} {nx : Str} {px : Pos} (hNd : X.N.Nodup) (hix : X.N[ix]? = some nx) (hlx : X.env.scope.names.lookup nx = some .local) (hc : X.calm = true) (c : CompOk X scope N cix)
    (hi : QI X tg iter wi) (hg : ∀ C s H ex, QG (compCx X scope N C s H ex) tg g) (ht : ∀ C s H ex, QTs (compCx X scope N C s H ex) ifs ti)
    (hi2 : ∀ C s H ex, QI (compCx X scope N C s H ex) tg2 iter2 wi2) (hg2 : ∀ C s H ex, QG (compCx X scope N C s H ex) tg2 g2) (ht2 : ∀ C s H ex, QTs (compCx X scope N C s H ex) ifs2 ti2) (he : ∀ C s H ex, QE (compCx X scope N C s H ex) elt te)
    (hsw : swapsWithSole [.Name nx px] (.ListComp elt [⟨tg, iter, ifs, 0⟩, ⟨tg2, iter2, ifs2, 0⟩] scope pos) spos.line X.env = pure true := by rfl)
    (hs : ∀ x, foldedSetIterable iter X.env x = pure x := by intro _; rfl) (hs2 : ∀ C s H ex x, foldedSetIterable iter2 (compCx X scope N C s H ex).env x = pure x := by intro _ _ _ _ _; rfl)
    (h1a : (assignEach [.Name nx px] X.env).map (·.2) = [assign (.Name nx px) X.env] := by rfl) : QS X (.Assign [.Name nx px] (.ListComp elt [⟨tg, iter, ifs, 0⟩, ⟨tg2, iter2, ifs2, 0⟩] scope pos) spos) (tAsg (tComp2 wi g ti wi2 g2 ti2 te cix) (gName ix)) :=
  ⟨ps_setC2 hNd hix hlx hc c hi.run (fun C s H ex => (hg C s H ex).run) (fun C s H ex => (ht C s H ex).run) (fun C s H ex => (hi2 C s H ex).run) (fun C s H ex => (hg2 C s H ex).run) (fun C s H ex => (ht2 C s H ex).run) (fun C s H ex => (he C s H ex).run) hsw hs hs2 h1a⟩
/-! ### loops of clauses, by a word of each turn -/
section
variable {K : PySem.W.Frag} {a acc : Addr} {xs : List V} {g : TG} {ti : TT} {wi2 : TI} {g2 : TG} {ti2 : TT} {te : TE} {σ : St} {H : Hp} {Q : VK} {N : St → Hp → Prop}
theorem comp2_list (hacc : H acc = none) (Pv : Nat → St → Hp → Prop) (h0 : ∀ H', H' acc = some (.lst []) → Same H H' → Pv 0 σ H') (hl : ∀ i σ H, i ≤ xs.length → Pv i σ H → SqL K H a xs)
    (hs : ∀ i x σ H, xs[i]? = some x → Pv i σ H → comp2T g ti wi2 g2 ti2 te acc (Pv (i + 1)) x σ H) (hd : ∀ σ H, Pv xs.length σ H → Q (.ref acc) H) : comp2G (Itl K a) g ti wi2 g2 ti2 te acc Q σ (upd H acc (.lst [])) := by
  refine ⟨fun i m σ H => m = xs.length - i ∧ i ≤ xs.length ∧ Pv i σ H, ⟨xs.length, by simp, Nat.zero_le _, h0 _ upd_same (Same.upd hacc)⟩, ?_⟩
  rintro i m σ H ⟨rfl, hi, p⟩
  have q := hl i σ H hi p
  by_cases hlt : i < xs.length
  · refine .inr ⟨⟨xs, xs[i], q, by simp [hlt]⟩, Pv (i + 1), fun σ' H' p' => ⟨xs.length - (i + 1), by omega, rfl, hlt, p'⟩, fun x H' y => ?_⟩
    obtain ⟨e, y⟩ := y
    subst e
    exact hs i x σ _ (y xs q) p
  · have e : i = xs.length := by omega
    subst e
    exact .inl ⟨⟨xs, q, Nat.le_refl _⟩, hd σ H p⟩
theorem inner_list (Pv : Nat → St → Hp → Prop) (h0 : Pv 0 σ H) (hl : ∀ i σ H, i ≤ xs.length → Pv i σ H → SqL K H a xs)
    (hs : ∀ i x σ H, xs[i]? = some x → Pv i σ H → compT g ti te acc (Pv (i + 1)) x σ H) (hd : ∀ σ H, Pv xs.length σ H → N σ H) : innerG (Itl K a) g ti te acc N σ H := by
  refine ⟨fun i m σ H => m = xs.length - i ∧ i ≤ xs.length ∧ Pv i σ H, ⟨xs.length, by simp, Nat.zero_le _, h0⟩, ?_⟩
  rintro i m σ H ⟨rfl, hi, p⟩
  have q := hl i σ H hi p
  by_cases hlt : i < xs.length
  · refine .inr ⟨⟨xs, xs[i], q, by simp [hlt]⟩, Pv (i + 1), fun σ' H' p' => ⟨xs.length - (i + 1), by omega, rfl, hlt, p'⟩, fun x H' y => ?_⟩
    obtain ⟨e, y⟩ := y
    subst e
    exact hs i x σ _ (y xs q) p
  · have e : i = xs.length := by omega
    subst e
    exact .inl ⟨⟨xs, q, Nat.le_refl _⟩, hd σ H p⟩
end
/-! ### range(n), list(range(n)) -/
section
variable {X : Cx}
theorem cq_range : CallQ X (.type "range") (fun xs H Q => ∃ n, xs = [.int n] ∧ New H (.rng 0 n) Q) := ⟨by
  intro pins s σ H xs us Q I r h
  obtain ⟨n, rfl, q⟩ := h
  obtain ⟨u, rfl, ru⟩ := vals1 r
  obtain ⟨t, rfl⟩ := ru
  refine call_range_1 ?_
  refine ⟨.ref s.heap.objs.size, _, I.laid (t' := s.toks + 1 + 1) (o := .rng 0 n) (fun b ob q => Heap.get?_push_of_some _ q) (Nat.le_refl _) ?_, rfl, q.at (I.hok.fresh (Nat.le_refl _))⟩
  exact ⟨_, _, _, Heap.get?_push_size _ rfl⟩⟩
theorem rng_size (n : Nat) : Builtin.Range.rangeSize 0 (n : Int) 1 = n := by
  unfold Builtin.Range.rangeSize
  rw [if_pos (by decide)]
  split
  · rw [Int.ediv_one]; omega
  · omega
theorem vals_of : ∀ {xs : List V} {us : List Value}, xs.length = us.length → (∀ (i : Nat) x u, xs[i]? = some x → us[i]? = some u → RelV x u) → Vals xs us
  | [], [], _, _ => .nil
  | [], _ :: _, h, _ => by simp at h
  | _ :: _, [], h, _ => by simp at h
  | x :: xs, u :: us, h, k => .cons (k 0 x u rfl rfl) (vals_of (by simpa using h) fun i y v hy hv => k (i + 1) y v hy hv)
theorem cq_list_rng (hc : X.calm = true) : CallQ X (.type "list") (fun xs H Q => ∃ (p : Addr) (n : Nat), xs = [.ref p] ∧ H p = some (.rng 0 n) ∧ n ≤ 1000 ∧ New H (.lst ((List.range n).map fun i : Nat => V.int i)) Q) := ⟨by
  intro pins s σ H xs us Q I r h
  obtain ⟨p, n, rfl, hp, hn, q⟩ := h
  obtain ⟨u, rfl, ru⟩ := vals1 r
  cases ru
  obtain ⟨t, u, v, ho⟩ := I.hok p _ hp
  have hn' : n < sizeLine := small1000 hn
  refine call_list_range (a := 0) (b := n) (c := 1) (n := n) (I.ok.hd hc) ho ?_ ?_ (Nat.le_trans hn (by decide)) fun h' tk acc' c' kp hg hit => ?_
  · have e := rng_size n
    unfold Builtin.Range.small
    rw [e]
    simp [Builtin.Range.rangeFitsLong]
    omega
  · exact rng_size n
  · have hv : Vals ((List.range n).map fun i : Nat => V.int i) acc'.toList := by
      refine vals_of (by rw [List.length_map, List.length_range, Array.length_toList, hit.1]) fun j x u hx hu => ?_
      rw [List.getElem?_map] at hx
      obtain ⟨k, hk, rfl⟩ := Option.map_eq_some_iff.mp hx
      obtain ⟨hlt, e⟩ := List.getElem?_eq_some_iff.mp hk
      have : k = j := by simpa using e.symm
      subst this
      obtain ⟨t', rfl⟩ := hit.2 k u (by simpa using hu)
      exact ⟨t', by rw [show (0 : Int) + (k : Int) * 1 = k by omega]⟩
    refine ⟨.ref s.heap.objs.size, _, I.laid (t' := tk) (o := .lst ((List.range n).map fun i : Nat => V.int i)) kp (Nat.le_refl _) ?_, rfl, q.at (I.hok.fresh (Nat.le_refl _))⟩
    exact ⟨by rw [List.length_map, List.length_range]; exact Nat.le_of_lt hn', acc'.toList, c', hv, by simpa using hg⟩⟩
end
end L2


set_option Elab.async false
set_option linter.all false
set_option maxRecDepth 100000
namespace L2
open PySem PySem.Spec PyProof.Rows
/-! all standings of a room, by mixed radix -/
def rangeI (m : Int) : List Int := (List.range m.toNat).map fun i : Nat => (i : Int)
def crossI (rows : List (List Int)) (ws : List Int) : List (List Int) := rows.flatMap fun r => ws.map fun w => r ++ [w]
def allC (cs : List (List Int)) : List (List Int) := cs.foldl crossI [[]]
theorem allC_snoc (cs : List (List Int)) (c : List Int) : allC (cs ++ [c]) = crossI (allC cs) c := by
  unfold allC
  rw [List.foldl_append]
  rfl
def digsR : List Int → Nat → List Int
  | [], _ => []
  | m :: r, k => digsR r (k / m.toNat) ++ [((k % m.toNat : Nat) : Int)]
def sizeR : List Int → Nat
  | [] => 1
  | m :: r => sizeR r * m.toNat
theorem range_mul (P m : Nat) : List.range (P * m) = (List.range P).flatMap fun q => (List.range m).map fun r => q * m + r := by
  induction P with
  | zero => rw [Nat.zero_mul]; rfl
  | succ P ih =>
    rw [Nat.succ_mul, List.range_add, ih, List.range_succ, List.flatMap_append]
    simp
theorem cross_range (P m : Nat) (f : Nat → List Int) : crossI ((List.range P).map f) ((List.range m).map fun i : Nat => (i : Int)) = (List.range (P * m)).map fun k => f (k / m) ++ [((k % m : Nat) : Int)] := by
  unfold crossI
  rw [range_mul, List.map_flatMap, List.flatMap_map]
  congr 1
  funext q
  rw [List.map_map, List.map_map]
  refine List.map_congr_left fun r hr => ?_
  have hr' := List.mem_range.mp hr
  show f q ++ [(r : Int)] = f ((q * m + r) / m) ++ [(((q * m + r) % m : Nat) : Int)]
  have e1 : (q * m + r) / m = q := by
    rw [Nat.mul_comm, Nat.mul_add_div (by omega), Nat.div_eq_of_lt hr']
    omega
  have e2 : (q * m + r) % m = r := by
    rw [Nat.mul_comm, Nat.mul_add_mod, Nat.mod_eq_of_lt hr']
  rw [e1, e2]
theorem all_digs : ∀ rr : List Int, allC (rr.reverse.map rangeI) = (List.range (sizeR rr)).map (digsR rr)
  | [] => rfl
  | m :: r => by
    rw [List.reverse_cons, List.map_append]
    show allC (r.reverse.map rangeI ++ [rangeI m]) = _
    rw [allC_snoc, all_digs r]
    exact cross_range (sizeR r) m.toNat (digsR r)
def Valid : List Int → List Int → Prop
  | [], [] => True
  | m :: rm, w :: st => 0 ≤ w ∧ w < m ∧ Valid rm st
  | _, _ => False
theorem Valid.snoc : ∀ {rm st : List Int} {m w : Int}, Valid rm st → 0 ≤ w → w < m → Valid (rm ++ [m]) (st ++ [w])
  | [], [], _, _, _, h0, h1 => ⟨h0, h1, trivial⟩
  | [], _ :: _, _, _, h, _, _ => h.elim
  | _ :: _, [], _, _, h, _, _ => h.elim
  | _ :: rm, _ :: st, _, _, h, h0, h1 => ⟨h.1, h.2.1, Valid.snoc h.2.2 h0 h1⟩
theorem Valid.len : ∀ {rm st : List Int}, Valid rm st → st.length = rm.length
  | [], [], _ => rfl
  | [], _ :: _, h => h.elim
  | _ :: _, [], h => h.elim
  | _ :: rm, _ :: st, h => by rw [List.length_cons, List.length_cons, Valid.len h.2.2]
theorem Valid.get : ∀ {rm st : List Int}, Valid rm st → ∀ j : Nat, j < rm.length → 0 ≤ st.getD j 0 ∧ st.getD j 0 < rm.getD j 0
  | [], [], _, j, hj => by simp at hj
  | [], _ :: _, h, _, _ => h.elim
  | _ :: _, [], h, _, _ => h.elim
  | _ :: rm, _ :: st, h, 0, _ => ⟨h.1, h.2.1⟩
  | _ :: rm, _ :: st, h, j + 1, hj => by
    have := Valid.get h.2.2 j (by simpa using hj)
    simpa using this
theorem Valid.st {rm st : List Int} (h : Valid rm st) : ∀ b : Int, 0 ≤ b → b < rm.length → 0 ≤ many st b ∧ many st b < many rm b := fun b b0 b1 => by
  obtain ⟨j, rfl⟩ : ∃ j : Nat, b = j := ⟨b.toNat, by omega⟩
  rw [many_nat, many_nat]
  exact h.get j (by omega)
theorem sizeR_prod : ∀ {rr : List Int}, (∀ m ∈ rr, 1 ≤ m) → (sizeR rr : Int) = prodI rr.reverse
  | [], _ => rfl
  | m :: r, h => by
    have hm := h m List.mem_cons_self
    rw [List.reverse_cons, prodI_snoc, ← sizeR_prod fun x hx => h x (List.mem_cons_of_mem _ hx)]
    show ((sizeR r * m.toNat : Nat) : Int) = _
    rw [Int.natCast_mul]
    congr 1
    omega
/-! promises -/
def stD (st : List Int) : Dt := .tup (st.map .int)
theorem noLs_sts : ∀ sts : List (List Int), Dt.noLs (sts.map stD) = true
  | [] => rfl
  | st :: sts => by
    show ((stD st).noL && Dt.noLs (sts.map stD)) = true
    rw [noLs_sts sts, show (stD st).noL = true from noLs_ints st]
    rfl
/-- lists of ints, each at its place -/
def Lists (H : Hp) (xs : List V) (cs : List (List Int)) : Prop := xs.length = cs.length ∧ ∀ (i : Nat) c, cs[i]? = some c → ∃ a, xs[i]? = some (.ref a) ∧ H a = some (.lst (c.map V.int))
theorem Lists.same {H H' : Hp} {xs : List V} {cs : List (List Int)} (h : Lists H xs cs) (s : Same H H') : Lists H' xs cs := ⟨h.1, fun i c hc => by
  obtain ⟨a, h1, h2⟩ := h.2 i c hc
  exact ⟨a, h1, s _ _ h2⟩⟩
def spCombined (K : PySem.W.Frag) : Sp := fun vs H Q _ => ∃ (ca : Addr) (xs : List V) (cs : List (List Int)), vs = [.ref ca] ∧ H ca = some (.lst xs) ∧ Lists H xs cs ∧ cs.length ≤ 8 ∧ (∀ c ∈ cs, c.length ≤ 4) ∧
  ∀ (a : Addr) (ys : List V) (H' : Hp), H a = none → H' a = some (.lst ys) → IsL H' ((allC cs).map stD) ys → Same H H' → Q (.ref a) H'
theorem crossI_snoc (rows : List (List Int)) (r ws : List Int) : crossI (rows ++ [r]) ws = crossI rows ws ++ ws.map fun w => r ++ [w] := by
  unfold crossI
  rw [List.flatMap_append]
  simp
theorem crossI_len (rows : List (List Int)) (ws : List Int) : (crossI rows ws).length = rows.length * ws.length := by
  unfold crossI
  rw [List.length_flatMap]
  induction rows with
  | nil => simp
  | cons r rows ih => rw [List.map_cons, List.sum_cons, ih, List.length_map, List.length_cons, Nat.succ_mul, Nat.add_comm]
theorem allC_row : ∀ (cs : List (List Int)) (row : List Int), row ∈ allC cs → row.length = cs.length := by
  intro cs
  have : ∀ (n : Nat) (cs : List (List Int)), cs.length = n → ∀ row, row ∈ allC cs → row.length = cs.length := by
    intro n
    induction n with
    | zero =>
      intro cs h row hr
      have : cs = [] := List.eq_nil_of_length_eq_zero h
      subst this
      have : row = [] := by simpa [allC] using hr
      subst this
      rfl
    | succ n ih =>
      intro cs h row hr
      have hne : cs ≠ [] := by intro z; rw [z] at h; simp at h
      rw [← List.dropLast_concat_getLast hne, allC_snoc] at hr
      unfold crossI at hr
      obtain ⟨r, hr1, hr2⟩ := List.mem_flatMap.mp hr
      obtain ⟨w, _, rfl⟩ := List.mem_map.mp hr2
      have := ih cs.dropLast (by rw [List.length_dropLast]; omega) r hr1
      rw [List.length_append, this, List.length_dropLast]
      show cs.length - 1 + 1 = cs.length
      omega
  exact this cs.length cs rfl
theorem allC_le : ∀ (n : Nat) (cs : List (List Int)), cs.length = n → (∀ c ∈ cs, c.length ≤ 4) → (allC cs).length ≤ 4 ^ n := by
  intro n
  induction n with
  | zero =>
    intro cs h _
    have : cs = [] := List.eq_nil_of_length_eq_zero h
    subst this
    exact Nat.le_refl _
  | succ n ih =>
    intro cs h h4
    have hne : cs ≠ [] := by intro z; rw [z] at h; simp at h
    rw [← List.dropLast_concat_getLast hne, allC_snoc, crossI_len, Nat.pow_succ]
    exact Nat.mul_le_mul (ih cs.dropLast (by rw [List.length_dropLast]; omega) fun c hc => h4 c ((List.dropLast_sublist cs).subset hc)) (h4 _ (List.getLast_mem hne))
theorem allC_few {cs : List (List Int)} (h8 : cs.length ≤ 8) (h4 : ∀ c ∈ cs, c.length ≤ 4) (k : Nat) : (allC (cs.take k)).length ≤ 65536 := by
  refine Nat.le_trans (allC_le _ (cs.take k) rfl fun c hc => h4 c (List.mem_of_mem_take hc)) ?_
  have : (cs.take k).length ≤ 8 := by rw [List.length_take]; omega
  exact Nat.le_trans (Nat.pow_le_pow_right (by decide) this) (by decide)
def spAll : Sp := fun vs H Q _ => ∃ (ra : Addr) (rm : List Int), vs = [.ref ra] ∧ RoomAt H ra rm ∧ prodI rm ≤ 256 ∧
  ∀ (a : Addr) (ys : List V) (H' : Hp), H a = none → H' a = some (.lst ys) → IsL H' (((List.range (sizeR rm.reverse)).map (digsR rm.reverse)).map stD) ys → Same H H' → Q (.ref a) H'
theorem room_all (rm : List Int) : allC (rm.map rangeI) = (List.range (sizeR rm.reverse)).map (digsR rm.reverse) := by
  have := all_digs rm.reverse
  rwa [List.reverse_reverse] at this
theorem Same.none {H H' : Hp} (s : Same H H') {a : Addr} (h : H' a = none) : H a = none := by
  cases e : H a with
  | none => rfl
  | some o => rw [s _ _ e] at h; cases h
theorem rangeI_len (m : Int) : (rangeI m).length = m.toNat := by unfold rangeI; rw [List.length_map, List.length_range]
section
variable {X : Cx} {o : Expr} {to : TE} {apos cpos : Pos}
theorem qe_rev0 (ho : QE X o to) (hbase : attributeBase o "reverse" X.env (eval o X.env) = eval o X.env := by rfl) (hline : (apos.endLine == cpos.line) = true := by rfl) : QE X (.Call (.Attribute o "reverse" apos) [] [] cpos) (tBM0 X.K "list" rReverse to) := ⟨pe_bm0 PySem.F.plainAttrs_list PySem.F.slot_list_reverse PySem.F.type_list_reverse mt_reverse ho.run hbase hline⟩
end
theorem sizeR_pos : ∀ {rr : List Int}, (∀ m ∈ rr, 1 ≤ m) → 0 < sizeR rr
  | [], _ => by decide
  | m :: r, h => by
    have hm := h m List.mem_cons_self
    exact Nat.mul_pos (sizeR_pos fun x hx => h x (List.mem_cons_of_mem _ hx)) (by omega)
end L2


set_option Elab.async false
set_option linter.all false
set_option maxRecDepth 100000
/-! the library's tree of questions of a sort, answered by keys that are all unlike: what comes out rises -/
namespace L2
open PySem PySem.Spec PyProof.Rows PySem.W
/-- along the answers the tree ends with a, and every question is of places below n -/
inductive Run (ans : Nat → Nat → Bool) (n : Nat) : {α : Type} → KasT α → α → Prop
  | ret {α : Type} (a : α) : Run ans n (.ret a) a
  | ask {α : Type} {i j : Nat} {k : Bool → KasT α} {a : α} (hi : i < n) (hj : j < n) (h : Run ans n (k (ans i j)) a) : Run ans n (.ask i j k) a
theorem Run.bind {ans : Nat → Nat → Bool} {n : Nat} {α β : Type} {t : KasT α} {f : α → KasT β} {a : α} {b : β} (h : Run ans n t a) (k : Run ans n (f a) b) : Run ans n (t.bind f) b := by
  induction h with
  | ret a => exact k
  | ask hi hj _ ih => exact .ask hi hj (ih k)
section
variable {n : Nat} {f : Nat → Int}
def key (f : Nat → Int) (p : Array Nat) (k : Nat) : Int := f (p.getD k 0)
/-- p holds each place below n once, its first m keys rise -/
structure Up (n : Nat) (f : Nat → Int) (p : Array Nat) (m : Nat) : Prop where
  perm : p.Perm (List.range n).toArray
  le : m ≤ n
  up : ∀ k, k + 1 < m → key f p k < key f p (k + 1)
end
end L2


set_option Elab.async false
set_option linter.all false
set_option maxRecDepth 100000
set_option maxHeartbeats 1000000
namespace L2
open PySem PySem.Spec PyProof.Rows
/-! ### tuples of ints compared while a list is sorted -/
theorem lex_irrefl : ∀ s : List Int, HT.lexLt s s = false
  | [] => rfl
  | a :: s => by
    show (if a = a then HT.lexLt s s else _) = false
    rw [if_pos rfl]
    exact lex_irrefl s
theorem lex_trans : ∀ {a b c : List Int}, a.length = b.length → b.length = c.length → HT.lexLt a b = true → HT.lexLt b c = true → HT.lexLt a c = true
  | [], [], [], _, _, h, _ => h
  | x :: a, y :: b, z :: c, h1, h2, h3, h4 => by
    have h3' : (if x = y then HT.lexLt a b else decide (x < y)) = true := h3
    have h4' : (if y = z then HT.lexLt b c else decide (y < z)) = true := h4
    show (if x = z then HT.lexLt a c else decide (x < z)) = true
    by_cases e1 : x = y
    · by_cases e2 : y = z
      · rw [if_pos e1] at h3'
        rw [if_pos e2] at h4'
        rw [if_pos (e1.trans e2)]
        exact lex_trans (by simpa using h1) (by simpa using h2) h3' h4'
      · rw [if_neg e2] at h4'
        rw [if_neg (by omega)]
        have := of_decide_eq_true h4'
        exact decide_eq_true (by omega)
    · rw [if_neg e1] at h3'
      have l1 := of_decide_eq_true h3'
      by_cases e2 : y = z
      · rw [if_neg (by omega)]
        exact decide_eq_true (by omega)
      · rw [if_neg e2] at h4'
        have l2 := of_decide_eq_true h4'
        rw [if_neg (by omega)]
        exact decide_eq_true (by omega)
  | [], _ :: _, _, h, _, _, _ => by simp at h
  | _ :: _, [], _, h, _, _, _ => by simp at h
  | [], [], _ :: _, _, h, _, _ => by simp at h
  | _ :: _, _ :: _, [], _, h, _, _ => by simp at h
/-! ### the frame: all that lies beside the locals stays -/
section
variable {X : Cx}
end
end L2


set_option Elab.async false
set_option linter.all false
set_option maxRecDepth 100000
set_option maxHeartbeats 1000000
namespace L2
open PySem PySem.Spec PySem.Calls PyProof.Rows PySem.W
/-! ### a list of none or one, sorted -/
section
variable {X : Cx}
end
end L2


set_option Elab.async false
set_option linter.all false
set_option maxRecDepth 100000
set_option maxHeartbeats 1000000
/-! the table of a set: where a search goes, that it ends, and what it meets -/
namespace L2
open PySem
/-- strictly rising -/
def Ris (xs : Array Nat) : Prop := ∀ i j : Nat, i < j → j < xs.size → xs.getD i 0 < xs.getD j 0
theorem below_go {xs : Array Nat} (hr : Ris xs) {j : Nat} : ∀ (fuel lo hi : Nat), lo ≤ hi → hi ≤ xs.size → hi - lo ≤ fuel → (∀ i, i < lo → xs.getD i 0 < j) → (∀ i, hi ≤ i → i < xs.size → j ≤ xs.getD i 0) →
    ∃ p, SetTable.below.go xs j fuel lo hi = p ∧ p ≤ xs.size ∧ (∀ i, i < p → xs.getD i 0 < j) ∧ (∀ i, p ≤ i → i < xs.size → j ≤ xs.getD i 0)
  | 0, lo, hi, h1, h2, h3, h4, h5 => by
    have : lo = hi := by omega
    subst this
    exact ⟨lo, rfl, h2, h4, h5⟩
  | fuel + 1, lo, hi, h1, h2, h3, h4, h5 => by
    show ∃ p, (if lo < hi then if xs.getD ((lo + hi) / 2) j < j then SetTable.below.go xs j fuel ((lo + hi) / 2 + 1) hi else SetTable.below.go xs j fuel lo ((lo + hi) / 2) else lo) = p ∧ _
    by_cases hl : lo < hi
    · rw [if_pos hl]
      have hm : (lo + hi) / 2 < xs.size := by omega
      have e : xs.getD ((lo + hi) / 2) j = xs.getD ((lo + hi) / 2) 0 := by simp [hm]
      rw [e]
      by_cases hc : xs.getD ((lo + hi) / 2) 0 < j
      · rw [if_pos hc]
        refine below_go hr fuel _ hi (by omega) h2 (by omega) (fun i hi' => ?_) h5
        by_cases q : i = (lo + hi) / 2
        · rw [q]; exact hc
        · have := hr i ((lo + hi) / 2) (by omega) hm
          omega
      · rw [if_neg hc]
        refine below_go hr fuel lo _ (by omega) (by omega) (by omega) h4 (fun i hi' hs => ?_)
        by_cases q : i = (lo + hi) / 2
        · rw [q]; omega
        · have := hr ((lo + hi) / 2) i (by omega) hs
          omega
    · rw [if_neg hl]
      have : lo = hi := by omega
      subst this
      exact ⟨lo, rfl, h2, h4, h5⟩
theorem below_spec {xs : Array Nat} (hr : Ris xs) (j : Nat) : SetTable.below xs j ≤ xs.size ∧ (∀ i, i < SetTable.below xs j → xs.getD i 0 < j) ∧ (∀ i, SetTable.below xs j ≤ i → i < xs.size → j ≤ xs.getD i 0) := by
  obtain ⟨p, e, h⟩ := below_go hr (j := j) xs.size 0 xs.size (Nat.zero_le _) (Nat.le_refl _) (Nat.le_refl _) (fun i h => absurd h (Nat.not_lt_zero _)) (fun i h1 h2 => by omega)
  have e' : SetTable.below xs j = p := e
  rw [e']
  exact h
theorem getD_of {xs : Array Nat} {i j : Nat} (h : xs[i]? = some j) : i < xs.size ∧ xs.getD i 0 = j := by
  obtain ⟨h1, h2⟩ := Array.getElem?_eq_some_iff.mp h
  exact ⟨h1, by simp [h1, h2]⟩
theorem getq_of {xs : Array Nat} {i : Nat} (h : i < xs.size) : xs[i]? = some (xs.getD i 0) := by simp [h]
/-! ### the row of slots of a hash -/
/-- a table of which only the size is told -/
def tm (mask : Nat) : SetTable := ⟨mask, #[], #[], 0, true, 0, true⟩
def stp (mask : Nat) (h : Int) : Nat → SetTable.Probe
  | 0 => (tm mask).probeStart h
  | n + 1 => (tm mask).advance (stp mask h n)
def wk (mask : Nat) (h : Int) (n : Nat) : Nat := (stp mask h n).j
theorem adv_more (mask : Nat) (p : SetTable.Probe) (h : 0 < p.more) : (tm mask).advance p = { p with j := p.j + 1, more := p.more - 1 } := by
  unfold SetTable.advance
  rw [if_pos h]
theorem adv_leap (mask : Nat) (p : SetTable.Probe) (h : p.more = 0) : (tm mask).advance p = { p with j := (p.i * 5 + 1 + p.perturb / 32) % (mask + 1), more := SetTable.runEnd mask ((p.i * 5 + 1 + p.perturb / 32) % (mask + 1)) - (p.i * 5 + 1 + p.perturb / 32) % (mask + 1), i := (p.i * 5 + 1 + p.perturb / 32) % (mask + 1), perturb := p.perturb / 32 } := by
  unfold SetTable.advance
  rw [if_neg (by omega)]
  rfl
/-- the leaps -/
def lp (mask : Nat) (h : Int) : Nat → Nat × Nat
  | 0 => (SetTable.bits h % (mask + 1), SetTable.bits h)
  | n + 1 => SetTable.leap mask (lp mask h n).1 (lp mask h n).2
theorem run_le (mask i : Nat) : SetTable.runEnd mask i - i ≤ 9 := by unfold SetTable.runEnd; split <;> omega
theorem stp_run (mask : Nat) (h : Int) {T i q : Nat} (e : stp mask h T = ⟨i, SetTable.runEnd mask i - i, i, q, none⟩) : ∀ k, k ≤ SetTable.runEnd mask i - i → stp mask h (T + k) = ⟨i + k, SetTable.runEnd mask i - i - k, i, q, none⟩
  | 0, _ => e
  | k + 1, hk => by
    show (tm mask).advance (stp mask h (T + k)) = _
    rw [stp_run mask h e k (by omega), adv_more mask _ (by show 0 < SetTable.runEnd mask i - i - k; omega)]
    show (⟨i + k + 1, SetTable.runEnd mask i - i - k - 1, i, q, none⟩ : SetTable.Probe) = ⟨i + (k + 1), SetTable.runEnd mask i - i - (k + 1), i, q, none⟩
    rw [Nat.add_assoc, Nat.sub_sub]
theorem leap_at (mask : Nat) (h : Int) : ∀ k, ∃ T, T ≤ 10 * k ∧ stp mask h T = ⟨(lp mask h k).1, SetTable.runEnd mask (lp mask h k).1 - (lp mask h k).1, (lp mask h k).1, (lp mask h k).2, none⟩
  | 0 => ⟨0, Nat.le_refl _, rfl⟩
  | k + 1 => by
    obtain ⟨T, hT, e⟩ := leap_at mask h k
    have hr := run_le mask (lp mask h k).1
    refine ⟨T + (SetTable.runEnd mask (lp mask h k).1 - (lp mask h k).1) + 1, by omega, ?_⟩
    show (tm mask).advance (stp mask h (T + _)) = _
    rw [stp_run mask h e _ (Nat.le_refl _), adv_leap mask _ (Nat.sub_self _)]
    rfl
theorem lp_perturb (mask : Nat) (h : Int) : ∀ k, (lp mask h k).2 = SetTable.bits h / 32 ^ k
  | 0 => by show SetTable.bits h = _; simp
  | k + 1 => by
    show (lp mask h k).2 / 32 = _
    rw [lp_perturb mask h k, Nat.div_div_eq_div_mul, Nat.pow_succ]
theorem bits_lt (h : Int) : SetTable.bits h < 2 ^ 64 := by
  unfold SetTable.bits
  have h0 := Int.emod_nonneg h (show (2 ^ 64 : Int) ≠ 0 by decide)
  have h1 := Int.emod_lt_of_pos h (show (0 : Int) < 2 ^ 64 by decide)
  omega
/-- behind thirteen leaps nothing of the hash is left -/
def lcg (m i : Nat) : Nat := (i * 5 + 1) % m
def orb (m : Nat) : Nat → Nat → Nat
  | 0, i => i
  | k + 1, i => lcg m (orb m k i)
theorem lp_orb (mask : Nat) (h : Int) : ∀ k, (lp mask h (13 + k)).1 = orb (mask + 1) k (lp mask h 13).1
  | 0 => rfl
  | k + 1 => by
    show ((lp mask h (13 + k)).1 * 5 + 1 + (lp mask h (13 + k)).2 / 32) % (mask + 1) = lcg (mask + 1) (orb (mask + 1) k _)
    rw [← lp_orb mask h k, lp_perturb]
    have hb := bits_lt h
    have e : SetTable.bits h / 32 ^ (13 + k) = 0 := by
      refine Nat.div_eq_of_lt (Nat.lt_of_lt_of_le hb ?_)
      calc 2 ^ 64 ≤ 32 ^ 13 := by decide
        _ ≤ 32 ^ (13 + k) := Nat.pow_le_pow_right (by decide) (by omega)
    rw [e]
    rfl
theorem orb_add (m : Nat) (a : Nat) : ∀ (b i : Nat), orb m (a + b) i = orb m b (orb m a i)
  | 0, i => rfl
  | b + 1, i => by show lcg m (orb m (a + b) i) = lcg m (orb m b _); rw [orb_add m a b i]
/-- all slots lie on one ring -/
def orbL (m : Nat) : Nat → Nat → List Nat
  | 0, _ => []
  | n + 1, i => i :: orbL m n (lcg m i)
theorem orb_succ (m : Nat) (k i : Nat) : orb m (k + 1) i = orb m k (lcg m i) := by
  rw [Nat.add_comm, orb_add]
  rfl
theorem orbL_get (m : Nat) : ∀ (n i k : Nat), k < n → (orbL m n i)[k]? = some (orb m k i)
  | n + 1, i, 0, _ => rfl
  | n + 1, i, k + 1, h => by
    rw [orb_succ]
    exact orbL_get m n (lcg m i) k (by omega)
theorem orbL_len (m : Nat) : ∀ (n i : Nat), (orbL m n i).length = n
  | 0, _ => rfl
  | n + 1, i => by show (orbL m n _).length + 1 = n + 1; rw [orbL_len m n]
structure Ring (m : Nat) : Prop where
  pos : 0 < m
  all : ∀ v, v < m → v ∈ orbL m m 0
  back : orb m m 0 = 0
theorem Ring.reach {m : Nat} (r : Ring m) {i j : Nat} (hi : i < m) (hj : j < m) : ∃ k, k < m ∧ orb m k i = j := by
  obtain ⟨a, ha, ea⟩ := List.mem_iff_getElem.mp (r.all i hi)
  obtain ⟨b, hb, eb⟩ := List.mem_iff_getElem.mp (r.all j hj)
  rw [orbL_len] at ha hb
  have ea' : orb m a 0 = i := by
    have := orbL_get m m 0 a ha
    rw [List.getElem?_eq_getElem (by rw [orbL_len]; exact ha), ea] at this
    exact (Option.some.inj this).symm
  have eb' : orb m b 0 = j := by
    have := orbL_get m m 0 b hb
    rw [List.getElem?_eq_getElem (by rw [orbL_len]; exact hb), eb] at this
    exact (Option.some.inj this).symm
  by_cases hab : a ≤ b
  · refine ⟨b - a, by omega, ?_⟩
    rw [← ea', ← orb_add, show a + (b - a) = b by omega]
    exact eb'
  · refine ⟨b + m - a, by omega, ?_⟩
    rw [← ea', ← orb_add, show a + (b + m - a) = m + b by omega, orb_add, r.back]
    exact eb'
def ringB (m : Nat) : Bool := ((List.range m).all fun v => (orbL m m 0).contains v) && orb m m 0 == 0
theorem ring_of {m : Nat} (h0 : 0 < m) (h : ringB m = true) : Ring m := by
  unfold ringB at h
  rw [Bool.and_eq_true] at h
  refine ⟨h0, fun v hv => ?_, eq_of_beq h.2⟩
  have := List.all_eq_true.mp h.1 v (List.mem_range.mpr hv)
  exact List.contains_iff_mem.mp this
theorem ring8 : Ring 8 := ring_of (by decide) (by decide +kernel)
theorem ring32 : Ring 32 := ring_of (by decide) (by decide +kernel)
theorem ring128 : Ring 128 := ring_of (by decide) (by decide +kernel)
theorem ring512 : Ring 512 := ring_of (by decide) (by decide +kernel)
/-- each slot is come to -/
theorem wk_reach {mask : Nat} (r : Ring (mask + 1)) (h : Int) {j : Nat} (hj : j ≤ mask) : ∃ n, n < 10 * SetTable.turns mask ∧ wk mask h n = j := by
  have hb : (lp mask h 13).1 < mask + 1 := Nat.mod_lt _ (Nat.succ_pos _)
  obtain ⟨k, hk, e⟩ := r.reach hb (Nat.lt_succ_of_le hj)
  obtain ⟨T, hT, eT⟩ := leap_at mask h (13 + k)
  refine ⟨T, by unfold SetTable.turns; omega, ?_⟩
  show (stp mask h T).j = j
  rw [eT]
  show (lp mask h (13 + k)).1 = j
  rw [lp_orb, e]
end L2


set_option Elab.async false
set_option linter.all false
set_option maxRecDepth 100000
set_option maxHeartbeats 1000000
namespace L2
open PySem PySem.Spec PyProof.Rows
theorem ris_idx {xs : Array Nat} (hr : Ris xs) {i j a b : Nat} (hi : xs[i]? = some a) (hj : xs[j]? = some b) (h : a < b) : i < j := by
  obtain ⟨h1, h2⟩ := getD_of hi
  obtain ⟨h3, h4⟩ := getD_of hj
  rcases Nat.lt_trichotomy i j with q | q | q
  · exact q
  · subst q; omega
  · have := hr j i q h1; omega
theorem ris_full {xs : Array Nat} (hr : Ris xs) : ∀ (M : Nat), (∀ j, j < M → ∃ i : Nat, xs[i]? = some j) → ∀ (j i : Nat), j < M → xs[i]? = some j → j ≤ i
  | _, _, 0, _, _, _ => Nat.zero_le _
  | M, h, j + 1, i, hj, e => by
    obtain ⟨i', e'⟩ := h j (by omega)
    have h1 := ris_idx hr e' e (Nat.lt_succ_self j)
    have h2 := ris_full hr M h j i' (by omega) e'
    omega
theorem ris_gap {xs : Array Nat} (hr : Ris xs) {M : Nat} (h : xs.size < M) : ∃ j, j < M ∧ ∀ i : Nat, xs[i]? ≠ some j := by
  refine Classical.byContradiction fun hn => ?_
  have all : ∀ j, j < M → ∃ i : Nat, xs[i]? = some j := fun j hj => Classical.byContradiction fun hc => hn ⟨j, hj, fun i e => hc ⟨i, e⟩⟩
  obtain ⟨i, e⟩ := all (M - 1) (by omega)
  have h1 := ris_full hr M all (M - 1) i (by omega) e
  have h2 := (getD_of e).1
  omega
section
variable {t : SetTable} {hashAt : Nat → Int} {h : Int}
end
/-! ### a set of tuples -/
section
variable {prog : Program} {w : World}
abbrev tk (prog : Program) (w : World) : HeapKind prog w (List Key) := tupleKind (mixKind prog w)
def Reach (t : SetTable) (h : Int) (i : Nat) : Prop := ∃ n, n < 10 * SetTable.turns t.mask ∧ t.place[i]? = some (wk t.mask h n) ∧ ∀ m, m < n → ∃ i' : Nat, t.place[i']? = some (wk t.mask h m)
def okMask (m : Nat) : Prop := m = 7 ∨ m = 31 ∨ m = 127 ∨ m = 511
theorem okMask.ring {m : Nat} (h : okMask m) : Ring (m + 1) := by
  rcases h with rfl | rfl | rfl | rfl
  · exact ring8
  · exact ring32
  · exact ring128
  · exact ring512
theorem okMask.le {m : Nat} (h : okMask m) : 7 ≤ m ∧ m ≤ 511 := by rcases h with rfl | rfl | rfl | rfl <;> omega
structure Tb (prog : Program) (w : World) (t : SetTable) (es : Array (Int × Value)) (xs : List (List Key × Addr)) : Prop where
  eq : es.toList = xs.map fun q => ((tk prog w).hash q.1, Value.ref q.2)
  nd : (xs.map (·.1)).Nodup
  dm : t.dummies = #[]
  ris : Ris t.place
  le : ∀ (i j : Nat), t.place[i]? = some j → j ≤ t.mask
  sz : t.place.size = xs.length
  msk : okMask t.mask
  few : xs.length ≤ t.mask
  plain : t.plain = true
  led : t.led = !w.params.followText "set-order"
  reach : ∀ (i : Nat) (q : List Key × Addr), xs[i]? = some q → Reach t ((tk prog w).hash q.1) i
variable {t : SetTable} {es : Array (Int × Value)} {xs : List (List Key × Addr)}
theorem Tb.size (T : Tb prog w t es xs) : es.size = xs.length := by rw [← Array.length_toList, T.eq, List.length_map]
theorem Tb.get (T : Tb prog w t es xs) {i : Nat} {q : List Key × Addr} (h : xs[i]? = some q) : es[i]? = some ((tk prog w).hash q.1, Value.ref q.2) := by
  rw [← Array.getElem?_toList, T.eq, List.getElem?_map, h]
  rfl
theorem Tb.at' (T : Tb prog w t es xs) {i j : Nat} (h : t.place[i]? = some j) : ∃ q, xs[i]? = some q := by
  have := (getD_of h).1
  rw [T.sz] at this
  exact ⟨xs[i], List.getElem?_eq_getElem this⟩
theorem Tb.empty (T : Tb prog w t es xs) (h : Int) : ∃ N, N < 10 * SetTable.turns t.mask ∧ ∀ i : Nat, t.place[i]? ≠ some (wk t.mask h N) := by
  have := T.few
  obtain ⟨j, hj, hn⟩ := ris_gap T.ris (M := t.mask + 1) (by rw [T.sz]; omega)
  obtain ⟨N, h1, h2⟩ := wk_reach T.msk.ring h (Nat.le_of_lt_succ hj)
  exact ⟨N, h1, by rw [h2]; exact hn⟩
variable {A : Around} {E : Value → Shared → Prop} {s : Shared}
end
end L2


set_option Elab.async false
set_option linter.all false
set_option maxRecDepth 100000
set_option maxHeartbeats 1000000
namespace L2
open PySem PySem.Spec PyProof.Rows
section
variable {prog : Program} {w : World} {t : SetTable} {es : Array (Int × Value)} {xs : List (List Key × Addr)} {A : Around} {E : Value → Shared → Prop} {s : Shared}
/-- up to place n of its row nothing is k -/
def Passed (t : SetTable) (xs : List (List Key × Addr)) (h : Int) (k : List Key) (n : Nat) : Prop := ∀ m, m < n → ∃ (i : Nat) (q : List Key × Addr), t.place[i]? = some (wk t.mask h m) ∧ xs[i]? = some q ∧ q.1 ≠ k
end
end L2


set_option Elab.async false
set_option linter.all false
set_option maxRecDepth 100000
set_option maxHeartbeats 1000000
namespace L2
open PySem PySem.Spec PyProof.Rows
/-! ### one more -/
def insL {α : Type} (l : List α) (p : Nat) (x : α) : List α := l.take p ++ x :: l.drop p
theorem insL_lt {α : Type} {l : List α} {p i : Nat} {x : α} (hp : p ≤ l.length) (h : i < p) : (insL l p x)[i]? = l[i]? := by
  unfold insL
  rw [List.getElem?_append_left (by rw [List.length_take]; omega), List.getElem?_take_of_lt h]
theorem insL_eq {α : Type} {l : List α} {p : Nat} {x : α} (hp : p ≤ l.length) : (insL l p x)[p]? = some x := by
  unfold insL
  rw [List.getElem?_append_right (by rw [List.length_take]; omega), List.length_take, show p - min p l.length = 0 by omega]
  rfl
theorem insL_gt {α : Type} {l : List α} {p i : Nat} {x : α} (hp : p ≤ l.length) (h : p ≤ i) : (insL l p x)[i + 1]? = l[i]? := by
  unfold insL
  rw [List.getElem?_append_right (by rw [List.length_take]; omega), List.length_take, show i + 1 - min p l.length = (i - p) + 1 by omega, List.getElem?_cons_succ, List.getElem?_drop, show p + (i - p) = i by omega]
theorem insL_len {α : Type} {l : List α} {p : Nat} {x : α} (hp : p ≤ l.length) : (insL l p x).length = l.length + 1 := by
  unfold insL
  rw [List.length_append, List.length_cons, List.length_take, List.length_drop]
  omega
theorem insL_map {α β : Type} (f : α → β) (l : List α) (p : Nat) (x : α) : (insL l p x).map f = insL (l.map f) p (f x) := by
  unfold insL
  rw [List.map_append, List.map_cons, List.map_take, List.map_drop]
theorem insL_perm {α : Type} (l : List α) (p : Nat) (x : α) : (insL l p x).Perm (x :: l) := by
  unfold insL
  refine List.perm_middle.trans ?_
  rw [List.take_append_drop]
theorem insertAt_toList {α : Type} (xs : Array α) {p : Nat} (x : α) : (SetTable.insertAt xs p x).toList = insL xs.toList p x := by
  unfold SetTable.insertAt insL
  rw [Array.toList_append, Array.toList_push, Array.toList_extract, Array.toList_extract, List.extract_eq_take_drop, List.extract_eq_take_drop]
  rw [Nat.sub_zero, List.drop_zero, List.append_assoc]
  congr 1
  show x :: _ = _
  congr 1
  show [] ++ List.take _ (List.drop p xs.toList) = _
  rw [List.nil_append]
  refine List.take_of_length_le ?_
  rw [List.length_drop, Array.length_toList]
  exact Nat.le_refl _
theorem arr_q {α : Type} (xs : Array α) (i : Nat) : xs[i]? = xs.toList[i]? := (Array.getElem?_toList).symm
/-- where old ones lie behind an insertion -/
theorem ins_old {xs : Array Nat} {p j i v : Nat} (hp : p ≤ xs.size) (h : xs[i]? = some v) : (SetTable.insertAt xs p j)[if i < p then i else i + 1]? = some v := by
  rw [arr_q, insertAt_toList]
  rw [arr_q] at h
  have hp' : p ≤ xs.toList.length := by rw [Array.length_toList]; exact hp
  split
  · rename_i hi
    rw [insL_lt hp' hi, h]
  · rename_i hi
    rw [insL_gt hp' (by omega), h]
theorem ins_back {xs : Array Nat} {p j i v : Nat} (hp : p ≤ xs.size) (h : (SetTable.insertAt xs p j)[i]? = some v) : (i = p ∧ v = j) ∨ (i < p ∧ xs[i]? = some v) ∨ ∃ i', i = i' + 1 ∧ p ≤ i' ∧ xs[i']? = some v := by
  rw [arr_q, insertAt_toList] at h
  have hp' : p ≤ xs.toList.length := by rw [Array.length_toList]; exact hp
  rcases Nat.lt_trichotomy i p with q | q | q
  · rw [insL_lt hp' q, ← arr_q] at h
    exact .inr (.inl ⟨q, h⟩)
  · subst q
    rw [insL_eq hp'] at h
    cases h
    exact .inl ⟨rfl, rfl⟩
  · obtain ⟨i', rfl⟩ : ∃ i', i = i' + 1 := ⟨i - 1, by omega⟩
    rw [insL_gt hp' (by omega), ← arr_q] at h
    exact .inr (.inr ⟨i', rfl, by omega, h⟩)
theorem ris_insert {xs : Array Nat} (hr : Ris xs) {j : Nat} (hn : ∀ i : Nat, xs[i]? ≠ some j) : Ris (SetTable.insertAt xs (SetTable.below xs j) j) := by
  obtain ⟨b1, b2, b3⟩ := below_spec hr j
  intro i i2 hlt h2
  have e1 := getq_of (xs := SetTable.insertAt xs (SetTable.below xs j) j) (i := i) (by omega)
  have e2 := getq_of h2
  generalize (SetTable.insertAt xs (SetTable.below xs j) j).getD i 0 = v at e1
  generalize (SetTable.insertAt xs (SetTable.below xs j) j).getD i2 0 = v2 at e2
  have big : ∀ i v, SetTable.below xs j ≤ i → xs[i]? = some v → j < v := fun i v h e => by
    obtain ⟨a1, a2⟩ := getD_of e
    have := b3 i h a1
    rcases Nat.lt_or_ge j v with q | q
    · exact q
    · have : v = j := by omega
      subst this
      exact absurd e (hn i)
  have small : ∀ i v, i < SetTable.below xs j → xs[i]? = some v → v < j := fun i v h e => by
    obtain ⟨a1, a2⟩ := getD_of e
    have := b2 i h
    omega
  have mono : ∀ i i2 v v2, i < i2 → xs[i]? = some v → xs[i2]? = some v2 → v < v2 := fun i i2 v v2 h e e2 => by
    obtain ⟨a1, a2⟩ := getD_of e
    obtain ⟨a3, a4⟩ := getD_of e2
    have := hr i i2 h a3
    omega
  rcases ins_back b1 e1 with ⟨rfl, rfl⟩ | ⟨q, e⟩ | ⟨i', rfl, q, e⟩
  · rcases ins_back b1 e2 with ⟨rfl, rfl⟩ | ⟨q', e'⟩ | ⟨i'', rfl, q', e'⟩
    · omega
    · omega
    · exact big _ _ q' e'
  · rcases ins_back b1 e2 with ⟨rfl, rfl⟩ | ⟨q', e'⟩ | ⟨i'', rfl, q', e'⟩
    · exact small _ _ q e
    · exact mono _ _ _ _ hlt e e'
    · exact mono _ _ _ _ (by omega) e e'
  · rcases ins_back b1 e2 with ⟨rfl, rfl⟩ | ⟨q', e'⟩ | ⟨i'', rfl, q', e'⟩
    · omega
    · omega
    · exact mono _ _ _ _ (by omega) e e'
section
variable {prog : Program} {w : World} {t : SetTable} {es : Array (Int × Value)} {xs : List (List Key × Addr)}
theorem has_nil {j : Nat} : SetTable.has #[] j = false := rfl
theorem Tb.put (T : Tb prog w t es xs) {k : List Key} {b : Addr} {N : Nat} (hN : N < 10 * SetTable.turns t.mask) (he : ∀ i : Nat, t.place[i]? ≠ some (wk t.mask ((tk prog w).hash k) N)) (hp : Passed t xs ((tk prog w).hash k) k N)
    (hk : k ∉ xs.map (·.1)) (hf : xs.length + 1 ≤ t.mask) (hle : wk t.mask ((tk prog w).hash k) N ≤ t.mask) :
    ∃ xs', Tb prog w (t.put (wk t.mask ((tk prog w).hash k) N)).1 (SetTable.insertAt es (t.put (wk t.mask ((tk prog w).hash k) N)).2 ((tk prog w).hash k, .ref b)) xs' ∧ xs'.Perm ((k, b) :: xs) := by
  generalize hj : wk t.mask ((tk prog w).hash k) N = j at *
  obtain ⟨b1, b2, b3⟩ := below_spec T.ris j
  have hp2 : (t.put j).2 = SetTable.below t.place j := rfl
  have ht : (t.put j).1 = { t with place := SetTable.insertAt t.place (SetTable.below t.place j) j } := by
    unfold SetTable.put
    dsimp only
    rw [T.dm, has_nil]
    simp only [Bool.false_eq_true, if_false]
  generalize hpp : SetTable.below t.place j = p at *
  have hpx : p ≤ xs.length := by rw [← T.sz]; exact b1
  have shift : ∀ {i v : Nat}, t.place[i]? = some v → ∃ i' : Nat, (SetTable.insertAt t.place p j)[i']? = some v := fun {i v} h => ⟨_, ins_old b1 h⟩
  have hxp := insL_perm xs p (k, b)
  refine ⟨insL xs p (k, b), ?_, hxp⟩
  rw [hp2, ht]
  refine ⟨?_, ?_, T.dm, ?_, ?_, ?_, T.msk, ?_, T.plain, T.led, ?_⟩
  · rw [insertAt_toList, T.eq, insL_map]
  · rw [(hxp.map (·.1)).nodup_iff, List.map_cons, List.nodup_cons]
    exact ⟨hk, T.nd⟩
  · have := ris_insert T.ris he
    rw [hpp] at this
    exact this
  · intro i v e
    rcases ins_back b1 e with ⟨_, rfl⟩ | ⟨_, e'⟩ | ⟨_, _, _, e'⟩
    · exact hle
    · exact T.le _ _ e'
    · exact T.le _ _ e'
  · show (SetTable.insertAt t.place p j).size = _
    rw [← Array.length_toList, insertAt_toList, insL_len (by rw [Array.length_toList]; exact b1), insL_len hpx, Array.length_toList, T.sz]
  · show (insL xs p (k, b)).length ≤ t.mask
    rw [insL_len hpx]
    exact hf
  · intro i q hq
    rcases Nat.lt_trichotomy i p with z | z | z
    · rw [insL_lt hpx z] at hq
      obtain ⟨n, h1, h2, h3⟩ := T.reach i q hq
      refine ⟨n, h1, ?_, fun m hm => ?_⟩
      · have := ins_old (j := j) b1 h2
        rw [if_pos z] at this
        exact this
      · obtain ⟨i', e⟩ := h3 m hm
        exact shift e
    · subst z
      rw [insL_eq hpx] at hq
      cases hq
      refine ⟨N, hN, ?_, fun m hm => ?_⟩
      · show (SetTable.insertAt t.place i j)[i]? = _
        rw [arr_q, insertAt_toList, insL_eq (by rw [Array.length_toList]; exact b1)]
        exact congrArg some hj.symm
      · obtain ⟨i', q', e, _⟩ := hp m hm
        exact shift e
    · obtain ⟨i', rfl⟩ : ∃ i', i = i' + 1 := ⟨i - 1, by omega⟩
      rw [insL_gt hpx (by omega)] at hq
      obtain ⟨n, h1, h2, h3⟩ := T.reach i' q hq
      refine ⟨n, h1, ?_, fun m hm => ?_⟩
      · have := ins_old (j := j) b1 h2
        rw [if_neg (by omega)] at this
        exact this
      · obtain ⟨i', e⟩ := h3 m hm
        exact shift e
end
end L2


set_option Elab.async false
set_option linter.all false
set_option maxRecDepth 100000
set_option maxHeartbeats 1000000
namespace L2
open PySem PySem.Spec PyProof.Rows
/-! ### laid anew -/
theorem nodup_lt : ∀ (n : Nat) {l : List Nat}, l.Nodup → (∀ x ∈ l, x < n) → l.length ≤ n
  | 0, l, _, h => by
    cases l with
    | nil => exact Nat.le_refl _
    | cons a _ => exact absurd (h a List.mem_cons_self) (Nat.not_lt_zero _)
  | n + 1, l, hn, h => by
    by_cases hm : n ∈ l
    · have h1 := nodup_lt n (hn.erase n) fun x hx => by
        have := (hn.mem_erase_iff).mp hx
        have := h x this.2
        omega
      rw [List.length_erase_of_mem hm] at h1
      omega
    · have := nodup_lt n hn fun x hx => by
        have h1 := h x hx
        have : x ≠ n := fun z => hm (z ▸ hx)
        omega
      omega
theorem perm_of_nodup {α : Type} [BEq α] [LawfulBEq α] : ∀ {l l' : List α}, l.Nodup → l'.Nodup → (∀ x, x ∈ l ↔ x ∈ l') → l.Perm l'
  | [], l', _, _, h => by
    cases l' with
    | nil => exact .nil
    | cons a _ => exact absurd ((h a).mpr List.mem_cons_self) (by simp)
  | a :: l, l', hn, hn', h => by
    have ha : a ∈ l' := (h a).mp List.mem_cons_self
    refine List.Perm.trans (List.Perm.cons a ?_) (List.perm_cons_erase ha).symm
    rw [List.nodup_cons] at hn
    refine perm_of_nodup hn.2 (hn'.erase a) fun x => ?_
    rw [hn'.mem_erase_iff]
    constructor
    · intro hx
      exact ⟨fun z => hn.1 (z ▸ hx), (h x).mp (List.mem_cons_of_mem _ hx)⟩
    · rintro ⟨h1, h2⟩
      rcases List.mem_cons.mp ((h x).mpr h2) with z | z
      · exact absurd z h1
      · exact z
def St0 (mask : Nat) (h : Int) (K : Nat) : SetTable.Probe := ⟨(lp mask h K).1, SetTable.runEnd mask (lp mask h K).1 - (lp mask h K).1, (lp mask h K).1, (lp mask h K).2, none⟩
theorem leap_next {mask : Nat} {h : Int} {T K : Nat} (e : stp mask h T = St0 mask h K) : stp mask h (T + (SetTable.runEnd mask (lp mask h K).1 - (lp mask h K).1) + 1) = St0 mask h (K + 1) := by
  show (tm mask).advance (stp mask h (T + _)) = _
  rw [stp_run mask h e _ (Nat.le_refl _), adv_leap mask _ (Nat.sub_self _)]
  rfl
theorem lp_le (mask : Nat) (h : Int) : ∀ K, (lp mask h K).1 ≤ mask
  | 0 => Nat.le_of_lt_succ (Nat.mod_lt _ (Nat.succ_pos _))
  | K + 1 => Nat.le_of_lt_succ (Nat.mod_lt _ (Nat.succ_pos _))
theorem runEnd_le {mask i : Nat} (h : i ≤ mask) : SetTable.runEnd mask i ≤ mask ∧ i ≤ SetTable.runEnd mask i := by unfold SetTable.runEnd; split <;> omega
theorem free_spec {mask : Nat} {h : Int} {owner : Array (Option Nat)} (hs : owner.size = mask + 1) : ∀ (fuel K T : Nat), T ≤ 10 * K → stp mask h T = St0 mask h K → (∀ m, m < T → ∃ i', owner[wk mask h m]? = some (some i')) →
    (∃ K', K ≤ K' ∧ K' < K + fuel ∧ owner[(lp mask h K').1]? = some none) →
    ∃ N, SetTable.layClean.free mask owner fuel (lp mask h K).1 (lp mask h K).2 = some (wk mask h N) ∧ N < 10 * (K + fuel) ∧ wk mask h N ≤ mask ∧ owner[wk mask h N]? = some none ∧ ∀ m, m < N → ∃ i', owner[wk mask h m]? = some (some i')
  | 0, K, T, _, _, _, ⟨K', h1, h2, _⟩ => by omega
  | fuel + 1, K, T, hT, eT, occ, ⟨K', h1, h2, h3⟩ => by
    have hle := lp_le mask h K
    obtain ⟨r1, r2⟩ := runEnd_le hle
    have r9 := run_le mask (lp mask h K).1
    have wkk : ∀ k, k ≤ SetTable.runEnd mask (lp mask h K).1 - (lp mask h K).1 → wk mask h (T + k) = (lp mask h K).1 + k := fun k hk => by
      show (stp mask h (T + k)).j = _
      rw [stp_run mask h eT k hk]
    have inR : ∀ k, k ≤ SetTable.runEnd mask (lp mask h K).1 - (lp mask h K).1 → ∃ u, owner[(lp mask h K).1 + k]? = some u ∧ owner.getD ((lp mask h K).1 + k) (some 0) = u := fun k hk => by
      have hlt : (lp mask h K).1 + k < owner.size := by omega
      exact ⟨owner[(lp mask h K).1 + k], Array.getElem?_eq_getElem hlt, by simp [hlt]⟩
    show ∃ N, (match (List.range (SetTable.runEnd mask (lp mask h K).1 + 1 - (lp mask h K).1)).find? fun k => (owner.getD ((lp mask h K).1 + k) (some 0)).isNone with
      | some k => some ((lp mask h K).1 + k)
      | none => SetTable.layClean.free mask owner fuel (lp mask h (K + 1)).1 (lp mask h (K + 1)).2) = some (wk mask h N) ∧ _
    cases hf : (List.range (SetTable.runEnd mask (lp mask h K).1 + 1 - (lp mask h K).1)).find? fun k => (owner.getD ((lp mask h K).1 + k) (some 0)).isNone with
    | some k =>
      obtain ⟨hp, i, hi, hik, hbef⟩ := List.find?_eq_some_iff_getElem.mp hf
      rw [List.getElem_range] at hik
      subst hik
      rw [List.length_range] at hi
      have hk : i ≤ SetTable.runEnd mask (lp mask h K).1 - (lp mask h K).1 := by omega
      obtain ⟨u, hu1, hu2⟩ := inR i hk
      rw [hu2] at hp
      have hun : u = none := by
        cases u with
        | none => rfl
        | some z => exact absurd hp (by simp)
      subst hun
      refine ⟨T + i, by rw [wkk i hk], by omega, by rw [wkk i hk]; omega, by rw [wkk i hk]; exact hu1, fun m hm => ?_⟩
      by_cases hmT : m < T
      · exact occ m hmT
      · obtain ⟨k', rfl⟩ : ∃ k', m = T + k' := ⟨m - T, by omega⟩
        obtain ⟨u, hu1, hu2⟩ := inR k' (by omega)
        have := hbef k' (by omega)
        rw [List.getElem_range, hu2] at this
        rw [wkk k' (by omega), hu1]
        cases u with
        | none => simp at this
        | some i' => exact ⟨i', rfl⟩
    | none =>
      have hall := List.find?_eq_none.mp hf
      have occR : ∀ k, k ≤ SetTable.runEnd mask (lp mask h K).1 - (lp mask h K).1 → ∃ i', owner[(lp mask h K).1 + k]? = some (some i') := fun k hk => by
        obtain ⟨u, hu1, hu2⟩ := inR k hk
        have := hall k (List.mem_range.mpr (by omega))
        rw [hu2] at this
        cases u with
        | none => simp at this
        | some i' => exact ⟨i', hu1⟩
      have hKK : K ≠ K' := fun z => by
        subst z
        obtain ⟨i', e⟩ := occR 0 (Nat.zero_le _)
        rw [Nat.add_zero, h3] at e
        cases e
      have occ' : ∀ m, m < T + (SetTable.runEnd mask (lp mask h K).1 - (lp mask h K).1) + 1 → ∃ i', owner[wk mask h m]? = some (some i') := fun m hm => by
        by_cases hmT : m < T
        · exact occ m hmT
        · obtain ⟨k', rfl⟩ : ∃ k', m = T + k' := ⟨m - T, by omega⟩
          rw [wkk k' (by omega)]
          exact occR k' (by omega)
      obtain ⟨N, a1, a2, a3⟩ := free_spec hs fuel (K + 1) _ (by omega) (leap_next eT) occ' ⟨K', by omega, by omega, h3⟩
      exact ⟨N, a1, by omega, a3⟩
/-- whose each slot is -/
structure Own (mask : Nat) (hs : List Int) (n : Nat) (owner : Array (Option Nat)) : Prop where
  size : owner.size = mask + 1
  lt : ∀ (j i : Nat), owner[j]? = some (some i) → i < n
  inj : ∀ (j j' i : Nat), owner[j]? = some (some i) → owner[j']? = some (some i) → j = j'
  reach : ∀ (i : Nat) (h : Int), i < n → hs[i]? = some h → ∃ N, N < 10 * SetTable.turns mask ∧ owner[wk mask h N]? = some (some i) ∧ ∀ m, m < N → ∃ i', owner[wk mask h m]? = some (some i')
theorem Own.gap {mask : Nat} {hs : List Int} {n : Nat} {owner : Array (Option Nat)} (o : Own mask hs n owner) (hn : n ≤ mask) : ∃ j, j ≤ mask ∧ owner[j]? = some none := by
  refine Classical.byContradiction fun hc => ?_
  have all : ∀ j, j < mask + 1 → ∃ i, owner[j]? = some (some i) := fun j hj => by
    have hlt : j < owner.size := by rw [o.size]; exact hj
    cases e : owner[j] with
    | none => exact absurd ⟨j, Nat.le_of_lt_succ hj, by rw [Array.getElem?_eq_getElem hlt, e]⟩ hc
    | some i => exact ⟨i, by rw [Array.getElem?_eq_getElem hlt, e]⟩
  have hl := nodup_lt n (l := (List.range (mask + 1)).map fun j => ((owner[j]?).join).getD 0) ?_ ?_
  · rw [List.length_map, List.length_range] at hl
    omega
  · refine List.pairwise_map.mpr (List.Pairwise.imp_of_mem ?_ List.nodup_range)
    intro a b ha hb hab e
    refine hab ?_
    obtain ⟨i, hi⟩ := all a (List.mem_range.mp ha)
    obtain ⟨i', hi'⟩ := all b (List.mem_range.mp hb)
    rw [hi, hi'] at e
    have : i = i' := e
    subst this
    exact o.inj _ _ _ hi hi'
  · intro x hx
    obtain ⟨j, hj, rfl⟩ := List.mem_map.mp hx
    obtain ⟨i, hi⟩ := all j (List.mem_range.mp hj)
    rw [hi]
    exact o.lt _ _ hi
end L2


set_option Elab.async false
set_option linter.all false
set_option maxRecDepth 100000
set_option maxHeartbeats 1000000
namespace L2
open PySem PySem.Spec PyProof.Rows
theorem Own.step {mask : Nat} {hs : List Int} {n : Nat} {owner : Array (Option Nat)} {h : Int} (o : Own mask hs n owner) (hr : Ring (mask + 1)) (hn : n ≤ mask) (hh : hs[n]? = some h) :
    ∃ j, SetTable.layClean.free mask owner (SetTable.turns mask) (SetTable.bits h % (mask + 1)) (SetTable.bits h) = some j ∧ Own mask hs (n + 1) (owner.setIfInBounds j (some n)) := by
  obtain ⟨g, hg, eg⟩ := o.gap hn
  have hb : (lp mask h 13).1 < mask + 1 := Nat.lt_succ_of_le (lp_le mask h 13)
  obtain ⟨k, hk, e⟩ := hr.reach hb (Nat.lt_succ_of_le hg)
  obtain ⟨N, h1, h2, h3, h4, h5⟩ := free_spec o.size (SetTable.turns mask) 0 0 (Nat.le_refl _) (h := h) rfl (fun m hm => absurd hm (Nat.not_lt_zero _)) ⟨13 + k, Nat.zero_le _, by unfold SetTable.turns; omega, by rw [lp_orb, e]; exact eg⟩
  have hj : wk mask h N < owner.size := by rw [o.size]; omega
  have set_at : (owner.setIfInBounds (wk mask h N) (some n))[wk mask h N]? = some (some n) := by
    rw [Array.getElem?_setIfInBounds]
    simp [hj]
  have set_ne : ∀ j, j ≠ wk mask h N → (owner.setIfInBounds (wk mask h N) (some n))[j]? = owner[j]? := fun j hne => by
    rw [Array.getElem?_setIfInBounds]
    rw [if_neg (fun z => hne z.symm)]
  have keep : ∀ j i, owner[j]? = some (some i) → (owner.setIfInBounds (wk mask h N) (some n))[j]? = some (some i) := fun j i e => by
    by_cases q : j = wk mask h N
    · rw [q, h4] at e; cases e
    · rw [set_ne j q]; exact e
  refine ⟨wk mask h N, h1, by simp [o.size], fun j i e => ?_, fun j j' i e e' => ?_, fun i h' hi hh' => ?_⟩
  · by_cases q : j = wk mask h N
    · subst q; rw [set_at] at e; cases e; omega
    · rw [set_ne j q] at e
      have := o.lt _ _ e
      omega
  · by_cases q : j = wk mask h N
    · subst q
      rw [set_at] at e
      cases e
      by_cases q' : j' = wk mask h N
      · exact q'.symm
      · rw [set_ne j' q'] at e'
        have := o.lt _ _ e'
        omega
    · rw [set_ne j q] at e
      by_cases q' : j' = wk mask h N
      · subst q'
        rw [set_at] at e'
        cases e'
        have := o.lt _ _ e
        omega
      · rw [set_ne j' q'] at e'
        exact o.inj _ _ _ e e'
  · by_cases q : i = n
    · subst q
      rw [hh] at hh'
      cases hh'
      refine ⟨N, by unfold SetTable.turns at *; omega, set_at, fun m hm => ?_⟩
      obtain ⟨i', e⟩ := h5 m hm
      exact ⟨i', keep _ _ e⟩
    · obtain ⟨M, m1, m2, m3⟩ := o.reach i h' (by omega) hh'
      refine ⟨M, m1, keep _ _ m2, fun m hm => ?_⟩
      obtain ⟨i', e⟩ := m3 m hm
      exact ⟨i', keep _ _ e⟩
theorem own_zero (mask : Nat) (hs : List Int) : Own mask hs 0 (Array.replicate (mask + 1) none) := by
  have no : ∀ j i, (Array.replicate (mask + 1) (none : Option Nat))[j]? ≠ some (some i) := fun j i e => by
    rw [Array.getElem?_replicate] at e
    split at e <;> cases e
  exact ⟨by simp, fun j i e => absurd e (no j i), fun j j' i e => absurd e (no j i), fun i h hi => absurd hi (Nat.not_lt_zero _)⟩
theorem fold_own {mask : Nat} (hr : Ring (mask + 1)) : ∀ (rest pre : List Int) (owner : Array (Option Nat)), (pre ++ rest).length ≤ mask → Own mask (pre ++ rest) pre.length owner →
    ∃ owner', rest.foldl (fun (acc : Option (Array (Option Nat) × Nat)) h => acc.bind fun x => (SetTable.layClean.free mask x.1 (SetTable.turns mask) (SetTable.bits h % (mask + 1)) (SetTable.bits h)).bind fun j => some (x.1.setIfInBounds j (some x.2), x.2 + 1)) (some (owner, pre.length)) = some (owner', (pre ++ rest).length) ∧ Own mask (pre ++ rest) (pre ++ rest).length owner'
  | [], pre, owner, _, o => by
    rw [List.append_nil] at o ⊢
    exact ⟨owner, rfl, o⟩
  | h :: rest, pre, owner, hl, o => by
    have hl' : pre.length + (rest.length + 1) ≤ mask := by rw [List.length_append, List.length_cons] at hl; exact hl
    obtain ⟨j, e, o'⟩ := o.step hr (by omega) (h := h) (by rw [List.getElem?_append_right (Nat.le_refl _), Nat.sub_self]; rfl)
    have e1 : pre ++ h :: rest = (pre ++ [h]) ++ rest := by rw [List.append_assoc]; rfl
    have e2 : pre.length + 1 = (pre ++ [h]).length := by rw [List.length_append]; rfl
    rw [e1, e2] at o'
    obtain ⟨owner', f1, f2⟩ := fold_own hr rest (pre ++ [h]) _ (by rw [← e1]; exact hl) o'
    refine ⟨owner', ?_, by rw [e1]; exact f2⟩
    rw [List.foldl_cons, e1, ← f1, ← e2]
    congr 1
    show (SetTable.layClean.free mask owner (SetTable.turns mask) (SetTable.bits h % (mask + 1)) (SetTable.bits h)).bind _ = _
    rw [e]
    rfl
theorem layClean_own {mask : Nat} (hr : Ring (mask + 1)) (hs : Array Int) (hl : hs.size ≤ mask) : ∃ owner, SetTable.layClean mask hs = some owner ∧ Own mask hs.toList hs.size owner := by
  obtain ⟨owner, h1, h2⟩ := fold_own hr hs.toList [] (Array.replicate (mask + 1) none) (by rw [List.nil_append, Array.length_toList]; exact hl) (own_zero mask _)
  rw [List.nil_append, Array.length_toList] at h2
  refine ⟨owner, ?_, h2⟩
  unfold SetTable.layClean
  have h1' : hs.toList.foldl (fun (acc : Option (Array (Option Nat) × Nat)) h => acc.bind fun x => (SetTable.layClean.free mask x.1 (SetTable.turns mask) (SetTable.bits h % (mask + 1)) (SetTable.bits h)).bind fun j => some (x.1.setIfInBounds j (some x.2), x.2 + 1)) (some (Array.replicate (mask + 1) none, 0)) = some (owner, ([] ++ hs.toList).length) := h1
  rw [← Array.foldl_toList]
  have : (hs.toList.foldl (init := some (Array.replicate (mask + 1) (none : Option Nat), 0)) fun acc h => do
    let (owner, k) ← acc
    let j ← SetTable.layClean.free mask owner (SetTable.turns mask) (SetTable.bits h % (mask + 1)) (SetTable.bits h)
    pure (owner.setIfInBounds j (some k), k + 1)) = some (owner, ([] ++ hs.toList).length) := h1'
  rw [this]
  rfl
/-! ### the table that is laid -/
def liveL (mask : Nat) (owner : Array (Option Nat)) : List (Nat × Nat) := (List.range (mask + 1)).filterMap fun j => (owner.getD j none).map (j, ·)
theorem live_mem {mask : Nat} {hs : List Int} {n : Nat} {owner : Array (Option Nat)} (o : Own mask hs n owner) {j i : Nat} : (j, i) ∈ liveL mask owner ↔ owner[j]? = some (some i) := by
  unfold liveL
  rw [List.mem_filterMap]
  constructor
  · rintro ⟨j', hj', e⟩
    obtain ⟨i', e1, e2⟩ := Option.map_eq_some_iff.mp e
    cases e2
    have hlt : j < owner.size := by rw [o.size]; exact List.mem_range.mp hj'
    have : owner.getD j none = owner[j] := by simp [hlt]
    rw [this] at e1
    rw [Array.getElem?_eq_getElem hlt, e1]
  · intro e
    obtain ⟨hlt, e1⟩ := Array.getElem?_eq_some_iff.mp e
    refine ⟨j, List.mem_range.mpr (by rw [← o.size]; exact hlt), ?_⟩
    have : owner.getD j none = owner[j] := by simp [hlt]
    rw [this, e1]
    rfl
theorem live_up (mask : Nat) (owner : Array (Option Nat)) : (liveL mask owner).Pairwise fun a b => a.1 < b.1 := by
  unfold liveL
  refine List.pairwise_filterMap.mpr ((List.pairwise_lt_range).imp ?_)
  intro a b hab x hx y hy
  obtain ⟨i, _, rfl⟩ := Option.map_eq_some_iff.mp hx
  obtain ⟨i', _, rfl⟩ := Option.map_eq_some_iff.mp hy
  exact hab
theorem live_perm {mask : Nat} {hs : List Int} {owner : Array (Option Nat)} (o : Own mask hs hs.length owner) : ((liveL mask owner).map (·.2)).Perm (List.range hs.length) := by
  refine perm_of_nodup ?_ List.nodup_range fun i => ?_
  · refine List.pairwise_map.mpr (List.Pairwise.imp_of_mem ?_ (live_up mask owner))
    intro a b ha hb hab e
    have h1 := (live_mem o).mp ha
    have h2 := (live_mem o).mp hb
    rw [e] at h1
    have := o.inj _ _ _ h1 h2
    omega
  · rw [List.mem_range]
    constructor
    · intro h
      obtain ⟨⟨j, i'⟩, h1, rfl⟩ := List.mem_map.mp h
      exact o.lt _ _ ((live_mem o).mp h1)
    · intro h
      obtain ⟨N, _, e, _⟩ := o.reach i hs[i] h (List.getElem?_eq_getElem h)
      exact List.mem_map.mpr ⟨(_, i), (live_mem o).mpr e, rfl⟩
theorem range_filterMap {α : Type} (l : List α) : (List.range l.length).filterMap (fun i => l[i]?) = l := by
  have : ∀ (n : Nat) (l : List α), n = l.length → (List.range n).filterMap (fun i => l[i]?) = l := by
    intro n
    induction n with
    | zero => intro l h; cases l with | nil => rfl | cons _ _ => simp at h
    | succ n ih =>
      intro l h
      cases l with
      | nil => simp at h
      | cons a l =>
        rw [List.range_succ_eq_map, List.filterMap_cons]
        show a :: _ = _
        rw [List.filterMap_map]
        congr 1
        exact ih l (by simpa using h)
  exact this _ l rfl
section
variable {prog : Program} {w : World} {t : SetTable} {es : Array (Int × Value)} {xs : List (List Key × Addr)}
theorem Tb.laid (T : Tb prog w t es xs) {mask : Nat} (hm : okMask mask) (hl : xs.length ≤ mask) (finger moves : Nat) :
    ∃ t' order xs', SetTable.laid mask finger moves t.led true (es.map (·.1)) = some (t', order) ∧ (order.filterMap (es[·]?)).size = es.size ∧ Tb prog w t' (order.filterMap (es[·]?)) xs' ∧ xs'.Perm xs ∧ t'.mask = mask := by
  obtain ⟨owner, e, o⟩ := layClean_own hm.ring (es.map (·.1)) (by rw [Array.size_map, T.size]; exact hl)
  have hh : (es.map (·.1)).toList = xs.map fun q => (tk prog w).hash q.1 := by
    rw [Array.toList_map, T.eq, List.map_map]
    rfl
  have hsz : (es.map (·.1)).size = xs.length := by rw [Array.size_map, T.size]
  rw [hh, hsz] at o
  have o' : Own mask (xs.map fun q => (tk prog w).hash q.1) (xs.map fun q => (tk prog w).hash q.1).length owner := by rw [List.length_map]; exact o
  have hp := live_perm o'
  rw [List.length_map] at hp
  have hes : ((((liveL mask owner).map (·.2)).toArray).filterMap (es[·]?)).toList = ((liveL mask owner).map (·.2)).filterMap (es.toList[·]?) := by
    rw [Array.toList_filterMap]
    congr 1
    funext i
    exact arr_q es i
  have hxp : (((liveL mask owner).map (·.2)).filterMap (xs[·]?)).Perm xs := by
    have := hp.filterMap (xs[·]?)
    rw [range_filterMap] at this
    exact this
  have heq : ((liveL mask owner).map (·.2)).filterMap (es.toList[·]?) = (((liveL mask owner).map (·.2)).filterMap (xs[·]?)).map fun q => ((tk prog w).hash q.1, Value.ref q.2) := by
    rw [List.map_filterMap]
    congr 1
    funext i
    rw [T.eq, List.getElem?_map]
  -- places in step
  have hgetx : ∀ {c : Nat} {q : List Key × Addr}, (((liveL mask owner).map (·.2)).filterMap (xs[·]?))[c]? = some q → ∃ j i, (liveL mask owner)[c]? = some (j, i) ∧ xs[i]? = some q := by
    have gen : ∀ (l : List (Nat × Nat)), (∀ p ∈ l, p.2 < xs.length) → ∀ {c : Nat} {q : List Key × Addr}, ((l.map (·.2)).filterMap (xs[·]?))[c]? = some q → ∃ j i, l[c]? = some (j, i) ∧ xs[i]? = some q := by
      intro l
      induction l with
      | nil => intro _ c q h; simp at h
      | cons p l ih =>
        intro hlt c q h
        have hp2 := hlt p List.mem_cons_self
        rw [List.map_cons, List.filterMap_cons, List.getElem?_eq_getElem hp2] at h
        cases c with
        | zero =>
          refine ⟨p.1, p.2, rfl, ?_⟩
          rw [List.getElem?_eq_getElem hp2]
          exact h
        | succ c => exact ih (fun p' hp' => hlt p' (List.mem_cons_of_mem _ hp')) (by simpa using h)
    intro c q h
    refine gen _ (fun p hp => ?_) h
    obtain ⟨j, i⟩ := p
    exact o.lt _ _ ((live_mem o).mp hp)
  have hplace : ∀ {c j i : Nat}, (liveL mask owner)[c]? = some (j, i) → (((liveL mask owner).map (·.1)).toArray)[c]? = some j := fun {c j i} h => by
    rw [arr_q]
    show ((liveL mask owner).map (·.1))[c]? = _
    rw [List.getElem?_map, h]
    rfl
  refine ⟨_, _, ((liveL mask owner).map (·.2)).filterMap (xs[·]?), by unfold SetTable.laid; rw [e]; rfl, ?_, ⟨?_, ?_, rfl, ?_, ?_, ?_, hm, ?_, rfl, by exact T.led, ?_⟩, hxp, rfl⟩
  · show ((((liveL mask owner).map (·.2)).toArray).filterMap (es[·]?)).size = es.size
    rw [← Array.length_toList, hes, heq, List.length_map, hxp.length_eq, T.size]
  · exact hes.trans heq
  · rw [(hxp.map (·.1)).nodup_iff]
    exact T.nd
  · intro i j hij hj
    have hj' : j < (liveL mask owner).length := by
      have : (((liveL mask owner).map (·.1)).toArray).size = (liveL mask owner).length := by simp
      rw [← this]; exact hj
    have hi' : i < (liveL mask owner).length := Nat.lt_trans hij hj'
    have := List.pairwise_iff_getElem.mp (live_up mask owner) i j hi' hj' hij
    show (((liveL mask owner).map (·.1)).toArray).getD i 0 < (((liveL mask owner).map (·.1)).toArray).getD j 0
    have g : ∀ {c : Nat} (hc : c < (liveL mask owner).length), (((liveL mask owner).map (·.1)).toArray).getD c 0 = (liveL mask owner)[c].1 := fun {c} hc => (getD_of (hplace (c := c) (j := (liveL mask owner)[c].1) (i := (liveL mask owner)[c].2) (List.getElem?_eq_getElem hc))).2
    rw [g hi', g hj']
    exact this
  · intro c j hc
    have hc' : ((liveL mask owner).map (·.1))[c]? = some j := by rw [arr_q] at hc; exact hc
    rw [List.getElem?_map] at hc'
    obtain ⟨⟨j', i'⟩, h1, rfl⟩ := Option.map_eq_some_iff.mp hc'
    have h2 := (live_mem o).mp (List.mem_of_getElem? h1)
    have := (Array.getElem?_eq_some_iff.mp h2).1
    rw [o.size] at this
    show j' ≤ mask
    omega
  · show (((liveL mask owner).map (·.1)).toArray).size = _
    have h1 : (((liveL mask owner).map (·.1)).toArray).size = (liveL mask owner).length := by simp
    rw [h1, hxp.length_eq]
    have := hp.length_eq
    rw [List.length_map, List.length_range] at this
    exact this
  · rw [hxp.length_eq]
    exact hl
  · intro c q hq
    obtain ⟨j, i, h1, h2⟩ := hgetx hq
    have hi := (List.getElem?_eq_some_iff.mp h2).1
    obtain ⟨N, n1, n2, n3⟩ := o.reach i ((tk prog w).hash q.1) hi (by rw [List.getElem?_map, h2]; rfl)
    have hj := o.inj _ _ _ ((live_mem o).mp (List.mem_of_getElem? h1)) n2
    subst hj
    refine ⟨N, n1, hplace h1, fun m hm' => ?_⟩
    obtain ⟨i', e'⟩ := n3 m hm'
    obtain ⟨c', hc', ec'⟩ := List.mem_iff_getElem.mp ((live_mem o).mpr e')
    exact ⟨c', hplace (by rw [List.getElem?_eq_getElem hc', ec'])⟩
end
end L2


set_option Elab.async false
set_option linter.all false
set_option maxRecDepth 100000
set_option maxHeartbeats 1000000
namespace L2
open PySem PySem.Spec PyProof.Rows
section
variable {prog : Program} {w : World} {t : SetTable} {es : Array (Int × Value)} {xs : List (List Key × Addr)} {A : Around} {E : Value → Shared → Prop} {s : Shared}
/-- at a lies a set of these, room for one more -/
def SetIn (prog : Program) (w : World) (h : Heap) (a : Addr) (xs : List (List Key × Addr)) : Prop := ∃ o es ep t, h.get? a = some o ∧ o.ExactSet ∧ o.data = .set es ep t ∧ Tb prog w t es xs ∧ xs.length * 5 < t.mask * 3
end
end L2


set_option Elab.async false
set_option linter.all false
set_option maxRecDepth 100000
set_option maxHeartbeats 1000000
namespace L2
open PySem PySem.Spec PyProof.Rows PySem.W
/-! ### going over a set -/
end L2


set_option Elab.async false
set_option linter.all false
set_option maxRecDepth 100000
set_option maxHeartbeats 1000000
namespace L2
open PySem PySem.Spec PyProof.Rows PySem.W
section
variable {prog : Program} {w : World} {t : SetTable} {es : Array (Int × Value)} {xs : List (List Key × Addr)} {A : Around} {E : Value → Shared → Prop} {s : Shared}
def IsSetIter (h : Heap) (it a : Addr) (slot i n ep : Nat) : Prop := ∃ o, h.get? it = some o ∧ o.cls = .type "set_iterator" ∧ o.data = .fields #[.int slot 0, .int i 0, .ref a, .int n 0, .int ep 0]
theorem IsSetIter.typeIs {it a : Addr} {slot i n ep : Nat} (x : IsSetIter s.heap it a slot i n ep) : s.TypeIs (.ref it) "set_iterator" := let ⟨o, ho, hc, _⟩ := x; ⟨o, ho, hc⟩
/-- the set as it is -/
structure SetIs (prog : Program) (w : World) (h : Heap) (a : Addr) (es : Array (Int × Value)) (ep : Nat) (t : SetTable) (xs : List (List Key × Addr)) : Prop where
  ob : ∃ o, h.get? a = some o ∧ o.ExactSet ∧ o.data = .set es ep t
  tb : Tb prog w t es xs
theorem SetIs.typeIs {a : Addr} {ep : Nat} (S : SetIs prog w s.heap a es ep t xs) : s.TypeIs (.ref a) "set" := let ⟨o, ho, hc, _⟩ := S.ob; ⟨o, ho, hc.1⟩
end
end L2


set_option Elab.async false
set_option linter.all false
set_option maxRecDepth 100000
set_option maxHeartbeats 1000000
namespace L2
open PySem PySem.Spec PyProof.Rows PySem.W PySem.Calls
section
variable {prog : Program} {w : World} {t : SetTable} {es : Array (Int × Value)} {xs : List (List Key × Addr)} {A : Around} {E : Value → Shared → Prop} {s : Shared}
theorem SetIs.keep {h h' : Heap} {a : Addr} {ep : Nat} (S : SetIs prog w h a es ep t xs) (k : ∀ o, h.get? a = some o → h'.get? a = some o) : SetIs prog w h' a es ep t xs := let ⟨⟨o, ho, r⟩, T⟩ := S; ⟨⟨o, k o ho, r⟩, T⟩
theorem IsSetIter.keep {h h' : Heap} {it a : Addr} {slot i n ep : Nat} (S : IsSetIter h it a slot i n ep) (k : ∀ o, h.get? it = some o → h'.get? it = some o) : IsSetIter h' it a slot i n ep := let ⟨o, ho, r⟩ := S; ⟨o, k o ho, r⟩
theorem SetIs.lt {h : Heap} {a : Addr} {ep : Nat} (S : SetIs prog w h a es ep t xs) : a < h.objs.size := let ⟨⟨o, ho, _⟩, _⟩ := S; Heap.lt_size ho
end
end L2


set_option Elab.async false
set_option linter.all false
set_option maxRecDepth 100000
set_option maxHeartbeats 1000000
namespace L2
open PySem PySem.Spec PyProof.Rows PySem.W PySem.Calls
/-- the i-th thing is a tuple of these ints -/
def RowAt (h : Heap) (L D : Addr) (v : Value) (st : List Int) : Prop := ∃ (a : Addr) (items : List Value), v = .ref a ∧ IsTup h a items.toArray ∧ Vals (st.map V.int) items ∧ a ≠ L ∧ a ≠ D
theorem RowAt.keep {h h' : Heap} {L D : Addr} {v : Value} {st : List Int} (r : RowAt h L D v st) (kp : ∀ b o, b ≠ L → b ≠ D → h.get? b = some o → h'.get? b = some o) : RowAt h' L D v st := by
  obtain ⟨a, items, e, ⟨o, ho, hc⟩, hv, h1, h2⟩ := r
  exact ⟨a, items, e, ⟨o, kp a o h1 h2 ho, hc⟩, hv, h1, h2⟩
section
variable {prog : Program} {w : World} {A : Around} {E : Value → Shared → Prop} {s : Shared}
end
end L2


set_option Elab.async false
set_option linter.all false
set_option maxRecDepth 100000
set_option maxHeartbeats 1000000
namespace L2
open PySem PySem.Spec PyProof.Rows PySem.W PySem.Calls
/-- a set of int tuples at a -/
def setO (P : Program) (w : World) (a : Addr) (xs : List (List Key × Addr)) : HO := .ext fun h => SetIn P w h a xs
def keyed (xs : List (List Int × Addr)) : List (List Key × Addr) := xs.map fun q => (q.1.map Sum.inl, q.2)
/-- at a lies a set: its members, in some order, each once -/
def SetV (P : Program) (w : World) (H : Hp) (a : Addr) (ks : List (List Int)) : Prop := ∃ xs : List (List Int × Addr), H a = some (setO P w a (keyed xs)) ∧ (∀ q ∈ xs, H q.2 = some (.tup (q.1.map V.int))) ∧ ks = xs.map (·.1) ∧ ks.Nodup
theorem SetV.same {P : Program} {w : World} {H H' : Hp} {a : Addr} {ks : List (List Int)} (S : SetV P w H a ks) (h : Same H H') : SetV P w H' a ks := by
  obtain ⟨xs, h1, h2, h3, h4⟩ := S
  exact ⟨xs, h _ _ h1, fun q hq => h _ _ (h2 q hq), h3, h4⟩
theorem SetV.stay {P : Program} {w : World} {H H' : Hp} {a : Addr} {ks : List (List Int)} (S : SetV P w H a ks) (h : Stay H H') : SetV P w H' a ks := by
  obtain ⟨xs, h1, h2, h3, h4⟩ := S
  exact ⟨xs, h _ _ h1 (fun _ e => by cases e), fun q hq => h.tup (h2 q hq), h3, h4⟩
theorem ints_kV : ∀ ns : List Int, (ns.map Sum.inl).map kV = ns.map V.int
  | [] => rfl
  | n :: ns => by rw [List.map_cons, List.map_cons, List.map_cons, ints_kV ns]; rfl
section
variable {X : Cx}
end
end L2


set_option Elab.async false
set_option linter.all false
set_option maxRecDepth 100000
set_option maxHeartbeats 1000000
namespace L2
open PySem PySem.Spec PyProof.Rows
section
variable {prog : Program} {w : World} {A : Around} {E : Value → Shared → Prop} {R : Result → Shared → Prop} {s : Shared}
end
theorem map_inl_inj : ∀ {ns ms : List Int}, ns.map (Sum.inl : Int → Key) = ms.map Sum.inl → ns = ms
  | [], [], _ => rfl
  | [], _ :: _, e => by cases e
  | _ :: _, [], e => by cases e
  | n :: ns, m :: ms, e => by
    rw [List.map_cons, List.map_cons] at e
    injection e with e1 e2
    rw [Sum.inl.inj e1, map_inl_inj e2]
section
variable {X : Cx}
end
end L2


set_option Elab.async false
set_option linter.all false
set_option maxRecDepth 100000
set_option maxHeartbeats 1000000
namespace L2
open PySem PySem.Spec PyProof.Rows
section
variable {P : Program} {w : World} {K : PySem.W.Frag} {a acc : Addr} {xs : List V} {g : TG} {ti : TT} {te : TE} {σ : St} {H : Hp} {Q : VK}
end
end L2


set_option Elab.async false
set_option linter.all false
set_option maxRecDepth 100000
/-! what is known of an earlier heap holds of a later one: the lemmas by which it goes up -/
namespace L2
open PySem
theorem up_eq {A B : Hp} (s : Same A B) {b : Addr} {o : HO} (h : A b = some o) : B b = some o := s _ _ h
theorem up_tup {A B : Hp} (s : Stay A B) {b : Addr} {xs : List V} (h : A b = some (.tup xs)) : B b = some (.tup xs) := s.tup h
theorem up_lst {A B : Hp} (s : Stay A B) {b : Addr} {xs : List V} (h : A b = some (.lst xs)) : B b = some (.lst xs) := s.lst h
theorem up_any {A B : Hp} (s : Stay A B) {b : Addr} {o : HO} (h : A b = some o) (n : ∀ kvs, o = .dK kvs → valV kvs (Sum.inr "at" : Key) = none) : B b = some o := s _ _ h n
theorem up_is {A B : Hp} (s : Stay A B) {d : Dt} {v : V} (h : Is A d v) : Is B d v := h.stay s
theorem up_isL {A B : Hp} (s : Stay A B) {d : List Dt} {v : List V} (h : IsL A d v) : IsL B d v := h.stay s
theorem up_room {A B : Hp} (s : Stay A B) {ra : Addr} {rm : List Int} (h : RoomAt A ra rm) : RoomAt B ra rm := h.stay s
theorem up_book {A B : Hp} (s : Stay A B) {rm : List Int} {ba : Addr} {xs : List V} {bk : List Wi} (h : BookAt A rm ba xs bk) : BookAt B rm ba xs bk := h.stay s
theorem up_all {A B : Hp} (s : Stay A B) {R : Dt → Prop} {xs : List V} (h : AllOf A R xs) : AllOf B R xs := h.stay s
theorem up_set {A B : Hp} (s : Stay A B) {P : Program} {w : World} {a : Addr} {ks : List (List Int)} (h : SetV P w A a ks) : SetV P w B a ks := h.stay s
theorem up_pen {A B : Hp} (s : Same A B) {p c : Addr} {ns : List Int} {n : Nat} (h : Pen A p c ns n) : Pen B p c ns n := h.same s
theorem up_ss {A B : Hp} (h : Same A B) : Stay A B := Stay.same h
theorem same_refl (H : Hp) : Same H H := fun _ _ z => z
end L2


set_option Elab.async false
set_option linter.all false
set_option maxRecDepth 100000
/-! defs with defaults at the end of their parameters -/
namespace L2
open PySem PySem.Spec PyProof.Rows
structure FunD (K : PySem.W.Frag) (x qual : Str) (st : Stmt) (f : Addr) (fd : FuncData) : Prop where
  ex : ∃ (oc : Value) (od : Option Addr) (dV kV doc pm : Value) (an : Option Addr) (cdv ct : Value) (osl : Array (Option Value)),
    fd = PySem.W.fnOf x qual (defArgs st) (defBody st) (defScope st) dV kV doc pm an cdv ct ∧ K.lookup f = some ⟨oc, od, .func fd, osl⟩ ∧ PySem.W.codeIn K cdv qual = true
  kp : PySem.W.keepIn K (.ref f) = true
theorem FunD.okQ {P : Program} {w : World} {K : PySem.W.Frag} {mg : Str → Option Value} {base : Heap} {x qual : Str} {st : Stmt} {f : Addr} {fd : FuncData} {N ps : List Str} {k : Nat} {sp : Sp} (F : FunD K x qual st f fd) (S : FnScope N ps (defScope st)) (len : ∀ vs H Q E, sp vs H Q E → vs.length = ps.length)
    (hbody : ∀ (cdv : Value) (A : Around) (outer : List Env) (s : Shared) (H : Hp) (vs : List V) (Q : VK) (E : XK), Room k (A.deeper (envOfC qual (defScope st) s.heap.objs.size f cdv)) → sp vs H Q E →
      ∃ t, QSs (cxOf CX0 P w K mg base N qual (defScope st) f cdv A outer s H E).nox (defBody st) t ∧ t { nx := fun _ H' => Q .non H', rt := Q } (start N vs) H) : FnOk P w K mg base CX0 (k + 1) f fd ps sp := by
  obtain ⟨oc, od, dV, kV, doc, pm, an, cdv, ct, osl, rfl, lk, hcd⟩ := F.ex
  refine fn_of lk hcd S len fun A outer s H vs Q E hr hsp => ?_
  obtain ⟨t, h, q⟩ := hbody cdv A outer s H vs Q E hr hsp
  exact ⟨t, h.run.nox, q⟩
structure DfnD (K : PySem.W.Frag) (mg : Str → Option Value) (x : Str) (st : Stmt) (ps : List Str) (ds : List Value) (f : Addr) (fd : FuncData) : Prop where
  F : FunD K x x st f fd
  b : Binds K fd ps []
  bd : Binds K fd ps ds
  m : mg x = some (.ref f)
section
variable {X : Cx}
end
end L2


set_option Elab.async false
set_option linter.all false
set_option maxRecDepth 100000
set_option maxHeartbeats 1000000
/-! going over the keys of a dict, whatever they are -/
namespace L2
open PySem PySem.Spec PyProof.Rows PySem.W PySem.Calls
section
variable {prog : Program} {w : World} {A : Around} {E : Value → Shared → Prop} {s : Shared} {es : Array DictEntry}
def EntAt (h : Heap) (d : Addr) (es : Array DictEntry) (ep : Nat) : Prop := ∃ o, h.get? d = some o ∧ o.ExactDict ∧ o.data = .dict es ep
theorem EntAt.keep {h h' : Heap} {d : Addr} {ep : Nat} (x : EntAt h d es ep) (k : ∀ o, h.get? d = some o → h'.get? d = some o) : EntAt h' d es ep := let ⟨o, ho, r⟩ := x; ⟨o, k o ho, r⟩
theorem EntAt.typeIs {d : Addr} {ep : Nat} (x : EntAt s.heap d es ep) : s.TypeIs (.ref d) "dict" := let ⟨o, ho, hc, _⟩ := x; ⟨o, ho, hc.1⟩
theorem EntAt.lt {h : Heap} {d : Addr} {ep : Nat} (x : EntAt h d es ep) : d < h.objs.size := let ⟨o, ho, _⟩ := x; Heap.lt_size ho
end
end L2


set_option Elab.async false
set_option linter.all false
set_option maxRecDepth 100000
set_option maxHeartbeats 1000000
namespace L2
open PySem PySem.Spec PyProof.Rows PySem.W PySem.Calls
/-! ### tuple(range(n)) -/
section
variable {prog : Program} {w : World} {A : Around} {E : Value → Shared → Prop} {s : Shared}
end
section
variable {X : Cx}
end
/-! ### dicts whose keys are tuples of ints -/
def keyT (kvs : List (List Int × V)) : List (List Key × V) := kvs.map fun q => (q.1.map Sum.inl, q.2)
def dtO (kvs : List (List Int × V)) : HO := .dT (keyT kvs)
theorem keyT_val (kvs : List (List Int × V)) (st : List Int) : valV (keyT kvs) (st.map Sum.inl) = valV kvs st := by
  unfold keyT
  induction kvs with
  | nil => rfl
  | cons q r ih =>
    rw [List.map_cons]
    by_cases e : q.1 = st
    · rw [valV_pos (p := q) e, valV_pos (p := (q.1.map Sum.inl, q.2)) (by rw [e])]
    · rw [valV_neg (p := q) e, valV_neg (p := (q.1.map Sum.inl, q.2)) (fun z => e (map_inl_inj z)), ih]
theorem keyT_put (kvs : List (List Int × V)) (st : List Int) (v : V) : putK (keyT kvs) (st.map Sum.inl) v = keyT (putK kvs st v) := by
  have hd : ∀ q : List Int × V, decide ((q.1.map (Sum.inl : Int → Key)) = st.map Sum.inl) = decide (q.1 = st) := fun q => by
    rw [Bool.eq_iff_iff, decide_eq_true_eq, decide_eq_true_eq]
    exact ⟨map_inl_inj, fun z => by rw [z]⟩
  have ha : ((keyT kvs).any fun kv => decide (kv.1 = st.map Sum.inl)) = kvs.any fun kv => decide (kv.1 = st) := by
    unfold keyT
    rw [List.any_map]
    congr 1
    funext q
    exact hd q
  unfold putK
  rw [ha]
  by_cases h : (kvs.any fun kv => decide (kv.1 = st)) = true
  · rw [if_pos h, if_pos h]
    unfold keyT
    rw [List.map_map, List.map_map]
    refine List.map_congr_left fun q _ => ?_
    by_cases e : q.1 = st
    · show (if (q.1.map Sum.inl) = st.map Sum.inl then _ else _) = _
      rw [if_pos (by rw [e])]
      show _ = (fun q : List Int × V => (q.1.map (Sum.inl : Int → Key), q.2)) (if q.1 = st then (q.1, v) else q)
      rw [if_pos e]
    · show (if (q.1.map Sum.inl) = st.map Sum.inl then _ else _) = _
      rw [if_neg fun z => e (map_inl_inj z)]
      show _ = (fun q : List Int × V => (q.1.map (Sum.inl : Int → Key), q.2)) (if q.1 = st then (q.1, v) else q)
      rw [if_neg e]
  · rw [if_neg h, if_neg h]
    unfold keyT
    rw [List.map_append]
    rfl
theorem DGet.i {H : Hp} {a b : Addr} {kvs : List (List Int × V)} {st : List Int} (e : H a = some (dtO kvs)) (eb : H b = some (.tup (st.map V.int))) : DGet H a (.ref b) (valV kvs st) := by
  have := DGet.t (k := st.map Sum.inl) e (by rw [ints_kV]; exact eb)
  rwa [keyT_val] at this
theorem DPut.i {H : Hp} {a b : Addr} {kvs : List (List Int × V)} {st : List Int} {v : V} (e : H a = some (dtO kvs)) (eb : H b = some (.tup (st.map V.int))) (hl : kvs.length < sizeLine) : DPut H a (.ref b) v (upd H a (dtO (putK kvs st v))) := by
  have := DPut.t (k := st.map Sum.inl) (v := v) e (by rw [ints_kV]; exact eb) (by unfold keyT; rw [List.length_map]; exact hl)
  rwa [keyT_put] at this
section
variable {X : Cx}
end
end L2


set_option Elab.async false
set_option linter.all false
set_option maxRecDepth 100000
/-! rising lists of standings -/
namespace L2
open PySem PySem.Spec PyProof.Rows
abbrev Up' (l : List (List Int)) : Prop := l.Pairwise fun a b => HT.lexLt a b = true
theorem up_uniq {m : Nat} : ∀ {l l' : List (List Int)}, (∀ y ∈ l, y.length = m) → Up' l → Up' l' → (∀ z, z ∈ l ↔ z ∈ l') → l = l'
  | [], [], _, _, _, _ => rfl
  | [], y :: r, _, _, _, h => absurd ((h y).mpr List.mem_cons_self) (by simp)
  | x :: l, [], _, _, _, h => absurd ((h x).mp List.mem_cons_self) (by simp)
  | x :: l, y :: r, hm, hu, hu', h => by
    rw [Up', List.pairwise_cons] at hu hu'
    have hm' : ∀ z ∈ y :: r, z.length = m := fun z hz => hm z ((h z).mpr hz)
    have e : x = y := by
      rcases List.mem_cons.mp ((h x).mp List.mem_cons_self) with e | e
      · exact e
      · rcases List.mem_cons.mp ((h y).mpr List.mem_cons_self) with e' | e'
        · exact e'.symm
        · have h1 := hu'.1 x e
          have h2 := hu.1 y e'
          have h3 := lex_trans ((hm x List.mem_cons_self).trans (hm' y List.mem_cons_self).symm) ((hm' y List.mem_cons_self).trans (hm x List.mem_cons_self).symm) h2 h1
          rw [lex_irrefl] at h3
          cases h3
    subst e
    have notin : ∀ {l : List (List Int)}, (∀ z ∈ l, HT.lexLt x z = true) → x ∉ l := fun hl z => by
      have := hl x z
      rw [lex_irrefl] at this
      cases this
    congr 1
    refine up_uniq (fun z hz => hm z (List.mem_cons_of_mem _ hz)) hu.2 hu'.2 fun z => ?_
    constructor
    · intro hz
      rcases List.mem_cons.mp ((h z).mp (List.mem_cons_of_mem _ hz)) with e | e
      · subst e; exact absurd hz (notin hu.1)
      · exact e
    · intro hz
      rcases List.mem_cons.mp ((h z).mpr (List.mem_cons_of_mem _ hz)) with e | e
      · subst e; exact absurd hz (notin hu'.1)
      · exact e
theorem up_nodup {l : List (List Int)} (h : Up' l) : l.Nodup := h.imp fun {a b} hab e => by
  subst e
  rw [lex_irrefl] at hab
  cases hab
/-! ### what a standing is bettered to -/
/-- held boxes: none, or a tuple of some -/
def HeldV (H : Hp) (v : V) (hs : List Int) : Prop := (v = .non ∧ hs = []) ∨ ∃ p, v = .ref p ∧ H p = some (.tup (hs.map V.int))
theorem HeldV.stay {H H' : Hp} {v : V} {hs : List Int} (h : HeldV H v hs) (s : Stay H H') : HeldV H' v hs := by
  rcases h with h | ⟨p, e, h⟩
  · exact .inl h
  · exact .inr ⟨p, e, s.tup h⟩
theorem up_HeldV {A B : Hp} (s : Stay A B) {v : V} {hs : List Int} (h : HeldV A v hs) : HeldV B v hs := h.stay s
/-- a list of standings lies at l -/
def StsAt (H : Hp) (l : Addr) (sts : List (List Int)) : Prop := ∃ ys, H l = some (.lst ys) ∧ IsL H (sts.map stD) ys
theorem StsAt.stay {H H' : Hp} {l : Addr} {sts : List (List Int)} (h : StsAt H l sts) (s : Stay H H') : StsAt H' l sts := let ⟨ys, h1, h2⟩ := h; ⟨ys, s.lst h1, h2.stay s⟩
theorem up_StsAt {A B : Hp} (s : Stay A B) {l : Addr} {sts : List (List Int)} (h : StsAt A l sts) : StsAt B l sts := h.stay s
theorem StsAt.ne {H : Hp} {l d : Addr} {sts : List (List Int)} (h : StsAt H d sts) (n : H l = none) : l ≠ d := by
  obtain ⟨ys, h1, _⟩ := h
  exact (ne_of_none h1 n).symm
theorem IsL.reverse {H : Hp} : ∀ {ds : List Dt} {xs : List V}, IsL H ds xs → IsL H ds.reverse xs.reverse
  | [], _, h => by cases h; rfl
  | d :: ds, xs, h => by
    obtain ⟨x, r, rfl, h1, h2⟩ := h
    rw [List.reverse_cons, List.reverse_cons]
    exact IsL.append h2.reverse (IsL.one h1)
/-! few: a box and a worth tell a bettering -/
end L2
namespace L2
open PySem
end L2


set_option Elab.async false
set_option linter.all false
set_option maxRecDepth 100000
/-! x in a list or tuple of data -/
namespace L2
open PySem PySem.Spec PyProof.Rows PySem.SeqAt
section
variable {X : Cx}
end
end L2


set_option Elab.async false
set_option linter.all false
set_option maxRecDepth 100000
/-! local pairs -/
namespace L2
open PySem PySem.Spec PyProof.Rows
/-! pairs tried one by one -/
def triedRow (C : Nat → Nat → Bool) (w j : Nat) : List (List Int) := ((List.range j).filter (C w)).map fun b : Nat => [(w : Int), (b : Int)]
def tried (C : Nat → Nat → Bool) (n : Nat) : Nat → List (List Int)
  | 0 => []
  | i + 1 => tried C n i ++ triedRow C i n
/-! what a wish leads to, or None -/
end L2


set_option Elab.async false
set_option linter.all false
set_option maxRecDepth 100000
set_option maxHeartbeats 3200000
/-! set(list of int tuples) -/
namespace L2
open PySem PySem.Spec PyProof.Rows PySem.W PySem.Calls
section
variable {prog : Program} {w : World} {A : Around} {E : Value → Shared → Prop} {s : Shared} {R : Result → Shared → Prop}
theorem SetIn.keep {h h' : Heap} {a : Addr} {xs : List (List Key × Addr)} (S : SetIn prog w h a xs) (k : ∀ o, h.get? a = some o → h'.get? a = some o) : SetIn prog w h' a xs := by
  obtain ⟨o, es, ep, t, ho, r⟩ := S
  exact ⟨o, es, ep, t, k o ho, r⟩
end
end L2


set_option Elab.async false
set_option linter.all false
set_option maxRecDepth 100000
set_option maxHeartbeats 1000000
namespace L2
open PySem PySem.Spec PyProof.Rows PySem.W PySem.Calls
section
variable {X : Cx}
end
end L2


set_option Elab.async false
set_option linter.all false
set_option maxRecDepth 100000
/-! xs[::k] of a list, k from 1 on -/
namespace L2
open PySem PySem.Spec PyProof.Rows
section
variable {X : Cx} {e st : Expr} {te tk : TE} {pos p2 : Pos}
end
end L2


set_option Elab.async false
set_option linter.all false
set_option maxRecDepth 100000
/-! why, betterings and local pairs hang together -/
namespace L2
open PySem PySem.Spec PyProof.Rows
/-- what is gained without touching the held boxes -/
def unlike (one z hs : List Int) : List Int := hs.filter fun b => decide (many one b ≠ many z b)
end L2
namespace L2
open PySem PySem.Spec PyProof.Rows
section
variable {X : Cx} {pos : Pos}
end
end L2
namespace L2
open PySem PySem.Spec PyProof.Rows
end L2
namespace L2
open PySem PySem.Spec PyProof.Rows
end L2
namespace L2
open PySem PySem.Spec PyProof.Rows
end L2


set_option Elab.async false
set_option linter.all false
set_option maxRecDepth 100000
set_option maxHeartbeats 4000000
/-! comprehensions one of whose own names is a cell (a comprehension within looks at it) -/
namespace L2
open PySem PySem.Spec PyProof.Rows
section
variable {M : Model} {A : Around} {E : Value → Shared → Prop} {s : Shared}
end
def capsC (XN : List Str) (Xnames names : List (Str × NameKind)) (N : List Str) (z : Str) (cix : List (Option Nat)) : Bool :=
  N.length == cix.length && (names.filter (fun y => y.2 == .cell) == [(z, NameKind.cell)] && names.lookup z == some .cell) && ((N.zip cix).all fun p => match p.2 with
    | none => true
    | some i => XN[i]? == some p.1 && names.lookup p.1 == some .free && (Xnames.lookup p.1 == some .cell || Xnames.lookup p.1 == some .free)) &&
  (names.all fun y => y.2 != .free || (Xnames.lookup y.1 == some .cell || Xnames.lookup y.1 == some .free))
structure CompOkC (X : Cx) (scope : Scope) (N : List Str) (z : Str) (cix : List (Option Nat)) : Prop where
  kind : scope.kind = .function
  names : ∀ x ∈ scope.names, x.2 = .local → scope.names.lookup x.1 = some .local
  caps : capsC X.N X.env.scope.names scope.names N z cix = true
theorem mem_of_lookup {α β : Type} [BEq α] [LawfulBEq α] {x : α} {k : β} : ∀ {l : List (α × β)}, l.lookup x = some k → (x, k) ∈ l
  | [], h => by simp at h
  | (n, q) :: r, h => by
    rw [List.lookup_cons] at h
    cases e : x == n with
    | true =>
      rw [e] at h
      have := eq_of_beq e
      subst this
      have h' : some q = some k := h
      cases h'
      exact List.mem_cons_self
    | false =>
      rw [e] at h
      exact List.mem_cons_of_mem _ (mem_of_lookup h)
section
variable {X : Cx} {pins : List (Addr × Obj)} {σ : St} {H : Hp} {s : Shared} {scope : Scope} {N : List Str} {z : Str} {cix : List (Option Nat)}
theorem CompOkC.parts (c : CompOkC X scope N z cix) : N.length = cix.length ∧ scope.names.filter (fun y => y.2 == .cell) = [(z, .cell)] := by
  have h := c.caps
  unfold L2.capsC at h
  rw [Bool.and_eq_true, Bool.and_eq_true, Bool.and_eq_true, Bool.and_eq_true] at h
  exact ⟨eq_of_beq h.1.1.1, eq_of_beq h.1.1.2.1⟩
theorem CompOkC.lk (c : CompOkC X scope N z cix) : scope.names.lookup z = some .cell := by
  have h := c.caps
  unfold L2.capsC at h
  rw [Bool.and_eq_true, Bool.and_eq_true, Bool.and_eq_true, Bool.and_eq_true] at h
  exact eq_of_beq h.1.1.2.2
theorem CompOkC.cells (c : CompOkC X scope N z cix) (ok : X.Ok) : ∀ x ∈ scope.names, x.2 = .free → ∃ a, X.env.cells.lookup x.1 = some a := fun x hx e => by
  have h := c.caps
  unfold L2.capsC at h
  rw [Bool.and_eq_true] at h
  have q := List.all_eq_true.mp h.2 x hx
  rw [e] at q
  have q' : (X.env.scope.names.lookup x.1 == some NameKind.cell || X.env.scope.names.lookup x.1 == some NameKind.free) = true := by simpa using q
  rcases Bool.or_eq_true_iff.mp q' with q | q
  · exact ok.has _ (.inl (eq_of_beq q))
  · exact ok.has _ (.inr (eq_of_beq q))
theorem CompOkC.cap (c : CompOkC X scope N z cix) {j i : Nat} {x : Str} (h1 : N[j]? = some x) (h2 : cix[j]? = some (some i)) : X.N[i]? = some x ∧ scope.names.lookup x = some .free ∧ (X.env.scope.names.lookup x = some .cell ∨ X.env.scope.names.lookup x = some .free) := by
  have h := c.caps
  unfold L2.capsC at h
  rw [Bool.and_eq_true, Bool.and_eq_true] at h
  have hm : (x, some i) ∈ N.zip cix := by
    refine List.mem_of_getElem? (i := j) ?_
    rw [List.getElem?_zip_eq_some]
    exact ⟨h1, h2⟩
  have q := List.all_eq_true.mp h.1.2 _ hm
  simp only [Bool.and_eq_true] at q
  refine ⟨eq_of_beq q.1.1, eq_of_beq q.1.2, ?_⟩
  rcases Bool.or_eq_true_iff.mp q.2 with q | q
  · exact .inl (eq_of_beq q)
  · exact .inr (eq_of_beq q)
end
end L2


set_option Elab.async false
set_option linter.all false
set_option maxRecDepth 100000
set_option maxHeartbeats 4000000
namespace L2
open PySem PySem.Spec PyProof.Rows
end L2
namespace L2
open PySem PySem.Spec PyProof.Rows
end L2


set_option Elab.async false
set_option linter.all false
set_option maxRecDepth 100000
set_option maxHeartbeats 4000000
/-! a comprehension whose value is used at once, one of its names a cell -/
namespace L2
open PySem PySem.Spec PyProof.Rows
end L2


set_option Elab.async false
set_option linter.all false
set_option maxRecDepth 100000
set_option maxHeartbeats 1600000
namespace L2
open PySem PySem.Spec PyProof.Rows
theorem tuple_no_keys : typeLookup (.type "tuple") "keys" = pure none := by rw [typeLookup_type, builtinLookup_eq_fast]; kernel_rfl
theorem attr_none_tuple {prog : Program} {w : World} {A : Around} {E : Value → Shared → Prop} {s : Shared} {a : Addr} {o : Obj} {xs : Array Value} {k : Nat} {name : Str} {Q : Option Value → Shared → Prop}
    (hx : s.heap.get? a = some o) (hc : o.cls = .type "tuple") (hdat : o.data = .seq xs k) (hd : o.dict = none) (hmiss : typeLookup (.type "tuple") name = pure none) (hname : (["__module__", "__name__", "__qualname__", "__doc__", "__annotations__"] : List Str).contains name = false) (hA : A.handled = none)
    (h : ∀ h' tk e, Heap.NewExcOf s.heap h' e "AttributeError" → Q none { s with heap := h', toks := tk }) (hsz : name.length + 100 ≤ sizeLine := by size_fits) :
    wpAny (model prog w) A (getAttr? (.ref a) name) Q E s := by
  obtain ⟨c, dct, dat, sl⟩ := o
  simp only at hc hdat hd
  subst hc hdat hd
  obtain ⟨hp, g, d, tk, os⟩ := s
  have hT : ∀ tk', (⟨hp, g, d, tk', os⟩ : Shared).TypeIs (.ref a) "tuple" := fun _ => ⟨_, hx, rfl⟩
  have f1 := sub_AttributeError
  have f3 := F.slot_tuple_getattribute.lookup
  have f4 := F.slot_tuple_getattribute.bind (.ref a)
  have f5 := am_tuple_getattr_none
  unfold getAttr? getAttrBy? getAttrBy
  repeat (any_goals (first | assumption | exact hT _ | ((with_reducible show wpAny _ _ (call (Value.builtin "tuple.__getattribute__") _ _) _ _ _); refine call_meets F.slot_tuple_getattribute (hT _) am_entry_tuple_getattribute (F.args_tuple_getattribute_2 _ _) (meets_getattribute_miss_tuple a xs k sl name _ hmiss hname hsz) ⟨hx, hA, fun h' tk e hx' => ?_⟩) | wp_step))
  obtain ⟨t', u', he⟩ := hx'.there
  show wpAny _ _ (getattributeRaised _ _ _ _ _ _ _) _ _ _
  unfold getattributeRaised
  repeat (any_goals (first | assumption | wp_step))
  exact h _ _ _ hx'.of
theorem entry_dict_update_loop : entryFor table "dict.update.loop" = some Builtin.«dict.update.loop» := entryFor_of_tree (by kernel_rfl)
theorem plain_dict_update_loop : plainId "dict.update.loop" = true := by decide +kernel
/-- one pair of a tuple of pairs -/
structure PairAt (h : Heap) (q : Addr × Int × Tok × Value) : Prop where
  at' : IsTup h q.1 #[.int q.2.1 q.2.2.1, q.2.2.2]
theorem PairAt.keep {h h' : Heap} {q : Addr × Int × Tok × Value} (x : PairAt h q) (k : ∀ o, h.get? q.1 = some o → h'.get? q.1 = some o) : PairAt h' q := by
  obtain ⟨o, ho, r⟩ := x.at'
  exact ⟨⟨o, k o ho, r⟩⟩
section
variable {prog : Program} {w : World} {A : Around} {E : Value → Shared → Prop} {s : Shared} {R : Result → Shared → Prop} {Kt : Type} [DecidableEq Kt] {knd : KeyKind prog w Kt} {κ : Int → Kt}
theorem wpAny_seqItemsO {a : Addr} {o : Obj} {xs : Array Value} {n : Nat} {Q : Option (Array Value) → Shared → Prop} (ho : s.heap.get? a = some o) (hd : o.data = .seq xs n) (h : Q (some xs) s) : wpAny (model prog w) A (seqItems? (.ref a)) Q E s := by
  obtain ⟨c, d, dt, sl⟩ := o
  simp only at hd
  subst hd
  unfold seqItems?
  repeat (any_goals (first | assumption | wp_step))
theorem dict_loop {D I l : Addr} {items : Array Value} {ps : List (Addr × Int × Tok × Value)} {tk0 : Tok} (hh : A.in1.handled = none) (hkk : ∀ n t, knd.is (κ n) (.int n t) = true) (hit : items.toList = ps.map fun q => Value.ref q.1) (hDI : D ≠ I) (hlD : l ≠ D) (hlI : l ≠ I) (hq : ∀ q ∈ ps, q.1 ≠ D ∧ q.1 ≠ I) (hn : ps.length ≤ 1000) :
    ∀ (k i : Nat) (s : Shared) (kvs : List (Kt × Value)) (j : Int) (tj : Tok), ps.length - i = k → i ≤ ps.length → s.heap.IsTupleIter I l i → s.heap.IsTuple l items → (∀ q ∈ ps, PairAt s.heap q) → s.heap.DictOf knd D kvs → kvs.length ≤ i →
      (∀ h' tk', h'.DictOf knd D (merged kvs ((ps.drop i).map fun q => (κ q.2.1, q.2.2.2))) → (∀ b o, b ≠ D → b ≠ I → s.heap.get? b = some o → h'.get? b = some o) → R (.ok (.ret .none)) { s with heap := h', toks := tk' }) →
      codeAny (model prog w) A (.builtin "dict.update.loop" ⟨[.ref D, .ref I, .int j tj, .none], []⟩) R s := by
  intro k
  induction k with
  | zero =>
    intro i s kvs j tj hk hi hI hl hel hD hlen hR
    have hin : i = ps.length := by omega
    subst hin
    refine codeAny_builtin entry_dict_update_loop ?_
    rw [Around.under_plainId plain_dict_update_loop _]
    show wpAny _ A.in1 (pyNext (.ref I) >>= _) _ _ s
    refine wpAny_bind (wpAny_pyNext_tuple_end hh hI hl ?_ fun h' hx => ?_)
    · have e : items.toList[ps.length]? = none := by rw [hit, List.getElem?_map, List.getElem?_eq_none (Nat.le_refl _)]; rfl
      simpa using e
    show wpAny _ A.in1 (Builtin.Dict.addKeywords D [] >>= _) _ _ _
    refine wpAny_bind (wpAny_pure (wpAny_pure (hR h' s.toks ?_ fun b o _ hb e => hx b o hb e)))
    rw [List.drop_length]
    obtain ⟨o, es, ep, ho, r⟩ := hD
    exact ⟨o, es, ep, hx D o hDI ho, r⟩
  | succ k ih =>
    intro i s kvs j tj hk hi hI hl hel hD hlen hR
    have hlt : i < ps.length := by omega
    refine codeAny_builtin entry_dict_update_loop ?_
    rw [Around.under_plainId plain_dict_update_loop _]
    show wpAny _ A.in1 (pyNext (.ref I) >>= _) _ _ s
    have hx : items[i]? = some (Value.ref ps[i].1) := by
      have e : items.toList[i]? = some (Value.ref ps[i].1) := by rw [hit, List.getElem?_map, List.getElem?_eq_getElem hlt]; rfl
      simpa using e
    have hmi : ps[i] ∈ ps := List.getElem_mem hlt
    refine wpAny_bind (wpAny_pyNext_tuple_item hI hl hx fun h1 hI1 hs1 => ?_)
    have kp1 : ∀ b o, b ≠ I → s.heap.get? b = some o → h1.get? b = some o := fun b o hb e => by rw [hs1.2 b hb]; exact e
    have hel1 : ∀ q ∈ ps, PairAt h1 q := fun q z => (hel q z).keep fun o e => kp1 _ _ (hq q z).2 e
    have hD1 : h1.DictOf knd D kvs := by
      obtain ⟨o, es, ep, ho, r⟩ := hD
      exact ⟨o, es, ep, kp1 _ _ hDI ho, r⟩
    have hp := (hel1 _ hmi).at'
    have hT : Shared.TypeIs { s with heap := h1 } (.ref ps[i].1) "tuple" := hp.typeIs
    refine wpAny_bind (wpAny_holding ?_)
    refine wpAny_bind (wpAny_tryCatch ?_)
    unfold Builtin.Dict.pairItems
    refine wpAny_bind (wpAny_typeOf hT ?_)
    rw [if_pos (by decide)]
    obtain ⟨o, ho, hc, n, hd⟩ := id hp
    refine wpAny_bind (wpAny_seqItemsO ho hd ?_)
    refine wpAny_pure ?_
    show wpAny _ _ (holding [Value.int ps[i].2.1 ps[i].2.2.1, ps[i].2.2.2] (dictSet D (Value.int ps[i].2.1 ps[i].2.2.1) ps[i].2.2.2)) _ _ _
    refine wpAny_holding ?_
    refine wpAny_dictSet_pairs (s := { s with heap := h1 }) (hkk _ _) hD1 (fun h2 hD2 hs2 => ?_) (by rw [sizeLine_eq]; omega)
    have kp2 : ∀ b o, b ≠ D → h1.get? b = some o → h2.get? b = some o := fun b o hb e => by rw [hs2.2 b hb]; exact e
    refine wpAny_pure ⟨plainId_quiet plain_dict_update_loop _, ih (i + 1) _ _ (j + 1) _ (by omega) hlt ?_ ?_ ?_ hD2 ?_ ?_⟩
    · obtain ⟨o, ho, r⟩ := hI1
      exact ⟨o, kp2 _ _ hDI.symm ho, r⟩
    · obtain ⟨o, ho, r⟩ := hl
      exact ⟨o, kp2 _ _ hlD (kp1 _ _ hlI ho), r⟩
    · exact fun q z => (hel1 q z).keep fun o e => kp2 _ _ (hq q z).1 e
    · have := stored_length_le kvs (κ ps[i].2.1) ps[i].2.2.2
      omega
    · intro h' tk' hD' kp
      refine hR h' tk' ?_ fun b o b1 b2 e => kp b o b1 b2 (kp2 b o b1 (kp1 b o b2 e))
      have e : ps.drop i = ps[i] :: ps.drop (i + 1) := List.drop_eq_getElem_cons hlt
      rw [e, List.map_cons]
      exact hD'
theorem call_dict_pairs {l : Addr} {items : Array Value} {ps : List (Addr × Int × Tok × Value)} {Q : Value → Shared → Prop} (hh : A.handled = none) (hkk : ∀ n t, knd.is (κ n) (.int n t) = true) (hinj : ∀ a b, κ a = κ b → a = b)
    (hl : ∃ o, s.heap.get? l = some o ∧ o.cls = .type "tuple" ∧ (∃ n, o.data = .seq items n) ∧ o.dict = none) (hit : items.toList = ps.map fun q => Value.ref q.1) (hel : ∀ q ∈ ps, PairAt s.heap q) (hn : ps.length ≤ 1000) (hnd : (ps.map (·.2.1)).Nodup)
    (h : ∀ (h' : Heap) (tk : Nat), h'.DictOf knd s.heap.objs.size (ps.map fun q => (κ q.2.1, q.2.2.2)) → (∀ b o, s.heap.get? b = some o → h'.get? b = some o) → Q (.ref s.heap.objs.size) { s with heap := h', toks := tk }) :
    wpAny (model prog w) A (call (.type "dict") [.ref l]) Q E s := by
  refine callType_codes (Q₁ := fun obj s₁ => obj = .ref s.heap.objs.size ∧ s₁ = { s with heap := s.heap.push { cls := .type "dict", data := .dict #[] } }) F.kt_called_dict (F.kt_typeCall_dict_1 _) F.entry_dict_init (kt_code_dict_new _ ⟨rfl, rfl⟩) ?_
  rintro obj s₁ ⟨rfl, rfl⟩
  have hnew : (s.heap.push { cls := .type "dict", data := .dict #[] }).DictOf knd s.heap.objs.size [] := Heap.DictOf.new s.heap
  obtain ⟨o, ho, hc, ⟨n, hd⟩, hdn⟩ := hl
  have ho1 : (s.heap.push { cls := .type "dict", data := .dict #[] }).get? l = some o := Heap.get?_push_of_some _ ho
  have hT1 : Shared.TypeIs { s with heap := s.heap.push { cls := .type "dict", data := .dict #[] } } (.ref l) "tuple" := ⟨o, ho1, hc⟩
  refine ⟨hnew.typeIs, F.args_dict_init_2 _ _, ?_⟩
  unfold Builtin.«dict.__init__»
  refine wpAny_bind ?_
  unfold Builtin.Dict.selfAndRest
  refine wpAny_bind (wpAny_notOrdered_dict hnew.typeIs ?_)
  show wpAny _ _ (pure (s.heap.objs.size, [Value.ref l])) _ _ _
  refine wpAny_pure ?_
  show wpAny _ _ (Builtin.Dict.updateFrom "dict.__init__" s.heap.objs.size (.ref l) [] .none) _ _ _
  unfold Builtin.Dict.updateFrom
  refine wpAny_bind (wpAny_typeOf hT1 ?_)
  rw [if_pos (by decide)]
  refine wpAny_bind (attr_none_tuple ho1 hc hd hdn tuple_no_keys (by decide) (by simp [hh]) (fun h2 tk e hx => ?_) (by decide))
  have kp2 := hx.keeps
  rw [if_pos (by rfl)]
  refine wpAny_bind (wpAny_rule ?_)
  have hlS : l < s.heap.objs.size := Heap.lt_size ho
  have hqS : ∀ q ∈ ps, q.1 < s.heap.objs.size := fun q hq => by
    obtain ⟨o, ho, _⟩ := (hel q hq).at'
    exact Heap.lt_size ho
  have hg2 : s.heap.objs.size < h2.objs.size := by
    obtain ⟨_, _, _, hg, _⟩ := hnew
    exact Heap.lt_size (kp2 _ _ hg)
  have ho2 := kp2 _ _ ho1
  refine wpAny_bind (wpAny_pyIter_tuple (s := { s with heap := h2, toks := tk }) ⟨o, ho2, hc, n, hd⟩ ?_)
  refine wpAny_pure ⟨plainId_quiet plain_dict_update_loop _, ?_⟩
  refine dict_loop (A := A.in1) (knd := knd) (κ := κ) (items := items) (ps := ps) (l := l) (tk0 := 0) (by simp [hh]) hkk hit ?_ ?_ ?_ ?_ hn (ps.length - 0) 0 _ [] _ _ (by omega) (Nat.zero_le _) ⟨_, Heap.get?_push_size _ rfl, rfl, rfl⟩ ?_ ?_ ?_ (Nat.le_refl _) ?_
  · exact Nat.ne_of_lt hg2
  · exact Nat.ne_of_lt hlS
  · exact Nat.ne_of_lt (Nat.lt_trans hlS hg2)
  · intro q hq
    have := hqS q hq
    exact ⟨Nat.ne_of_lt this, Nat.ne_of_lt (Nat.lt_trans this hg2)⟩
  · exact ⟨o, Heap.get?_push_of_some _ ho2, hc, n, hd⟩
  · exact fun q hq => (hel q hq).keep fun o e => Heap.get?_push_of_some _ (kp2 _ _ (Heap.get?_push_of_some _ e))
  · obtain ⟨o', es, ep, ho', r⟩ := hnew
    exact ⟨o', es, ep, Heap.get?_push_of_some _ (kp2 _ _ ho'), r⟩
  · intro h' tk' hD kp
    refine ⟨rfl, h h' tk' ?_ fun b o e => ?_⟩
    · rw [List.drop_zero, merged_nil_of_nodup] at hD
      · exact hD
      · rw [List.map_map]
        have e : (ps.map ((fun x => x.1) ∘ fun q => (κ q.2.1, q.2.2.2))) = (ps.map (·.2.1)).map κ := by rw [List.map_map]; rfl
        rw [e]
        exact List.Pairwise.map κ (fun a b hab he => hab (hinj a b he)) hnd
    · have hb := Heap.lt_size e
      exact kp b o (Nat.ne_of_lt hb) (Nat.ne_of_lt (Nat.lt_trans hb hg2)) (Heap.get?_push_of_some _ (kp2 _ _ (Heap.get?_push_of_some _ e)))
end
end L2


set_option Elab.async false
set_option linter.all false
set_option maxRecDepth 100000
/-! dict(tuple of pairs), the keys ints -/
namespace L2
open PySem PySem.Spec PyProof.Rows
/-- a tuple of pairs, each with an int first -/
structure PrsAt (H : Hp) (a : Addr) (ps : List (Addr × Int × V)) : Prop where
  at' : H a = some (.tup (ps.map fun q => V.ref q.1))
  one : ∀ q ∈ ps, H q.1 = some (.tup [.int q.2.1, q.2.2])
theorem ovals {ps : List (Addr × Int × V)} {P : Program} {w : World} {H : Hp} {h : Heap} (ok : HOk P w H h) : ∀ {its : List Value}, Vals (ps.map fun q => V.ref q.1) its → (∀ q ∈ ps, H q.1 = some (.tup [.int q.2.1, q.2.2])) →
    ∃ qs : List (Addr × Int × Tok × Value), its = qs.map (fun q => Value.ref q.1) ∧ (∀ q ∈ qs, PairAt h q) ∧ qs.map (·.2.1) = ps.map (·.2.1) ∧ KV (ps.map fun q => ((Sum.inl q.2.1 : Key), q.2.2)) (qs.map fun q => ((Sum.inl q.2.1 : Key), q.2.2.2)) := by
  induction ps with
  | nil => intro its r _; cases r; exact ⟨[], rfl, fun _ h => by simp at h, rfl, .nil⟩
  | cons q ps ih =>
    intro its r hq
    cases r with
    | cons r1 r2 =>
      obtain ⟨qs, rfl, h1, h2, h3⟩ := ih r2 fun z hz => hq z (List.mem_cons_of_mem _ hz)
      cases r1
      obtain ⟨_, us, rv, o, ho, hc, ⟨n, hd⟩, _⟩ := (show ObjOk P w H h q.1 (.tup _) from ok _ _ (hq q List.mem_cons_self))
      cases rv with
      | cons rk rv =>
        cases rv with
        | cons ru rn =>
          cases rn
          obtain ⟨t, rfl⟩ := rk
          refine ⟨(q.1, q.2.1, t, _) :: qs, rfl, fun z hz => ?_, by rw [List.map_cons, List.map_cons, h2], .cons ⟨rfl, ru⟩ h3⟩
          rcases List.mem_cons.mp hz with rfl | hz
          · exact ⟨⟨o, ho, hc, n, hd⟩⟩
          · exact h1 z hz
def rDictT : List V → Hp → VK → Prop := fun xs H Q => ∃ (a : Addr) (ps : List (Addr × Int × V)), xs = [.ref a] ∧ PrsAt H a ps ∧ (ps.map (·.2.1)).Nodup ∧ ps.length ≤ 1000 ∧ New H (.dK (ps.map fun q => ((Sum.inl q.2.1 : Key), q.2.2))) Q
theorem cq_dictT {X : Cx} (hc : X.calm = true) : CallQ X (.type "dict") rDictT := ⟨by
  intro pins s σ H xs us Q I rr hh
  obtain ⟨a, ps, rfl, hp, hnd, hn, q⟩ := hh
  cases rr with
  | cons r1 r2 =>
    cases r2
    cases r1
    obtain ⟨hz, its, rv, o, ho, hcl, ⟨n, hd⟩, hdn⟩ := (show ObjOk X.prog X.w H s.heap a (.tup _) from I.hok a _ hp.at')
    obtain ⟨qs, rfl, h1, h2, h3⟩ := ovals I.hok rv hp.one
    have hlen : qs.length = ps.length := by have := congrArg List.length h2; simpa using this
    refine call_dict_pairs (knd := mixKind X.prog X.w) (κ := Sum.inl) (items := (qs.map fun q => Value.ref q.1).toArray) (ps := qs) (I.ok.hd hc) (fun n t => mixKind_int _ _ n t) (fun a b e => Sum.inl.inj e) ⟨o, ho, hcl, ⟨n, hd⟩, hdn⟩ (by simp) h1 (by omega) (by rw [h2]; exact hnd) fun h' tk hD kp => ?_
    have hf : H s.heap.objs.size = none := I.hok.fresh (Nat.le_refl _)
    refine ⟨.ref s.heap.objs.size, _, I.laid (t' := tk) (o := .dK (ps.map fun q => ((Sum.inl q.2.1 : Key), q.2.2))) kp (Nat.le_refl _) ⟨?_, ?_, _, h3, hD⟩, rfl, q.at hf⟩
    · rw [List.length_map, sizeLine_eq]; omega
    · exact beq_eq_false_iff_ne.mpr (Ne.symm (Nat.ne_of_lt I.big))⟩
end L2


set_option Elab.async false
set_option linter.all false
set_option maxRecDepth 100000
/-! THE LEVEL OF VALUES: names hold deep data; a list that is changed is owned by one name. -/
namespace L3
open PySem L2
abbrev PenId := Addr × Addr × List Int
inductive W where
  | d (x : Dt) | pen (p : Addr) | dk (kvs : List (Key × Dt))
abbrev Mo (α : Type) := Nat → (α → Nat → Prop) → Prop
abbrev Ev := List (Option W)
def NP (o : HO) : Prop := ∀ kvs, o = .dK kvs → valV kvs (Sum.inr "at" : Key) = none
theorem NP.lst {xs : List V} : NP (.lst xs) := fun _ e => by cases e
theorem NP.tup {xs : List V} : NP (.tup xs) := fun _ e => by cases e
open Classical in
noncomputable def hide (A : Addr → Prop) (H : Hp) : Hp := fun b => if A b then none else H b
section
variable {A A0 : Addr → Prop} {H H' G G' T T' : Hp} {a b : Addr} {o : HO}
theorem hide_some : hide A H b = some o ↔ ¬ A b ∧ H b = some o := by
  unfold hide
  by_cases h : A b
  · simp [h]
  · simp [h]
theorem hide_of (h : ¬ A b) (e : H b = some o) : hide A H b = some o := hide_some.mpr ⟨h, e⟩
theorem hide_sub : Same (hide A H) H := fun b o e => (hide_some.mp e).2
theorem hide_stay (s : Stay H H') : Stay (hide A H) (hide A H') := fun b o e n => hide_of (hide_some.mp e).1 (s b o (hide_some.mp e).2 n)
theorem hide_same (s : Same H H') : Same (hide A H) (hide A H') := fun b o e => hide_of (hide_some.mp e).1 (s b o (hide_some.mp e).2)
theorem hide_less (h : ∀ b, A0 b → A b) : Same (hide A H) (hide A0 H) := fun b o e => hide_of (fun z => (hide_some.mp e).1 (h b z)) (hide_some.mp e).2
theorem hide_upd (h : A a) : hide A (upd H a o) = hide A H := by
  funext b
  unfold hide
  by_cases hb : A b
  · simp [hb]
  · have : b ≠ a := fun e => hb (e ▸ h)
    simp [hb, upd_ne this]
end
/-! what a name's value is: the top from T, what is within from G -/
def DAt (T G : Hp) : Dt → V → Prop
  | .lst l, v => ∃ a xs, v = .ref a ∧ T a = some (.lst xs) ∧ IsL G l xs
  | .dct, v => ∃ a kvs, v = .ref a ∧ T a = some (.dK kvs) ∧ valV kvs (Sum.inr "at" : Key) = none
  | .non, v => Is G .non v
  | .bl b, v => Is G (.bl b) v
  | .int i, v => Is G (.int i) v
  | .str x, v => Is G (.str x) v
  | .tup l, v => Is G (.tup l) v
theorem DAt.is {G : Hp} {x : Dt} {v : V} (h : DAt G G x v) : Is G x v := by cases x <;> exact h
theorem DAt.of {G : Hp} {x : Dt} {v : V} (h : Is G x v) : DAt G G x v := by cases x <;> exact h
theorem DAt.up {T T' G G' : Hp} {x : Dt} {v : V} (t : Stay T T') (g : Stay G G') (h : DAt T G x v) : DAt T' G' x v := by
  cases x with
  | lst l => obtain ⟨a, xs, e, h1, h2⟩ := h; exact ⟨a, xs, e, t.lst h1, h2.stay g⟩
  | dct => obtain ⟨a, kvs, e, h1, h2⟩ := h; exact ⟨a, kvs, e, t _ _ h1 fun k q => by cases q; exact h2, h2⟩
  | _ => exact Is.stay g h
/-- what is within, all read from one heap that holds both -/
theorem DAt.full {T G H : Hp} {x : Dt} {v : V} (t : Same T H) (g : Same G H) (h : DAt T G x v) : Is H x v := (DAt.up (Stay.same t) (Stay.same g) h).is
def KvIs (G : Hp) : List (Key × Dt) → List (Key × V) → Prop
  | [], ks => ks = []
  | q :: r, ks => ∃ v s, ks = (q.1, v) :: s ∧ Is G q.2 v ∧ KvIs G r s
theorem KvIs.stay {G G' : Hp} (s : Stay G G') : ∀ {kvs : List (Key × Dt)} {ks : List (Key × V)}, KvIs G kvs ks → KvIs G' kvs ks
  | [], _, h => h
  | q :: r, ks, ⟨v, t, e, h1, h2⟩ => ⟨v, t, e, h1.stay s, KvIs.stay s h2⟩
def WAt (T G : Hp) : W → V → Prop
  | .d x, v => DAt T G x v
  | .pen p, v => v = .ref p
  | .dk kvs, v => ∃ a ks, v = .ref a ∧ T a = some (.dK ks) ∧ KvIs G kvs ks ∧ valV ks (Sum.inr "at" : Key) = none
theorem WAt.up {T T' G G' : Hp} {w : W} {v : V} (t : Stay T T') (g : Stay G G') (h : WAt T G w v) : WAt T' G' w v := by
  cases w with
  | d x => exact DAt.up t g h
  | pen p => exact h
  | dk kvs =>
    obtain ⟨a, ks, e, h1, h2, h3⟩ := h
    exact ⟨a, ks, e, t _ _ h1 fun k q => by cases q; exact h3, h2.stay g, h3⟩
def W.mut : W → Bool
  | .d (.lst _) => true
  | .d .dct => true
  | .dk _ => true
  | _ => false
abbrev Val (A : Addr → Prop) (H : Hp) (w : W) (v : V) : Prop := WAt (hide A H) (hide A H) w v
abbrev Bor (A : Addr → Prop) (H : Hp) (w : W) (v : V) : Prop := WAt H (hide A H) w v
theorem Val.bor {A : Addr → Prop} {H : Hp} {w : W} {v : V} (h : Val A H w v) : Bor A H w v := WAt.up (Stay.same hide_sub) (Stay.refl _) h
theorem Val.stay {A : Addr → Prop} {H H' : Hp} {w : W} {v : V} (h : Val A H w v) (s : Stay H H') : Val A H' w v := WAt.up (hide_stay s) (hide_stay s) h
theorem Bor.stay {A : Addr → Prop} {H H' : Hp} {w : W} {v : V} (h : Bor A H w v) (s : Stay H H') : Bor A H' w v := WAt.up s (hide_stay s) h
theorem Bor.is {A : Addr → Prop} {H : Hp} {x : Dt} {v : V} (h : Bor A H (.d x) v) : Is H x v := DAt.full (same_refl _) hide_sub h
theorem Val.is {A : Addr → Prop} {H : Hp} {x : Dt} {v : V} (h : Val A H (.d x) v) : Is (hide A H) x v := DAt.is h
theorem Val.of {A : Addr → Prop} {H : Hp} {x : Dt} {v : V} (h : Is (hide A H) x v) : Val A H (.d x) v := DAt.of h
mutual
theorem is_noL {A : Addr → Prop} {H : Hp} (hA : ∀ a xs, A a → H a ≠ some (.tup xs)) : ∀ {x : Dt} {v : V}, x.noL = true → Is H x v → Is (hide A H) x v
  | .non, _, _, h => h
  | .bl _, _, _, h => h
  | .int _, _, _, h => h
  | .str _, _, _, h => h
  | .tup l, _, n, h => by
    obtain ⟨p, xs, e, hp, hl⟩ := h
    exact ⟨p, xs, e, hide_of (fun z => hA p xs z hp) hp, isL_noL hA (by simpa [Dt.noL] using n) hl⟩
  | .lst l, _, n, _ => by simp [Dt.noL] at n
  | .dct, _, n, _ => by simp [Dt.noL] at n
theorem isL_noL {A : Addr → Prop} {H : Hp} (hA : ∀ a xs, A a → H a ≠ some (.tup xs)) : ∀ {ds : List Dt} {xs : List V}, Dt.noLs ds = true → IsL H ds xs → IsL (hide A H) ds xs
  | [], _, _, h => h
  | d :: ds, xs, n, h => by
    obtain ⟨x, r, e, h1, h2⟩ := h
    have n' : (d.noL && Dt.noLs ds) = true := by simpa [Dt.noLs] using n
    rw [Bool.and_eq_true] at n'
    exact ⟨x, r, e, is_noL hA n'.1 h1, isL_noL hA n'.2 h2⟩
end
def Pens (Pn : Option PenId) (A : Addr → Prop) (n : Nat) (H : Hp) : Prop :=
  match Pn with
  | none => True
  | some (p, c, ns) => Pen H p c ns n ∧ ¬ A c ∧ ¬ A p
def Own (A : Addr → Prop) (H : Hp) (w : W) (v : V) : Prop := ∃ a, v = .ref a ∧ A a ∧ Bor A H w v ∧ w.mut = true
def Al (A : Addr → Prop) (H : Hp) : Prop := ∀ a, A a → ∃ o, H a = some o ∧ NP o ∧ ∀ xs, o ≠ .tup xs
structure EnvR (A : Addr → Prop) (M : List Nat) (σ : St) (H : Hp) (ρ : Ev) : Prop where
  len : σ.length = ρ.length
  val : ∀ i w, ρ[i]? = some (some w) → ∃ v, σ[i]? = some (some v) ∧ (i ∉ M → Val A H w v) ∧ (i ∈ M → Own A H w v)
  dis : ∀ i j w u a, i ∈ M → j ∈ M → i ≠ j → ρ[i]? = some (some w) → ρ[j]? = some (some u) → σ[i]? = some (some (.ref a)) → σ[j]? ≠ some (some (.ref a))
  al : Al A H
theorem EnvR.stay {A : Addr → Prop} {M : List Nat} {σ : St} {H H' : Hp} {ρ : Ev} (E : EnvR A M σ H ρ) (s : Stay H H') : EnvR A M σ H' ρ where
  len := E.len
  val := fun i w e => by
    obtain ⟨v, h1, h2, h3⟩ := E.val i w e
    refine ⟨v, h1, fun z => (h2 z).stay s, fun z => ?_⟩
    obtain ⟨a, e, h4, h5, h6⟩ := h3 z
    exact ⟨a, e, h4, h5.stay s, h6⟩
  dis := E.dis
  al := fun a h => by
    obtain ⟨o, h1, h2, h3⟩ := E.al a h
    exact ⟨o, s _ _ h1 h2, h2, h3⟩
theorem EnvR.new {A : Addr → Prop} {M : List Nat} {σ : St} {H : Hp} {ρ : Ev} (E : EnvR A M σ H ρ) {p : Addr} (h : H p = none) : ¬ A p := fun z => by
  obtain ⟨o, h1, _⟩ := E.al p z
  rw [h] at h1
  cases h1
/-- no thing of before -/
def Fr (H : Hp) (a : Addr) : Prop := ∀ o, H a = some o → ¬ NP o
theorem Fr.of {H : Hp} {a : Addr} (h : H a = none) : Fr H a := fun o e => by rw [h] at e; cases e
theorem Fr.back {H H1 : Hp} {a : Addr} (h : Fr H1 a) (s : Stay H H1) : Fr H a := fun o e n => h o (s _ _ e n) n
/-- a new thing: what is in it avoids it -/
def FrV (A : Addr → Prop) (H H' : Hp) (w : W) (v : V) : Prop := ∃ a, v = .ref a ∧ Fr H a ∧ WAt H' (hide (fun b => A b ∨ b = a) H') w v
theorem FrV.back {A : Addr → Prop} {H H1 H' : Hp} {w : W} {v : V} (h : FrV A H1 H' w v) (s : Stay H H1) : FrV A H H' w v := let ⟨a, e, f, g⟩ := h; ⟨a, e, f.back s, g⟩
theorem FrV.less {A A0 : Addr → Prop} {H H' : Hp} {w : W} {v : V} (h : FrV A H H' w v) (s : ∀ a, A0 a → A a) : FrV A0 H H' w v := let ⟨a, e, f, g⟩ := h; ⟨a, e, f, WAt.up (Stay.refl _) (Stay.same (hide_less fun b z => z.elim (fun z => .inl (s b z)) .inr)) g⟩
theorem EnvR.newF {A : Addr → Prop} {M : List Nat} {σ : St} {H : Hp} {ρ : Ev} (E : EnvR A M σ H ρ) {p : Addr} (h : Fr H p) : ¬ A p := fun z => by
  obtain ⟨o, h1, h2, _⟩ := E.al p z
  exact h o h1 h2
/-- a further thing is hidden that was not there -/
theorem hide_more {A : Addr → Prop} {H H' : Hp} {p : Addr} (s : Stay H H') (n : Fr H p) : Stay (hide A H) (hide (fun b => A b ∨ b = p) H') := fun b o e np => by
  obtain ⟨h1, h2⟩ := hide_some.mp e
  exact hide_of (fun z => z.elim h1 fun z => by subst z; exact n o h2 np) (s b o h2 np)
/-- how it goes from H to H' when an expression is read -/
structure Go (Pn : Option PenId) (A : Addr → Prop) (H : Hp) (n : Nat) (H' : Hp) : Prop where
  st : Stay H H'
  pn : Pens Pn A n H'
theorem Go.trans {Pn : Option PenId} {A : Addr → Prop} {H H1 H2 : Hp} {n m : Nat} (a : Go Pn A H n H1) (b : Go Pn A H1 m H2) : Go Pn A H m H2 := ⟨a.st.trans b.st, b.pn⟩
structure RE (Pn : Option PenId) (M : List Nat) (fr : Bool) (te : TE) (f : Ev → Mo W) : Prop where
  run : ∀ A σ H ρ n Q R, EnvR A M σ H ρ → Pens Pn A n H → f ρ n R → (∀ w m v H', R w m → Val A H' w v → Go Pn A H m H' → (fr = true → FrV A H H' w v) → Q v H') → te σ H Q
structure RB (Pn : Option PenId) (M : List Nat) (te : TE) (f : Ev → Mo W) : Prop where
  run : ∀ A σ H ρ n Q R, EnvR A M σ H ρ → Pens Pn A n H → f ρ n R → (∀ w m v H', R w m → Bor A H' w v → Go Pn A H m H' → Q v H') → te σ H Q
structure RT (Pn : Option PenId) (M : List Nat) (te : TT) (f : Ev → Mo Bool) : Prop where
  run : ∀ A σ H ρ n Q R, EnvR A M σ H ρ → Pens Pn A n H → f ρ n R → (∀ b m H', R b m → Go Pn A H m H' → Q b H') → te σ H Q
def BorL (A : Addr → Prop) (H : Hp) : List W → List V → Prop
  | [], vs => vs = []
  | w :: ws, vs => ∃ v r, vs = v :: r ∧ Bor A H w v ∧ BorL A H ws r
def ValL (A : Addr → Prop) (H : Hp) : List W → List V → Prop
  | [], vs => vs = []
  | w :: ws, vs => ∃ v r, vs = v :: r ∧ Val A H w v ∧ ValL A H ws r
theorem BorL.stay {A : Addr → Prop} {H H' : Hp} (s : Stay H H') : ∀ {ws : List W} {vs : List V}, BorL A H ws vs → BorL A H' ws vs
  | [], _, h => h
  | _ :: _, _, ⟨v, r, e, h1, h2⟩ => ⟨v, r, e, h1.stay s, BorL.stay s h2⟩
theorem ValL.stay {A : Addr → Prop} {H H' : Hp} (s : Stay H H') : ∀ {ws : List W} {vs : List V}, ValL A H ws vs → ValL A H' ws vs
  | [], _, h => h
  | _ :: _, _, ⟨v, r, e, h1, h2⟩ => ⟨v, r, e, h1.stay s, ValL.stay s h2⟩
theorem ValL.bor {A : Addr → Prop} {H : Hp} : ∀ {ws : List W} {vs : List V}, ValL A H ws vs → BorL A H ws vs
  | [], _, h => h
  | _ :: _, _, ⟨v, r, e, h1, h2⟩ => ⟨v, r, e, h1.bor, ValL.bor h2⟩
structure RA (Pn : Option PenId) (M : List Nat) (ta : TA) (f : Ev → Mo (List W)) : Prop where
  run : ∀ A σ H ρ n Q R, EnvR A M σ H ρ → Pens Pn A n H → f ρ n R → (∀ ws m vs H', R ws m → ValL A H' ws vs → Go Pn A H m H' → Q vs H') → ta σ H Q
structure RAB (Pn : Option PenId) (M : List Nat) (ta : TA) (f : Ev → Mo (List W)) : Prop where
  run : ∀ A σ H ρ n Q R, EnvR A M σ H ρ → Pens Pn A n H → f ρ n R → (∀ ws m vs H', R ws m → BorL A H' ws vs → Go Pn A H m H' → Q vs H') → ta σ H Q
/-! statements -/
structure Kt where
  nx : Ev → Nat → Prop
  rt : W → Nat → Prop
  bk : Ev → Nat → Prop := fun _ _ => False
  ct : Ev → Nat → Prop := fun _ _ => False
abbrev Ms := Ev → Nat → Kt → Prop
structure Frm (A0 : Addr → Prop) (H0 : Hp) (A : Addr → Prop) (H : Hp) : Prop where
  sub : ∀ a, A0 a → A a
  new : ∀ a, A a → A0 a ∨ Fr H0 a
  st : Stay H0 H
  al : Al A0 H0
structure Bs where
  A0 : Addr → Prop
  H0 : Hp
  G0 : Hp
  σ0 : St
structure At3 (Pn : Option PenId) (B : Bs) (S M : List Nat) (A : Addr → Prop) (σ : St) (H : Hp) (ρ : Ev) (n : Nat) : Prop where
  env : EnvR A M σ H ρ
  frm : Frm B.A0 B.H0 A H
  pn : Pens Pn A n H
  prot : Stay B.G0 (hide A H)
  fix : ∀ i ∈ S, σ[i]? = B.σ0[i]?
  mine : ∀ i w a, i ∈ M → ρ[i]? = some (some w) → σ[i]? = some (some (.ref a)) → Fr B.H0 a
structure KOk (Pn : Option PenId) (B : Bs) (S M : List Nat) (fr : Bool) (k : Kt) (D : Ends) : Prop where
  nx : ∀ A σ H ρ n, At3 Pn B S M A σ H ρ n → k.nx ρ n → D.nx σ H
  bk : ∀ A σ H ρ n, At3 Pn B S M A σ H ρ n → k.bk ρ n → D.bk σ H
  ct : ∀ A σ H ρ n, At3 Pn B S M A σ H ρ n → k.ct ρ n → D.ct σ H
  rt : ∀ w n v H, Val B.A0 H w v → Stay B.H0 H → Pens Pn B.A0 n H → (fr = true → FrV B.A0 B.H0 H w v) → k.rt w n → D.rt v H
structure RS (Pn : Option PenId) (S M : List Nat) (fr : Bool) (ts : TS) (fs : Ms) : Prop where
  run : ∀ B A σ H ρ n k D, At3 Pn B S M A σ H ρ n → KOk Pn B S M fr k D → fs ρ n k → ts D σ H
structure RG (S M : List Nat) (g : TG) (mg : W → Ev → (Ev → Prop) → Prop) : Prop where
  run : ∀ A σ H ρ v w Q R, EnvR A M σ H ρ → Val A H w v → mg w ρ R → (∀ σ' ρ', R ρ' → EnvR A M σ' H ρ' → (∀ i ∈ S, σ'[i]? = σ[i]? ∧ ρ'[i]? = ρ[i]?) → Q σ' H) → g v σ H Q
structure RGs (S M : List Nat) (g : TGs) (mg : List Dt → Ev → (Ev → Prop) → Prop) : Prop where
  run : ∀ A σ H ρ vs ds Q R, EnvR A M σ H ρ → IsL (hide A H) ds vs → mg ds ρ R → (∀ σ' ρ', R ρ' → EnvR A M σ' H ρ' → (∀ i ∈ S, σ'[i]? = σ[i]? ∧ ρ'[i]? = ρ[i]?) → Q σ' H) → g vs σ H Q
/-- what an iterator yields, whatever else is changed meanwhile -/
structure ItV (ow : Bool) (A : Addr → Prop) (H : Hp) (J : It) (l : List W) : Prop where
  one : ∀ i w A2 H2, l[i]? = some w → Stay (hide A H) (hide A2 H2) → (ow = true → Stay H H2) → (∀ p, H2 p = none → ¬ A2 p) → J.go i H2 ∧ ∀ x H3, J.yld i H2 x H3 → Same H2 H3 ∧ Val A2 H3 w x
  stop : ∀ A2 H2, Stay (hide A H) (hide A2 H2) → (ow = true → Stay H H2) → J.stop l.length H2
structure RI (Pn : Option PenId) (M : List Nat) (ow : Bool) (wi : TI) (f : Ev → Mo (List W)) : Prop where
  run : ∀ A σ H ρ n Q R, EnvR A M σ H ρ → Pens Pn A n H → f ρ n R → (∀ l m J H', R l m → ItV ow A H' J l → Go Pn A H m H' → Q J H') → wi σ H Q
theorem RE.rb {Pn : Option PenId} {M : List Nat} {fr : Bool} {te : TE} {f : Ev → Mo W} (h : RE Pn M fr te f) : RB Pn M te f :=
  ⟨fun A σ H ρ n Q R E P hf k => h.run A σ H ρ n Q R E P hf fun w m v H' r a g _ => k w m v H' r a.bor g⟩
theorem RA.rab {Pn : Option PenId} {M : List Nat} {te : TA} {f : Ev → Mo (List W)} (h : RA Pn M te f) : RAB Pn M te f :=
  ⟨fun A σ H ρ n Q R E P hf k => h.run A σ H ρ n Q R E P hf fun w m v H' r a g => k w m v H' r a.bor g⟩
theorem Pens.same {Pn : Option PenId} {A : Addr → Prop} {n : Nat} {H H' : Hp} (h : Pens Pn A n H) (s : Same H H') : Pens Pn A n H' := by
  unfold Pens at h ⊢
  split at h
  · trivial
  · exact ⟨h.1.same s, h.2⟩
theorem Go.same {Pn : Option PenId} {A : Addr → Prop} {n : Nat} {H H' : Hp} (h : Pens Pn A n H) (s : Same H H') : Go Pn A H n H' := ⟨Stay.same s, h.same s⟩
theorem Go.refl {Pn : Option PenId} {A : Addr → Prop} {n : Nat} {H : Hp} (h : Pens Pn A n H) : Go Pn A H n H := ⟨Stay.refl _, h⟩
end L3


set_option Elab.async false
set_option linter.all false
set_option maxRecDepth 100000
/-! expressions at the level of values -/
namespace L3
open PySem L2
structure JE (X : Cx) (Pn : Option PenId) (M : List Nat) (fr : Bool) (e : Expr) (f : Ev → Mo W) : Prop where
  ex : ∃ te, QE X e te ∧ RE Pn M fr te f
structure JB (X : Cx) (Pn : Option PenId) (M : List Nat) (e : Expr) (f : Ev → Mo W) : Prop where
  ex : ∃ te, QE X e te ∧ RB Pn M te f
structure JT (X : Cx) (Pn : Option PenId) (M : List Nat) (e : Expr) (f : Ev → Mo Bool) : Prop where
  ex : ∃ te, QT X e te ∧ RT Pn M te f
structure JW (X : Cx) (Pn : Option PenId) (M : List Nat) (e : Expr) (f : Ev → Mo Bool) : Prop where
  ex : ∃ te, QW X e te ∧ RT Pn M te f
structure JA (X : Cx) (Pn : Option PenId) (M : List Nat) (es : List Expr) (f : Ev → Mo (List W)) : Prop where
  ex : ∃ te, QA X es te ∧ RA Pn M te f
structure JAB (X : Cx) (Pn : Option PenId) (M : List Nat) (es : List Expr) (f : Ev → Mo (List W)) : Prop where
  ex : ∃ te, QA X es te ∧ RAB Pn M te f
structure JO (X : Cx) (Pn : Option PenId) (M : List Nat) (e : Option Expr) (f : Ev → Mo (Option Int)) : Prop where
  ex : ∃ t, QO X e t ∧ ∀ A σ H ρ n Q R, EnvR A M σ H ρ → Pens Pn A n H → f ρ n R → (∀ o m H', R o m → Go Pn A H m H' → Q o H') → t σ H Q
section
variable {X : Cx} {Pn : Option PenId} {M : List Nat} {fr : Bool} {e a b c : Expr} {es : List Expr} {f fa fb fc : Ev → Mo W} {pos p : Pos}
/-! combinators -/
def mVar (i : Nat) : Ev → Mo W := fun ρ n Q => ∃ w, ρ[i]? = some (some w) ∧ Q w n
def mC (w : W) : Ev → Mo W := fun _ n Q => Q w n
def mBin (F : W → W → Mo W) (fa fb : Ev → Mo W) : Ev → Mo W := fun ρ n Q => fa ρ n fun x n1 => fb ρ n1 fun y n2 => F x y n2 Q
def mUn (F : W → Mo W) (fa : Ev → Mo W) : Ev → Mo W := fun ρ n Q => fa ρ n fun x n1 => F x n1 Q
def mTst (fa : Ev → Mo W) : Ev → Mo Bool := fun ρ n Q => fa ρ n fun x n1 => ∃ c, x = .d (.bl c) ∧ Q c n1
def mAnd (t u : Ev → Mo Bool) : Ev → Mo Bool := fun ρ n Q => t ρ n fun c n1 => if c = true then u ρ n1 Q else Q false n1
def mOr (t u : Ev → Mo Bool) : Ev → Mo Bool := fun ρ n Q => t ρ n fun c n1 => if c = true then Q true n1 else u ρ n1 Q
def mNot (t : Ev → Mo Bool) : Ev → Mo Bool := fun ρ n Q => t ρ n fun c n1 => Q (!c) n1
def mAndV (fa fb : Ev → Mo W) : Ev → Mo W := fun ρ n Q => fa ρ n fun x n1 => ∃ c, x = .d (.bl c) ∧ if c = true then fb ρ n1 Q else Q (.d (.bl false)) n1
def mOrV (fa fb : Ev → Mo W) : Ev → Mo W := fun ρ n Q => fa ρ n fun x n1 => ∃ c, x = .d (.bl c) ∧ if c = true then Q (.d (.bl true)) n1 else fb ρ n1 Q
def mIf (t : Ev → Mo Bool) (fa fb : Ev → Mo W) : Ev → Mo W := fun ρ n Q => t ρ n fun c n1 => if c = true then fa ρ n1 Q else fb ρ n1 Q
def mNil : Ev → Mo (List W) := fun _ n Q => Q [] n
def mCons (fa : Ev → Mo W) (fr : Ev → Mo (List W)) : Ev → Mo (List W) := fun ρ n Q => fa ρ n fun x n1 => fr ρ n1 fun xs n2 => Q (x :: xs) n2
def mArg (F : List W → Mo W) (fa : Ev → Mo (List W)) : Ev → Mo W := fun ρ n Q => fa ρ n fun xs n1 => F xs n1 Q
/-! lifts -/
theorem JE.bo (h : JE X Pn M fr e f) : JB X Pn M e f := let ⟨te, h1, h2⟩ := h.ex; ⟨te, h1, h2.rb⟩
theorem JA.bo {f : Ev → Mo (List W)} (h : JA X Pn M es f) : JAB X Pn M es f := let ⟨te, h1, h2⟩ := h.ex; ⟨te, h1, h2.rab⟩
/-! names, constants -/
theorem re_var {i : Nat} (hi : i ∉ M) : RE Pn M false (tVar i) (mVar i) := ⟨fun A σ H ρ n Q R E P hf k => by
  obtain ⟨w, e, r⟩ := hf
  obtain ⟨v, h1, h2, _⟩ := E.val i w e
  exact ⟨v, h1, k w n v H r (h2 hi) (Go.refl P) fun z => by cases z⟩⟩
theorem rb_var {i : Nat} : RB Pn M (tVar i) (mVar i) := ⟨fun A σ H ρ n Q R E P hf k => by
  obtain ⟨w, e, r⟩ := hf
  obtain ⟨v, h1, h2, h3⟩ := E.val i w e
  refine ⟨v, h1, k w n v H r ?_ (Go.refl P)⟩
  by_cases hi : i ∈ M
  · obtain ⟨a, _, _, h, _⟩ := h3 hi
    exact h
  · exact (h2 hi).bor⟩
theorem j_var (i : Nat) {x : Str} (hi : i ∉ M := by decide) (hN : X.N[i]? = some x := by rfl) (hv : Vis X.env.scope x := by first | exact Or.inl rfl | exact Or.inr (Or.inl rfl) | exact Or.inr (Or.inr rfl)) (hd : (x == ("__debug__" : Str)) = false := by decide)
    (hcd : (x == ("__classdict__" : Str)) = false := by decide) : JE X Pn M false (.Name x pos) (mVar i) := ⟨_, qv i hN hv hd hcd, re_var hi⟩
theorem j_bor (i : Nat) {x : Str} (hN : X.N[i]? = some x := by rfl) (hv : Vis X.env.scope x := by first | exact Or.inl rfl | exact Or.inr (Or.inl rfl) | exact Or.inr (Or.inr rfl)) (hd : (x == ("__debug__" : Str)) = false := by decide)
    (hcd : (x == ("__classdict__" : Str)) = false := by decide) : JB X Pn M (.Name x pos) (mVar i) := ⟨_, qv i hN hv hd hcd, rb_var⟩
theorem re_c {x : Dt} {v : V} (h : ∀ G, Is G x v) : RE Pn M false (tC v) (mC (.d x)) := ⟨fun A σ H ρ n Q R E P hf k => k _ n v H hf (Val.of (h _)) (Go.refl P) fun z => by cases z⟩
theorem j_int {i : Int} {j : Nat} : JE X Pn M false (.Constant (.int i) j pos) (mC (.d (.int i))) := ⟨_, qe_int, re_c fun _ => rfl⟩
theorem j_bl {k : Bool} {j : Nat} : JE X Pn M false (.Constant (.bool k) j pos) (mC (.d (.bl k))) := ⟨_, qe_bl, re_c fun _ => rfl⟩
/-! operators: an operator's refinement -/
theorem Al.new {A : Addr → Prop} {H : Hp} (h : Al A H) {p : Addr} (e : H p = none) : ¬ A p := fun z => by
  obtain ⟨o, h1, _⟩ := h p z
  rw [e] at h1; cases h1
theorem Al.stay {A : Addr → Prop} {H H' : Hp} (h : Al A H) (s : Stay H H') : Al A H' := fun a z => by
  obtain ⟨o, h1, h2, h3⟩ := h a z
  exact ⟨o, s _ _ h1 h2, h2, h3⟩
theorem Al.noT {A : Addr → Prop} {H : Hp} (h : Al A H) : ∀ a xs, A a → H a ≠ some (.tup xs) := fun a xs z e => by
  obtain ⟨o, h1, _, h3⟩ := h a z
  rw [h1] at e; cases e; exact h3 xs rfl
structure F2 (Pn : Option PenId) (fr : Bool) (r : R2) (F : W → W → Mo W) : Prop where
  run : ∀ A H x y wx wy n Q R, Al A H → Bor A H wx x → Bor A H wy y → Pens Pn A n H → F wx wy n R → (∀ w m v H', R w m → Val A H' w v → Go Pn A H m H' → (fr = true → FrV A H H' w v) → Q v H') → r x y H Q
structure F1 (Pn : Option PenId) (fr : Bool) (r : V → Hp → VK → Prop) (F : W → Mo W) : Prop where
  run : ∀ A H x wx n Q R, Al A H → Bor A H wx x → Pens Pn A n H → F wx n R → (∀ w m v H', R w m → Val A H' w v → Go Pn A H m H' → (fr = true → FrV A H H' w v) → Q v H') → r x H Q
structure FL (Pn : Option PenId) (fr : Bool) (r : List V → Hp → VK → Prop) (F : List W → Mo W) : Prop where
  run : ∀ A H xs ws n Q R, Al A H → BorL A H ws xs → Pens Pn A n H → F ws n R → (∀ w m v H', R w m → Val A H' w v → Go Pn A H m H' → (fr = true → FrV A H H' w v) → Q v H') → r xs H Q
theorem re_op {r : R2} {F : W → W → Mo W} {ta tb : TE} (hr : F2 Pn fr r F) (ha : RB Pn M ta fa) (hb : RB Pn M tb fb) : RE Pn M fr (tOp r ta tb) (mBin F fa fb) := ⟨fun A σ H ρ n Q R E P hf k => by
  refine ha.run A σ H ρ n _ _ E P hf fun x n1 v1 H1 r1 b1 g1 => ?_
  refine hb.run A σ H1 ρ n1 _ _ (E.stay g1.st) g1.pn r1 fun y n2 v2 H2 r2 b2 g2 => ?_
  have g := g1.trans g2
  exact hr.run A H2 v1 v2 x y n2 _ _ (E.stay g.st).al (b1.stay g2.st) b2 g2.pn r2 fun w m v H' h1 h2 h3 h4 => k w m v H' h1 h2 (g.trans h3) fun z => (h4 z).back g.st⟩
theorem re_un {r : V → Hp → VK → Prop} {F : W → Mo W} {ta : TE} (hr : F1 Pn fr r F) (ha : RB Pn M ta fa) : RE Pn M fr (tUn r ta) (mUn F fa) := ⟨fun A σ H ρ n Q R E P hf k => by
  refine ha.run A σ H ρ n _ _ E P hf fun x n1 v1 H1 r1 b1 g1 => ?_
  exact hr.run A H1 v1 x n1 _ _ (E.stay g1.st).al b1 g1.pn r1 fun w m v H' h1 h2 h3 h4 => k w m v H' h1 h2 (g1.trans h3) fun z => (h4 z).back g1.st⟩
theorem re_cb {r : List V → Hp → VK → Prop} {F : List W → Mo W} {ta : TA} {fa : Ev → Mo (List W)} (hr : FL Pn fr r F) (ha : RAB Pn M ta fa) : RE Pn M fr (tCB r ta) (mArg F fa) := ⟨fun A σ H ρ n Q R E P hf k => by
  refine ha.run A σ H ρ n _ _ E P hf fun x n1 v1 H1 r1 b1 g1 => ?_
  exact hr.run A H1 v1 x n1 _ _ (E.stay g1.st).al b1 g1.pn r1 fun w m v H' h1 h2 h3 h4 => k w m v H' h1 h2 (g1.trans h3) fun z => (h4 z).back g1.st⟩
theorem j_un {op : UnaryOp} {r : V → Hp → VK → Prop} {F : W → Mo W} (ho : UnQ X (unaryOp op) r) (hr : F1 Pn fr r F) (ha : JB X Pn M a fa) : JE X Pn M fr (.UnaryOp op a pos) (mUn F fa) := by
  obtain ⟨ta, qa, ra⟩ := ha.ex
  exact ⟨_, qe_un ho qa, re_un hr ra⟩
theorem j_cmp {op : CmpOp} {r : R2} {F : W → W → Mo W} (ho : OpQ X (compareOp op) r) (hr : F2 Pn fr r F) (ha : JB X Pn M a fa) (hb : JB X Pn M b fb) (hm : behindInMarks op b = false) : JE X Pn M fr (.Compare a [op] [b] pos) (mBin F fa fb) := by
  obtain ⟨ta, qa, ra⟩ := ha.ex
  obtain ⟨tb, qb, rb⟩ := hb.ex
  exact ⟨_, qe_cmpR ho qa qb hm, re_op hr ra rb⟩
theorem rt_tst {ta : TE} (h : RB Pn M ta fa) : RT Pn M (tTest ta) (mTst fa) := ⟨fun A σ H ρ n Q R E P hf k => by
  refine h.run A σ H ρ n _ _ E P hf fun x n1 v1 H1 ⟨c, e, r⟩ b1 g1 => ?_
  subst e
  have b1' : v1 = .bl c := b1
  exact ⟨c, b1', k c n1 H1 r g1⟩⟩
theorem jt_cmp {op : CmpOp} {r : R2} {F : W → W → Mo W} (ho : OpQ X (compareOp op) r) (hr : F2 Pn fr r F) (ha : JB X Pn M a fa) (hb : JB X Pn M b fb) (hm : behindInMarks op b = false) : JT X Pn M (.Compare a [op] [b] pos) (mTst (mBin F fa fb)) := by
  obtain ⟨ta, qa, ra⟩ := ha.ex
  obtain ⟨tb, qb, rb⟩ := hb.ex
  exact ⟨_, qt_cmpR ho qa qb hm, rt_tst (re_op hr ra rb).rb⟩
theorem jt_val (h : JB X Pn M e f) (he : ∀ whole, isTrue e X.env whole = (do let v ← whole; standAt e.pos; holding [v] (truthy v)) := by intro _; rfl) : JT X Pn M e (mTst f) := by
  obtain ⟨ta, qa, ra⟩ := h.ex
  exact ⟨_, qt_val qa he, rt_tst ra⟩
theorem jt_not {t : Ev → Mo Bool} (h : JT X Pn M a t) : JT X Pn M (.UnaryOp .Not a pos) (mNot t) := by
  obtain ⟨ta, qa, ra⟩ := h.ex
  exact ⟨_, qt_not qa, ⟨fun A σ H ρ n Q R E P hf k => ra.run A σ H ρ n _ _ E P hf fun b m H' r g => k _ m H' r g⟩⟩
theorem jw_one {op : BoolOp} {t : Ev → Mo Bool} (hop : op = .And ∨ op = .Or) (h : JT X Pn M a t) : JW X Pn M (.BoolOp op [a] pos) t := by
  obtain ⟨ta, qa, ra⟩ := h.ex
  rcases hop with rfl | rfl
  · exact ⟨_, qw_and1 qa, ra⟩
  · exact ⟨_, qw_or1 qa, ra⟩
theorem rt_or {t u : TT} {ft fu : Ev → Mo Bool} (h : RT Pn M t ft) (h' : RT Pn M u fu) : RT Pn M (tOr t u) (mOr ft fu) := ⟨fun A σ H ρ n Q R E P hf k => by
  refine h.run A σ H ρ n _ _ E P hf fun c m H1 r g => ?_
  cases c with
  | false => exact h'.run A σ H1 ρ m _ _ (E.stay g.st) g.pn (by simpa using r) fun b m' H' r' g' => k b m' H' r' (g.trans g')
  | true => exact k true m H1 (by simpa using r) g⟩
theorem jw_or {rest : List Expr} {t u : Ev → Mo Bool} (h : JT X Pn M a t) (h' : JW X Pn M (.BoolOp .Or (b :: rest) pos) u) : JW X Pn M (.BoolOp .Or (a :: b :: rest) pos) (mOr t u) := by
  obtain ⟨ta, qa, ra⟩ := h.ex
  obtain ⟨tb, qb, rb⟩ := h'.ex
  exact ⟨_, qw_or qa qb, rt_or ra rb⟩
theorem JW.t {t : Ev → Mo Bool} (h : JW X Pn M e t) : JT X Pn M e t := let ⟨te, h1, h2⟩ := h.ex; ⟨te, h1.pt, h2⟩
def mNotV (fa : Ev → Mo W) : Ev → Mo W := fun ρ n Q => fa ρ n fun x n1 => ∃ c, x = .d (.bl c) ∧ Q (.d (.bl (!c))) n1
theorem j_if {t : Ev → Mo Bool} (hc : JT X Pn M c t) (ha : JE X Pn M fr a fa) (hb : JE X Pn M fr b fb) : JE X Pn M fr (.IfExp c a b pos) (mIf t fa fb) := by
  obtain ⟨tc, qc, rc⟩ := hc.ex
  obtain ⟨ta, qa, ra⟩ := ha.ex
  obtain ⟨tb, qb, rb⟩ := hb.ex
  refine ⟨_, qe_ifExp qc qa qb, ⟨fun A σ H ρ n Q R E P hf k => ?_⟩⟩
  refine rc.run A σ H ρ n _ _ E P hf fun c m H1 r g => ?_
  cases c with
  | true =>
    rw [if_pos rfl] at r ⊢
    exact ra.run A σ H1 ρ m _ _ (E.stay g.st) g.pn r fun w m' v' H' r' a' g' f' => k w m' v' H' r' a' (g.trans g') fun z => (f' z).back g.st
  | false =>
    rw [if_neg (by decide)] at r ⊢
    exact rb.run A σ H1 ρ m _ _ (E.stay g.st) g.pn r fun w m' v' H' r' a' g' f' => k w m' v' H' r' a' (g.trans g') fun z => (f' z).back g.st
/-! None -/
def isNon : W → Bool
  | .d .non => true
  | _ => false
theorem Bor.isNon {A : Addr → Prop} {H : Hp} {w : W} {v : V} (h : Bor A H w v) : decide (v = .non) = isNon w := by
  cases w with
  | d x =>
    cases x with
    | non => have : v = .non := h; subst this; rfl
    | bl c => have : v = .bl c := h; subst this; rfl
    | int c => have : v = .int c := h; subst this; rfl
    | str c => have : v = .str c := h; subst this; rfl
    | tup l => obtain ⟨a, _, rfl, _⟩ := h; rfl
    | lst l => obtain ⟨a, _, rfl, _⟩ := h; rfl
    | dct => obtain ⟨a, _, rfl, _⟩ := h; rfl
  | pen p => have : v = .ref p := h; subst this; rfl
  | dk k => obtain ⟨a, _, rfl, _⟩ := h; rfl
def mIsN (fa : Ev → Mo W) : Ev → Mo W := fun ρ n Q => fa ρ n fun x n1 => Q (.d (.bl (isNon x))) n1
def mNotN (fa : Ev → Mo W) : Ev → Mo W := fun ρ n Q => fa ρ n fun x n1 => Q (.d (.bl (!isNon x))) n1
theorem rt_tb {ta : TE} (h : RB Pn M ta fa) : RT Pn M (tB ta) (mTst fa) := ⟨fun A σ H ρ n Q R E P hf k => by
  refine h.run A σ H ρ n _ _ E P hf fun x n1 v1 H1 ⟨c, e, r⟩ b1 g1 => ?_
  subst e
  have b1' : v1 = .bl c := b1
  exact ⟨c, b1', k c n1 H1 r g1⟩⟩
/-! arguments, displays -/
theorem ja_nil : JA X Pn M [] mNil := ⟨_, qa_nil, ⟨fun A σ H ρ n Q R E P hf k => k [] n [] H hf rfl (Go.refl P)⟩⟩
theorem ja_cons {fs : Ev → Mo (List W)} (ha : JE X Pn M fr e f) (hr : JA X Pn M es fs) (hs : starEach (e :: es) X.env = (false, eval e X.env) :: starEach es X.env := by rfl) : JA X Pn M (e :: es) (mCons f fs) := by
  obtain ⟨ta, qa, ra⟩ := ha.ex
  obtain ⟨tb, qb, rb⟩ := hr.ex
  refine ⟨_, qa_cons qa qb hs, ⟨fun A σ H ρ n Q R E P hf k => ?_⟩⟩
  refine ra.run A σ H ρ n _ _ E P hf fun x n1 v1 H1 r1 b1 g1 _ => ?_
  exact rb.run A σ H1 ρ n1 _ _ (E.stay g1.st) g1.pn r1 fun xs n2 vs H2 r2 b2 g2 => k _ n2 _ H2 r2 ⟨v1, vs, rfl, b1.stay g2.st, b2⟩ (g1.trans g2)
theorem jab_nil : JAB X Pn M [] mNil := ja_nil.bo
theorem jab_cons {fs : Ev → Mo (List W)} (ha : JB X Pn M e f) (hr : JAB X Pn M es fs) (hs : starEach (e :: es) X.env = (false, eval e X.env) :: starEach es X.env := by rfl) : JAB X Pn M (e :: es) (mCons f fs) := by
  obtain ⟨ta, qa, ra⟩ := ha.ex
  obtain ⟨tb, qb, rb⟩ := hr.ex
  refine ⟨_, qa_cons qa qb hs, ⟨fun A σ H ρ n Q R E P hf k => ?_⟩⟩
  refine ra.run A σ H ρ n _ _ E P hf fun x n1 v1 H1 r1 b1 g1 => ?_
  exact rb.run A σ H1 ρ n1 _ _ (E.stay g1.st) g1.pn r1 fun xs n2 vs H2 r2 b2 g2 => k _ n2 _ H2 r2 ⟨v1, vs, rfl, b1.stay g2.st, b2⟩ (g1.trans g2)
def lim : Nat := 500000
theorem lim_le {n : Nat} (h : n ≤ lim) : n ≤ sizeLine := Nat.le_trans h (by decide)
theorem lim_lt {n : Nat} (h : n ≤ lim) : n < sizeLine := Nat.lt_of_le_of_lt h (by decide)
/-- data of a list of values -/
def dts : List W → Option (List Dt)
  | [] => some []
  | .d x :: r => (dts r).map (x :: ·)
  | _ :: _ => none
theorem ValL.dts {A : Addr → Prop} {H : Hp} : ∀ {ws : List W} {vs : List V} {l : List Dt}, ValL A H ws vs → dts ws = some l → IsL (hide A H) l vs
  | [], vs, l, h, e => by cases e; exact h
  | .d x :: ws, vs, l, ⟨v, r, e1, h1, h2⟩, e => by
    obtain ⟨l', e2, rfl⟩ := Option.map_eq_some_iff.mp e
    exact ⟨v, r, e1, h1.is, ValL.dts h2 e2⟩
  | .pen _ :: _, _, _, _, e => by cases e
  | .dk _ :: _, _, _, _, e => by cases e
theorem ValL.len {A : Addr → Prop} {H : Hp} : ∀ {ws : List W} {vs : List V}, ValL A H ws vs → vs.length = ws.length
  | [], _, h => by cases h; rfl
  | _ :: ws, vs, ⟨v, r, e, _, h2⟩ => by rw [e, List.length_cons, List.length_cons, ValL.len h2]
theorem val_tup {A : Addr → Prop} {H H' : Hp} {p : Addr} {xs : List V} {l : List Dt} (hl : IsL (hide A H) l xs) (s : Stay H H') (n : ¬ A p) (g : H' p = some (.tup xs)) : Val A H' (.d (.tup l)) (.ref p) :=
  Val.of ⟨p, xs, rfl, hide_of n g, hl.stay (hide_stay s)⟩
theorem val_lst {A : Addr → Prop} {H H' : Hp} {p : Addr} {xs : List V} {l : List Dt} (hl : IsL (hide A H) l xs) (s : Stay H H') (n : ¬ A p) (g : H' p = some (.lst xs)) : Val A H' (.d (.lst l)) (.ref p) :=
  Val.of ⟨p, xs, rfl, hide_of n g, hl.stay (hide_stay s)⟩
theorem frv_lst {A : Addr → Prop} {H H' : Hp} {p : Addr} {xs : List V} {l : List Dt} (hl : IsL (hide A H) l xs) (s : Same H H') (n : H p = none) (g : H' p = some (.lst xs)) : FrV A H H' (.d (.lst l)) (.ref p) :=
  ⟨p, rfl, .of n, p, xs, rfl, g, hl.stay (hide_more (Stay.same s) (.of n))⟩
def mTupK (k : Nat) (fa : Ev → Mo (List W)) : Ev → Mo W := fun ρ n Q => fa ρ n fun ws m => ws.length ≤ lim ∧ ∃ l, dts ws = some l ∧ Q (.d (.tup l)) m
theorem j_tup {x1} {fs : Ev → Mo (List W)} (h : JA X Pn M es fs) : JE X Pn M false (.Tuple es x1 pos) (mTupK es.length fs) := by
  obtain ⟨ta, qa, ra⟩ := h.ex
  refine ⟨_, qe_tupN qa, ⟨fun A σ H ρ n Q R E P hf k => ?_⟩⟩
  refine ra.run A σ H ρ n _ _ E P hf fun ws m vs H1 ⟨hz, l, e, r⟩ b g => ⟨lim_le (by rw [b.len]; exact hz), fun p H2 np gp S => ?_⟩
  exact k _ m _ H2 r (val_tup (b.dts e) (Stay.same S) ((E.stay g.st).new np) gp) (g.trans (Go.same g.pn S)) fun z => by cases z
def mLstK (k : Nat) (fa : Ev → Mo (List W)) : Ev → Mo W := fun ρ n Q => fa ρ n fun ws m => ws.length ≤ lim ∧ ∃ l, dts ws = some l ∧ Q (.d (.lst l)) m
theorem j_lst {fs : Ev → Mo (List W)} (h : JA X Pn M es fs) : JE X Pn M true (.List es pos) (mLstK es.length fs) := by
  obtain ⟨ta, qa, ra⟩ := h.ex
  refine ⟨_, qe_lstN qa, ⟨fun A σ H ρ n Q R E P hf k => ?_⟩⟩
  refine ra.run A σ H ρ n _ _ E P hf fun ws m vs H1 ⟨hz, l, e, r⟩ b g => ⟨lim_le (by rw [b.len]; exact hz), fun p H2 np gp S => ?_⟩
  exact k _ m _ H2 r (val_lst (b.dts e) (Stay.same S) ((E.stay g.st).new np) gp) (g.trans (Go.same g.pn S)) fun _ => (frv_lst (b.dts e) S np gp).back g.st
/-! calls of builtins -/
theorem j_callB {id : String} {r : List V → Hp → VK → Prop} {F : List W → Mo W} {x : Str} {fs : Ev → Mo (List W)} (hc : CallQ X (.builtin id) r) (hr : FL Pn fr r F) (hg : Gl X x) (hm : X.mg x = none) (hv : bootBuiltins x = some (.builtin id)) (ha : JAB X Pn M (e :: es) fs) (hn : x ≠ "__name__" := by decide) (hdb : (x == ("__debug__" : Str)) = false := by decide)
    (he : starEach (e :: es) X.env = (false, eval e X.env) :: starEach es X.env := by rfl) (hpl : (backTo pos (starEach es X.env)).any (·.1) = false := by rfl) : JE X Pn M fr (.Call (.Name x p) (e :: es) [] pos) (mArg F fs) := by
  obtain ⟨ta, qa, ra⟩ := ha.ex
  exact ⟨_, qe_callB hc hg hm hv qa hn hdb he hpl, re_cb hr ra⟩
theorem j_callTy {T : String} {r : List V → Hp → VK → Prop} {F : List W → Mo W} {x : Str} {fs : Ev → Mo (List W)} (hc : CallQ X (.type T) r) (hr : FL Pn fr r F) (hg : Gl X x) (hm : X.mg x = none) (hv : bootBuiltins x = some (.type T)) (ha : JAB X Pn M (e :: es) fs) (hn : x ≠ "__name__" := by decide) (hdb : (x == ("__debug__" : Str)) = false := by decide)
    (he : starEach (e :: es) X.env = (false, eval e X.env) :: starEach es X.env := by rfl) (hpl : (backTo pos (starEach es X.env)).any (·.1) = false := by rfl) : JE X Pn M fr (.Call (.Name x p) (e :: es) [] pos) (mArg F fs) := by
  obtain ⟨ta, qa, ra⟩ := ha.ex
  exact ⟨_, qe_callTy hc hg hm hv qa hn hdb he hpl, re_cb hr ra⟩
end
end L3


set_option Elab.async false
set_option linter.all false
set_option maxRecDepth 100000
/-! operators and builtins at the level of values -/
namespace L3
open PySem L2
section
variable {Pn : Option PenId} {K : PySem.W.Frag} {A : Addr → Prop} {H : Hp}
theorem bor_int {i : Int} {v : V} (h : Bor A H (.d (.int i)) v) : v = .int i := h
theorem bor_bl {i : Bool} {v : V} (h : Bor A H (.d (.bl i)) v) : v = .bl i := h
theorem bor_tup {l : List Dt} {v : V} (h : Bor A H (.d (.tup l)) v) : ∃ a xs, v = .ref a ∧ H a = some (.tup xs) ∧ IsL (hide A H) l xs := by
  obtain ⟨a, xs, e, h1, h2⟩ := h
  exact ⟨a, xs, e, hide_sub _ _ h1, h2⟩
theorem bor_lst {l : List Dt} {v : V} (h : Bor A H (.d (.lst l)) v) : ∃ a xs, v = .ref a ∧ H a = some (.lst xs) ∧ IsL (hide A H) l xs := h
theorem bor_seq {l : List Dt} {v : V} (h : Bor A H (.d (.lst l)) v ∨ Bor A H (.d (.tup l)) v) : ∃ a xs, v = .ref a ∧ (SqL K H a xs ∨ SqT K H a xs) ∧ IsL (hide A H) l xs := by
  rcases h with h | h
  · obtain ⟨a, xs, e, h1, h2⟩ := bor_lst h
    exact ⟨a, xs, e, .inl (.of h1), h2⟩
  · obtain ⟨a, xs, e, h1, h2⟩ := bor_tup h
    exact ⟨a, xs, e, .inr (.of h1), h2⟩
/-! ints -/
def fI (C : Int → Int → Prop) (g : Int → Int → Dt) : W → W → Mo W := fun x y n Q => ∃ i j, x = .d (.int i) ∧ y = .d (.int j) ∧ C i j ∧ Q (.d (g i j)) n
def fI0 (g : Int → Int → Dt) : W → W → Mo W := fun x y n Q => ∃ i j, x = .d (.int i) ∧ y = .d (.int j) ∧ Q (.d (g i j)) n
theorem f2_I0 {g : Int → Int → V} {g' : Int → Int → Dt} (hg : ∀ i j G, Is G (g' i j) (g i j)) : F2 Pn false (rI0 g) (fI0 g') := ⟨fun A H x y wx wy n Q R al bx byy P ⟨i, j, e1, e2, r⟩ k => by
  subst e1 e2
  exact ⟨i, j, bor_int bx, bor_int byy, k _ n _ H r (Val.of (hg _ _ _)) (Go.refl P) fun z => by cases z⟩⟩
abbrev fGt := fI0 fun i j => .bl (decide (j < i))
theorem v_gt : F2 Pn false (rI0 fun i j => .bl (decide (j < i))) fGt := f2_I0 fun _ _ _ => rfl
def fNeg : W → Mo W := fun x n Q => ∃ i, x = .d (.int i) ∧ Q (.d (.int (-i))) n
theorem v_neg : F1 Pn false (rU fun i => .int (-i)) fNeg := ⟨fun A H x wx n Q R al bx P ⟨i, e, r⟩ k => by
  subst e
  exact ⟨i, bor_int bx, k _ n _ H r (Val.of rfl) (Go.refl P) fun z => by cases z⟩⟩
/-! == of plain things -/
def sEq : Dt → Dt → Option Bool
  | .int i, .int j => some (decide (i = j))
  | .bl i, .bl j => some (decide (i = j))
  | .str i, .str j => some (decide (i = j))
  | .non, .non => some true
  | .non, .int _ => some false
  | .int _, .non => some false
  | .non, .bl _ => some false
  | .bl _, .non => some false
  | .non, .str _ => some false
  | .str _, .non => some false
  | .int _, .str _ => some false
  | .str _, .int _ => some false
  | _, _ => none
def plain : Dt → Option V
  | .int i => some (.int i)
  | .bl i => some (.bl i)
  | .str i => some (.str i)
  | .non => some .non
  | _ => none
theorem sEq_ok {a b : Dt} {r : Bool} (h : sEq a b = some r) : ∃ x y, plain a = some x ∧ plain b = some y ∧ scal x y = true ∧ decide (x = y) = r := by
  cases a <;> cases b <;> simp [sEq] at h <;> subst h <;> simp [plain, scal]
theorem bor_plain {a : Dt} {x v : V} (h : Bor A H (.d a) v) (e : plain a = some x) : v = x := by
  cases a <;> simp [plain] at e <;> subst e <;> exact h
def fEq : W → W → Mo W := fun x y n Q => ∃ a b r, x = .d a ∧ y = .d b ∧ sEq a b = some r ∧ Q (.d (.bl r)) n
def fNe : W → W → Mo W := fun x y n Q => ∃ a b r, x = .d a ∧ y = .d b ∧ sEq a b = some r ∧ Q (.d (.bl (!r))) n
theorem v_eq : F2 Pn false rEq fEq := ⟨fun A H x y wx wy n Q R al bx byy P ⟨a, b, r, e1, e2, e, h⟩ k => by
  subst e1 e2
  obtain ⟨x', y', p1, p2, s, d⟩ := sEq_ok e
  obtain rfl := bor_plain bx p1
  obtain rfl := bor_plain byy p2
  exact ⟨s, k _ n _ H h (Val.of (by rw [d]; rfl)) (Go.refl P) fun z => by cases z⟩⟩
theorem v_ne : F2 Pn false rNe fNe := ⟨fun A H x y wx wy n Q R al bx byy P ⟨a, b, r, e1, e2, e, h⟩ k => by
  subst e1 e2
  obtain ⟨x', y', p1, p2, s, d⟩ := sEq_ok e
  obtain rfl := bor_plain bx p1
  obtain rfl := bor_plain byy p2
  exact ⟨s, k _ n _ H h (Val.of (by rw [d]; rfl)) (Go.refl P) fun z => by cases z⟩⟩
/-! == of deep things -/
def fEqD : W → W → Mo W := fun x y n Q => ∃ a b, x = .d a ∧ y = .d b ∧ a.eqOk ∧ b.eqOk ∧ ∀ r : Bool, (r = true ↔ a = b) → Q (.d (.bl r)) n
def fNeD : W → W → Mo W := fun x y n Q => ∃ a b, x = .d a ∧ y = .d b ∧ a.eqOk ∧ b.eqOk ∧ ∀ r : Bool, (r = true ↔ a = b) → Q (.d (.bl (!r))) n
theorem v_eqD : F2 Pn false rEqD fEqD := ⟨fun A H x y wx wy n Q R al bx byy P ⟨a, b, e1, e2, o1, o2, h⟩ k => by
  subst e1 e2
  exact ⟨a, b, bx.is, byy.is, o1, o2, fun r hr => k _ n _ H (h r hr) (Val.of rfl) (Go.refl P) fun z => by cases z⟩⟩
theorem v_neD : F2 Pn false rNeD fNeD := ⟨fun A H x y wx wy n Q R al bx byy P ⟨a, b, e1, e2, o1, o2, h⟩ k => by
  subst e1 e2
  exact ⟨a, b, bx.is, byy.is, o1, o2, fun r hr => k _ n _ H (h r hr) (Val.of rfl) (Go.refl P) fun z => by cases z⟩⟩
def fIsB : W → W → Mo W := fun x y n Q => ∃ a b, x = .d (.bl a) ∧ y = .d (.bl b) ∧ Q (.d (.bl (a == b))) n
def fIsNotB : W → W → Mo W := fun x y n Q => ∃ a b, x = .d (.bl a) ∧ y = .d (.bl b) ∧ Q (.d (.bl (a != b))) n
theorem v_isnot_bl : F2 Pn false (fun x y H Q => ∃ a b, x = .bl a ∧ y = .bl b ∧ Q (.bl (a != b)) H) fIsNotB := ⟨fun A H x y wx wy n Q R al bx byy P ⟨a, b, e1, e2, h⟩ k => by
  subst e1 e2
  exact ⟨a, b, bor_bl bx, bor_bl byy, k _ n _ H h (Val.of rfl) (Go.refl P) fun z => by cases z⟩⟩
/-! in -/
/-! sequences -/
theorem isL_at {G : Hp} {l : List Dt} {xs : List V} {i : Int} {d : Dt} (h : IsL G l xs) (e : atI l i = some d) : ∃ v, atI xs i = some v ∧ Is G d v := by
  unfold atI at e ⊢
  rw [h.length]
  obtain ⟨j, h1, h2⟩ := Option.bind_eq_some_iff.mp e
  obtain ⟨v, h3, h4⟩ := h.getD h2
  exact ⟨v, by rw [h1]; exact h3, h4⟩
def fIxT : W → W → Mo W := fun x y n Q => ∃ l i d, x = .d (.tup l) ∧ y = .d (.int i) ∧ atI l i = some d ∧ Q (.d d) n
def fIxL : W → W → Mo W := fun x y n Q => ∃ l i d, x = .d (.lst l) ∧ y = .d (.int i) ∧ atI l i = some d ∧ Q (.d d) n
theorem v_ixT : F2 Pn false (rIxT K) fIxT := ⟨fun A H x y wx wy n Q R al bx byy P ⟨l, i, d, e1, e2, e, h⟩ k => by
  subst e1 e2
  obtain ⟨a, xs, ea, ha, hl⟩ := bor_tup bx
  obtain ⟨v, h1, h2⟩ := isL_at hl e
  exact ⟨a, xs, i, v, ea, bor_int byy, .of ha, h1, k _ n _ H h (Val.of h2) (Go.refl P) fun z => by cases z⟩⟩
theorem v_ixL : F2 Pn false (rIxL K) fIxL := ⟨fun A H x y wx wy n Q R al bx byy P ⟨l, i, d, e1, e2, e, h⟩ k => by
  subst e1 e2
  obtain ⟨a, xs, ea, ha, hl⟩ := bor_lst bx
  obtain ⟨v, h1, h2⟩ := isL_at hl e
  exact ⟨a, xs, i, v, ea, bor_int byy, .of ha, h1, k _ n _ H h (Val.of h2) (Go.refl P) fun z => by cases z⟩⟩
/-! builtins -/
def lenD : W → Option Nat
  | .d (.lst l) => some l.length
  | .d (.tup l) => some l.length
  | _ => none
def fLen : List W → Mo W := fun ws n Q => ∃ x k, ws = [x] ∧ lenD x = some k ∧ Q (.d (.int (k : Int))) n
theorem borL1 {w : W} {vs : List V} (h : BorL A H [w] vs) : ∃ v, vs = [v] ∧ Bor A H w v := by
  obtain ⟨v, r, e, h1, h2⟩ := h
  cases h2
  exact ⟨v, e, h1⟩
theorem v_len : FL Pn false (fun xs H Q => ∃ x n, xs = [x] ∧ LenV K x H n ∧ Q (.int n) H) fLen := ⟨fun A H xs ws n Q R al b P ⟨x, j, e1, e2, h⟩ k => by
  subst e1
  obtain ⟨v, rfl, bb⟩ := borL1 b
  refine ⟨v, j, rfl, ?_, k _ n _ H h (Val.of rfl) (Go.refl P) fun z => by cases z⟩
  cases x with
  | d x =>
    cases x with
    | lst l =>
      cases e2
      obtain ⟨a, ys, rfl, ha, hl⟩ := bor_lst bb
      exact .inl ⟨ys, .of ha, hl.length.symm⟩
    | tup l =>
      cases e2
      obtain ⟨a, ys, rfl, ha, hl⟩ := bor_tup bb
      exact .inr ⟨ys, .of ha, hl.length.symm⟩
    | _ => cases e2
  | _ => cases e2⟩
def fAbs : List W → Mo W := fun ws n Q => ∃ i, ws = [.d (.int i)] ∧ Q (.d (.int (if i < 0 then -i else i))) n
def fMin : List W → Mo W := fun ws n Q => ∃ i j, ws = [.d (.int i), .d (.int j)] ∧ Q (.d (.int (if j < i then j else i))) n
def fMax : List W → Mo W := fun ws n Q => ∃ i j, ws = [.d (.int i), .d (.int j)] ∧ Q (.d (.int (if j > i then j else i))) n
theorem isL_bls {G : Hp} : ∀ {bs : List Bool} {xs : List V}, IsL G (bs.map .bl) xs → xs = bs.map V.bl
  | [], _, h => h
  | b :: bs, xs, h => by
    obtain ⟨y, r, rfl, h1, h2⟩ := h
    cases h1
    rw [isL_bls h2]
    rfl
def fAll : List W → Mo W := fun ws n Q => ∃ bs : List Bool, ws = [.d (.lst (bs.map .bl))] ∧ Q (.d (.bl (bs.all id))) n
theorem v_all : FL Pn false (fun xs H Q => ∃ (p : Addr) (bs : List Bool), xs = [.ref p] ∧ H p = some (.lst (bs.map V.bl)) ∧ Q (.bl (bs.all id)) H) fAll := ⟨fun A H xs ws n Q R al b P ⟨bs, e1, h⟩ k => by
  subst e1
  obtain ⟨v, rfl, bb⟩ := borL1 b
  obtain ⟨a, ys, rfl, ha, hl⟩ := bor_lst bb
  obtain rfl := isL_bls hl
  exact ⟨a, bs, rfl, ha, k _ n _ H h (Val.of rfl) (Go.refl P) fun z => by cases z⟩⟩
def fList : List W → Mo W := fun ws n Q => ∃ l, (ws = [.d (.lst l)] ∨ ws = [.d (.tup l)]) ∧ Q (.d (.lst l)) n
theorem v_list : FL Pn true (rListN K) fList := ⟨fun A H xs ws n Q R al b P ⟨l, e1, h⟩ k => by
  obtain ⟨v, rfl, bb⟩ : ∃ v, xs = [v] ∧ (Bor A H (.d (.lst l)) v ∨ Bor A H (.d (.tup l)) v) := by
    rcases e1 with rfl | rfl
    · obtain ⟨v, e, h⟩ := borL1 b; exact ⟨v, e, .inl h⟩
    · obtain ⟨v, e, h⟩ := borL1 b; exact ⟨v, e, .inr h⟩
  obtain ⟨a, ys, rfl, hs, hl⟩ := bor_seq (K := K) bb
  exact ⟨a, ys, rfl, hs, fun p H' np g S => k _ n _ H' h (val_lst hl (Stay.same S) (al.new np) g) (Go.same P S) fun z => frv_lst hl S np g⟩⟩
def fTuple : List W → Mo W := fun ws n Q => ∃ l, (ws = [.d (.lst l)] ∨ ws = [.d (.tup l)]) ∧ Q (.d (.tup l)) n
theorem v_tuple : FL Pn false (rTupleN K) fTuple := ⟨fun A H xs ws n Q R al b P ⟨l, e1, h⟩ k => by
  rcases e1 with rfl | rfl
  · obtain ⟨v, rfl, bb⟩ := borL1 b
    obtain ⟨a, ys, rfl, ha, hl⟩ := bor_lst bb
    exact ⟨a, ys, rfl, .inl ⟨.of ha, fun p H' np g S => k _ n _ H' h (val_tup hl (Stay.same S) (al.new np) g) (Go.same P S) fun z => by cases z⟩⟩
  · obtain ⟨v, rfl, bb⟩ := borL1 b
    obtain ⟨a, ys, e, ha, hl⟩ := id bb
    subst e
    exact ⟨a, ys, rfl, .inr ⟨.of (hide_sub _ _ ha), k _ n _ H h (Val.of ⟨a, ys, rfl, ha, hl⟩) (Go.refl P) fun z => by cases z⟩⟩⟩
/-! slices -/
/-! dict(pairs), keys -/
def lookD (kvs : List (Key × Dt)) (k : Key) : Option Dt := (kvs.find? fun q => decide (q.1 = k)).map (·.2)
theorem KvIs.look {G : Hp} {k : Key} : ∀ {kvs : List (Key × Dt)} {ks : List (Key × V)}, KvIs G kvs ks → (lookD kvs k = none → valV ks k = none) ∧ ∀ d, lookD kvs k = some d → ∃ v, valV ks k = some v ∧ Is G d v
  | [], _, h => by cases h; exact ⟨fun _ => rfl, fun d e => by cases e⟩
  | q :: r, ks, ⟨v, s, e, h1, h2⟩ => by
    subst e
    have ih := KvIs.look (k := k) h2
    by_cases hk : q.1 = k
    · refine ⟨fun z => ?_, fun d z => ?_⟩
      · simp [lookD, List.find?_cons, hk] at z
      · simp [lookD, List.find?_cons, hk] at z
        subst z
        exact ⟨v, valV_pos hk, h1⟩
    · have e1 : lookD (q :: r) k = lookD r k := by simp [lookD, List.find?_cons, hk]
      rw [e1, valV_neg hk]
      exact ih
end
end L3


set_option Elab.async false
set_option linter.all false
set_option maxRecDepth 100000
/-! places, defs, iterators, comprehensions at the level of values -/
namespace L3
open PySem L2
section
variable {X : Cx} {Pn : Option PenId} {M S : List Nat} {fr : Bool} {e a b c : Expr} {es : List Expr} {f fa fb fc : Ev → Mo W} {pos p : Pos}
/-! places -/
theorem j_ix {r : R2} {F : W → W → Mo W} (hx : IxQ X r) (hr : F2 Pn fr r F) (ha : JB X Pn M a fa) (hb : JB X Pn M b fb) (hs : PlainIx b) : JE X Pn M fr (.Subscript a b pos) (mBin F fa fb) := by
  obtain ⟨ta, qa, ra⟩ := ha.ex
  obtain ⟨tb, qb, rb⟩ := hb.ex
  exact ⟨_, qe_ix hx qa qb hs, re_op hr ra rb⟩
theorem isL_rev {G : Hp} : ∀ {ds : List Dt} {xs : List V}, IsL G ds xs → IsL G ds.reverse xs.reverse
  | [], _, h => by cases h; rfl
  | d :: ds, xs, h => by
    obtain ⟨x, r, rfl, h1, h2⟩ := h
    rw [List.reverse_cons, List.reverse_cons]
    exact (isL_rev h2).append (IsL.one h1)
/-! dicts -/
def keyW : W → Option Key
  | .d (.int i) => some (Sum.inl i)
  | .d (.str x) => some (Sum.inr x)
  | _ => none
theorem keyW_v {A : Addr → Prop} {H : Hp} {w : W} {v : V} {k : Key} (h : Bor A H w v) (e : keyW w = some k) : v = kV k := by
  cases w with
  | d x =>
    cases x with
    | int i => cases e; exact h
    | str i => cases e; exact h
    | _ => cases e
  | _ => cases e
def mDGet (fd fk : Ev → Mo W) : Ev → Mo W := fun ρ n Q => fd ρ n fun x n1 => fk ρ n1 fun y n2 => ∃ kvs k d, x = .dk kvs ∧ keyW y = some k ∧ lookD kvs k = some d ∧ Q (.d d) n2
def mDIn (neg : Bool) (fk fd : Ev → Mo W) : Ev → Mo W := fun ρ n Q => fk ρ n fun y n1 => fd ρ n1 fun x n2 => ∃ kvs k, x = .dk kvs ∧ keyW y = some k ∧ Q (.d (.bl (if neg then !(lookD kvs k).isSome else (lookD kvs k).isSome))) n2
theorem bor_dk {A : Addr → Prop} {H : Hp} {kvs : List (Key × Dt)} {v : V} (h : Bor A H (.dk kvs) v) : ∃ a ks, v = .ref a ∧ H a = some (.dK ks) ∧ KvIs (hide A H) kvs ks ∧ valV ks (Sum.inr "at" : Key) = none := h
theorem j_dget (hu : X.A.units + 1 < cLine) (ha : JB X Pn M a fa) (hb : JB X Pn M b fb) (hs : NoSl b) : JE X Pn M false (.Subscript a b pos) (mDGet fa fb) := by
  obtain ⟨ta, qa, ra⟩ := ha.ex
  obtain ⟨tb, qb, rb⟩ := hb.ex
  refine ⟨_, qe_dget hu qa qb hs, ⟨fun A σ H ρ n Q R E P hf k => ?_⟩⟩
  refine ra.run A σ H ρ n _ _ E P hf fun w1 m1 v1 H1 r1 b1 g1 => ?_
  refine rb.run A σ H1 ρ m1 _ _ (E.stay g1.st) g1.pn r1 fun w2 m2 v2 H2 ⟨kvs, ky, d, e1, e2, e3, r⟩ b2 g2 => ?_
  subst e1
  obtain ⟨ad, ks, rfl, had, hk, _⟩ := bor_dk (b1.stay g2.st)
  obtain ⟨v, h1, h2⟩ := (hk.look (k := ky)).2 d e3
  refine ⟨ad, v, rfl, ?_, k _ m2 _ H2 r (Val.of h2) (g1.trans g2) fun z => by cases z⟩
  rw [keyW_v b2 e2, ← h1]
  exact DGet.k had
theorem re_din {ta tb : TE} (ra : RB Pn M ta fa) (rb : RB Pn M tb fb) : RE Pn M false (tDIn ta tb) (mDIn false fa fb) := ⟨fun A σ H ρ n Q R E P hf k => by
  refine ra.run A σ H ρ n _ _ E P hf fun w1 m1 v1 H1 r1 b1 g1 => ?_
  refine rb.run A σ H1 ρ m1 _ _ (E.stay g1.st) g1.pn r1 fun w2 m2 v2 H2 ⟨kvs, ky, e1, e2, r⟩ b2 g2 => ?_
  subst e1
  obtain ⟨ad, ks, rfl, had, hk, _⟩ := bor_dk b2
  refine ⟨ad, valV ks ky, rfl, by rw [keyW_v b1 e2]; exact DGet.k had, k _ m2 _ H2 r (Val.of ?_) (g1.trans g2) fun z => by cases z⟩
  have : (valV ks ky).isSome = (lookD kvs ky).isSome := by
    cases e : lookD kvs ky with
    | none => rw [(hk.look (k := ky)).1 e]; rfl
    | some d => obtain ⟨v, h1, _⟩ := (hk.look (k := ky)).2 d e; rw [h1]; rfl
  rw [this]
  rfl⟩
theorem jt_din (hu : X.A.units + 1 < cLine) (ha : JB X Pn M a fa) (hb : JB X Pn M b fb) (h1 : behindInMarks .In b = false := by first | exact nobehind _ (by decide) (by decide) | rfl) : JT X Pn M (.Compare a [.In] [b] pos) (mTst (mDIn false fa fb)) := by
  obtain ⟨ta, qa, ra⟩ := ha.ex
  obtain ⟨tb, qb, rb⟩ := hb.ex
  exact ⟨_, qt_cmp (qc_din hu qa qb) h1, rt_tb (re_din ra rb).rb⟩
/-- dict(pairs) of ints to data -/
def prD (q : Int × Dt) : Dt := .tup [.int q.1, q.2]
def kvD (q : Int × Dt) : Key × Dt := (Sum.inl q.1, q.2)
def fDictT : List W → Mo W := fun ws n Q => ∃ ps : List (Int × Dt), ws = [.d (.tup (ps.map prD))] ∧ (ps.map (·.1)).Nodup ∧ ps.length ≤ 1000 ∧ Q (.dk (ps.map kvD)) n
theorem prs_of {G H : Hp} (s : Same G H) : ∀ {ps : List (Int × Dt)} {xs : List V}, IsL G (ps.map prD) xs → ∃ qs : List (Addr × Int × V), xs = qs.map (fun q => V.ref q.1) ∧ (∀ q ∈ qs, H q.1 = some (.tup [.int q.2.1, q.2.2])) ∧ qs.map (·.2.1) = ps.map (·.1) ∧ KvIs G (ps.map kvD) (qs.map fun q => ((Sum.inl q.2.1 : Key), q.2.2))
  | [], xs, h => by cases h; exact ⟨[], rfl, fun _ h => by simp at h, rfl, rfl⟩
  | p :: ps, xs, h => by
    obtain ⟨x, r, rfl, ⟨ad, ys, rfl, had, y0, r0, rfl, h0, y1, r1, rfl, h1, h2⟩, hr⟩ := h
    cases h0
    cases h2
    obtain ⟨qs, rfl, a1, a2, a3⟩ := prs_of s hr
    refine ⟨(ad, p.1, y1) :: qs, rfl, fun q hq => ?_, by rw [List.map_cons, List.map_cons, a2], y1, _, rfl, h1, a3⟩
    rcases List.mem_cons.mp hq with rfl | hq
    · exact s _ _ had
    · exact a1 q hq
theorem val_noat (ps : List (Addr × Int × V)) : valV (ps.map fun q => ((Sum.inl q.2.1 : Key), q.2.2)) (Sum.inr "at" : Key) = none := by
  induction ps with
  | nil => rfl
  | cons q ps ih =>
    rw [List.map_cons, valV_neg (by intro z; cases z)]
    exact ih
theorem v_dictT : FL Pn true rDictT fDictT := ⟨fun A H xs ws n Q R al b P ⟨ps, e1, hnd, hz, h⟩ k => by
  subst e1
  obtain ⟨v, rfl, bb⟩ := borL1 b
  obtain ⟨ad, ys, rfl, had, hl⟩ := bor_tup bb
  obtain ⟨qs, rfl, a1, a2, a3⟩ := prs_of hide_sub hl
  have hlen : qs.length = ps.length := by have := congrArg List.length a2; simpa using this
  refine ⟨ad, qs, rfl, ⟨had, a1⟩, by rw [a2]; exact hnd, by omega, fun p H' np g S => ?_⟩
  exact k _ n _ H' h ⟨p, _, rfl, hide_of (al.new np) g, a3.stay (hide_stay (Stay.same S)), val_noat qs⟩ (Go.same P S) fun z => ⟨p, rfl, .of np, p, _, rfl, g, a3.stay (hide_more (Stay.same S) (.of np)), val_noat qs⟩⟩
/-! defs -/
def spV (k : Nat) (fr : Bool) (F : Option PenId → List W → Mo W) : Sp := fun vs H Q _ => ∃ Pn A ws n R, Al A H ∧ ValL A H ws vs ∧ ws.length = k ∧ Pens Pn A n H ∧ F Pn ws n R ∧ ∀ w m v H', R w m → Val A H' w v → Go Pn A H m H' → (fr = true → FrV A H H' w v) → Q v H'
def mFn (k : Nat) (F : List W → Mo W) (fa : Ev → Mo (List W)) : Ev → Mo W := fun ρ n Q => fa ρ n fun ws m => ws.length = k ∧ F ws m Q
theorem re_fn {k : Nat} {F : Option PenId → List W → Mo W} {ta : TA} {fs : Ev → Mo (List W)} (ha : RA Pn M ta fs) : RE Pn M fr (tCall (spV k fr F) [] E0 ta) (mFn k (F Pn) fs) := ⟨fun A σ H ρ n Q R E P hf kk => by
  refine ha.run A σ H ρ n _ _ E P hf fun ws m vs H1 ⟨hk, r⟩ b g => ?_
  rw [List.append_nil]
  exact ⟨Pn, A, ws, m, R, (E.stay g.st).al, b, hk, g.pn, r, fun w m' v H' h1 h2 h3 h4 => kk w m' v H' h1 h2 (g.trans h3) fun z => (h4 z).back g.st⟩⟩
theorem j_fn {x : Str} {st : Stmt} {ps : List Str} {fA : Addr} {fd : FuncData} {k : Nat} {F : Option PenId → List W → Mo W} {j kk : Nat} {fs : Ev → Mo (List W)} (D : Dfn X.K X.mg x st ps fA fd) (G : FnOk X.prog X.w X.K X.mg X.base CX0 j fA fd ps (spV k fr F)) (hr : Room kk X.A)
    (ha : JA X Pn M (e :: es) fs) (hjk : j ≤ kk := by decide) (hg : Gl X x := by rfl) (hdb : (x == ("__debug__" : Str)) = false := by decide) (he : starEach (e :: es) X.env = (false, eval e X.env) :: starEach es X.env := by rfl) (hpl : (backTo pos (starEach es X.env)).any (·.1) = false := by rfl) :
    JE X Pn M fr (.Call (.Name x p) (e :: es) [] pos) (mFn k (F Pn) fs) := by
  obtain ⟨ta, qa, ra⟩ := ha.ex
  exact ⟨_, qe_fn D G hr qa hjk hg hdb he hpl, re_fn ra⟩
def W.flat (fr : Bool) : W → Bool
  | .d (.lst l) => fr && Dt.noLs l
  | .d x => x.noL
  | .pen _ => true
  | .dk _ => false
theorem Pens.more {A A' : Addr → Prop} {n m : Nat} {H H' : Hp} (h : Pens Pn A n H) (h' : Pens Pn A' m H') : Pens Pn A m H' := by
  unfold Pens at h h' ⊢
  split at h
  · trivial
  · exact ⟨h'.1, h.2⟩
theorem Pens.less {A A' : Addr → Prop} {n : Nat} {H : Hp} (h : Pens Pn A n H) (s : ∀ a, A' a → A a) : Pens Pn A' n H := by
  unfold Pens at h ⊢
  split at h
  · trivial
  · exact ⟨h.1, fun z => h.2.1 (s _ z), fun z => h.2.2 (s _ z)⟩
def mFnB (k : Nat) (fr : Bool) (F : List W → Mo W) (fa : Ev → Mo (List W)) : Ev → Mo W := fun ρ n Q => fa ρ n fun ws m => ws.length = k ∧ F ws m fun w m' => w.flat fr = true ∧ Q w m'
end
end L3


set_option Elab.async false
set_option linter.all false
set_option maxRecDepth 100000
/-! targets, iterators, comprehensions at the level of values -/
namespace L3
open PySem L2
structure JG (X : Cx) (S M : List Nat) (e : Expr) (mg : W → Ev → (Ev → Prop) → Prop) : Prop where
  ex : ∃ g, QG X e g ∧ RG S M g mg
structure JGs (X : Cx) (S M : List Nat) (es : List Expr) (mg : List Dt → Ev → (Ev → Prop) → Prop) : Prop where
  ex : ∃ g, QGs X es g ∧ RGs S M g mg
structure JI (X : Cx) (Pn : Option PenId) (M : List Nat) (ow : Bool) (tg e : Expr) (f : Ev → Mo (List W)) : Prop where
  ex : ∃ wi, QI X tg e wi ∧ RI Pn M ow wi f
structure JTs (X : Cx) (Pn : Option PenId) (M : List Nat) (es : List Expr) (f : Ev → Mo Bool) : Prop where
  ex : ∃ t, QTs X es t ∧ RT Pn M t f
section
variable {X : Cx} {Pn : Option PenId} {M S : List Nat} {fr : Bool} {e a b c : Expr} {es : List Expr} {f fa fb fc : Ev → Mo W} {pos p : Pos}
/-! targets -/
def gN (i : Nat) : W → Ev → (Ev → Prop) → Prop := fun w ρ Q => Q (ρ.set i (some w))
def gNl : List Dt → Ev → (Ev → Prop) → Prop := fun ds ρ Q => ds = [] ∧ Q ρ
def gCn (g : W → Ev → (Ev → Prop) → Prop) (u : List Dt → Ev → (Ev → Prop) → Prop) : List Dt → Ev → (Ev → Prop) → Prop := fun ds ρ Q => ∃ d r, ds = d :: r ∧ g (.d d) ρ fun ρ' => u r ρ' Q
def gTp (n : Nat) (u : List Dt → Ev → (Ev → Prop) → Prop) : W → Ev → (Ev → Prop) → Prop := fun w ρ Q => ∃ ds, w = .d (.tup ds) ∧ ds.length = n ∧ u ds ρ Q
theorem EnvR.set {A : Addr → Prop} {σ : St} {H : Hp} {ρ : Ev} (E : EnvR A M σ H ρ) {i : Nat} {w : W} {v : V} (hi : i ∉ M) (h : Val A H w v) : EnvR A M (σ.set i (some v)) H (ρ.set i (some w)) where
  len := by rw [List.length_set, List.length_set]; exact E.len
  val := fun j u e => by
    by_cases hj : j = i
    · subst hj
      have hl : j < ρ.length := by
        have := (List.getElem?_eq_some_iff.mp e).1
        rwa [List.length_set] at this
      rw [List.getElem?_set_self hl] at e
      cases e
      exact ⟨v, List.getElem?_set_self (by rw [E.len]; exact hl), fun _ => h, fun z => absurd z hi⟩
    · rw [List.getElem?_set_ne (Ne.symm hj)] at e ⊢
      exact E.val j u e
  dis := fun j k u u' ad hj hk hne e1 e2 s1 => by
    have hj' : i ≠ j := fun z => hi (z ▸ hj)
    have hk' : i ≠ k := fun z => hi (z ▸ hk)
    rw [List.getElem?_set_ne hj'] at e1 s1
    rw [List.getElem?_set_ne hk'] at e2 ⊢
    exact E.dis j k u u' ad hj hk hne e1 e2 s1
  al := E.al
theorem rg_name {i : Nat} (hi : i ∉ M) (hs : i ∉ S) : RG S M (gName i) (gN i) := ⟨fun A σ H ρ v w Q R E h r k => k _ _ r (E.set hi h) fun j hj => ⟨List.getElem?_set_ne fun (z : i = j) => hs (by rw [z]; exact hj), List.getElem?_set_ne fun (z : i = j) => hs (by rw [z]; exact hj)⟩⟩
theorem jg_name {i : Nat} {x : Str} (hN : X.N.Nodup) (hx : X.N[i]? = some x) (hl : Loc X.env.scope x) (hi : i ∉ M := by decide) (hs : i ∉ S := by decide) (hf : X.fn x = true ∨ X.env.scope.names.lookup x = some .local := by first | exact .inl rfl | exact .inr rfl | assumption) : JG X S M (.Name x pos) (gN i) := ⟨_, qg_name hN hx hl hf, rg_name hi hs⟩
theorem jgs_nil : JGs X S M [] gNl := ⟨_, qgs_nil, ⟨fun A σ H ρ vs ds Q R E h ⟨e, r⟩ k => by
  subst e
  exact ⟨h, k σ ρ r E fun _ _ => ⟨rfl, rfl⟩⟩⟩⟩
theorem jgs_cons {g : W → Ev → (Ev → Prop) → Prop} {u : List Dt → Ev → (Ev → Prop) → Prop} (h1 : JG X S M e g) (h2 : JGs X S M es u) (hs : (assignEach (e :: es) X.env).map (·.2) = assign e X.env :: (assignEach es X.env).map (·.2) := by rfl) : JGs X S M (e :: es) (gCn g u) := by
  obtain ⟨t1, q1, r1⟩ := h1.ex
  obtain ⟨t2, q2, r2⟩ := h2.ex
  refine ⟨_, qgs_cons q1 q2 hs, ⟨fun A σ H ρ vs ds Q R E h ⟨d, r, e, hg⟩ k => ?_⟩⟩
  subst e
  obtain ⟨v, s, rfl, hv, hr⟩ := h
  refine ⟨v, s, rfl, ?_⟩
  refine r1.run A σ H ρ v _ _ _ E (Val.of hv) hg fun σ' ρ' hu E' f1 => ?_
  exact r2.run A σ' H ρ' s _ _ _ E' hr hu fun σ2 ρ2 hR E2 f2 => k σ2 ρ2 hR E2 fun i hi => ⟨(f2 i hi).1.trans (f1 i hi).1, (f2 i hi).2.trans (f1 i hi).2⟩
theorem jg_tup {k n : Nat} {u : List Dt → Ev → (Ev → Prop) → Prop} (K : PySem.W.Frag) (hK : X.K = K) (hc : X.calm = true) (h : JGs X S M es u) (hn : (assignEach es X.env).length = n := by rfl) (hst : (assignEach es X.env).findIdx? (·.1) = none := by rfl) : JG X S M (.Tuple es k pos) (gTp n u) := by
  obtain ⟨t1, q1, r1⟩ := h.ex
  refine ⟨_, qg_tupK K hK hc q1 hn hst, ⟨fun A σ H ρ v w Q R E h ⟨ds, e, hl, hu⟩ kk => ?_⟩⟩
  subst e
  obtain ⟨ad, xs, rfl, had, hx⟩ := h
  exact ⟨ad, xs, rfl, .of (hide_sub _ _ had), by rw [hx.length]; exact hl, r1.run A σ H ρ xs ds _ _ E hx hu kk⟩
/-! iterators -/
def mItL (fa : Ev → Mo W) : Ev → Mo (List W) := fun ρ n Q => fa ρ n fun x m => ∃ l, x = .d (.lst l) ∧ Q (l.map W.d) m
def mItT (fa : Ev → Mo W) : Ev → Mo (List W) := fun ρ n Q => fa ρ n fun x m => ∃ l, x = .d (.tup l) ∧ Q (l.map W.d) m
theorem itv_get {G G' : Hp} {l : List Dt} {xs : List V} {i : Nat} {w : W} (h : IsL G l xs) (e : (l.map W.d)[i]? = some w) (s : Stay G G') : ∃ d x, w = .d d ∧ xs[i]? = some x ∧ Is G' d x := by
  rw [List.getElem?_map] at e
  obtain ⟨d, h1, rfl⟩ := Option.map_eq_some_iff.mp e
  obtain ⟨x, h2, h3⟩ := h.getD h1
  exact ⟨d, x, rfl, h2, h3.stay s⟩
theorem itv_list {K : PySem.W.Frag} {A : Addr → Prop} {H : Hp} {ad : Addr} {xs : List V} {l : List Dt} (h : hide A H ad = some (.lst xs)) (hl : IsL (hide A H) l xs) : ItV false A H (Itl K ad) (l.map W.d) where
  one := fun i w A2 H2 e s _ _ => by
    obtain ⟨d, x, rfl, hx, hd⟩ := itv_get hl e s
    have g := hide_sub _ _ (s.lst h)
    refine ⟨⟨xs, x, .of g, hx⟩, fun y H3 ⟨e3, hy⟩ => ?_⟩
    subst e3
    have := hy xs (.of g)
    rw [hx] at this
    cases this
    exact ⟨fun _ _ z => z, Val.of hd⟩
  stop := fun A2 H2 s _ => ⟨xs, .of (hide_sub _ _ (s.lst h)), by rw [List.length_map, hl.length]; exact Nat.le_refl _⟩
theorem itv_tup {K : PySem.W.Frag} {A : Addr → Prop} {H : Hp} {ad : Addr} {xs : List V} {l : List Dt} (h : hide A H ad = some (.tup xs)) (hl : IsL (hide A H) l xs) : ItV false A H (Itt K ad) (l.map W.d) where
  one := fun i w A2 H2 e s _ _ => by
    obtain ⟨d, x, rfl, hx, hd⟩ := itv_get hl e s
    have g := hide_sub _ _ (s.tup h)
    refine ⟨⟨xs, x, .of g, hx⟩, fun y H3 ⟨e3, hy⟩ => ?_⟩
    subst e3
    have := hy xs (.of g)
    rw [hx] at this
    cases this
    exact ⟨fun _ _ z => z, Val.of hd⟩
  stop := fun A2 H2 s _ => ⟨xs, .of (hide_sub _ _ (s.tup h)), by rw [List.length_map, hl.length]; exact Nat.le_refl _⟩
theorem ji_list {tg : Expr} (K : PySem.W.Frag) (hK : X.K = K) (h : JE X Pn M fr e f) : JI X Pn M false tg e (mItL f) := by
  obtain ⟨te, q, r⟩ := h.ex
  refine ⟨_, qi_listK K hK q, ⟨fun A σ H ρ n Q R E P hf k => ?_⟩⟩
  refine r.run A σ H ρ n _ _ E P hf fun w m v H1 ⟨l, e, r⟩ hv g _ => ?_
  subst e
  obtain ⟨ad, xs, rfl, had, hl⟩ := hv
  exact ⟨ad, rfl, ⟨xs, .of (hide_sub _ _ had)⟩, k _ m _ H1 r (itv_list had hl) g⟩
theorem ji_tup {tg : Expr} (K : PySem.W.Frag) (hK : X.K = K) (h : JE X Pn M fr e f) : JI X Pn M false tg e (mItT f) := by
  obtain ⟨te, q, r⟩ := h.ex
  refine ⟨_, qi_tupK K hK q, ⟨fun A σ H ρ n Q R E P hf k => ?_⟩⟩
  refine r.run A σ H ρ n _ _ E P hf fun w m v H1 ⟨l, e, r⟩ hv g _ => ?_
  subst e
  obtain ⟨ad, xs, rfl, had, hl⟩ := hv
  exact ⟨ad, rfl, ⟨xs, .of (hide_sub _ _ had)⟩, k _ m _ H1 r (itv_tup had hl) g⟩
theorem itv_own {K : PySem.W.Frag} {A : Addr → Prop} {H : Hp} {ad : Addr} {xs : List V} {l : List Dt} (h : H ad = some (.lst xs)) (hl : IsL (hide A H) l xs) : ItV true A H (Itl K ad) (l.map W.d) where
  one := fun i w A2 H2 e s s2 _ => by
    obtain ⟨d, x, rfl, hx, hd⟩ := itv_get hl e s
    have g := (s2 rfl).lst h
    refine ⟨⟨xs, x, .of g, hx⟩, fun y H3 ⟨e3, hy⟩ => ?_⟩
    subst e3
    have := hy xs (.of g)
    rw [hx] at this
    cases this
    exact ⟨fun _ _ z => z, Val.of hd⟩
  stop := fun A2 H2 s s2 => ⟨xs, .of ((s2 rfl).lst h), by rw [List.length_map, hl.length]; exact Nat.le_refl _⟩
/-- an owned list, gone through by a comprehension -/
theorem ji_own {tg : Expr} (K : PySem.W.Frag) (hK : X.K = K) (h : JB X Pn M e f) : JI X Pn M true tg e (mItL f) := by
  obtain ⟨te, q, r⟩ := h.ex
  refine ⟨_, qi_listK K hK q, ⟨fun A σ H ρ n Q R E P hf k => ?_⟩⟩
  refine r.run A σ H ρ n _ _ E P hf fun w m v H1 ⟨l, e, r⟩ hv g => ?_
  subst e
  obtain ⟨ad, xs, rfl, had, hl⟩ := hv
  exact ⟨ad, rfl, ⟨xs, .of had⟩, k _ m _ H1 r (itv_own had hl) g⟩
def rngW (lo : Int) (n : Nat) : List W := (List.range n).map fun i : Nat => W.d (.int (lo + i))
theorem itv_rng {A : Addr → Prop} {H : Hp} {lo : Int} {n : Nat} : ItV false A H (Itr lo n) (rngW lo n) where
  one := fun i w A2 H2 e s _ _ => by
    unfold rngW at e
    rw [List.getElem?_map] at e
    obtain ⟨j, h1, rfl⟩ := Option.map_eq_some_iff.mp e
    obtain ⟨hi, h2⟩ := List.getElem?_eq_some_iff.mp h1
    rw [List.getElem_range] at h2
    subst h2
    rw [List.length_range] at hi
    refine ⟨hi, fun y H3 ⟨e3, hy⟩ => ?_⟩
    subst e3 hy
    exact ⟨fun _ _ z => z, Val.of rfl⟩
  stop := fun A2 H2 s _ => by
    show n ≤ (rngW lo n).length
    unfold rngW
    rw [List.length_map, List.length_range]
    exact Nat.le_refl _
def mItR (fa : Ev → Mo (List W)) : Ev → Mo (List W) := fun ρ n Q => fa ρ n fun ws m => ∃ j : Int, ws = [.d (.int j)] ∧ j ≤ 1000000 ∧ -1000000 ≤ j ∧ Q (rngW 0 j.toNat) m
theorem ji_range1 {tg : Expr} {fs : Ev → Mo (List W)} (hg : Gl X "range") (hm : X.mg "range" = none) (ha : JAB X Pn M [a] fs) (hs : starEach [a] X.env = [(false, eval a X.env)] := by rfl) : JI X Pn M false tg (.Call (.Name "range" p) [a] [] pos) (mItR fs) := by
  obtain ⟨te, q, r⟩ := ha.ex
  refine ⟨_, qi_range1 hg hm q hs, ⟨fun A σ H ρ n Q R E P hf k => ?_⟩⟩
  refine r.run A σ H ρ n _ _ E P hf fun ws m vs H1 ⟨j, e, j1, j2, r⟩ hv g => ?_
  subst e
  obtain ⟨v, rfl, bb⟩ := borL1 hv
  obtain rfl := bor_int bb
  exact ⟨j, rfl, by omega, by omega, k _ m _ H1 r itv_rng g⟩
def enW : Nat → List Dt → List W
  | _, [] => []
  | k, x :: r => .d (.tup [.int k, x]) :: enW (k + 1) r
theorem enW_get : ∀ (l : List Dt) (k i : Nat), (enW k l)[i]? = (l[i]?).map fun x => W.d (.tup [.int ((k + i : Nat) : Int), x])
  | [], _, _ => by simp [enW]
  | x :: r, k, 0 => by simp [enW]
  | x :: r, k, i + 1 => by
    have := enW_get r (k + 1) i
    simp only [enW, List.getElem?_cons_succ, this]
    rw [show k + 1 + i = k + (i + 1) by omega]
theorem enW_len : ∀ (l : List Dt) (k : Nat), (enW k l).length = l.length
  | [], _ => rfl
  | x :: r, k => by rw [enW, List.length_cons, List.length_cons, enW_len r]
def mItE (fa : Ev → Mo (List W)) : Ev → Mo (List W) := fun ρ n Q => fa ρ n fun ws m => ∃ l, ws = [.d (.tup l)] ∧ Q (enW 0 l) m
theorem itv_enum {K : PySem.W.Frag} {A : Addr → Prop} {H : Hp} {ad : Addr} {xs : List V} {l : List Dt} (h : hide A H ad = some (.tup xs)) (hl : IsL (hide A H) l xs) : ItV false A H (Ite K ad) (enW 0 l) where
  one := fun i w A2 H2 e s _ hA => by
    rw [enW_get] at e
    obtain ⟨d, h1, rfl⟩ := Option.map_eq_some_iff.mp e
    obtain ⟨x, hx, hd⟩ := hl.getD h1
    have g := hide_sub _ _ (s.tup h)
    refine ⟨⟨xs, x, .of g, hx⟩, fun y H3 ⟨T, z, e1, hT, e3, hy⟩ => ?_⟩
    subst e1 e3
    have := hy xs (.of g)
    rw [hx] at this
    cases this
    have S := Same.upd (o := .tup [.int i, x]) hT
    refine ⟨S, Val.of ⟨T, _, rfl, hide_of (hA T hT) upd_same, _, _, rfl, ?_, _, _, rfl, (hd.stay s).stay (Stay.same (hide_same S)), rfl⟩⟩
    show V.int (i : Int) = V.int ((0 + i : Nat) : Int)
    rw [Nat.zero_add]
  stop := fun A2 H2 s _ => ⟨xs, .of (hide_sub _ _ (s.tup h)), by rw [enW_len, hl.length]; exact Nat.le_refl _⟩
theorem ji_enum {elts : List Expr} {x1} {tpos : Pos} {fs : Ev → Mo (List W)} (hg : Gl X "enumerate") (hm : X.mg "enumerate" = none) (ha : JA X Pn M [a] fs) (hs : starEach [a] X.env = [(false, eval a X.env)] := by rfl) : JI X Pn M false (.Tuple elts x1 tpos) (.Call (.Name "enumerate" p) [a] [] pos) (mItE fs) := by
  obtain ⟨te, q, r⟩ := ha.ex
  refine ⟨_, qi_enum hg hm q hs, ⟨fun A σ H ρ n Q R E P hf k => ?_⟩⟩
  refine r.run A σ H ρ n _ _ E P hf fun ws m vs H1 ⟨l, e, r⟩ hv g => ?_
  subst e
  obtain ⟨v, s, rfl, ⟨ad, xs, rfl, had, hl⟩, hs⟩ := hv
  cases hs
  exact ⟨ad, rfl, ⟨xs, .of (hide_sub _ _ had)⟩, k _ m _ H1 r (itv_enum had hl) g⟩
/-! comprehensions -/
def capW (ρ : Ev) (cix : List (Option Nat)) : Ev := cix.map fun o => match o with
  | none => none
  | some i => (ρ[i]?).join
def capM (M : List Nat) (cix : List (Option Nat)) : List Nat := (List.range cix.length).filter fun k => match cix[k]? with
  | some (some i) => M.contains i
  | _ => false
theorem mem_capM {cix : List (Option Nat)} {k : Nat} : k ∈ capM M cix ↔ ∃ i, cix[k]? = some (some i) ∧ i ∈ M := by
  unfold capM
  rw [List.mem_filter, List.mem_range]
  constructor
  · rintro ⟨h1, h2⟩
    rw [List.getElem?_eq_getElem h1] at h2 ⊢
    cases e : cix[k] with
    | none => rw [e] at h2; cases h2
    | some i => rw [e] at h2; exact ⟨i, rfl, by simpa using h2⟩
  · rintro ⟨i, h1, h2⟩
    exact ⟨(List.getElem?_eq_some_iff.mp h1).1, by rw [h1]; simpa using h2⟩
theorem cap_get {α : Type} {l : List (Option α)} {cix : List (Option Nat)} {k : Nat} {x : α} : (cix.map fun o => match o with | none => none | some i => (l[i]?).join)[k]? = some (some x) ↔ ∃ i, cix[k]? = some (some i) ∧ l[i]? = some (some x) := by
  rw [List.getElem?_map]
  cases e : cix[k]? with
  | none => simp
  | some o =>
    cases o with
    | none => simp
    | some i =>
      simp only [Option.map_some, Option.some.injEq]
      constructor
      · intro h
        refine ⟨i, rfl, ?_⟩
        cases q : l[i]? with
        | none => rw [q] at h; cases h
        | some z => rw [q] at h; cases z with
          | none => cases h
          | some y => cases h; rfl
      · rintro ⟨j, rfl, h⟩
        rw [h]
        rfl
theorem EnvR.cap {A : Addr → Prop} {σ : St} {H : Hp} {ρ : Ev} (E : EnvR A M σ H ρ) {cix : List (Option Nat)} (hn : (cix.filterMap id).Nodup) : EnvR A (capM M cix) (capS σ cix) H (capW ρ cix) where
  len := by unfold capS capW; rw [List.length_map, List.length_map]
  val := fun k w e => by
    obtain ⟨i, h1, h2⟩ := cap_get.mp e
    obtain ⟨v, s1, s2, s3⟩ := E.val i w h2
    refine ⟨v, cap_get.mpr ⟨i, h1, s1⟩, fun z => s2 fun y => z (mem_capM.mpr ⟨i, h1, y⟩), fun z => ?_⟩
    obtain ⟨j, h3, h4⟩ := mem_capM.mp z
    rw [h1] at h3
    cases h3
    exact s3 h4
  dis := fun k k' w u ad hk hk' hne e1 e2 s1 s2 => by
    obtain ⟨i, h1, h2⟩ := cap_get.mp e1
    obtain ⟨i', h1', h2'⟩ := cap_get.mp e2
    obtain ⟨j, h3, h4⟩ := cap_get.mp s1
    obtain ⟨j', h3', h4'⟩ := cap_get.mp s2
    rw [h1] at h3
    cases h3
    rw [h1'] at h3'
    cases h3'
    obtain ⟨m, m1, m2⟩ := mem_capM.mp hk
    rw [h1] at m1
    cases m1
    obtain ⟨m', m1', m2'⟩ := mem_capM.mp hk'
    rw [h1'] at m1'
    cases m1'
    refine E.dis _ _ w u ad m2 m2' (fun z => ?_) h2 h2' h4 h4'
    subst z
    -- two places of cix with one index
    have key : ∀ (l : List (Option Nat)) (a b : Nat) (x : Nat), (l.filterMap id).Nodup → l[a]? = some (some x) → l[b]? = some (some x) → a = b := by
      intro l
      induction l with
      | nil => intro a b x _ h; simp at h
      | cons o l ih =>
        intro a b x hn ha hb
        have mem : ∀ (l : List (Option Nat)) (a : Nat), l[a]? = some (some x) → x ∈ l.filterMap id := fun l a h => List.mem_filterMap.mpr ⟨some x, List.mem_of_getElem? h, rfl⟩
        cases o with
        | none =>
          have hn' : (l.filterMap id).Nodup := by simpa using hn
          cases a with
          | zero => simp at ha
          | succ a =>
            cases b with
            | zero => simp at hb
            | succ b => rw [ih a b x hn' (by simpa using ha) (by simpa using hb)]
        | some y =>
          have hn2 : y ∉ l.filterMap id ∧ (l.filterMap id).Nodup := by
            have hn' : (y :: l.filterMap id).Nodup := hn
            exact List.nodup_cons.mp hn'
          cases a with
          | zero =>
            have ha' : y = x := by simpa using ha
            subst ha'
            cases b with
            | zero => rfl
            | succ b => exact absurd (mem l b (by simpa using hb)) hn2.1
          | succ a =>
            cases b with
            | zero =>
              have hb' : y = x := by simpa using hb
              subst hb'
              exact absurd (mem l a (by simpa using ha)) hn2.1
            | succ b => rw [ih a b x hn2.2 (by simpa using ha) (by simpa using hb)]
    exact hne (key cix k k' _ hn h1 h1')
  al := E.al
theorem EnvR.more {A : Addr → Prop} {σ : St} {H H' : Hp} {ρ : Ev} (E : EnvR A M σ H ρ) {p : Addr} {o : HO} (s : Stay H H') (n : Fr H p) (g : H' p = some o) (np : NP o) (nt : ∀ xs, o ≠ .tup xs) : EnvR (fun b => A b ∨ b = p) M σ H' ρ where
  len := E.len
  val := fun i w e => by
    obtain ⟨v, h1, h2, h3⟩ := E.val i w e
    refine ⟨v, h1, fun z => WAt.up (hide_more s n) (hide_more s n) (h2 z), fun z => ?_⟩
    obtain ⟨a, e, h4, h5, h6⟩ := h3 z
    exact ⟨a, e, .inl h4, WAt.up s (hide_more s n) h5, h6⟩
  dis := E.dis
  al := fun a h => by
    rcases h with h | h
    · obtain ⟨o, h1, h2, h3⟩ := E.al a h
      exact ⟨o, s _ _ h1 h2, h2, h3⟩
    · subst h; exact ⟨o, g, np, nt⟩
/-- a hidden thing, no name's own, is changed -/
theorem EnvR.upd {A : Addr → Prop} {σ : St} {H : Hp} {ρ : Ev} (E : EnvR A M σ H ρ) {p : Addr} {o : HO} (hp : A p) (hn : ∀ i w, i ∈ M → ρ[i]? = some (some w) → σ[i]? ≠ some (some (.ref p))) (np : NP o) (nt : ∀ xs, o ≠ .tup xs) : EnvR A M σ (L2.upd H p o) ρ where
  len := E.len
  val := fun i w e => by
    obtain ⟨v, h1, h2, h3⟩ := E.val i w e
    refine ⟨v, h1, fun z => ?_, fun z => ?_⟩
    · show WAt _ _ _ _
      rw [hide_upd hp]
      exact h2 z
    · obtain ⟨a, e', h4, h5, h6⟩ := h3 z
      have hne : a ≠ p := fun q => hn i w z e (by rw [h1, e', q])
      refine ⟨a, e', h4, ?_, h6⟩
      show WAt _ _ _ _
      rw [hide_upd hp]
      cases w with
      | d x =>
        cases x with
        | lst l => obtain ⟨a2, xs, e2, g1, g2⟩ := h5; rw [e'] at e2; cases e2; exact ⟨a, xs, e', by rw [upd_ne hne]; exact g1, g2⟩
        | dct => obtain ⟨a2, xs, e2, g1, g2⟩ := h5; rw [e'] at e2; cases e2; exact ⟨a, xs, e', by rw [upd_ne hne]; exact g1, g2⟩
        | _ => cases h6
      | pen p => cases h6
      | dk k => obtain ⟨a2, xs, e2, g1, g2⟩ := h5; rw [e'] at e2; cases e2; exact ⟨a, xs, e', by rw [upd_ne hne]; exact g1, g2⟩
  dis := E.dis
  al := fun a h => by
    by_cases ha : a = p
    · subst ha; exact ⟨o, upd_same, np, nt⟩
    · rw [upd_ne ha]; exact E.al a h
theorem Pens.upd {A : Addr → Prop} {n : Nat} {H : Hp} {p : Addr} {o : HO} (h : Pens Pn A n H) (hp : A p) : Pens Pn A n (L2.upd H p o) := by
  unfold Pens at h ⊢
  split at h
  · trivial
  · refine ⟨?_, h.2⟩
    rename_i q c ns
    obtain ⟨h1, h2, h3⟩ := h
    have e1 : c ≠ p := fun z => h2 (z ▸ hp)
    have e2 : q ≠ p := fun z => h3 (z ▸ hp)
    obtain ⟨a, l, g1, g2, g3, g4⟩ := h1.ob
    exact ⟨⟨a, l, by rw [upd_ne e2]; exact g1, g2, g3, g4⟩, by rw [upd_ne e1]; exact h1.ls, h1.len⟩
end
end L3


set_option Elab.async false
set_option linter.all false
set_option maxRecDepth 100000
/-! comprehensions and statements at the level of values -/
namespace L3
open PySem L2
structure JS (X : Cx) (Pn : Option PenId) (S M : List Nat) (fr : Bool) (st : Stmt) (fs : Ms) : Prop where
  ex : ∃ ts, QS X st ts ∧ RS Pn S M fr ts fs
structure JSs (X : Cx) (Pn : Option PenId) (S M : List Nat) (fr : Bool) (st : List Stmt) (fs : Ms) : Prop where
  ex : ∃ ts, QSs X st ts ∧ RS Pn S M fr ts fs
section
variable {X : Cx} {Pn : Option PenId} {M S : List Nat} {fr fr' : Bool} {e a b c : Expr} {es : List Expr} {f fa fb fc : Ev → Mo W} {pos p : Pos}
theorem Pens.grow {A : Addr → Prop} {n : Nat} {H H' : Hp} {q : Addr} {o : HO} (h : Pens Pn A n H) (h' : Pens Pn A n H') (hq : Fr H q) (g : H' q = some o) (np : NP o) : Pens Pn (fun b => A b ∨ b = q) n H' := by
  unfold Pens at h h' ⊢
  split at h
  · trivial
  · rename_i p c ns
    refine ⟨h'.1, fun z => z.elim h'.2.1 fun z => ?_, fun z => z.elim h'.2.2 fun z => ?_⟩
    · subst z
      exact hq _ h.1.ls NP.lst
    · subst z
      obtain ⟨a, l, e, _⟩ := h'.1.ob
      rw [e] at g
      cases g
      have := np _ rfl
      rw [pen_a] at this
      cases this
theorem Pens.grow' {A : Addr → Prop} {n m : Nat} {H H' : Hp} {q : Addr} {o : HO} (h : Pens Pn A n H) (h' : Pens Pn A m H') (hq : Fr H q) (g : H' q = some o) (np : NP o) : Pens Pn (fun b => A b ∨ b = q) m H' := by
  unfold Pens at h h' ⊢
  split at h
  · trivial
  · rename_i p c ns
    refine ⟨h'.1, fun z => z.elim h'.2.1 fun z => ?_, fun z => z.elim h'.2.2 fun z => ?_⟩
    · subst z
      exact hq _ h.1.ls NP.lst
    · subst z
      obtain ⟨a, l, e, _⟩ := h'.1.ob
      rw [e] at g
      cases g
      have := np _ rfl
      rw [pen_a] at this
      cases this
/-! one reading for all frames of a comprehension -/
theorem uni_E {scope : Scope} {N : List Str} {fr : Bool} (h : ∀ C s H ex, JE (compCx X scope N C s H ex) Pn M fr e f) : ∃ te, (∀ C s H ex, QE (compCx X scope N C s H ex) e te) ∧ RE Pn M fr te f :=
  ⟨fun σ H Q => ∀ C s H0 ex, (h C s H0 ex).ex.choose σ H Q, fun C s H0 ex => ⟨fun pins s' σ H Q I z => (h C s H0 ex).ex.choose_spec.1.run pins s' σ H Q I (z C s H0 ex)⟩,
    ⟨fun A σ H ρ n Q R E P hf k C s H0 ex => (h C s H0 ex).ex.choose_spec.2.run A σ H ρ n Q R E P hf k⟩⟩
theorem uni_T {scope : Scope} {N : List Str} {ft : Ev → Mo Bool} (h : ∀ C s H ex, JTs (compCx X scope N C s H ex) Pn M es ft) : ∃ te, (∀ C s H ex, QTs (compCx X scope N C s H ex) es te) ∧ RT Pn M te ft :=
  ⟨fun σ H Q => ∀ C s H0 ex, (h C s H0 ex).ex.choose σ H Q, fun C s H0 ex => ⟨fun pins s' σ H Q I z => (h C s H0 ex).ex.choose_spec.1.run pins s' σ H Q I (z C s H0 ex)⟩,
    ⟨fun A σ H ρ n Q R E P hf k C s H0 ex => (h C s H0 ex).ex.choose_spec.2.run A σ H ρ n Q R E P hf k⟩⟩
theorem uni_G {scope : Scope} {N : List Str} {mg : W → Ev → (Ev → Prop) → Prop} (h : ∀ C s H ex, JG (compCx X scope N C s H ex) S M e mg) : ∃ g, (∀ C s H ex, QG (compCx X scope N C s H ex) e g) ∧ RG S M g mg :=
  ⟨fun v σ H Q => ∀ C s H0 ex, (h C s H0 ex).ex.choose v σ H Q, fun C s H0 ex => ⟨fun pins s' σ H v u Q I rv z => (h C s H0 ex).ex.choose_spec.1.run pins s' σ H v u Q I rv (z C s H0 ex)⟩,
    ⟨fun A σ H ρ v w Q R E hv hf k C s H0 ex => (h C s H0 ex).ex.choose_spec.2.run A σ H ρ v w Q R E hv hf k⟩⟩
/-! comprehensions -/
def compR (mg : W → Ev → (Ev → Prop) → Prop) (ft : Ev → Mo Bool) (fe : Ev → Mo W) (ρ0 : Ev) (Q : W → Nat → Prop) : List W → Nat → Prop := fun l n1 => l.length ≤ lim ∧ ∃ I : Nat → Ev → Nat → List Dt → Prop, I 0 ρ0 n1 [] ∧
  (∀ i w ρ' n' acc, l[i]? = some w → I i ρ' n' acc → mg w ρ' fun ρ1 => ft ρ1 n' fun b n2 => if b = true then fe ρ1 n2 fun x n3 => ∃ d, x = .d d ∧ I (i + 1) ρ1 n3 (acc ++ [d]) else I (i + 1) ρ1 n2 acc) ∧
  ∀ ρ' n' acc, I l.length ρ' n' acc → Q (.d (.lst acc)) n'
def mComp (fi : Ev → Mo (List W)) (mg : W → Ev → (Ev → Prop) → Prop) (ft : Ev → Mo Bool) (fe : Ev → Mo W) (cix : List (Option Nat)) : Ev → Mo W := fun ρ n Q => fi ρ n (compR mg ft fe (capW ρ cix) Q)
theorem re_comp {wi : TI} {g : TG} {ti : TT} {te : TE} {cix : List (Option Nat)} {fi : Ev → Mo (List W)} {mg : W → Ev → (Ev → Prop) → Prop} {ft : Ev → Mo Bool} {fe : Ev → Mo W} {ow : Bool} (hn : (cix.filterMap id).Nodup)
    (hi : RI Pn M ow wi fi) (hg : RG (capM M cix) (capM M cix) g mg) (ht : RT Pn (capM M cix) ti ft) (he : RE Pn (capM M cix) fr' te fe) : RE Pn M true (tCompG wi g ti te cix) (mComp fi mg ft fe cix) := ⟨fun A σ H ρ n Q R E P hf k => by
  refine hi.run A σ H ρ n _ _ E P hf fun l m J H1 ⟨hz, I, i0, it, ie⟩ iv g1 => fun acc hacc => ?_
  have E1 := E.stay g1.st
  have E2 := (E1.cap hn).more (Stay.upd (o := .lst []) hacc) (Fr.of hacc) upd_same NP.lst (by intro xs z; cases z)
  have P2 : Pens Pn (fun b => A b ∨ b = acc) m (L2.upd H1 acc (.lst [])) := g1.pn.grow (g1.pn.same (Same.upd hacc)) (Fr.of hacc) upd_same NP.lst
  have nacc : ∀ k w, k ∈ capM M cix → (capW ρ cix)[k]? = some (some w) → (capS σ cix)[k]? ≠ some (some (.ref acc)) := fun k w hk hw z => by
    obtain ⟨v, s1, _, s3⟩ := (E1.cap hn).val k w hw
    obtain ⟨a, e, hA, _⟩ := s3 hk
    rw [z] at s1
    cases s1
    cases e
    exact E1.new hacc hA
  have key : ∀ σ' ρ' H', EnvR (fun b => A b ∨ b = acc) (capM M cix) σ' H' ρ' → (∀ k ∈ capM M cix, σ'[k]? = (capS σ cix)[k]? ∧ ρ'[k]? = (capW ρ cix)[k]?) → ∀ k w, k ∈ capM M cix → ρ'[k]? = some (some w) → σ'[k]? ≠ some (some (.ref acc)) := fun σ' ρ' H' E' hfx k w hk hw z => by
    obtain ⟨f1, f2⟩ := hfx k hk
    rw [f1] at z
    rw [f2] at hw
    exact nacc k w hk hw z
  refine ⟨fun i mm σ' H' => mm = l.length - i ∧ i ≤ l.length ∧ ∃ ρ' n' accD xs, EnvR (fun b => A b ∨ b = acc) (capM M cix) σ' H' ρ' ∧ Pens Pn (fun b => A b ∨ b = acc) n' H' ∧ I i ρ' n' accD ∧ H' acc = some (.lst xs) ∧ IsL (hide (fun b => A b ∨ b = acc) H') accD xs ∧ accD.length ≤ i ∧ Stay (hide A H1) (hide (fun b => A b ∨ b = acc) H') ∧ Stay H1 H' ∧ (∀ k ∈ capM M cix, σ'[k]? = (capS σ cix)[k]? ∧ ρ'[k]? = (capW ρ cix)[k]?),
    ⟨l.length, by simp, Nat.zero_le _, _, m, [], [], E2, P2, i0, upd_same, rfl, Nat.le_refl _, hide_more (Stay.upd hacc) (Fr.of hacc), Stay.upd hacc, fun k hk => ⟨rfl, rfl⟩⟩, ?_⟩
  rintro i mm σ' H' ⟨rfl, hil, ρ', n', accD, xs, E', P', hI, hac, hxs, hal, st, s1, hfx⟩
  by_cases hlt : i < l.length
  · right
    have hget : l[i]? = some l[i] := List.getElem?_eq_getElem hlt
    obtain ⟨go, yl⟩ := iv.one i l[i] _ H' hget st (fun _ => s1) fun p hp => E'.new hp
    refine ⟨go, fun σ2 H2 => ∃ ρ' n' accD xs, EnvR (fun b => A b ∨ b = acc) (capM M cix) σ2 H2 ρ' ∧ Pens Pn (fun b => A b ∨ b = acc) n' H2 ∧ I (i + 1) ρ' n' accD ∧ H2 acc = some (.lst xs) ∧ IsL (hide (fun b => A b ∨ b = acc) H2) accD xs ∧ accD.length ≤ i + 1 ∧ Stay (hide A H1) (hide (fun b => A b ∨ b = acc) H2) ∧ Stay H1 H2 ∧ (∀ k ∈ capM M cix, σ2[k]? = (capS σ cix)[k]? ∧ ρ'[k]? = (capW ρ cix)[k]?),
      fun σ2 H2 h => ⟨l.length - (i + 1), by omega, rfl, hlt, h⟩, fun x H2 hy => ?_⟩
    obtain ⟨S2, V2⟩ := yl x H2 hy
    refine hg.run _ σ' H2 ρ' x l[i] _ _ (E'.stay (Stay.same S2)) V2 (it i l[i] ρ' n' accD hget hI) fun σ3 ρ3 r3 E3 f3 => ?_
    have hfx3 : ∀ k ∈ capM M cix, σ3[k]? = (capS σ cix)[k]? ∧ ρ3[k]? = (capW ρ cix)[k]? := fun k hk => ⟨(f3 k hk).1.trans (hfx k hk).1, (f3 k hk).2.trans (hfx k hk).2⟩
    refine ht.run _ σ3 H2 ρ3 n' _ _ E3 (P'.same S2) r3 fun b m3 H4 r4 g4 => ?_
    have s24 := (Stay.same S2).trans g4.st
    cases b with
    | false =>
      rw [if_neg (by decide)] at r4 ⊢
      exact ⟨ρ3, m3, accD, xs, E3.stay g4.st, g4.pn, r4, s24.lst hac, hxs.stay (hide_stay s24), by omega, st.trans (hide_stay s24), s1.trans s24, hfx3⟩
    | true =>
      rw [if_pos rfl] at r4 ⊢
      refine he.run _ σ3 H4 ρ3 m3 _ _ (E3.stay g4.st) g4.pn r4 fun w5 m5 v5 H5 ⟨d, e5, r5⟩ V5 g5 _ => ?_
      subst e5
      have s25 := s24.trans g5.st
      have E5 := (E3.stay g4.st).stay g5.st
      have hac5 := s25.lst hac
      refine ⟨xs, hac5, lim_lt (by rw [hxs.length]; omega), ρ3, m5, accD ++ [d], xs ++ [v5], E5.upd (.inr rfl) (key σ3 ρ3 H5 E5 hfx3) NP.lst (by intro xs z; cases z), g5.pn.upd (.inr rfl), r5, upd_same, ?_, by rw [List.length_append]; simp; omega, ?_, ?_, hfx3⟩
      · rw [hide_upd (.inr rfl)]
        exact (hxs.stay (hide_stay s25)).append (IsL.one V5.is)
      · rw [hide_upd (.inr rfl)]
        exact st.trans (hide_stay s25)
      · exact fun b o e nn => by
          rw [upd_ne (ne_of_none e hacc)]
          exact s1.trans s25 b o e nn
  · left
    have hie : i = l.length := by omega
    subst hie
    refine ⟨iv.stop _ H' st (fun _ => s1), k _ n' _ H' (ie ρ' n' accD hI) (Val.of ⟨acc, xs, rfl, hide_of (E1.new hacc) hac, hxs.stay (Stay.same (hide_less fun b z => .inl z))⟩) (g1.trans ⟨s1, P'.less fun a z => .inl z⟩) fun _ => ⟨acc, rfl, (Fr.of hacc).back g1.st, acc, xs, rfl, hac, hxs⟩⟩⟩
def mYes : Ev → Mo Bool := fun _ n Q => Q true n
theorem jts_nil : JTs X Pn M [] mYes := ⟨_, qts_nil, ⟨fun A σ H ρ n Q R E P hf k => k true n H hf (Go.refl P)⟩⟩
theorem jts_one {ft : Ev → Mo Bool} (h : JT X Pn M c ft) : JTs X Pn M [c] ft := let ⟨t, h1, h2⟩ := h.ex; ⟨t, qts_one h1, h2⟩
theorem j_comp {elt tg iter : Expr} {ifs : List Expr} {scope : Scope} {N : List Str} {cix : List (Option Nat)} {fi : Ev → Mo (List W)} {mg : W → Ev → (Ev → Prop) → Prop} {ft : Ev → Mo Bool} {fe : Ev → Mo W} {ow : Bool} (hc : X.calm = true) (cc : CompOk X scope N cix)
    (hi : JI X Pn M ow tg iter fi) (hg : ∀ C s H ex, JG (compCx X scope N C s H ex) (capM M cix) (capM M cix) tg mg) (ht : ∀ C s H ex, JTs (compCx X scope N C s H ex) Pn (capM M cix) ifs ft) (he : ∀ C s H ex, JE (compCx X scope N C s H ex) Pn (capM M cix) fr' elt fe)
    (hn : (cix.filterMap id).Nodup := by decide) (hs : ∀ x, foldedSetIterable iter X.env x = pure x := by intro _; rfl) : JE X Pn M true (.ListComp elt [⟨tg, iter, ifs, 0⟩] scope pos) (mComp fi mg ft fe cix) := by
  obtain ⟨ti, qi, ri⟩ := hi.ex
  obtain ⟨g, qg, rg⟩ := uni_G hg
  obtain ⟨tt, qt, rt⟩ := uni_T ht
  obtain ⟨te, qe, re⟩ := uni_E he
  exact ⟨_, qe_compG hc cc qi qg qt qe hs, re_comp hn ri rg rt re⟩
theorem js_compC {elt tg iter : Expr} {ifs : List Expr} {scope : Scope} {N : List Str} {cix : List (Option Nat)} {fi : Ev → Mo (List W)} {mg : W → Ev → (Ev → Prop) → Prop} {ft : Ev → Mo Bool} {fe : Ev → Mo W} {ow : Bool} {ix : Nat} {nx : Str} {px spos : Pos} (hNd : X.N.Nodup) (hix : X.N[ix]? = some nx) (hlx : X.env.scope.names.lookup nx = some .local) (hc : X.calm = true) (cc : CompOk X scope N cix)
    (hi : JI X Pn M ow tg iter fi) (hg : ∀ C s H ex, JG (compCx X scope N C s H ex) (capM M cix) (capM M cix) tg mg) (ht : ∀ C s H ex, JTs (compCx X scope N C s H ex) Pn (capM M cix) ifs ft) (he : ∀ C s H ex, JE (compCx X scope N C s H ex) Pn (capM M cix) fr' elt fe)
    (hn : (cix.filterMap id).Nodup := by decide) (hsw : swapsWithSole [.Name nx px] (.ListComp elt [⟨tg, iter, ifs, 0⟩] scope pos) spos.line X.env = pure true := by rfl)
    (hs : ∀ x, foldedSetIterable iter X.env x = pure x := by intro _; rfl)
    (h1a : (assignEach [.Name nx px] X.env).map (·.2) = [assign (.Name nx px) X.env] := by rfl) : ∃ te, QS X (.Assign [.Name nx px] (.ListComp elt [⟨tg, iter, ifs, 0⟩] scope pos) spos) (tAsg te (gName ix)) ∧ RE Pn M true te (mComp fi mg ft fe cix) := by
  obtain ⟨ti, qi, ri⟩ := hi.ex
  obtain ⟨g, qg, rg⟩ := uni_G hg
  obtain ⟨tt, qt, rt⟩ := uni_T ht
  obtain ⟨te, qe, re⟩ := uni_E he
  exact ⟨_, qs_setC hNd hix hlx hc cc qi qg qt qe hsw hs h1a, re_comp hn ri rg rt re⟩
/-! statements -/
theorem At3.step {B : Bs} {A : Addr → Prop} {σ : St} {H H' : Hp} {ρ : Ev} {n m : Nat} (h : At3 Pn B S M A σ H ρ n) (g : Go Pn A H m H') : At3 Pn B S M A σ H' ρ m where
  env := h.env.stay g.st
  frm := ⟨h.frm.sub, h.frm.new, h.frm.st.trans g.st, h.frm.al⟩
  pn := g.pn
  prot := h.prot.trans (hide_stay g.st)
  fix := h.fix
  mine := h.mine
def mRet (f : Ev → Mo W) : Ms := fun ρ n k => f ρ n k.rt
theorem rs_ret {te : TE} (h : RE Pn M fr te f) : RS Pn S M fr (tRet te) (mRet f) := ⟨fun B A σ H ρ n k D a kk hf => by
  refine h.run A σ H ρ n _ _ a.env a.pn hf fun w m v H' r hv g hr => ?_
  have a' := a.step g
  exact kk.rt w m v H' (WAt.up (Stay.same (hide_less a.frm.sub)) (Stay.same (hide_less a.frm.sub)) hv) a'.frm.st (g.pn.less a.frm.sub) (fun z => ((hr z).back a.frm.st).less a.frm.sub) r⟩
theorem js_ret (h : JE X Pn M fr e f) : JS X Pn S M fr (.Return (some e) pos) (mRet f) := let ⟨te, q, r⟩ := h.ex; ⟨_, qs_ret q, rs_ret r⟩
def mRetO (i : Nat) : Ms := fun ρ n k => ∃ w, ρ[i]? = some (some w) ∧ k.rt w n
def mAsg (f : Ev → Mo W) (mg : W → Ev → (Ev → Prop) → Prop) : Ms := fun ρ n k => f ρ n fun w m => mg w ρ fun ρ' => k.nx ρ' m
theorem EnvR.mineG {B : Bs} {A : Addr → Prop} {σ σ' : St} {H : Hp} {ρ ρ' : Ev} {n : Nat} (a : At3 Pn B S M A σ H ρ n) (E : EnvR A M σ' H ρ') (f : ∀ i ∈ S ++ M, σ'[i]? = σ[i]? ∧ ρ'[i]? = ρ[i]?) : At3 Pn B S M A σ' H ρ' n where
  env := E
  frm := a.frm
  pn := a.pn
  prot := a.prot
  fix := fun i hi => (f i (List.mem_append.mpr (.inl hi))).1.trans (a.fix i hi)
  mine := fun i w ad hi e s => by
    obtain ⟨f1, f2⟩ := f i (List.mem_append.mpr (.inr hi))
    rw [f1] at s
    rw [f2] at e
    exact a.mine i w ad hi e s
theorem rs_asg {te : TE} {g : TG} {mg : W → Ev → (Ev → Prop) → Prop} (h : RE Pn M fr' te f) (hg : RG (S ++ M) M g mg) : RS Pn S M fr (tAsg te g) (mAsg f mg) := ⟨fun B A σ H ρ n k D a kk hf => by
  refine h.run A σ H ρ n _ _ a.env a.pn hf fun w m v H' r hv g' _ => ?_
  have a' := a.step g'
  exact hg.run A σ H' ρ v w _ _ a'.env hv r fun σ2 ρ2 r2 E2 f2 => kk.nx A σ2 H' ρ2 m (EnvR.mineG a' E2 f2) r2⟩
theorem js_set {i : Nat} {x : Str} {pos' : Pos} (hN : X.N.Nodup) (hi : X.N[i]? = some x) (hx : Loc X.env.scope x) (he : JE X Pn M fr' e f) (hiM : i ∉ M := by decide) (hiS : i ∉ S ++ M := by decide) (hs : swapsWith e (some (.Name x pos')) pos.line X.env = pure false := by rfl) (hf : X.fn x = true ∨ X.env.scope.names.lookup x = some .local := by first | exact .inl rfl | exact .inr rfl | assumption) :
    JS X Pn S M fr (.Assign [.Name x pos'] e pos) (mAsg f (gN i)) := let ⟨te, q, r⟩ := he.ex; ⟨_, qs_set hN hi hx q hs hf, rs_asg r (rg_name hiM hiS)⟩
theorem js_setC {i : Nat} {st : Stmt} (h : ∃ te, QS X st (tAsg te (gName i)) ∧ RE Pn M true te f) (hiM : i ∉ M := by decide) (hiS : i ∉ S ++ M := by decide) : JS X Pn S M fr st (mAsg f (gN i)) := let ⟨te, q, r⟩ := h; ⟨_, q, rs_asg r (rg_name hiM hiS)⟩
def mOwn (i : Nat) (f : Ev → Mo W) : Ms := fun ρ n k => f ρ n fun w m => w.mut = true ∧ k.nx (ρ.set i (some w)) m
theorem mut_top {T G : Hp} {w : W} {v : V} (h : WAt T G w v) (hm : w.mut = true) : ∃ a o, v = .ref a ∧ T a = some o ∧ NP o ∧ ∀ xs, o ≠ .tup xs := by
  cases w with
  | d x =>
    cases x with
    | lst l => obtain ⟨a, xs, e, g1, _⟩ := h; exact ⟨a, _, e, g1, NP.lst, fun _ z => by cases z⟩
    | dct => obtain ⟨a, xs, e, g1, g2⟩ := h; exact ⟨a, _, e, g1, fun k z => by cases z; exact g2, fun _ z => by cases z⟩
    | _ => cases hm
  | pen p => cases hm
  | dk kvs => obtain ⟨a, xs, e, g1, _, g3⟩ := h; exact ⟨a, _, e, g1, fun k z => by cases z; exact g3, fun _ z => by cases z⟩
theorem rs_own {te : TE} {i : Nat} (h : RE Pn M true te f) (hi : i ∈ M) (hs : i ∉ S) : RS Pn S M fr (tAsg te (gName i)) (mOwn i f) := ⟨fun B A σ H ρ n k D a kk hf => by
  refine h.run A σ H ρ n _ _ a.env a.pn hf fun w m v H' ⟨hm, r⟩ hv g' hfr => ?_
  obtain ⟨ad, rfl, hF, hb⟩ := hfr rfl
  obtain ⟨a2, o, e2, ho, np, nt⟩ := mut_top hb hm
  cases e2
  have E1 := a.env.more g'.st hF ho np nt
  have hnA : ¬ A ad := a.env.newF hF
  refine kk.nx (fun b => A b ∨ b = ad) _ H' _ m ⟨⟨?_, ?_, ?_, E1.al⟩, ⟨fun b z => .inl (a.frm.sub b z), fun b z => ?_, a.frm.st.trans g'.st, a.frm.al⟩, a.pn.grow' g'.pn hF ho np, a.prot.trans (hide_more g'.st hF), fun j hj => ?_, fun j u b hj e s => ?_⟩ r
  · rw [List.length_set, List.length_set]; exact a.env.len
  · intro j u e
    by_cases hj : j = i
    · subst hj
      have hl : j < ρ.length := by
        have := (List.getElem?_eq_some_iff.mp e).1
        rwa [List.length_set] at this
      rw [List.getElem?_set_self hl] at e
      cases e
      exact ⟨.ref ad, List.getElem?_set_self (by rw [a.env.len]; exact hl), fun z => absurd hi z, fun _ => ⟨ad, rfl, .inr rfl, hb, hm⟩⟩
    · rw [List.getElem?_set_ne (Ne.symm hj)] at e ⊢
      exact E1.val j u e
  · intro j l u u' b hj hl hne e1 e2 s1 s2
    have own : ∀ q u, q ∈ M → q ≠ i → ρ[q]? = some (some u) → σ[q]? ≠ some (some (.ref ad)) := fun q u hq hqi eq sq => by
      obtain ⟨v, s, _, s3⟩ := a.env.val q u eq
      obtain ⟨c, ec, hc, _⟩ := s3 hq
      rw [sq] at s
      cases s
      cases ec
      exact hnA hc
    have len : ∀ q (u : W), (ρ.set i (some w))[q]? = some (some u) → q < σ.length := fun q u e => by
      have := (List.getElem?_eq_some_iff.mp e).1
      rw [List.length_set] at this
      rw [a.env.len]; exact this
    by_cases hji : j = i
    · subst hji
      rw [List.getElem?_set_self (len _ _ e1)] at s1
      cases s1
      rw [List.getElem?_set_ne hne] at e2 s2
      exact own l u' hl (Ne.symm hne) e2 s2
    · rw [List.getElem?_set_ne (Ne.symm hji)] at e1 s1
      by_cases hli : l = i
      · subst hli
        rw [List.getElem?_set_self (len _ _ e2)] at s2
        cases s2
        exact own j u hj hji e1 s1
      · rw [List.getElem?_set_ne (Ne.symm hli)] at e2 s2
        exact a.env.dis j l u u' b hj hl hne e1 e2 s1 s2
  · rcases z with z | z
    · exact a.frm.new b z
    · subst z; exact .inr (hF.back a.frm.st)
  · rw [List.getElem?_set_ne fun (z : i = j) => hs (by rw [z]; exact hj)]
    exact a.fix j hj
  · by_cases hji : j = i
    · subst hji
      have hl : j < σ.length := by
        have := (List.getElem?_eq_some_iff.mp s).1
        rwa [List.length_set] at this
      rw [List.getElem?_set_self hl] at s
      cases s
      exact hF.back a.frm.st
    · rw [List.getElem?_set_ne (Ne.symm hji)] at e s
      exact a.mine j u b hj e s⟩
theorem js_own {i : Nat} {x : Str} {pos' : Pos} (hN : X.N.Nodup) (hi : X.N[i]? = some x) (hx : Loc X.env.scope x) (he : JE X Pn M true e f) (hiM : i ∈ M := by decide) (hiS : i ∉ S := by decide) (hs : swapsWith e (some (.Name x pos')) pos.line X.env = pure false := by rfl) (hf : X.fn x = true ∨ X.env.scope.names.lookup x = some .local := by first | exact .inl rfl | exact .inr rfl | assumption) :
    JS X Pn S M fr (.Assign [.Name x pos'] e pos) (mOwn i f) := let ⟨te, q, r⟩ := he.ex; ⟨_, qs_set hN hi hx q hs hf, rs_own r hiM hiS⟩
end
end L3


set_option Elab.async false
set_option linter.all false
set_option maxRecDepth 100000
/-! blocks, lists that grow, loops, defs at the level of values -/
namespace L3
open PySem PySem.Spec L2
section
variable {X : Cx} {Pn : Option PenId} {M S : List Nat} {fr fr' : Bool} {e a b c : Expr} {es : List Expr} {f fa fb fc : Ev → Mo W} {pos p : Pos} {st : Stmt} {sts : List Stmt} {fs gs : Ms}
def mNx : Ms := fun ρ n k => k.nx ρ n
def mSeq (f g : Ms) : Ms := fun ρ n k => f ρ n { k with nx := fun ρ' n' => g ρ' n' k }
def mIfS (t : Ev → Mo Bool) (f g : Ms) : Ms := fun ρ n k => t ρ n fun c m => if c = true then f ρ m k else g ρ m k
theorem jss_nil : JSs X Pn S M fr [] mNx := ⟨_, qss_nil, ⟨fun B A σ H ρ n k D a kk hf => kk.nx A σ H ρ n a hf⟩⟩
theorem rs_seq {t u : TS} (h1 : RS Pn S M fr t fs) (h2 : RS Pn S M fr u gs) : RS Pn S M fr (tSeq t u) (mSeq fs gs) := ⟨fun B A σ H ρ n k D a kk hf =>
  h1.run B A σ H ρ n { k with nx := fun ρ' n' => gs ρ' n' k } _ a ⟨fun A' σ' H' ρ' n' a' r => h2.run B A' σ' H' ρ' n' k D a' kk r, kk.bk, kk.ct, kk.rt⟩ hf⟩
theorem jss_cons (h1 : JS X Pn S M fr st fs) (h2 : JSs X Pn S M fr sts gs) : JSs X Pn S M fr (st :: sts) (mSeq fs gs) := let ⟨t, q, r⟩ := h1.ex; let ⟨u, q2, r2⟩ := h2.ex; ⟨_, qss_cons q q2, rs_seq r r2⟩
theorem jss_one (h1 : JS X Pn S M fr st fs) : JSs X Pn S M fr [st] fs := let ⟨t, q, r⟩ := h1.ex; ⟨_, qss_one q, r⟩
theorem js_if {body other : List Stmt} {t : Ev → Mo Bool} (hc : JT X Pn M c t) (ha : JSs X Pn S M fr body fs) (hb : JSs X Pn S M fr other gs) : JS X Pn S M fr (.If c body other pos) (mIfS t fs gs) := by
  obtain ⟨tc, qc, rc⟩ := hc.ex
  obtain ⟨ta, qa, ra⟩ := ha.ex
  obtain ⟨tb, qb, rb⟩ := hb.ex
  refine ⟨_, qs_if qc qa qb, ⟨fun B A σ H ρ n k D a kk hf => ?_⟩⟩
  refine rc.run A σ H ρ n _ _ a.env a.pn hf fun c m H1 r g => ?_
  cases c with
  | true => rw [if_pos rfl] at r ⊢; exact ra.run B A σ H1 ρ m k D (a.step g) kk r
  | false => rw [if_neg (by decide)] at r ⊢; exact rb.run B A σ H1 ρ m k D (a.step g) kk r
def mDrop (f : Ev → Mo W) : Ms := fun ρ n k => f ρ n fun _ m => k.nx ρ m
/-- an owned list is changed -/
theorem At3.wr {B : Bs} {A : Addr → Prop} {σ : St} {H : Hp} {ρ : Ev} {n : Nat} (h : At3 Pn B S M A σ H ρ n) {i : Nat} {w : W} {ad : Addr} {xs : List V} {l : List Dt} (hi : i ∈ M) (e : ρ[i]? = some (some w)) (s : σ[i]? = some (some (.ref ad))) (hl : IsL (hide A H) l xs) : At3 Pn B S M A σ (L2.upd H ad (.lst xs)) (ρ.set i (some (.d (.lst l)))) n := by
  obtain ⟨v, s1, _, s3⟩ := h.env.val i w e
  rw [s] at s1
  cases s1
  obtain ⟨a2, e2, hA, _, _⟩ := s3 hi
  cases e2
  have hlen : i < ρ.length := (List.getElem?_eq_some_iff.mp e).1
  have hE : EnvR A M σ (L2.upd H ad (.lst xs)) (ρ.set i (some (.d (.lst l)))) := by
    refine ⟨by rw [List.length_set]; exact h.env.len, fun j u ej => ?_, fun j q u u' b hj hq hne e1 e2 => ?_, fun b hb => ?_⟩
    · by_cases hj : j = i
      · subst hj
        rw [List.getElem?_set_self hlen] at ej
        cases ej
        exact ⟨.ref ad, s, fun z => absurd hi z, fun _ => ⟨ad, rfl, hA, ⟨ad, xs, rfl, upd_same, by rw [hide_upd hA]; exact hl⟩, rfl⟩⟩
      · rw [List.getElem?_set_ne (Ne.symm hj)] at ej
        obtain ⟨v, t1, t2, t3⟩ := h.env.val j u ej
        refine ⟨v, t1, fun z => ?_, fun z => ?_⟩
        · show WAt _ _ _ _
          rw [hide_upd hA]
          exact t2 z
        · obtain ⟨b, rfl, hb, hbb, hm⟩ := t3 z
          have hne : b ≠ ad := fun q => h.env.dis i j w u ad hi z (Ne.symm hj) e ej s (by rw [t1, q])
          refine ⟨b, rfl, hb, ?_, hm⟩
          show WAt _ _ _ _
          rw [hide_upd hA]
          cases u with
          | d x =>
            cases x with
            | lst l => obtain ⟨a2, xs, e2, g1, g2⟩ := hbb; cases e2; exact ⟨b, xs, rfl, by rw [upd_ne hne]; exact g1, g2⟩
            | dct => obtain ⟨a2, xs, e2, g1, g2⟩ := hbb; cases e2; exact ⟨b, xs, rfl, by rw [upd_ne hne]; exact g1, g2⟩
            | _ => cases hm
          | pen p => cases hm
          | dk k => obtain ⟨a2, xs, e2, g1, g2⟩ := hbb; cases e2; exact ⟨b, xs, rfl, by rw [upd_ne hne]; exact g1, g2⟩
    · have get : ∀ q (u : W), (ρ.set i (some (.d (.lst l))))[q]? = some (some u) → ∃ u', ρ[q]? = some (some u') := fun q u z => by
        by_cases hq : q = i
        · subst hq; exact ⟨w, e⟩
        · rw [List.getElem?_set_ne (Ne.symm hq)] at z; exact ⟨u, z⟩
      obtain ⟨v1, f1⟩ := get j u e1
      obtain ⟨v2, f2⟩ := get q u' e2
      exact h.env.dis j q v1 v2 b hj hq hne f1 f2
    · by_cases hb' : b = ad
      · subst hb'; exact ⟨_, upd_same, NP.lst, fun _ z => by cases z⟩
      · rw [upd_ne hb']; exact h.env.al b hb
  refine ⟨hE, ⟨h.frm.sub, h.frm.new, fun b o eb nn => ?_, h.frm.al⟩, h.pn.upd hA, by rw [hide_upd hA]; exact h.prot, h.fix, fun j u b hj ej sj => ?_⟩
  · have hne : b ≠ ad := fun q => by
      subst q
      exact h.mine i w b hi e s o eb nn
    rw [upd_ne hne]
    exact h.frm.st b o eb nn
  · by_cases hj' : j = i
    · subst hj'; exact h.mine j w b hj e sj
    · rw [List.getElem?_set_ne (Ne.symm hj')] at ej; exact h.mine j u b hj ej sj
def mApp (i : Nat) (f : Ev → Mo W) : Ms := fun ρ n k => (∃ l, ρ[i]? = some (some (.d (.lst l)))) ∧ f ρ n fun w m => ∃ l d, ρ[i]? = some (some (.d (.lst l))) ∧ w = .d d ∧ l.length < lim ∧ k.nx (ρ.set i (some (.d (.lst (l ++ [d]))))) m
theorem rs_app {K : PySem.W.Frag} {te : TE} {i : Nat} (h : RE Pn M fr' te f) (hi : i ∈ M) : RS Pn S M fr (tDrop (tBM K "list" rAppend (tVar i) (tCons te tNil))) (mApp i f) := ⟨fun B A σ H ρ n k D a kk ⟨⟨l0, e0⟩, hf⟩ => by
  obtain ⟨v, s1, _, s3⟩ := a.env.val i _ e0
  obtain ⟨ad, rfl, hA, hb, _⟩ := s3 hi
  obtain ⟨a2, xs0, e2, g0, _⟩ := hb
  cases e2
  refine ⟨.ref ad, s1, .inl ⟨rfl, _, SqL.of g0⟩, ?_⟩
  refine h.run A σ H ρ n _ _ a.env a.pn hf fun w m v H' ⟨l, d, e, ed, hz, r⟩ hv g _ => ?_
  subst ed
  have a' := a.step g
  obtain ⟨v2, t1, _, t3⟩ := a'.env.val i _ e
  rw [s1] at t1
  cases t1
  obtain ⟨a3, e3, hA3, hb3, _⟩ := t3 hi
  cases e3
  obtain ⟨a4, xs, e4, g4, hl⟩ := hb3
  cases e4
  exact ⟨ad, xs, v, rfl, rfl, g4, lim_lt (by rw [hl.length]; exact Nat.le_of_lt hz), kk.nx A σ _ _ m (a'.wr hi e s1 (hl.append (IsL.one hv.is))) r⟩⟩
theorem js_app (i : Nat) {x : Str} {ap cp sp np : Pos} (he : JE X Pn M fr' e f) (hi : i ∈ M := by decide) (hN : X.N[i]? = some x := by rfl) (hv : Vis X.env.scope x := by first | exact Or.inl rfl | exact Or.inr (Or.inl rfl) | exact Or.inr (Or.inr rfl)) (hd : (x == ("__debug__" : Str)) = false := by decide)
    (hcd : (x == ("__classdict__" : Str)) = false := by decide) (hs1 : starEach (e :: []) X.env = (false, eval e X.env) :: starEach [] X.env := by rfl) (hs : swapsWith (.Call (.Attribute (.Name x np) "append" ap) [e] [] cp) none sp.line X.env = pure false := by rfl) (hbase : attributeBase (.Name x np) "append" X.env (eval (.Name x np) X.env) = eval (.Name x np) X.env := by rfl) (hline : (ap.endLine == cp.line) = true := by rfl)
    (hfew : ((backTo cp (starEach [e] X.env)).all (fun x => !x.1) && (backToKw cp (keywordEach [] X.env)).all (fun x => x.1.isSome) && decide (([e] : List Expr).length + ([] : List Keyword).length + (if ([] : List Keyword).isEmpty then 0 else 1) < 30)) = true := by rfl) (hplain : (backTo cp (starEach [] X.env)).any (·.1) = false := by rfl) :
    JS X Pn S M fr (.Expr (.Call (.Attribute (.Name x np) "append" ap) [e] [] cp) sp) (mApp i f) := by
  obtain ⟨te, q, r⟩ := he.ex
  exact ⟨_, qs_expr (qe_app (qv i hN hv hd hcd) (qa_cons q qa_nil hs1) hbase hfew hline hs1 hplain) hs, rs_app r hi⟩
/-! loops -/
def forR (mg : W → Ev → (Ev → Prop) → Prop) (fb : Ms) (ρ : Ev) (k : Kt) : List W → Nat → Prop := fun l n1 => ∃ I : Nat → Ev → Nat → Prop, I 0 ρ n1 ∧
  (∀ i w ρ' n', l[i]? = some w → I i ρ' n' → mg w ρ' fun ρ1 => fb ρ1 n' { k with nx := I (i + 1), ct := I (i + 1), bk := k.nx }) ∧ ∀ ρ' n', I l.length ρ' n' → k.nx ρ' n'
def mFor (fi : Ev → Mo (List W)) (mg : W → Ev → (Ev → Prop) → Prop) (fb : Ms) : Ms := fun ρ n k => fi ρ n (forR mg fb ρ k)
theorem rs_for {wi : TI} {g : TG} {tb : TS} {fi : Ev → Mo (List W)} {mg : W → Ev → (Ev → Prop) → Prop} {fb : Ms} (hi : RI Pn M false wi fi) (hg : RG (S ++ M) M g mg) (hb : RS Pn S M fr tb fb) : RS Pn S M fr (tFor wi g tb) (mFor fi mg fb) := ⟨fun B A σ H ρ n k D a kk hf => by
  refine hi.run A σ H ρ n _ _ a.env a.pn hf fun l m J H1 ⟨I, i0, it, ie⟩ iv g1 => ?_
  have a1 := a.step g1
  have out : ∀ {A' : Addr → Prop} {σ' : St} {H' : Hp} {ρ' : Ev} {n' : Nat}, At3 Pn { B with G0 := hide A H1 } S M A' σ' H' ρ' n' → At3 Pn B S M A' σ' H' ρ' n' := fun {A' σ' H' ρ' n'} q => ⟨q.env, q.frm, q.pn, a1.prot.trans q.prot, q.fix, q.mine⟩
  refine ⟨fun i mm σ' H' => mm = l.length - i ∧ i ≤ l.length ∧ ∃ A' ρ' n', At3 Pn { B with G0 := hide A H1 } S M A' σ' H' ρ' n' ∧ I i ρ' n', ⟨l.length, by simp, Nat.zero_le _, A, ρ, m, ⟨a1.env, a1.frm, a1.pn, Stay.refl _, a1.fix, a1.mine⟩, i0⟩, ?_⟩
  rintro i mm σ' H' ⟨rfl, hil, A', ρ', n', a', hI⟩
  by_cases hlt : i < l.length
  · right
    have hget : l[i]? = some l[i] := List.getElem?_eq_getElem hlt
    obtain ⟨go, yl⟩ := iv.one i l[i] A' H' hget a'.prot (fun z => by cases z) fun p hp => a'.env.new hp
    refine ⟨go, fun σ2 H2 => ∃ A' ρ' n', At3 Pn { B with G0 := hide A H1 } S M A' σ2 H2 ρ' n' ∧ I (i + 1) ρ' n', fun σ2 H2 h => ⟨l.length - (i + 1), by omega, rfl, hlt, h⟩, fun x H2 hy => ?_⟩
    obtain ⟨S2, V2⟩ := yl x H2 hy
    have a2 := a'.step (Go.same a'.pn S2)
    refine hg.run A' σ' H2 ρ' x l[i] _ _ a2.env V2 (it i l[i] ρ' n' hget hI) fun σ3 ρ3 r3 E3 f3 => ?_
    refine hb.run { B with G0 := hide A H1 } A' σ3 H2 ρ3 n' _ _ (EnvR.mineG a2 E3 f3) ⟨?_, ?_, ?_, ?_⟩ r3
    · exact fun A4 σ4 H4 ρ4 n4 a4 r4 => ⟨A4, ρ4, n4, a4, r4⟩
    · exact fun A4 σ4 H4 ρ4 n4 a4 r4 => kk.nx A4 σ4 H4 ρ4 n4 (out a4) r4
    · exact fun A4 σ4 H4 ρ4 n4 a4 r4 => ⟨A4, ρ4, n4, a4, r4⟩
    · exact kk.rt
  · left
    have hie : i = l.length := by omega
    subst hie
    exact ⟨iv.stop A' H' a'.prot (fun z => by cases z), kk.nx A' σ' H' ρ' n' (out a') (ie ρ' n' hI)⟩⟩
theorem js_for {tg iter : Expr} {body : List Stmt} {fi : Ev → Mo (List W)} {mg : W → Ev → (Ev → Prop) → Prop} {fb : Ms} (hp : PassesOwn (model X.prog X.w) X.A X.env X.xe) (hc : X.calm = true) (hi : JI X Pn M false tg iter fi) (hg : JG X (S ++ M) M tg mg) (hb : JSs X Pn S M fr body fb) (hs : ∀ x, foldedSetIterable iter X.env x = pure x := by intro _; rfl) :
    JS X Pn S M fr (.For tg iter body [] pos) (mFor fi mg fb) := by
  obtain ⟨ti, qi, ri⟩ := hi.ex
  obtain ⟨tg', qg, rg⟩ := hg.ex
  obtain ⟨tb, qb, rb⟩ := hb.ex
  exact ⟨_, qs_for hp hc qi qg qb hs, rs_for ri rg rb⟩
/-! a def -/
def start3 (N : List Str) (ws : List W) : Ev := ws.map some ++ List.replicate (N.length - ws.length) none
theorem ValL.get {A : Addr → Prop} {H : Hp} : ∀ {ws : List W} {vs : List V} {i : Nat} {w : W}, ValL A H ws vs → ws[i]? = some w → ∃ v, vs[i]? = some v ∧ Val A H w v
  | [], _, _, _, _, e => by simp at e
  | x :: ws, vs, 0, w, ⟨v, r, e1, h1, _⟩, e => by
    subst e1
    have : x = w := by simpa using e
    subst this
    exact ⟨v, rfl, h1⟩
  | x :: ws, vs, i + 1, w, ⟨v, r, e1, _, h2⟩, e => by
    subst e1
    obtain ⟨u, h3, h4⟩ := ValL.get (i := i) h2 (by simpa using e)
    exact ⟨u, by simpa using h3, h4⟩
theorem env_start {A : Addr → Prop} {H : Hp} {N : List Str} {ws : List W} {vs : List V} (al : Al A H) (h : ValL A H ws vs) (hM : ∀ i ∈ M, ws.length ≤ i) : EnvR A M (L2.start N vs) H (start3 N ws) where
  len := by
    unfold L2.start start3
    rw [List.length_append, List.length_append, List.length_map, List.length_map, List.length_replicate, List.length_replicate, h.len]
  val := fun i w e => by
    unfold start3 at e
    have hi : i < ws.length := by
      apply Classical.byContradiction
      intro z
      rw [List.getElem?_append_right (by rw [List.length_map]; omega)] at e
      obtain ⟨_, q⟩ := List.getElem?_eq_some_iff.mp e
      rw [List.getElem_replicate] at q
      cases q
    rw [List.getElem?_append_left (by rw [List.length_map]; exact hi), List.getElem?_map] at e
    obtain ⟨w', e1, e2⟩ := Option.map_eq_some_iff.mp e
    cases e2
    obtain ⟨v, h1, h2⟩ := h.get e1
    refine ⟨v, ?_, fun _ => h2, fun z => absurd (hM i z) (by omega)⟩
    unfold L2.start
    have hi' : i < vs.length := by rw [h.len]; exact hi
    rw [List.getElem?_append_left (by rw [List.length_map]; exact hi'), List.getElem?_map, h1]
    rfl
  dis := fun i j w u ad hi hj hne e1 => by
    unfold start3 at e1
    have := hM i hi
    rw [List.getElem?_append_right (by rw [List.length_map]; omega)] at e1
    obtain ⟨_, q⟩ := List.getElem?_eq_some_iff.mp e1
    rw [List.getElem_replicate] at q
    cases q
  al := al
theorem Fun.okV {P : Program} {w : World} {K : PySem.W.Frag} {mg : Str → Option Value} {base : Heap} {x qual : Str} {st : Stmt} {f : Addr} {fd : FuncData} {N ps : List Str} {k m : Nat} {F : Option PenId → List W → Mo W} (M : List Nat) (Fu : Fun K x qual st f fd) (S : FnScope N ps (defScope st)) (hm : m = ps.length) (hM : ∀ i ∈ M, m ≤ i)
    (hbody : ∀ (cdv : Value) (A : Around) (outer : List Env) (s : Shared) (H : Hp) (E : XK) (Pn : Option PenId), Room k (A.deeper (PyProof.Rows.envOfC qual (defScope st) s.heap.objs.size f cdv)) →
      ∃ fs, JSs (cxOf CX0 P w K mg base N qual (defScope st) f cdv A outer s H E).nox Pn [] M fr (defBody st) fs ∧ ∀ ws n R, ws.length = m → F Pn ws n R → fs (start3 N ws) n { nx := fun _ n' => fr = false ∧ R (.d .non) n', rt := R }) : FnOk P w K mg base CX0 (k + 1) f fd ps (spV m fr F) := by
  refine Fun.okQ Fu S (fun vs H Q E h => ?_) (fun cdv A outer s H vs Q E hr h => ?_)
  · obtain ⟨Pn, A, ws, n, R, _, hv, hl, _⟩ := h
    rw [hv.len, hl, hm]
  · obtain ⟨Pn, A3, ws, n, R, al, hv, hl, hp, hF, q⟩ := h
    obtain ⟨fs, ⟨t, qs, rs⟩, hfs⟩ := hbody cdv A outer s H E Pn hr
    refine ⟨t, qs, rs.run ⟨A3, H, hide A3 H, L2.start N vs⟩ A3 (L2.start N vs) H (start3 N ws) n _ _ ⟨env_start al hv (fun i hi => by rw [hl]; exact hM i hi), ⟨fun _ z => z, fun _ z => .inl z, Stay.refl _, al⟩, hp, Stay.refl _, fun i hi => rfl, fun i w a hi e => ?_⟩ ⟨?_, ?_, ?_, ?_⟩ (hfs ws n R hl hF)⟩
    · exact absurd e (by
        unfold start3
        have := hM i hi
        rw [List.getElem?_append_right (by rw [List.length_map]; omega)]
        intro z
        obtain ⟨_, q⟩ := List.getElem?_eq_some_iff.mp z
        rw [List.getElem_replicate] at q
        cases q)
    · intro A' σ' H' ρ' n' a' ⟨hfr, r⟩
      exact q _ n' .non H' r (Val.of (show Is _ .non .non from rfl)) ⟨a'.frm.st, a'.pn.less a'.frm.sub⟩ fun z => by rw [hfr] at z; cases z
    · intro _ _ _ _ _ _ z; exact z.elim
    · intro _ _ _ _ _ _ z; exact z.elim
    · intro w n' v H' hv' st pn hfr r
      exact q w n' v H' r hv' ⟨st, pn⟩ hfr
end
end L3


set_option Elab.async false
set_option linter.all false
set_option maxRecDepth 100000
/-! more rules at the level of values -/
namespace L3
open PySem PySem.Spec L2
section
variable {X : Cx} {Pn : Option PenId} {M S : List Nat} {fr fr' : Bool} {e a b c : Expr} {es : List Expr} {f fa fb fc : Ev → Mo W} {pos p p2 : Pos}
/-! isinstance -/
def mIsi (B : Dt → Bool) (f : Ev → Mo W) : Ev → Mo W := fun ρ n Q => f ρ n fun w m => ∃ d, w = .d d ∧ Q (.d (.bl (B d))) m
theorem re_isinst {K : PySem.W.Frag} {T : String} {B : Dt → Bool} {te : TE} (hk : ∀ d : Dt, PySem.W.kitOne K (.type d.ty) (.type T) = some (B d)) (h : RB Pn M te f) : RE Pn M false (tCB (fun xs H Q => ∃ x T t b, xs = [x, .ty T] ∧ TyOf K H x t ∧ PySem.W.kitOne K t (.type T) = some b ∧ Q (.bl b) H) (tCons te (tCons (tC (.ty T)) tNil))) (mIsi B f) := ⟨fun A σ H ρ n Q R E P hf k => by
  refine h.run A σ H ρ n _ _ E P hf fun w m v H' ⟨d, e, r⟩ bb g => ?_
  subst e
  exact ⟨v, T, _, _, rfl, bb.is.ty, hk d, k _ m _ H' r (Val.of rfl) g fun z => by cases z⟩⟩
theorem j_isi {T : String} {x : Str} {B : Dt → Bool} (hk : ∀ d : Dt, PySem.W.kitOne X.K (.type d.ty) (.type T) = some (B d)) (hv : bootBuiltins x = some (.type T)) (hg2 : Gl X x) (hn : x ≠ "__name__") (hd : (x == ("__debug__" : Str)) = false) (hg : Gl X "isinstance") (hm : X.mg "isinstance" = none) (hm2 : X.mg x = none) (h : JB X Pn M e f)
    (hs1 : starEach (e :: [.Name x p2]) X.env = (false, eval e X.env) :: starEach [.Name x p2] X.env) (hs2 : starEach (.Name x p2 :: []) X.env = (false, eval (.Name x p2) X.env) :: starEach [] X.env) (hpl : (backTo pos (starEach [.Name x p2] X.env)).any (·.1) = false) : JE X Pn M false (.Call (.Name "isinstance" p) [e, .Name x p2] [] pos) (mIsi B f) := by
  obtain ⟨te, q, r⟩ := h.ex
  exact ⟨_, qe_callB cq_isinst hg hm PyProof.Rows.boot_isinstance (qa_cons q (qa_cons (qe_bltn (v := .ty T) hg2 hm2 hv rfl hn hd) qa_nil hs2) hs1) (by decide) (by decide) hs1 hpl, re_isinst hk r⟩
theorem j_isinst_tuple (hg : Gl X "isinstance") (hm : X.mg "isinstance" = none) (hm2 : X.mg "tuple" = none) (h : JB X Pn M e f) (hg2 : Gl X "tuple" := by rfl) (hs1 : starEach (e :: [.Name "tuple" p2]) X.env = (false, eval e X.env) :: starEach [.Name "tuple" p2] X.env := by rfl) (hs2 : starEach (.Name "tuple" p2 :: []) X.env = (false, eval (.Name "tuple" p2) X.env) :: starEach [] X.env := by rfl) (hpl : (backTo pos (starEach [.Name "tuple" p2] X.env)).any (·.1) = false := by rfl) :
    JE X Pn M false (.Call (.Name "isinstance" p) [e, .Name "tuple" p2] [] pos) (mIsi Dt.isTup f) := j_isi (kit_tup _) PyProof.Rows.boot_tuple hg2 (by decide) (by decide) hg hm hm2 h hs1 hs2 hpl
theorem j_isinst_list (hg : Gl X "isinstance") (hm : X.mg "isinstance" = none) (hm2 : X.mg "list" = none) (h : JB X Pn M e f) (hg2 : Gl X "list" := by rfl) (hs1 : starEach (e :: [.Name "list" p2]) X.env = (false, eval e X.env) :: starEach [.Name "list" p2] X.env := by rfl) (hs2 : starEach (.Name "list" p2 :: []) X.env = (false, eval (.Name "list" p2) X.env) :: starEach [] X.env := by rfl) (hpl : (backTo pos (starEach [.Name "list" p2] X.env)).any (·.1) = false := by rfl) :
    JE X Pn M false (.Call (.Name "isinstance" p) [e, .Name "list" p2] [] pos) (mIsi Dt.isLst f) := j_isi (kit_lst _) PyProof.Rows.boot_list hg2 (by decide) (by decide) hg hm hm2 h hs1 hs2 hpl
/-! list(range(n)), tuple(range(n)) -/
def rngD (n : Nat) : List Dt := (List.range n).map fun i : Nat => Dt.int i
theorem isL_rng {G : Hp} (n : Nat) : IsL G (rngD n) ((List.range n).map fun i : Nat => V.int i) := by
  have e1 : rngD n = (((List.range n).map fun i : Nat => (i : Int))).map Dt.int := by unfold rngD; rw [List.map_map]; rfl
  have e2 : ((List.range n).map fun i : Nat => V.int i) = (((List.range n).map fun i : Nat => (i : Int))).map V.int := by rw [List.map_map]; rfl
  rw [e1, e2]
  exact IsL.ints
def mListRng (fa : Ev → Mo (List W)) : Ev → Mo W := fun ρ n Q => fa ρ n fun ws m => ∃ j : Nat, ws = [.d (.int (j : Int))] ∧ j ≤ 1000 ∧ Q (.d (.lst (rngD j))) m
def mTupleRng (fa : Ev → Mo (List W)) : Ev → Mo W := fun ρ n Q => fa ρ n fun ws m => ∃ j : Nat, ws = [.d (.int (j : Int))] ∧ j ≤ 1000 ∧ Q (.d (.tup (rngD j))) m
theorem j_listRng {q : Pos} {pr : Pos} {fs : Ev → Mo (List W)} (hm : X.mg "list" = none) (hm2 : X.mg "range" = none) (ha : JAB X Pn M [a] fs) (hc : X.calm = true := by rfl) (hg : Gl X "list" := by rfl) (hg2 : Gl X "range" := by rfl) (hs : starEach (a :: []) X.env = (false, eval a X.env) :: starEach [] X.env := by rfl) (hs2 : starEach (.Call (.Name "range" pr) [a] [] q :: []) X.env = (false, eval (.Call (.Name "range" pr) [a] [] q) X.env) :: starEach [] X.env := by rfl)
    (hp1 : (backTo q (starEach [] X.env)).any (·.1) = false := by rfl) (hp2 : (backTo pos (starEach [] X.env)).any (·.1) = false := by rfl) : JE X Pn M true (.Call (.Name "list" p) [.Call (.Name "range" pr) [a] [] q] [] pos) (mListRng fs) := by
  obtain ⟨ta, qa, ra⟩ := ha.ex
  refine ⟨_, qe_callTy (cq_list_rng hc) hg hm PyProof.Rows.boot_list (qa_cons (qe_callTy cq_range hg2 hm2 PyProof.Rows.boot_range qa (by decide) (by decide) hs hp1) qa_nil hs2) (by decide) (by decide) hs2 hp2, ⟨fun A σ H ρ n Q R E P hf k => ?_⟩⟩
  refine ra.run A σ H ρ n _ _ E P hf fun ws m vs H1 ⟨j, e, hj, r⟩ bb g => ?_
  subst e
  obtain ⟨v, rfl, b1⟩ := borL1 bb
  obtain rfl := bor_int b1
  refine ⟨_, rfl, fun p1 H2 np g2 S2 => ⟨p1, j, rfl, g2, hj, fun p3 H3 np3 g3 S3 => ?_⟩⟩
  have g12 := g.trans (Go.same g.pn S2)
  exact k _ m _ H3 r (val_lst (H := H2) (isL_rng j) (Stay.same S3) ((E.stay g12.st).new np3) g3) (g12.trans (Go.same g12.pn S3)) fun _ => (frv_lst (H := H2) (isL_rng j) S3 np3 g3).back g12.st
/-! truth -/
def truD : W → Option Bool
  | .d (.lst l) => some (!l.isEmpty)
  | .d (.tup l) => some (!l.isEmpty)
  | .d (.bl b) => some b
  | .d (.int i) => some (i != 0)
  | .d .non => some false
  | _ => none
def mTru (f : Ev → Mo W) : Ev → Mo Bool := fun ρ n Q => f ρ n fun w m => ∃ b, truD w = some b ∧ Q b m
/-! a < b < c -/
/-! owned lists: reverse, put -/
theorem At3.own {B : Bs} {A : Addr → Prop} {σ : St} {H : Hp} {ρ : Ev} {n : Nat} (h : At3 Pn B S M A σ H ρ n) {i : Nat} {l : List Dt} (hi : i ∈ M) (e : ρ[i]? = some (some (.d (.lst l)))) : ∃ ad xs, σ[i]? = some (some (.ref ad)) ∧ A ad ∧ H ad = some (.lst xs) ∧ IsL (hide A H) l xs := by
  obtain ⟨v, s1, _, s3⟩ := h.env.val i _ e
  obtain ⟨ad, rfl, hA, hb, _⟩ := s3 hi
  obtain ⟨a2, xs, e2, g0, hl⟩ := hb
  cases e2
  exact ⟨ad, xs, s1, hA, g0, hl⟩
def mReverse (i : Nat) : Ms := fun ρ n k => ∃ l, ρ[i]? = some (some (.d (.lst l))) ∧ k.nx (ρ.set i (some (.d (.lst l.reverse)))) n
theorem js_reverse (i : Nat) {x : Str} {ap cp sp np : Pos} (hi : i ∈ M := by decide) (hN : X.N[i]? = some x := by rfl) (hv : Vis X.env.scope x := by first | exact Or.inl rfl | exact Or.inr (Or.inl rfl) | exact Or.inr (Or.inr rfl)) (hd : (x == ("__debug__" : Str)) = false := by decide)
    (hcd : (x == ("__classdict__" : Str)) = false := by decide) (hs : swapsWith (.Call (.Attribute (.Name x np) "reverse" ap) [] [] cp) none sp.line X.env = pure false := by rfl) (hbase : attributeBase (.Name x np) "reverse" X.env (eval (.Name x np) X.env) = eval (.Name x np) X.env := by rfl) (hline : (ap.endLine == cp.line) = true := by rfl) :
    JS X Pn S M fr (.Expr (.Call (.Attribute (.Name x np) "reverse" ap) [] [] cp) sp) (mReverse i) := by
  refine ⟨_, qs_expr (qe_rev0 (qv i hN hv hd hcd) hbase hline) hs, ⟨fun B A σ H ρ n k D a kk ⟨l, e, r⟩ => ?_⟩⟩
  obtain ⟨ad, xs, s1, hA, g0, hl⟩ := a.own hi e
  exact ⟨.ref ad, s1, .inl ⟨rfl, _, SqL.of g0⟩, ad, xs, rfl, rfl, g0, kk.nx A σ _ _ n (a.wr hi e s1 (isL_rev hl)) r⟩
theorem isL_set {G : Hp} {d : Dt} {v : V} (hd : Is G d v) : ∀ {ds : List Dt} {xs : List V} (k : Nat), IsL G ds xs → IsL G (ds.set k d) (xs.set k v)
  | [], _, _, h => by cases h; rfl
  | x :: ds, xs, 0, ⟨y, r, e, h1, h2⟩ => by subst e; exact ⟨v, r, rfl, hd, h2⟩
  | x :: ds, xs, k + 1, ⟨y, r, e, h1, h2⟩ => by subst e; exact ⟨y, _, rfl, h1, isL_set hd k h2⟩
def mPut (i : Nat) (fk f : Ev → Mo W) : Ms := fun ρ n k => (∃ l, ρ[i]? = some (some (.d (.lst l)))) ∧ f ρ n fun w m => fk ρ m fun y m2 => ∃ l d j, ρ[i]? = some (some (.d (.lst l))) ∧ w = .d d ∧ y = .d (.int j) ∧ 0 ≤ j ∧ j < l.length ∧ k.nx (ρ.set i (some (.d (.lst (l.set j.toNat d))))) m2
theorem js_put (i : Nat) {x : Str} {np sp : Pos} (hk : JB X Pn M c fc) (he : JE X Pn M fr' e f) (hi : i ∈ M := by decide) (hN : X.N[i]? = some x := by rfl) (hv : Vis X.env.scope x := by first | exact Or.inl rfl | exact Or.inr (Or.inl rfl) | exact Or.inr (Or.inr rfl)) (hd : (x == ("__debug__" : Str)) = false := by decide)
    (hcd : (x == ("__classdict__" : Str)) = false := by decide) (hs : swapsWithSole [.Subscript (.Name x np) c p] e sp.line X.env = pure false := by rfl) (hw : swappedStores [.Subscript (.Name x np) c p] e X.env = pure none := by rfl)
    (h1 : (assignEach [.Subscript (.Name x np) c p] X.env).map (·.2) = [assign (.Subscript (.Name x np) c p) X.env] := by rfl) (ha : ∀ v, assign (.Subscript (.Name x np) c p) X.env v = (do
      let ov ← holding [v] (eval (.Name x np) X.env)
      let iv ← holding [v, ov] (eval c X.env)
      standAt p
      holding [v, ov, iv] (setItem ov iv v)
      release [v, ov, iv] []) := by intro _; rfl) :
    JS X Pn S M fr (.Assign [.Subscript (.Name x np) c p] e sp) (mPut i fc f) := by
  obtain ⟨te, q, r⟩ := he.ex
  obtain ⟨tk, qk, rk⟩ := hk.ex
  refine ⟨_, qs_asg q (qg_subN (qv i hN hv hd hcd) qk ha) hs hw h1, ⟨fun B A σ H ρ n k D a kk ⟨⟨l0, e0⟩, hf⟩ => ?_⟩⟩
  obtain ⟨ad, xs0, s0, hA, _⟩ := a.own hi e0
  refine r.run A σ H ρ n _ _ a.env a.pn hf fun w m v H1 r1 hv1 g1 _ => ⟨.ref ad, s0, ?_⟩
  have a1 := a.step g1
  refine rk.run A σ H1 ρ m _ _ a1.env a1.pn r1 fun y m2 v2 H2 ⟨l, d, j, e, ed, ey, j0, j1, r2⟩ b2 g2 => ?_
  subst ed ey
  have a2 := a1.step g2
  obtain ⟨ad2, xs, s2, _, g, hl⟩ := a2.own hi e
  rw [s0] at s2
  cases s2
  exact ⟨ad, xs, j, rfl, bor_int b2, g, j0, by rw [hl.length]; exact j1, kk.nx A σ _ _ m2 (a2.wr hi e s0 (isL_set (hv1.stay g2.st).is _ hl)) r2⟩
end
end L3


set_option Elab.async false
set_option linter.all false
set_option maxRecDepth 100000
/-! the law's def, and promises of before said at the level of values -/
namespace L3
open PySem PySem.Spec L2
section
variable {A : Addr → Prop} {H : Hp}
theorem valL1 {w : W} {vs : List V} (h : ValL A H [w] vs) : ∃ v, vs = [v] ∧ Val A H w v := by
  obtain ⟨v, r, e, h1, h2⟩ := h
  cases h2
  exact ⟨v, e, h1⟩
theorem valL2 {w u : W} {vs : List V} (h : ValL A H [w, u] vs) : ∃ v y, vs = [v, y] ∧ Val A H w v ∧ Val A H u y := by
  obtain ⟨v, r, e, h1, h2⟩ := h
  obtain ⟨y, rfl, h3⟩ := valL1 h2
  exact ⟨v, y, e, h1, h3⟩
theorem valL3 {w u z : W} {vs : List V} (h : ValL A H [w, u, z] vs) : ∃ v y x, vs = [v, y, x] ∧ Val A H w v ∧ Val A H u y ∧ Val A H z x := by
  obtain ⟨v, r, e, h1, h2⟩ := h
  obtain ⟨y, x, rfl, h3, h4⟩ := valL2 h2
  exact ⟨v, y, x, e, h1, h3, h4⟩
theorem val_st {st : List Int} {v : V} (h : Val A H (.d (stD st)) v) : ∃ a, v = .ref a ∧ H a = some (.tup (st.map V.int)) := by
  obtain ⟨a, xs, e, h1, h2⟩ := h
  obtain rfl := h2.of_ints
  exact ⟨a, e, hide_sub _ _ h1⟩
theorem st_val {st : List Int} {a : Addr} (al : Al A H) (h : H a = some (.tup (st.map V.int))) : Val A H (.d (stD st)) (.ref a) :=
  Val.of ⟨a, _, rfl, hide_of (fun z => al.noT a _ z h) h, IsL.ints⟩
end
structure RoomOk (rm : List Int) : Prop where
  ne : rm ≠ []
  few : rm.length ≤ 8
  box : ∀ r ∈ rm, 2 ≤ r ∧ r ≤ 4
theorem RoomOk.pos {rm : List Int} (h : RoomOk rm) : 1 ≤ rm.length := by
  cases rm with
  | nil => exact absurd rfl h.ne
  | cons _ _ => simp
theorem RoomOk.at {rm : List Int} (h : RoomOk rm) {H : Hp} {a : Addr} (e : H a = some (.tup (rm.map V.int))) : RoomAt H a rm := ⟨e, h.ne, h.few, h.box⟩
abbrev FV := Option PenId → List W → Mo W
/-- a promise of before is at least this one -/
def Lift (k : Nat) (fr : Bool) (F : FV) (sp : Sp) : Prop := ∀ vs H Q E, spV k fr F vs H Q E → sp vs H Q E
theorem FnOk.lift {P : Program} {w : World} {K : PySem.W.Frag} {mg : Str → Option Value} {base : Heap} {CX : CXT} {j k : Nat} {f : Addr} {fd : FuncData} {ps : List Str} {sp : Sp} {fr : Bool} {F : FV} (h : FnOk P w K mg base CX j f fd ps sp) (l : Lift k fr F sp) : FnOk P w K mg base CX j f fd ps (spV k fr F) := h.imp l
/-! the pen's defs -/
def F_draw : FV := fun Pn ws n R => ∃ p c ns many, Pn = some (p, c, ns) ∧ ws = [.pen p, .d (.int many)] ∧ n ≤ 1000000 ∧ 1 ≤ many ∧ many < 1073741824 ∧ ∀ r, 0 ≤ r → r < many → R (.d (.int r)) (n + 1)
theorem lift_draw : Lift 2 false F_draw spDraw := by
  rintro vs H Q E ⟨Pn, A, ws, n, R, al, hv, hl, hp, ⟨p, c, ns, many, rfl, rfl, h1, h2, h3, h4⟩, q⟩
  obtain ⟨v, y, rfl, b1, b2⟩ := valL2 hv
  have e1 : v = .ref p := b1
  have e2 : y = .int many := b2
  subst e1 e2
  exact ⟨p, c, ns, n, many, rfl, hp.1, h1, h2, h3, fun r H' r0 r1 P' S' => q _ (n + 1) _ H' (h4 r r0 r1) (Val.of rfl) ⟨S', P', hp.2⟩ fun z => by cases z⟩
def F_mkRoom : FV := fun Pn ws n R => ∃ p c ns most, Pn = some (p, c, ns) ∧ ws = [.pen p, .d (.int most)] ∧ n + 20 ≤ 1000000 ∧ 4 ≤ most ∧ most ≤ 256 ∧ ∀ rm, RoomOk rm → prodI rm ≤ most → R (.d (stD rm)) (n + 10)
theorem lift_mkRoom : Lift 2 false F_mkRoom spMkRoom := by
  rintro vs H Q E ⟨Pn, A, ws, n, R, al, hv, hl, hp, ⟨p, c, ns, most, rfl, rfl, h1, h2, h3, h4⟩, q⟩
  obtain ⟨v, y, rfl, b1, b2⟩ := valL2 hv
  have e1 : v = .ref p := b1
  have e2 : y = .int most := b2
  subst e1 e2
  exact ⟨p, c, ns, n, most, rfl, hp.1, h1, h2, h3, fun a rm H' ha n1 n2 n3 n4 P' S' => q _ (n + 10) _ H' (h4 rm ⟨n1, n2, n3⟩ n4) (st_val (al.stay S') ha) ⟨S', P', hp.2⟩ fun z => by cases z⟩
def F_mkStanding : FV := fun Pn ws n R => ∃ p c ns rm, Pn = some (p, c, ns) ∧ ws = [.pen p, .d (stD rm)] ∧ n + 20 ≤ 1000000 ∧ RoomOk rm ∧ ∀ st, st.length = rm.length → (∀ b : Int, 0 ≤ b → b < rm.length → 0 ≤ many st b ∧ many st b < many rm b) → R (.d (stD st)) (n + 10)
theorem lift_mkStanding : Lift 2 false F_mkStanding spMkStanding := by
  rintro vs H Q E ⟨Pn, A, ws, n, R, al, hv, hl, hp, ⟨p, c, ns, rm, rfl, rfl, h1, h2, h4⟩, q⟩
  obtain ⟨v, y, rfl, b1, b2⟩ := valL2 hv
  have e1 : v = .ref p := b1
  obtain ⟨ra, rfl, hra⟩ := val_st b2
  subst e1
  exact ⟨p, c, ra, ns, rm, n, rfl, hp.1, h1, h2.at hra, fun a st H' ha n1 n2 P' S' => q _ (n + 10) _ H' (h4 st n1 n2) (st_val (al.stay S') ha) ⟨S', P', hp.2⟩ fun z => by cases z⟩
theorem noL_giv (g : List (Int × Int)) : (Dt.tup (g.map pairD)).noL = true := by
  have : ∀ g : List (Int × Int), Dt.noLs (g.map pairD) = true := by
    intro g
    induction g with
    | nil => rfl
    | cons q g ih => simp only [List.map_cons, Dt.noLs, ih, Bool.and_true]; rfl
  exact this g
def givD (g : List (Int × Int)) : Dt := .tup (g.map pairD)
def F_mkGiven : FV := fun Pn ws n R => ∃ p c ns rm apart, Pn = some (p, c, ns) ∧ ws = [.pen p, .d (stD rm), .d (.int apart)] ∧ n + 40 ≤ 1000000 ∧ RoomOk rm ∧ ∀ g, Giv rm g → (∀ q ∈ g, q.1 ≠ apart) → g.length ≤ 8 → R (.d (givD g)) (n + 30)
theorem lift_mkGiven : Lift 3 false F_mkGiven spMkGiven := by
  rintro vs H Q E ⟨Pn, A, ws, n, R, al, hv, hl, hp, ⟨p, c, ns, rm, apart, rfl, rfl, h1, h2, h4⟩, q⟩
  obtain ⟨v, y, x, rfl, b1, b2, b3⟩ := valL3 hv
  have e1 : v = .ref p := b1
  have e3 : x = .int apart := b3
  obtain ⟨ra, rfl, hra⟩ := val_st b2
  subst e1 e3
  exact ⟨p, c, ra, ns, rm, n, apart, rfl, hp.1, h1, h2.at hra, fun a g H' ha n1 n2 n3 P' S' => q _ (n + 30) _ H' (h4 g n1 n2 n3) (Val.of (is_noL (al.stay S').noT (noL_giv g) ha)) ⟨S', P', hp.2⟩ fun z => by cases z⟩
/-! defs without a pen -/
def F_whole : FV := fun _ ws n R => ∃ d, ws = [.d d] ∧ R (.d (.bl d.isWhole)) n
theorem lift_whole : Lift 1 false F_whole spWhole := by
  rintro vs H Q E ⟨Pn, A, ws, n, R, al, hv, hl, hp, ⟨d, rfl, h4⟩, q⟩
  obtain ⟨v, rfl, b1⟩ := valL1 hv
  exact ⟨v, d, rfl, b1.bor.is, q _ n _ H h4 (Val.of rfl) (Go.refl hp) fun z => by cases z⟩
def F_truth : FV := fun _ ws n R => ∃ a b, ws = [.d (.bl a), .d (.bl b)] ∧ R (.d (.bl (a == b))) n
theorem lift_truth : Lift 2 false F_truth spTruth := by
  rintro vs H Q E ⟨Pn, A, ws, n, R, al, hv, hl, hp, ⟨a, b, rfl, h4⟩, q⟩
  obtain ⟨v, y, rfl, b1, b2⟩ := valL2 hv
  have e1 : v = .bl a := b1
  have e2 : y = .bl b := b2
  subst e1 e2
  exact ⟨a, b, rfl, q _ n _ H h4 (Val.of rfl) (Go.refl hp) fun z => by cases z⟩
def F_prod : FV := fun _ ws n R => ∃ ns : List Int, ws = [.d (stD ns)] ∧ (∀ n ∈ ns, 2 ≤ n ∧ n ≤ 4) ∧ R (.d (.int (prodI ns))) n
theorem lift_prod : Lift 1 false F_prod spProd := by
  rintro vs H Q E ⟨Pn, A, ws, n, R, al, hv, hl, hp, ⟨ns, rfl, h1, h4⟩, q⟩
  obtain ⟨v, rfl, b1⟩ := valL1 hv
  obtain ⟨a, rfl, ha⟩ := val_st b1
  exact ⟨a, ns, rfl, ha, h1, q _ n _ H h4 (Val.of rfl) (Go.refl hp) fun z => by cases z⟩
def F_keeps : FV := fun _ ws n R => ∃ st g, ws = [.d (stD st), .d (givD g)] ∧ (∀ q ∈ g, 0 ≤ q.1 ∧ q.1 < st.length) ∧ R (.d (.bl (keepsB st g))) n
theorem lift_keeps : Lift 2 false F_keeps spKeeps := by
  rintro vs H Q E ⟨Pn, A, ws, n, R, al, hv, hl, hp, ⟨st, g, rfl, h1, h4⟩, q⟩
  obtain ⟨v, y, rfl, b1, b2⟩ := valL2 hv
  obtain ⟨a, rfl, ha⟩ := val_st b1
  obtain ⟨ga, gs, rfl, hga, hgs⟩ := b2.bor.is
  exact ⟨a, ga, st, gs, g, rfl, ha, hga, hgs, h1, q _ n _ H h4 (Val.of rfl) (Go.refl hp) fun z => by cases z⟩
def stsD (sts : List (List Int)) : Dt := .lst (sts.map stD)
theorem sts_val {A : Addr → Prop} {H H' : Hp} {a : Addr} {ys : List V} {sts : List (List Int)} (al : Al A H) (s : Same H H') (n : H a = none) (h : H' a = some (.lst ys)) (hl : IsL H' (sts.map stD) ys) : Val A H' (.d (stsD sts)) (.ref a) ∧ FrV A H H' (.d (stsD sts)) (.ref a) := by
  have al' := al.stay (Stay.same s)
  have hl1 := isL_noL al'.noT (noLs_sts sts) hl
  refine ⟨Val.of ⟨a, ys, rfl, hide_of (al.new n) h, hl1⟩, a, rfl, .of n, a, ys, rfl, h, isL_noL (fun b xs z e => ?_) (noLs_sts sts) hl⟩
  rcases z with z | z
  · exact al'.noT b xs z e
  · subst z; rw [h] at e; cases e
def F_all : FV := fun _ ws n R => ∃ rm, ws = [.d (stD rm)] ∧ RoomOk rm ∧ prodI rm ≤ 256 ∧ R (.d (stsD (allC (rm.map rangeI)))) n
theorem lift_all : Lift 1 true F_all spAll := by
  rintro vs H Q E ⟨Pn, A, ws, n, R, al, hv, hl, hp, ⟨rm, rfl, h1, h2, h4⟩, q⟩
  obtain ⟨v, rfl, b1⟩ := valL1 hv
  obtain ⟨a, rfl, ha⟩ := val_st b1
  refine ⟨a, rm, rfl, h1.at ha, h2, fun a ys H' na ha' hys S => ?_⟩
  rw [← room_all] at hys
  obtain ⟨z1, z2⟩ := sts_val al S na ha' hys
  exact q _ n _ H' h4 z1 (Go.same hp S) fun _ => z2
def lsD (c : List Int) : Dt := .lst (c.map .int)
def F_combined : FV := fun _ ws n R => ∃ cs : List (List Int), ws = [.d (.lst (cs.map lsD))] ∧ cs.length ≤ 8 ∧ (∀ c ∈ cs, c.length ≤ 4) ∧ R (.d (stsD (allC cs))) n
theorem lists_of {G H : Hp} (s : Same G H) : ∀ {cs : List (List Int)} {xs : List V}, IsL G (cs.map lsD) xs → Lists H xs cs := fun {cs xs} h => by
  refine ⟨by rw [h.length, List.length_map], fun i c hc => ?_⟩
  obtain ⟨v, h1, h2⟩ := h.getD (i := i) (d := lsD c) (by rw [List.getElem?_map, hc]; rfl)
  obtain ⟨a, ys, rfl, h3, h4⟩ := h2
  obtain rfl := h4.of_ints
  exact ⟨a, h1, s _ _ h3⟩
theorem lift_combined {K : PySem.W.Frag} : Lift 1 true F_combined (spCombined K) := by
  rintro vs H Q E ⟨Pn, A, ws, n, R, al, hv, hl, hp, ⟨cs, rfl, h1, h2, h4⟩, q⟩
  obtain ⟨v, rfl, b1⟩ := valL1 hv
  obtain ⟨a, xs, rfl, ha, hx⟩ := b1
  refine ⟨a, xs, cs, rfl, hide_sub _ _ ha, lists_of hide_sub hx, h1, h2, fun a ys H' na ha' hys S => ?_⟩
  obtain ⟨z1, z2⟩ := sts_val al S na ha' hys
  exact q _ n _ H' h4 z1 (Go.same hp S) fun _ => z2
/-! the law's own def -/
theorem okLaw {P : Program} {w : World} {K : PySem.W.Frag} {mg : Str → Option Value} {base : Heap} {x qual : Str} {st : Stmt} {f : Addr} {fd : FuncData} {N ps : List Str} {k r : Nat} (M : List Nat) (Fu : Fun K x qual st f fd) (S : FnScope N ps (defScope st)) (hps : ps.length = 1) (hN : N.length = r + 2) (hM : ∀ i ∈ M, 2 ≤ i)
    (hbody : ∀ (cdv : Value) (A : Around) (outer : List Env) (s : Shared) (H : Hp) (E : XK) (Pn : Option PenId), Room k (A.deeper (PyProof.Rows.envOfC qual (defScope st) s.heap.objs.size f cdv)) →
      ∃ s1 rest fs, defBody st = s1 :: rest ∧ QS (cxOf CX0 P w K mg base N qual (defScope st) f cdv A outer s H E).nox s1 (tAsg (tCall (spPen K) [] E0 (tCons (tVar 0) tNil)) (gName 1)) ∧
        JSs (cxOf CX0 P w K mg base N qual (defScope st) f cdv A outer s H E).nox Pn [] M false rest fs ∧ ∀ p c ns, Pn = some (p, c, ns) → fs (none :: some (.pen p) :: List.replicate r none) 0 { nx := fun _ _ => False, rt := fun w _ => w = .d (.bl true) }) : FnOk P w K mg base CX0 (k + 1) f fd ps (spLaw K) := by
  refine Fun.okQ Fu S (fun vs H Q E h => ?_) (fun cdv A outer s H vs Q E hr h => ?_)
  · obtain ⟨a, ns, rfl, _⟩ := h
    exact hps.symm
  · obtain ⟨a, ns, rfl, hS, hl, q⟩ := h
    have ctx := fun (Pn : Option PenId) => hbody cdv A outer s H E Pn hr
    have hN1 : L2.start N [.ref a] = some (.ref a) :: none :: List.replicate r none := by
      unfold L2.start
      rw [hN]
      rfl
    -- one reading for every pen
    have hd : ∃ s1 rest, defBody st = s1 :: rest := let ⟨s1, rest, _, e, _⟩ := ctx none; ⟨s1, rest, e⟩
    obtain ⟨s1, rest, e0⟩ := hd
    rw [e0]
    have c2 : ∀ Pn, ∃ fs, JSs (cxOf CX0 P w K mg base N qual (defScope st) f cdv A outer s H E).nox Pn [] M false rest fs ∧ ∀ p c ns, Pn = some (p, c, ns) → fs (none :: some (.pen p) :: List.replicate r none) 0 { nx := fun _ _ => False, rt := fun w _ => w = .d (.bl true) } := fun Pn => by
      obtain ⟨s1', rest', fs, e, _, h1, h2⟩ := ctx Pn
      rw [e0] at e
      cases e
      exact ⟨fs, h1, h2⟩
    have q1 : QS (cxOf CX0 P w K mg base N qual (defScope st) f cdv A outer s H E).nox s1 (tAsg (tCall (spPen K) [] E0 (tCons (tVar 0) tNil)) (gName 1)) := by
      obtain ⟨s1', rest', fs, e, h0, _⟩ := ctx none
      rw [e0] at e
      cases e
      exact h0
    refine ⟨_, qss_cons q1 (u := fun D σ H => ∃ Pn, (c2 Pn).choose_spec.1.ex.choose D σ H) ⟨fun pins s' σ H D I ⟨Pn, z⟩ => (c2 Pn).choose_spec.1.ex.choose_spec.1.run pins s' σ H D I z⟩, ?_⟩
    refine ⟨.ref a, by rw [hN1]; rfl, a, ns, rfl, hS, hl, fun p c H1 P1 S1 => ⟨some (p, c, ns), ?_⟩⟩
    have hs := (c2 (some (p, c, ns))).choose_spec.2 p c ns rfl
    have e1 : (L2.start N [.ref a]).set 1 (some (.ref p)) = some (.ref a) :: some (.ref p) :: List.replicate r none := by rw [hN1]; rfl
    rw [e1]
    have hnone : ∀ i (u : W), (none :: some (.pen p) :: List.replicate r none : Ev)[i]? = some (some u) → i = 1 ∧ u = .pen p := fun i u e => by
      match i, e with
      | 0, e => simp at e
      | 1, e => exact ⟨rfl, by simpa using e.symm⟩
      | i + 2, e =>
        simp only [List.getElem?_cons_succ] at e
        obtain ⟨_, q⟩ := List.getElem?_eq_some_iff.mp e
        rw [List.getElem_replicate] at q
        cases q
    refine (c2 (some (p, c, ns))).choose_spec.1.ex.choose_spec.2.run ⟨fun _ => False, H1, hide (fun _ => False) H1, []⟩ (fun _ => False) _ H1 _ 0 _ _ ⟨⟨?_, ?_, ?_, fun _ z => z.elim⟩, ⟨fun _ z => z, fun _ z => z.elim, Stay.refl _, fun _ z => z.elim⟩, ⟨P1, fun z => z, fun z => z⟩, Stay.refl _, fun i hi => by simp at hi, ?_⟩ ⟨?_, ?_, ?_, ?_⟩ hs
    · simp
    · intro i u e
      obtain ⟨rfl, rfl⟩ := hnone i u e
      exact ⟨.ref p, rfl, fun _ => rfl, fun z => absurd (hM 1 z) (by omega)⟩
    · intro i j u u' b hi hj hne e1
      obtain ⟨rfl, rfl⟩ := hnone i u e1
      exact absurd (hM 1 hi) (by omega)
    · intro i u b hi e
      obtain ⟨rfl, rfl⟩ := hnone i u e
      exact absurd (hM 1 hi) (by omega)
    · intro _ _ _ _ _ _ z; exact z.elim
    · intro _ _ _ _ _ _ z; exact z.elim
    · intro _ _ _ _ _ _ z; exact z.elim
    · intro w n' v H' hv st pn _ r
      have r' : w = .d (.bl true) := r
      subst r'
      have : v = .bl true := hv
      subst this
      exact q H'
end L3


set_option Elab.async false
set_option linter.all false
set_option maxRecDepth 100000
/-! readings at the level of values -/
namespace L3
open PySem PySem.Spec L2
/-- a comprehension whose turns hang on nothing but the item -/
theorem comp_pure {α : Type} {l : List W} {ρ0 : Ev} {n : Nat} {mg : W → Ev → (Ev → Prop) → Prop} {ft : Ev → Mo Bool} {fe : Ev → Mo W} {Q : W → Nat → Prop} (xs : List α) (toW : α → W) (hl : l = xs.map toW) (J : Ev → Prop) (P : α → Bool) (E : α → Dt) (hlim : xs.length ≤ lim) (j0 : J ρ0)
    (h : ∀ a ∈ xs, ∀ ρ', J ρ' → ∀ C : Ev → Nat → Option Dt → Prop, (∀ ρ1, J ρ1 → C ρ1 n (if P a then some (E a) else none)) → mg (toW a) ρ' fun ρ1 => ft ρ1 n fun b n2 => if b = true then fe ρ1 n2 fun x n3 => ∃ d, x = .d d ∧ C ρ1 n3 (some d) else C ρ1 n2 none)
    (fin : Q (.d (.lst ((xs.filter P).map E))) n) : compR mg ft fe ρ0 Q l n := by
  subst hl
  refine ⟨by rw [List.length_map]; exact hlim, fun i ρ' n' acc => J ρ' ∧ n' = n ∧ acc = ((xs.take i).filter P).map E, ⟨j0, rfl, by simp⟩, ?_, ?_⟩
  · rintro i w ρ' n' acc hw ⟨hj, rfl, rfl⟩
    rw [List.getElem?_map] at hw
    obtain ⟨a, ha, rfl⟩ := Option.map_eq_some_iff.mp hw
    have := h a (List.mem_of_getElem? ha) ρ' hj (fun ρ1 n3 o => match o with
      | some d => J ρ1 ∧ n3 = n' ∧ ((xs.take i).filter P).map E ++ [d] = ((xs.take (i + 1)).filter P).map E
      | none => J ρ1 ∧ n3 = n' ∧ ((xs.take i).filter P).map E = ((xs.take (i + 1)).filter P).map E) (fun ρ1 hj1 => by
        rw [take_succ_get ha, List.filter_append, List.map_append]
        by_cases hp : P a = true
        · rw [if_pos hp]
          exact ⟨hj1, rfl, by simp [hp]⟩
        · rw [if_neg hp]
          exact ⟨hj1, rfl, by simp [hp]⟩)
    exact this
  · rintro ρ' n' acc ⟨_, rfl, rfl⟩
    rw [List.length_map, List.take_length]
    exact fin
/-- without a test -/
theorem comp_map {α : Type} {l : List W} {ρ0 : Ev} {n : Nat} {mg : W → Ev → (Ev → Prop) → Prop} {fe : Ev → Mo W} {Q : W → Nat → Prop} (xs : List α) (toW : α → W) (hl : l = xs.map toW) (J : Ev → Prop) (E : α → Dt) (hlim : xs.length ≤ lim) (j0 : J ρ0)
    (h : ∀ a ∈ xs, ∀ ρ', J ρ' → ∀ C : Ev → Nat → Dt → Prop, (∀ ρ1, J ρ1 → C ρ1 n (E a)) → mg (toW a) ρ' fun ρ1 => fe ρ1 n fun x n3 => ∃ d, x = .d d ∧ C ρ1 n3 d)
    (fin : Q (.d (.lst (xs.map E))) n) : compR mg mYes fe ρ0 Q l n := by
  subst hl
  refine ⟨by rw [List.length_map]; exact hlim, fun i ρ' n' acc => J ρ' ∧ n' = n ∧ acc = (xs.take i).map E, ⟨j0, rfl, by simp⟩, ?_, ?_⟩
  · rintro i w ρ' n' acc hw ⟨hj, rfl, rfl⟩
    rw [List.getElem?_map] at hw
    obtain ⟨a, ha, rfl⟩ := Option.map_eq_some_iff.mp hw
    exact h a (List.mem_of_getElem? ha) ρ' hj (fun ρ1 n3 d => J ρ1 ∧ n3 = n' ∧ (xs.take i).map E ++ [d] = (xs.take (i + 1)).map E) fun ρ1 hj1 => ⟨hj1, rfl, by rw [take_succ_get ha, List.map_append]; rfl⟩
  · rintro ρ' n' acc ⟨_, rfl, rfl⟩
    rw [List.length_map, List.take_length]
    exact fin
/-- a loop by what holds between two turns -/
theorem for_inv {l : List W} {ρ : Ev} {n : Nat} {mg : W → Ev → (Ev → Prop) → Prop} {fb : Ms} {k : Kt} (I : Nat → Ev → Nat → Prop) (h0 : I 0 ρ n)
    (h : ∀ i w ρ' n', l[i]? = some w → I i ρ' n' → mg w ρ' fun ρ1 => fb ρ1 n' { k with nx := I (i + 1), ct := I (i + 1), bk := k.nx }) (hd : ∀ ρ' n', I l.length ρ' n' → k.nx ρ' n') : forR mg fb ρ k l n := ⟨I, h0, h, hd⟩
theorem for_rng {r : Nat} {ρ : Ev} {n : Nat} {mg : W → Ev → (Ev → Prop) → Prop} {fb : Ms} {k : Kt} (I : Nat → Ev → Nat → Prop) (h0 : I 0 ρ n)
    (h : ∀ i ρ' n', i < r → I i ρ' n' → mg (.d (.int (i : Int))) ρ' fun ρ1 => fb ρ1 n' { k with nx := I (i + 1), ct := I (i + 1), bk := k.nx }) (hd : ∀ ρ' n', I r ρ' n' → k.nx ρ' n') : forR mg fb ρ k (rngW 0 r) n := by
  refine ⟨I, h0, fun i w ρ' n' hw hI => ?_, fun ρ' n' hI => hd ρ' n' ?_⟩
  · unfold rngW at hw
    rw [List.getElem?_map] at hw
    obtain ⟨j, h1, rfl⟩ := Option.map_eq_some_iff.mp hw
    obtain ⟨hi, h2⟩ := List.getElem?_eq_some_iff.mp h1
    rw [List.getElem_range] at h2
    subst h2
    rw [List.length_range] at hi
    have := h i ρ' n' hi hI
    rw [Int.zero_add]
    exact this
  · unfold rngW at hI
    rwa [List.length_map, List.length_range] at hI
theorem at_nat {α : Type} {l : List α} {i : Nat} {x : α} (h : l[i]? = some x) : atI l (i : Int) = some x := by
  have := (List.getElem?_eq_some_iff.mp h).1
  unfold atI ixN
  rw [if_pos (by omega), if_pos (by omega)]
  simpa using h
theorem at_mem {α : Type} {l : List α} {i : Int} (h0 : 0 ≤ i) (h1 : i < l.length) : ∃ d, atI l i = some d ∧ d ∈ l := by
  obtain ⟨j, rfl⟩ : ∃ j : Nat, i = j := ⟨i.toNat, by omega⟩
  have hj : j < l.length := by omega
  exact ⟨l[j], at_nat (List.getElem?_eq_getElem hj), List.getElem_mem hj⟩
theorem at_last {α : Type} {l : List α} (h : l ≠ []) : ∃ d, atI l (-1) = some d ∧ d ∈ l := by
  have hl : 0 < l.length := List.length_pos_iff.mpr h
  unfold atI ixN
  rw [if_neg (by omega), if_pos (by omega)]
  have hj : (-1 + (l.length : Int)).toNat < l.length := by omega
  exact ⟨l[(-1 + (l.length : Int)).toNat], by simp [hj], List.getElem_mem hj⟩
/-! constructors -/
theorem sEq_ii (i j : Int) : sEq (.int i) (.int j) = some (decide (i = j)) := rfl
theorem sEq_bb (i j : Bool) : sEq (.bl i) (.bl j) = some (decide (i = j)) := rfl
theorem sEq_ss (i j : Str) : sEq (.str i) (.str j) = some (decide (i = j)) := rfl
theorem sEq_nn : sEq .non .non = some true := rfl
theorem sEq_in (i : Int) : sEq (.int i) .non = some false := rfl
theorem sEq_ni (i : Int) : sEq .non (.int i) = some false := rfl
theorem dts_nil : dts [] = some [] := rfl
theorem dts_cons (x : Dt) (r : List W) : dts (.d x :: r) = (dts r).map (x :: ·) := rfl
theorem len_lst (l : List Dt) : lenD (.d (.lst l)) = some l.length := rfl
theorem len_tup (l : List Dt) : lenD (.d (.tup l)) = some l.length := rfl
theorem len_st (st : List Int) : lenD (.d (stD st)) = some st.length := by show some (st.map Dt.int).length = _; rw [List.length_map]
theorem len_giv (g : List (Int × Int)) : lenD (.d (givD g)) = some g.length := by show some (g.map pairD).length = _; rw [List.length_map]
theorem len_sts (g : List (List Int)) : lenD (.d (stsD g)) = some g.length := by show some (g.map stD).length = _; rw [List.length_map]
theorem tru_lst (l : List Dt) : truD (.d (.lst l)) = some (!l.isEmpty) := rfl
theorem tru_tup (l : List Dt) : truD (.d (.tup l)) = some (!l.isEmpty) := rfl
theorem tru_bl (l : Bool) : truD (.d (.bl l)) = some l := rfl
theorem key_int (i : Int) : keyW (.d (.int i)) = some (Sum.inl i) := rfl
theorem key_str (i : Str) : keyW (.d (.str i)) = some (Sum.inr i) := rfl
theorem mut_lst (l : List Dt) : W.mut (.d (.lst l)) = true := rfl
theorem mut_sts (l : List (List Int)) : W.mut (.d (stsD l)) = true := rfl
theorem mut_dk (l : List (Key × Dt)) : W.mut (.dk l) = true := rfl
theorem non_non : isNon (.d .non) = true := rfl
theorem non_int (i : Int) : isNon (.d (.int i)) = false := rfl
theorem st_tup {st : List Int} {l : List Dt} : stD st = .tup l ↔ st.map Dt.int = l := by unfold stD; exact Dt.tup.injEq _ _ ▸ Iff.rfl
theorem giv_tup {g : List (Int × Int)} {l : List Dt} : givD g = .tup l ↔ g.map pairD = l := by unfold givD; exact Dt.tup.injEq _ _ ▸ Iff.rfl
theorem pair_tup {g : Int × Int} {l : List Dt} : pairD g = .tup l ↔ [Dt.int g.1, .int g.2] = l := by unfold pairD; exact Dt.tup.injEq _ _ ▸ Iff.rfl
theorem sts_lst {g : List (List Int)} {l : List Dt} : stsD g = .lst l ↔ g.map stD = l := by unfold stsD; exact Dt.lst.injEq _ _ ▸ Iff.rfl
theorem isLst_sts (l : List (List Int)) : (stsD l).isLst = true := rfl
theorem isTup_st (l : List Int) : (stD l).isTup = true := rfl
theorem isTup_giv (l : List (Int × Int)) : (givD l).isTup = true := rfl
theorem isTup_tup (l : List Dt) : (Dt.tup l).isTup = true := rfl
theorem isLst_lst (l : List Dt) : (Dt.lst l).isLst = true := rfl
theorem whole_int (i : Int) : (Dt.int i).isWhole = true := rfl
theorem at_p0 {a b : Dt} : atI [a, b] 0 = some a := rfl
theorem at_p1 {a b : Dt} : atI [a, b] 1 = some b := rfl
theorem at_many {st : List Int} {b : Int} (h0 : 0 ≤ b) (h1 : b < st.length) : atI (st.map Dt.int) b = some (.int (many st b)) := by
  obtain ⟨j, rfl⟩ : ∃ j : Nat, b = j := ⟨b.toNat, by omega⟩
  have hj : j < st.length := by omega
  refine at_nat ?_
  rw [List.getElem?_map, List.getElem?_eq_getElem hj, many_nat]
  simp [hj]
end L3


set_option Elab.async false
set_option linter.all false
set_option maxRecDepth 100000
/-! the standings that keep a given -/
namespace L3
open PySem L2
def gw (g : List (Int × Int)) (i : Nat) : Option Int := (g.find? fun q => decide (q.1 = (i : Int))).map (·.2)
theorem look_gw (g : List (Int × Int)) (i : Nat) : lookD (List.map kvD (List.map (fun q : Int × Int => (q.1, Dt.int q.2)) g)) (Sum.inl (i : Int)) = (gw g i).map Dt.int := by
  unfold lookD gw
  induction g with
  | nil => rfl
  | cons q g ih =>
    rw [List.map_cons, List.map_cons, List.find?_cons, List.find?_cons]
    by_cases h : q.1 = (i : Int)
    · have h1 : decide ((kvD (q.1, Dt.int q.2)).1 = (Sum.inl (i : Int) : Key)) = true := decide_eq_true (by show (Sum.inl q.1 : Key) = _; rw [h])
      rw [h1, decide_eq_true h]
      rfl
    · have h1 : decide ((kvD (q.1, Dt.int q.2)).1 = (Sum.inl (i : Int) : Key)) = false := decide_eq_false fun z => h (Sum.inl.inj z)
      rw [h1, decide_eq_false h]
      exact ih
theorem enW_rng (rm : List Int) : enW 0 (rm.map Dt.int) = (List.range rm.length).map fun i : Nat => W.d (.tup [.int (i : Int), .int (rm.getD i 0)]) := by
  apply List.ext_getElem?
  intro i
  rw [enW_get, List.getElem?_map, List.getElem?_map]
  by_cases h : i < rm.length
  · rw [List.getElem?_eq_getElem h, List.getElem?_range h]
    simp [h]
  · rw [List.getElem?_eq_none (by omega), List.getElem?_eq_none (by rw [List.length_range]; omega)]
    rfl
/-- what a box may be -/
def cho (rm : List Int) (g : List (Int × Int)) (i : Nat) : List Int := match gw g i with
  | some w => [w]
  | none => rangeI (rm.getD i 0)
def chs (rm : List Int) (g : List (Int × Int)) : List (List Int) := (List.range rm.length).map (cho rm g)
def keepC (rm : List Int) (g : List (Int × Int)) : List (List Int) := allC (chs rm g)
def kpN (g : List (Int × Int)) (n : Nat) (st : List Int) : Bool := g.all fun q => !decide (q.1 < n) || decide (many st q.1 = q.2)
theorem kpN_iff {g : List (Int × Int)} {n : Nat} {st : List Int} : kpN g n st = true ↔ ∀ q ∈ g, q.1 < (n : Int) → many st q.1 = q.2 := by
  unfold kpN
  rw [List.all_eq_true]
  constructor
  · intro h q hq hn
    have := h q hq
    rw [decide_eq_true hn] at this
    simpa using this
  · intro h q hq
    by_cases hn : q.1 < (n : Int)
    · have := h q hq hn
      rw [decide_eq_true this]
      simp
    · rw [decide_eq_false hn]
      rfl
theorem cross_filter {rows : List (List Int)} {ws : List Int} {p p' : List Int → Bool} {q : Int → Bool} (h : ∀ r ∈ rows, ∀ w ∈ ws, p (r ++ [w]) = (p' r && q w)) : (crossI rows ws).filter p = crossI (rows.filter p') (ws.filter q) := by
  unfold crossI
  induction rows with
  | nil => rfl
  | cons r rows ih =>
    have ih' := ih fun r' hr => h r' (List.mem_cons_of_mem _ hr)
    rw [List.flatMap_cons, List.filter_append, ih', List.filter_cons]
    have e : (ws.map fun w => r ++ [w]).filter p = if p' r = true then (ws.filter q).map (fun w => r ++ [w]) else [] := by
      rw [List.filter_map]
      have e1 : ws.filter (p ∘ fun w => r ++ [w]) = ws.filter fun w => p' r && q w := List.filter_congr fun w hw => h r List.mem_cons_self w hw
      rw [e1]
      cases p' r with
      | true => simp
      | false => simp
    rw [e]
    cases p' r with
    | true => simp
    | false => simp
theorem gw_some {rm : List Int} {g : List (Int × Int)} (hg : Giv rm g) {i : Nat} {w : Int} (h : gw g i = some w) : ((i : Int), w) ∈ g := by
  unfold gw at h
  obtain ⟨q, h1, h2⟩ := Option.map_eq_some_iff.mp h
  have h3 := List.find?_some h1
  have h4 := List.mem_of_find?_eq_some h1
  have : q = ((i : Int), w) := by
    have := of_decide_eq_true h3
    cases q
    simp at this h2
    subst this h2
    rfl
  exact this ▸ h4
theorem gw_none {g : List (Int × Int)} {i : Nat} (h : gw g i = none) : ∀ q ∈ g, q.1 ≠ (i : Int) := fun q hq e => by
  unfold gw at h
  have := List.find?_eq_none.mp (Option.map_eq_none_iff.mp h) q hq
  simp [e] at this
theorem giv_one {rm : List Int} {g : List (Int × Int)} (hg : Giv rm g) {q r : Int × Int} (h1 : q ∈ g) (h2 : r ∈ g) (e : q.1 = r.1) : q = r := by
  have key : ∀ g : List (Int × Int), (g.Pairwise fun a b => a.1 < b.1) → q ∈ g → r ∈ g → q = r := by
    intro g hp
    induction hp with
    | nil => intro h; simp at h
    | cons ha _ ih =>
      intro h1 h2
      rcases List.mem_cons.mp h1 with e1 | m1
      · rcases List.mem_cons.mp h2 with e2 | m2
        · rw [e1, e2]
        · have := ha r m2
          rw [← e1] at this
          omega
      · rcases List.mem_cons.mp h2 with e2 | m2
        · have := ha q m1
          rw [← e2] at this
          omega
        · exact ih m1 m2
  exact key g hg.up h1 h2
theorem range_one {m w : Int} (h0 : 0 ≤ w) (h1 : w < m) : (rangeI m).filter (fun x => decide (x = w)) = [w] := by
  unfold rangeI
  rw [List.filter_map]
  have key : ∀ n : Nat, w.toNat < n → (List.range n).filter ((fun x : Int => decide (x = w)) ∘ fun i : Nat => (i : Int)) = [w.toNat] := by
    intro n
    induction n with
    | zero => intro h; omega
    | succ n ih =>
      intro h
      rw [List.range_succ, List.filter_append]
      by_cases hn : w.toNat < n
      · rw [ih hn]
        have : ¬ ((n : Int) = w) := by omega
        simp [this]
      · have hn' : w.toNat = n := by omega
        have e : (n : Int) = w := by omega
        have : (List.range n).filter ((fun x : Int => decide (x = w)) ∘ fun i : Nat => (i : Int)) = [] := by
          rw [List.filter_eq_nil_iff]
          intro x hx
          have := List.mem_range.mp hx
          have : ¬ ((x : Int) = w) := by omega
          simp [this]
        rw [this]
        simp [e, hn']
  rw [key m.toNat (by omega)]
  simp
  omega
theorem keep_step {rm : List Int} {g : List (Int × Int)} (hg : Giv rm g) : ∀ n : Nat, n ≤ rm.length → (allC ((rm.take n).map rangeI)).filter (kpN g n) = allC ((List.range n).map (cho rm g))
  | 0, _ => by
    have : kpN g 0 [] = true := kpN_iff.mpr fun q hq hn => by
      have := (hg.ok q hq).1
      omega
    simp [allC, this]
  | n + 1, hn => by
    have hlt : n < rm.length := hn
    have ih := keep_step hg n (Nat.le_of_lt hlt)
    rw [take_succ_get (List.getElem?_eq_getElem hlt), List.map_append, List.range_succ, List.map_append]
    show (allC (_ ++ [rangeI rm[n]])).filter _ = allC (_ ++ [cho rm g n])
    rw [allC_snoc, allC_snoc, ← ih]
    have hrow : ∀ r ∈ allC ((rm.take n).map rangeI), r.length = n := fun r hr => by
      rw [allC_row _ _ hr, List.length_map, List.length_take]
      omega
    have e : rm.getD n 0 = rm[n] := by simp [hlt]
    have em : many rm (n : Int) = rm[n] := by unfold many; simp [hlt]
    rw [cross_filter (p' := kpN g n) (q := fun w => match gw g n with | some v => decide (w = v) | none => true)]
    · congr 1
      unfold cho
      cases hq : gw g n with
      | none => rw [e]; simp
      | some v =>
        have hb := hg.ok _ (gw_some hg hq)
        have h2 : v < many rm (n : Int) := hb.2.2.2
        exact range_one hb.2.2.1 (by omega)
    · intro r hr w hw
      have hl := hrow r hr
      rw [Bool.eq_iff_iff, Bool.and_eq_true, kpN_iff, kpN_iff]
      have lt : ∀ q ∈ g, q.1 < (n : Int) → many (r ++ [w]) q.1 = many r q.1 := fun q hq hn => many_snoc_lt (hg.ok q hq).1 (by omega)
      have eqn : many (r ++ [w]) (n : Int) = w := by rw [← hl]; exact many_snoc_eq
      constructor
      · intro h
        refine ⟨fun q hq hn => by rw [← lt q hq hn]; exact h q hq (by omega), ?_⟩
        cases hq : gw g n with
        | none => rfl
        | some v =>
          have h1 := h _ (gw_some hg hq) (by show (n : Int) < ((n + 1 : Nat) : Int); omega)
          rw [eqn] at h1
          exact decide_eq_true h1
      · rintro ⟨h1, h2⟩ q hq hn
        by_cases hqn : q.1 < (n : Int)
        · rw [lt q hq hqn]
          exact h1 q hq hqn
        · have hqe : q.1 = (n : Int) := by omega
          have hg' : gw g n = some q.2 := by
            cases hz : gw g n with
            | none => exact absurd hqe (gw_none hz q hq)
            | some v => rw [giv_one hg hq (gw_some hg hz) hqe]
          rw [hg'] at h2
          rw [hqe, eqn]
          exact of_decide_eq_true h2
/-- the standings that keep a given, told by what each box may be -/
theorem keep_filter {rm : List Int} {g : List (Int × Int)} (hg : Giv rm g) : (allC (rm.map rangeI)).filter (fun st => keepsB st g) = keepC rm g := by
  have h := keep_step hg rm.length (Nat.le_refl _)
  rw [List.take_length] at h
  unfold keepC chs
  rw [← h]
  refine List.filter_congr fun st hst => ?_
  rw [Bool.eq_iff_iff, kpN_iff]
  unfold keepsB
  rw [List.all_eq_true]
  constructor
  · intro z q hq _
    exact of_decide_eq_true (z q hq)
  · intro z q hq
    exact decide_eq_true (z q hq (hg.ok q hq).2.1)
theorem keepC_len {rm : List Int} {g : List (Int × Int)} (hg : Giv rm g) : ∀ st ∈ keepC rm g, st.length = rm.length := fun st hst => by
  unfold keepC chs at hst
  rw [allC_row _ _ hst, List.length_map, List.length_range]
theorem keepC_few {rm : List Int} {g : List (Int × Int)} (hR : RoomOk rm) : (keepC rm g).length ≤ 65536 := by
  have h := allC_few (cs := chs rm g) (by unfold chs; rw [List.length_map, List.length_range]; exact hR.few) (fun c hc => by
    obtain ⟨i, hi, rfl⟩ := List.mem_map.mp hc
    have hi' := List.mem_range.mp hi
    have hb := hR.box _ (List.getElem_mem hi')
    have e : rm.getD i 0 = rm[i] := by simp [hi']
    unfold cho
    cases gw g i with
    | some v => simp
    | none => rw [rangeI_len]; omega) (chs rm g).length
  rw [List.take_length] at h
  exact h
theorem keepC_nil (rm : List Int) : keepC rm [] = allC (rm.map rangeI) := by
  have := keep_filter (rm := rm) (g := []) ⟨fun _ h => by simp at h, .nil⟩
  rw [← this]
  have : (fun st : List Int => keepsB st []) = fun _ => true := by funext st; rfl
  rw [this, List.filter_eq_self.mpr fun _ _ => rfl]
end L3


set_option Elab.async false
set_option linter.all false
set_option maxRecDepth 100000
set_option maxHeartbeats 4000000
local macro_rules | `(tactic| walk_at "rd") => `(tactic| simp only [L3.mRet, L3.mRetO, L3.mVar, L3.mC, L3.mBin, L3.mUn, L3.mTst, L3.mAnd, L3.mOr, L3.mNot, L3.mAndV, L3.mOrV, L3.mNotV, L3.mIf, L3.mNil, L3.mCons, L3.mArg, L3.mIsN, L3.mNotN, L3.mTupK, L3.mLstK, L3.fI, L3.fI0, L3.fNeg, L3.fEq, L3.fNe, L3.fIsB, L3.fIsNotB, L3.fIxT, L3.fIxL, L3.fLen, L3.fAbs, L3.fMin, L3.fMax, L3.mFn, L3.mFnB, L3.gN, L3.gNl, L3.gCn, L3.gTp, L3.mItL, L3.mItT, L3.mItR, L3.mItE, L3.mAsg, L3.mOwn, L3.mNx, L3.mSeq, L3.mIfS, L3.mDrop, L3.mApp, L3.mIsi, L3.mTru, L3.mDGet, L3.mDIn, L3.mReverse, L3.mPut, L3.mListRng, L3.mTupleRng, L3.mComp, L3.mFor, L3.mYes, L3.capW, L3.start3, L3.sEq_ii, L3.sEq_bb, L3.sEq_ss, L3.sEq_nn, L3.sEq_in, L3.sEq_ni, L3.dts_nil, L3.dts_cons, L3.len_lst, L3.len_tup, L3.len_st, L3.len_giv, L3.len_sts, L3.tru_lst, L3.tru_tup, L3.tru_bl, L3.key_int, L3.key_str, L3.mut_lst, L3.mut_sts, L3.mut_dk, L3.non_non, L3.non_int, L3.st_tup, L3.giv_tup, L3.pair_tup, L3.sts_lst, L3.isLst_sts, L3.isTup_st, L3.isTup_giv, L3.isTup_tup, L3.isLst_lst, L3.whole_int, L3.at_p0, L3.at_p1, List.map_cons, List.map_nil, List.length_cons, List.length_nil, List.getElem?_cons_zero, List.getElem?_cons_succ, List.set_cons_zero, List.set_cons_succ, List.cons_append, List.nil_append, List.append_nil, List.replicate, Nat.sub_zero, Nat.reduceSub, Nat.reduceAdd, Option.some.injEq, L3.W.d.injEq, L2.Dt.int.injEq, L2.Dt.bl.injEq, L2.Dt.tup.injEq, L2.Dt.lst.injEq, L2.Dt.str.injEq, L3.W.pen.injEq, L3.W.dk.injEq, List.cons.injEq, exists_eq_left', exists_eq_left, exists_and_left, exists_eq, and_true, true_and, Option.map_some, Option.join_some, if_true, Bool.false_eq_true, if_false, exists_const, Function.comp_apply, and_assoc, exists_eq', L3.lim, Nat.zero_le, Int.reduceLE, Int.reduceLT, Int.reduceNeg, Int.reduceToNat, Nat.reduceLeDiff, Int.reduceEq, Nat.reduceEqDiff, decide_true, decide_false, Bool.not_true, Bool.not_false])
namespace Law
open PySem L2 L3
def top (i : Nat) : Stmt := PySem.Challenge.pw_allelse_k05_givens_kept.main.body.getD i (.Pass ⟨0, 0, 0, 0⟩)
abbrev s_combined : Stmt := top 1
abbrev s_keeps : Stmt := top 3
abbrev s__law_pen : Stmt := top 6
abbrev s__law_draw : Stmt := top 7
abbrev s__law_is_whole : Stmt := top 8
abbrev s__law_truth : Stmt := top 9
abbrev s__law_size : Stmt := top 10
abbrev s__law_room : Stmt := top 11
abbrev s__law_all : Stmt := top 12
abbrev s__law_standing : Stmt := top 13
abbrev s__law_given : Stmt := top 14
abbrev s__law_keeps : Stmt := top 15
abbrev s_keeping : Stmt := top 4
abbrev s__law_near : Stmt := top 16
abbrev s__law_list_right : Stmt := top 17
abbrev s_law : Stmt := top 18
theorem sc_combined : FnScope ["choices", "rows", "worths"] ["choices"] (defScope s_combined) := ⟨rfl, rfl, rfl, by decide +kernel, rfl, by decide +kernel, by decide +kernel⟩
theorem sc_keeps : FnScope ["standing", "given", "box", "worth"] ["standing", "given"] (defScope s_keeps) := ⟨rfl, rfl, rfl, by decide +kernel, rfl, by decide +kernel, by decide +kernel⟩
theorem sc__law_pen : FnScope ["_law_script"] ["_law_script"] (defScope s__law_pen) := ⟨rfl, rfl, rfl, by decide +kernel, rfl, by decide +kernel, by decide +kernel⟩
theorem sc__law_draw : FnScope ["_law_pen_here", "_law_many", "_law_found", "_law_at", "_law_cell", "_law_prime", "_law_mixed"] ["_law_pen_here", "_law_many"] (defScope s__law_draw) := ⟨rfl, rfl, rfl, by decide +kernel, rfl, by decide +kernel, by decide +kernel⟩
theorem sc__law_is_whole : FnScope ["_law_thing"] ["_law_thing"] (defScope s__law_is_whole) := ⟨rfl, rfl, rfl, by decide +kernel, rfl, by decide +kernel, by decide +kernel⟩
theorem sc__law_truth : FnScope ["_law_found", "_law_due"] ["_law_found", "_law_due"] (defScope s__law_truth) := ⟨rfl, rfl, rfl, by decide +kernel, rfl, by decide +kernel, by decide +kernel⟩
theorem sc__law_size : FnScope ["_law_room_here", "_law_found", "_law_many"] ["_law_room_here"] (defScope s__law_size) := ⟨rfl, rfl, rfl, by decide +kernel, rfl, by decide +kernel, by decide +kernel⟩
theorem sc__law_room : FnScope ["_law_pen_here", "_law_most", "_law_way", "_law_many", "_law_found", "_law_k", "_law_one"] ["_law_pen_here", "_law_most"] (defScope s__law_room) := ⟨rfl, rfl, rfl, by decide +kernel, rfl, by decide +kernel, by decide +kernel⟩
theorem sc__law_all : FnScope ["_law_room_here", "_law_found", "_law_rank", "_law_worths", "_law_many"] ["_law_room_here"] (defScope s__law_all) := ⟨rfl, rfl, rfl, by decide +kernel, rfl, by decide +kernel, by decide +kernel⟩
theorem sc__law_standing : FnScope ["_law_pen_here", "_law_room_here", "_law_way", "_law_some"] ["_law_pen_here", "_law_room_here"] (defScope s__law_standing) := ⟨rfl, rfl, rfl, by decide +kernel, rfl, by decide +kernel, by decide +kernel⟩
theorem sc__law_given : FnScope ["_law_pen_here", "_law_room_here", "_law_apart", "_law_way", "_law_lone", "_law_found", "_law_box", "_law_many", "_law_worth", "_law_some"] ["_law_pen_here", "_law_room_here", "_law_apart"] (defScope s__law_given) := ⟨rfl, rfl, rfl, by decide +kernel, rfl, by decide +kernel, by decide +kernel⟩
theorem sc__law_keeps : FnScope ["_law_standing_here", "_law_base"] ["_law_standing_here", "_law_base"] (defScope s__law_keeps) := ⟨rfl, rfl, rfl, by decide +kernel, rfl, by decide +kernel, by decide +kernel⟩
theorem sc_keeping : FnScope ["room", "given", "fixed"] ["room", "given"] (defScope s_keeping) := ⟨rfl, rfl, rfl, by decide +kernel, rfl, by decide +kernel, by decide +kernel⟩
theorem sc__law_near : FnScope ["_law_pen_here", "_law_room_here", "_law_base", "_law_way", "_law_box", "_law_found", "_law_worth", "_law_at", "_law_one"] ["_law_pen_here", "_law_room_here", "_law_base"] (defScope s__law_near) := ⟨rfl, rfl, rfl, by decide +kernel, rfl, by decide +kernel, by decide +kernel⟩
theorem sc__law_list_right : FnScope ["_law_room_here", "_law_base", "_law_due", "_law_found"] ["_law_room_here", "_law_base", "_law_due"] (defScope s__law_list_right) := ⟨rfl, rfl, rfl, by decide +kernel, rfl, by decide +kernel, by decide +kernel⟩
theorem sc_law : FnScope ["_law_script", "_law_pen_here", "_law_k", "_law_room_here", "_law_rows", "_law_j", "_law_base", "_law_due", "_law_turn", "_law_standing_here"] ["_law_script"] (defScope s_law) := ⟨rfl, rfl, rfl, by decide +kernel, rfl, by decide +kernel, by decide +kernel⟩
structure Ad where
  f_combined : Addr
  d_combined : FuncData
  f_keeps : Addr
  d_keeps : FuncData
  f__law_pen : Addr
  d__law_pen : FuncData
  f__law_draw : Addr
  d__law_draw : FuncData
  f__law_is_whole : Addr
  d__law_is_whole : FuncData
  f__law_truth : Addr
  d__law_truth : FuncData
  f__law_size : Addr
  d__law_size : FuncData
  f__law_room : Addr
  d__law_room : FuncData
  f__law_all : Addr
  d__law_all : FuncData
  f__law_standing : Addr
  d__law_standing : FuncData
  f__law_given : Addr
  d__law_given : FuncData
  f__law_keeps : Addr
  d__law_keeps : FuncData
  f_keeping : Addr
  d_keeping : FuncData
  f__law_near : Addr
  d__law_near : FuncData
  f__law_list_right : Addr
  d__law_list_right : FuncData
  f_law : Addr
  d_law : FuncData
structure Txt (K : PySem.W.Frag) (mg : Str → Option Value) (t : Ad) : Prop where
  combined : Dfn K mg "combined" s_combined ["choices"] t.f_combined t.d_combined
  keeps : Dfn K mg "keeps" s_keeps ["standing", "given"] t.f_keeps t.d_keeps
  _law_pen : Dfn K mg "_law_pen" s__law_pen ["_law_script"] t.f__law_pen t.d__law_pen
  _law_draw : Dfn K mg "_law_draw" s__law_draw ["_law_pen_here", "_law_many"] t.f__law_draw t.d__law_draw
  _law_is_whole : Dfn K mg "_law_is_whole" s__law_is_whole ["_law_thing"] t.f__law_is_whole t.d__law_is_whole
  _law_truth : Dfn K mg "_law_truth" s__law_truth ["_law_found", "_law_due"] t.f__law_truth t.d__law_truth
  _law_size : Dfn K mg "_law_size" s__law_size ["_law_room_here"] t.f__law_size t.d__law_size
  _law_room : Dfn K mg "_law_room" s__law_room ["_law_pen_here", "_law_most"] t.f__law_room t.d__law_room
  _law_all : Dfn K mg "_law_all" s__law_all ["_law_room_here"] t.f__law_all t.d__law_all
  _law_standing : Dfn K mg "_law_standing" s__law_standing ["_law_pen_here", "_law_room_here"] t.f__law_standing t.d__law_standing
  _law_given : Dfn K mg "_law_given" s__law_given ["_law_pen_here", "_law_room_here", "_law_apart"] t.f__law_given t.d__law_given
  _law_keeps : Dfn K mg "_law_keeps" s__law_keeps ["_law_standing_here", "_law_base"] t.f__law_keeps t.d__law_keeps
  keeping : Dfn K mg "keeping" s_keeping ["room", "given"] t.f_keeping t.d_keeping
  _law_near : Dfn K mg "_law_near" s__law_near ["_law_pen_here", "_law_room_here", "_law_base"] t.f__law_near t.d__law_near
  _law_list_right : Dfn K mg "_law_list_right" s__law_list_right ["_law_room_here", "_law_base", "_law_due"] t.f__law_list_right t.d__law_list_right
  law : Dfn K mg "law" s_law ["_law_script"] t.f_law t.d_law
  b_dict : mg "dict" = none
  b_range : mg "range" = none
  b_tuple : mg "tuple" = none
  b_enumerate : mg "enumerate" = none
  b_list : mg "list" = none
  b_len : mg "len" = none
  b_isinstance : mg "isinstance" = none
  b_int : mg "int" = none
  b_bool : mg "bool" = none
  b_abs : mg "abs" = none
  b_min : mg "min" = none
  b_all : mg "all" = none
section
variable {P : Program} {w : World} {K : PySem.W.Frag} {mg : Str → Option Value} {base : Heap} {t : Ad}
theorem ok_combined (T : Txt K mg t) : FnOk P w K mg base CX0 1 t.f_combined t.d_combined ["choices"] (spCombined K) := by
  refine T.combined.F.okQ sc_combined (fun vs H Q E h => ?_) (fun cdv A outer s H vs Q E hr h => ?_)
  · obtain ⟨ca, xs, cs, rfl, _⟩ := h
    rfl
  · obtain ⟨ca, xs, cs, rfl, hca, hL, hc8, hc4, k⟩ := h
    have hall := allC_few hc8 hc4
    refine ⟨_, (qss_cons (qs_set (i := 1) sc_combined.nd rfl (Or.inl rfl) (qe_lstN (qa_cons (qe_tupN qa_nil) qa_nil)))
      (qss_cons (qs_for PassesOwn.never rfl (qi_list (qv 0)) (qg_name (i := 2) sc_combined.nd rfl (Or.inr rfl)) (qss_one (qs_setC2 (ix := 1) sc_combined.nd rfl rfl (N := ["row", "worth", "worths"]) (cix := [none, none, some 2]) rfl ⟨rfl, by decide +kernel, rfl⟩ (qi_list (qv 1)) (fun _ _ _ _ => (qg_name (i := 0) (show (["row", "worth", "worths"] : List Str).Nodup by decide +kernel) rfl (Or.inl rfl))) (fun _ _ _ _ => qts_nil) (fun _ _ _ _ => (qi_listK K rfl (qv 2))) (fun _ _ _ _ => (qg_name (i := 1) (show (["row", "worth", "worths"] : List Str).Nodup by decide +kernel) rfl (Or.inl rfl))) (fun _ _ _ _ => qts_nil) (fun _ _ _ _ => (qe_op (oq_catAK K rfl) (qv 0) (qe_tupN (qa_cons (qv 1) qa_nil)))))))
      (qss_one (qs_ret (qv 1))))), ?_⟩
    refine ⟨(by show 0 ≤ sizeLine; decide), fun e0 H1 _ g1 S1 => ⟨(by show 1 ≤ sizeLine; decide), fun r0 H2 n2 g2 S2 => ?_⟩⟩
    have S02 : Same H H2 := fun b o e => S2 _ _ (S1 _ _ e)
    have nr0 : H r0 = none := by
      cases e : H r0 with
      | none => rfl
      | some o => rw [S1 _ _ e] at n2; cases n2
    refine ⟨_, rfl, ca, rfl, ⟨xs, .of (S02 _ _ hca)⟩, for_list (K := K) (xs := xs) (fun i σ H3 => ∃ (ra : Addr) (ys : List V) (v2 : Option V), σ = [some (.ref ca), some (.ref ra), v2] ∧ H ra = none ∧ H3 ra = some (.lst ys) ∧ IsL H3 ((allC (cs.take i)).map stD) ys ∧ Same H H3)
      ⟨r0, _, none, rfl, nr0, g2, ⟨_, _, rfl, ⟨e0, _, rfl, S2 _ _ g1, rfl⟩, rfl⟩, S02⟩ (fun i σ H3 _ ⟨_, _, _, _, _, _, _, S⟩ => .of (S _ _ hca)) ?_ ?_⟩
    · rintro i x σ H3 hi ⟨ra, ys, v2, rfl, nra, hra, hys, S3⟩
      have hil := (List.getElem?_eq_some_iff.mp hi).1
      have hicl : i < cs.length := by rw [← hL.1]; exact hil
      obtain ⟨wa, hwa, hwl⟩ := hL.2 i cs[i] (List.getElem?_eq_getElem hicl)
      rw [hi] at hwa
      cases hwa
      have hws4 := hc4 cs[i] (List.getElem_mem hicl)
      have htk : cs.take (i + 1) = cs.take i ++ [cs[i]] := take_succ_get (List.getElem?_eq_getElem hicl)
      have hl1 := hall i
      have hl2 := hall (i + 1)
      rw [htk, allC_snoc] at hl2
      have hyl := hys.length
      rw [List.length_map] at hyl
      have hrow : ∀ row ∈ allC (cs.take i), row.length ≤ 8 := fun row hr => by
        rw [allC_row _ _ hr, List.length_take]
        omega
      generalize cs[i] = ws at hwl hws4 htk hl2
      generalize hrows : allC (cs.take i) = rows at hys hl1 hl2 hyl hrow
      have hwl3 := S3 _ _ hwl
      refine ⟨_, rfl, ra, rfl, ⟨_, .of hra⟩, fun acc hacc => ?_⟩
      refine comp2_list (xs := ys) hacc (fun j σ' H' => (∃ v0 v1, σ' = [v0, v1, some (.ref wa)]) ∧ (∃ zs, H' acc = some (.lst zs) ∧ IsL H' ((crossI (rows.take j) ws).map stD) zs) ∧ Same H3 H') (fun H' z1 z2 => ⟨⟨_, _, rfl⟩, ⟨[], z1, rfl⟩, z2⟩) (fun _ _ _ _ ⟨_, _, S⟩ => .of (S _ _ hra)) ?_ ?_
      · rintro j y σ' H4 hy ⟨⟨v0, v1, rfl⟩, ⟨zs, hac, hzs⟩, S4⟩
        obtain ⟨d, hd, his⟩ := (hys.stay (Stay.same S4)).get hy
        rw [List.getElem?_map] at hd
        obtain ⟨row, hrw, rfl⟩ := Option.map_eq_some_iff.mp hd
        obtain ⟨rwa, rv, rfl, hrwa, hrv⟩ := his
        obtain rfl := hrv.of_ints
        have hjl := (List.getElem?_eq_some_iff.mp hrw).1
        have hr8 := hrow row (List.mem_of_getElem? hrw)
        show comp2T _ tNoTest _ _ _ _ _ _ _ _ _
        refine noTest ?_
        refine ⟨_, rfl, wa, rfl, ⟨_, .of (S4 _ _ hwl3)⟩, ?_⟩
        refine inner_list (xs := ws.map V.int) (fun m σ' H' => (∃ v1, σ' = [some (.ref rwa), v1, some (.ref wa)]) ∧ (∃ zs, H' acc = some (.lst zs) ∧ IsL H' ((crossI (rows.take j) ws ++ (ws.take m).map fun w => row ++ [w]).map stD) zs) ∧ Same H3 H' ∧ H' rwa = some (.tup (row.map V.int))) ⟨⟨_, rfl⟩, ⟨zs, hac, by simpa using hzs⟩, S4, hrwa⟩ (fun _ _ _ _ ⟨_, _, S, _⟩ => .of (S _ _ hwl3)) ?_ ?_
        · rintro m u σ' H5 hu ⟨⟨v1, rfl⟩, ⟨zs, hac, hzs⟩, S5, hrw5⟩
          rw [List.getElem?_map] at hu
          obtain ⟨wv, hwv, rfl⟩ := Option.map_eq_some_iff.mp hu
          have hml := (List.getElem?_eq_some_iff.mp hwv).1
          refine compNo ⟨_, rfl, _, rfl, (by show 1 ≤ sizeLine; decide), fun t1 H6 _ g6 S6 => ?_⟩
          refine ⟨rwa, t1, _, _, rfl, rfl, S6 _ _ hrw5, g6, Nat.le_of_lt (small1000 (by rw [List.length_map]; show row.length + 1 ≤ 1000; omega)), fun t2 H7 g7 S7 => ?_⟩
          have S57 : Same H5 H7 := fun b o e => S7 _ _ (S6 _ _ e)
          have hzl := hzs.length
          rw [List.length_map, List.length_append, crossI_len, List.length_map, List.length_take, List.length_take] at hzl
          have hcr := crossI_len rows ws
          have hprod : (min j rows.length) * ws.length ≤ 65536 * 4 := Nat.mul_le_mul (by omega) hws4
          refine ⟨zs, S57 _ _ hac, Nat.lt_of_le_of_lt (show zs.length ≤ 500000 by omega) (by decide), ⟨_, rfl⟩, ⟨_, upd_same, ?_⟩, same_acc hacc fun b o e => S57 _ _ (S5 _ _ e), ?_⟩
          · refine IsL.stayT (StayT.app (S57 _ _ hac)) (noLs_sts _) ?_
            rw [take_succ_get hwv, List.map_append (l₁ := ws.take m), ← List.append_assoc, List.map_append]
            refine (hzs.stay (Stay.same S57)).append (IsL.one ⟨t2, _, rfl, g7, ?_⟩)
            rw [List.map_append]
            exact IsL.ints.append (IsL.ints (ns := [wv]))
          · rw [upd_ne (ne_of (S57 _ _ hrw5) (S57 _ _ hac) (by intro z; cases z))]
            exact S57 _ _ hrw5
        · rintro σ' H5 ⟨⟨v1, rfl⟩, ⟨zs, hac, hzs⟩, S5, hrw5⟩
          rw [List.length_map, List.take_length] at hzs
          refine ⟨⟨_, _, rfl⟩, ⟨zs, hac, ?_⟩, S5⟩
          rw [take_succ_get hrw, crossI_snoc]
          exact hzs
      · rintro σ' H4 ⟨⟨v0, v1, rfl⟩, ⟨zs, hac, hzs⟩, S4⟩
        rw [hyl, List.take_length] at hzs
        refine ⟨acc, zs, _, rfl, ?_, hac, ?_, fun b o e => S4 _ _ (S3 _ _ e)⟩
        · cases e : H acc with
          | none => rfl
          | some o => rw [S3 _ _ e] at hacc; cases hacc
        · rw [htk, allC_snoc, hrows]
          exact hzs
    · rintro σ H3 ⟨ra, ys, v2, rfl, nra, hra, hys, S3⟩
      rw [hL.1, List.take_length] at hys
      exact ⟨_, rfl, k ra ys H3 nra hra hys S3⟩
theorem ok_keeps (T : Txt K mg t) : FnOk P w K mg base CX0 1 t.f_keeps t.d_keeps ["standing", "given"] spKeeps := by
  refine T.keeps.F.okQ sc_keeps (fun vs H Q E h => ?_) (fun cdv A outer s H vs Q E hr h => ?_)
  · obtain ⟨a, ga, st, gs, g, rfl, _⟩ := h
    rfl
  · obtain ⟨a, ga, st, gs, g, rfl, ha, hga, hgl, hg, k⟩ := h
    have hlen : gs.length = g.length := by have := hgl.length; rwa [List.length_map] at this
    refine ⟨_, (qss_cons (qs_for PassesOwn.never rfl (qi_tup (qv 1)) (qg_tup rfl (qgs_cons (qg_name (i := 2) sc_keeps.nd rfl (Or.inl rfl)) (qgs_cons (qg_name (i := 3) sc_keeps.nd rfl (Or.inl rfl)) qgs_nil))) (qss_one (qs_if (qt_cmpR oq_ne (qe_ix xq_tup (qv 0) (qv 2) (fun _ _ => rfl)) (qv 3) (nomark _)) (qss_one (qs_ret qe_bl)) qss_nil)))
      (qss_one (qs_ret qe_bl))), ?_⟩
    refine ⟨_, rfl, ga, rfl, ⟨gs, .of hga⟩, for_tup (K := K) (xs := gs) (fun i σ H2 => H2 = H ∧ (∃ v1 v2, σ = [some (.ref a), some (.ref ga), v1, v2]) ∧ keepsB st (g.take i) = true) ⟨rfl, ⟨none, none, rfl⟩, rfl⟩ (fun i σ H2 _ ⟨e, _⟩ => e ▸ .of hga) ?_ ?_⟩
    · rintro i y σ H2 hi ⟨rfl, ⟨v1, v2, rfl⟩, hk⟩
      obtain ⟨d, hd, his⟩ := hgl.get hi
      rw [List.getElem?_map] at hd
      obtain ⟨q, hq, rfl⟩ := Option.map_eq_some_iff.mp hd
      obtain ⟨ca, ys, rfl, hca, y0, z0, rfl, hy0, y1, z1, rfl, hy1, hz1⟩ := his
      cases hy0
      cases hy1
      cases hz1
      have hqb := hg q (List.mem_of_getElem? hq)
      refine ⟨ca, _, rfl, .of hca, rfl, _, _, rfl, _, _, rfl, rfl, ?_⟩
      refine ⟨_, rfl, _, rfl, a, _, _, _, rfl, rfl, .of ha, many_get hqb.1 hqb.2, _, rfl, rfl, _, rfl, ite2 (fun h1 => ?_) (fun h1 => ?_)⟩
      · have e : keepsB st g = false := by
          unfold keepsB
          refine List.all_eq_false.mpr ⟨q, List.mem_of_getElem? hq, ?_⟩
          intro z
          have z' := of_decide_eq_true z
          rw [z'] at h1
          simp at h1
        rw [e] at k
        exact k
      · refine ⟨rfl, ⟨_, _, rfl⟩, ?_⟩
        have e : many st q.1 = q.2 := by
          by_cases e : many st q.1 = q.2
          · exact e
          · exact absurd (by simp [e]) h1
        unfold keepsB at hk ⊢
        rw [take_succ_get hq, List.all_append, hk]
        simp [e]
    · rintro σ H2 ⟨rfl, ⟨v1, v2, rfl⟩, hk⟩
      rw [hlen, List.take_length] at hk
      rw [hk] at k
      exact k
theorem ok__law_pen (T : Txt K mg t) : FnOk P w K mg base CX0 1 t.f__law_pen t.d__law_pen ["_law_script"] (spPen K) := by
  refine T._law_pen.F.okQ sc__law_pen (fun vs H Q E h => ?_) (fun cdv A outer s H vs Q E hr h => ?_)
  · obtain ⟨a, ns, rfl, _⟩ := h
    rfl
  · obtain ⟨a, ns, rfl, hS, hl, k⟩ := h
    refine ⟨_, (qss_one (qs_ret (qe_disp (qps_cons qe_str (qe_slice sq_list (qv 0) qo_none (qo_some qe_int)) (qps_cons qe_str qe_int (qps_cons qe_str qe_int qps_nil))) rfl rfl (by simp) (by decide)))), ?_⟩
    intro p hp
    refine ⟨_, rfl, _, rfl, a, _, rfl, (Same.upd hp).seq hS, fun c hc => ?_⟩
    have npc : p ≠ c := fun e => by subst e; rw [upd_same] at hc; cases hc
    have hc0 : H c = none := by rw [upd_ne (Ne.symm npc)] at hc; exact hc
    refine ⟨by rw [upd_ne npc, upd_same], penK c 0 0, rfl, (by show 3 ≤ 15; decide), ?_⟩
    rw [pen_mk]
    have ecut : cutV (ns.map V.int) none (some 63) = ns.map V.int := by
      unfold cutV
      rw [HT.sIx_none]
      have e63 : HT.sIx (ns.map V.int).length (ns.map V.int).length (some 63) = (ns.map V.int).length := by
        have := HT.sIx_nat (ns.map V.int).length (ns.map V.int).length 63
        rw [List.length_map] at this ⊢
        rw [Nat.min_eq_right hl] at this
        exact this
      rw [e63, List.drop_zero, Nat.sub_zero, List.take_length]
    refine k p c _ ⟨⟨0, 0, upd_same, by omega, by omega, by omega⟩, ?_, hl⟩ ?_
    · rw [upd_ne (Ne.symm npc), upd_same]
      exact congrArg (fun z => some (HO.lst z)) ecut
    · intro b o e
      rw [upd_ne (ne_of_none e hp), upd_ne (ne_of_none e hc0), upd_ne (ne_of_none e hp)]
      exact e
theorem ok__law_draw (T : Txt K mg t) : FnOk P w K mg base CX0 1 t.f__law_draw t.d__law_draw ["_law_pen_here", "_law_many"] spDraw := by
  refine T._law_draw.F.okQ sc__law_draw (fun vs H Q E h => ?_) (fun cdv A outer s H vs Q E hr h => ?_)
  · obtain ⟨p, c, ns, n, many, rfl, _⟩ := h
    rfl
  · obtain ⟨p, c, ns, n, many, rfl, hP, hn, h1, h2, k⟩ := h
    have hu := hu_of hr
    obtain ⟨⟨a, l, hp, ha0, han, hl0⟩, hc, hlen⟩ := id hP
    have npc : c ≠ p := ne_of hc hp (by intro z; cases z)
    refine ⟨_, (qss_cons (qs_if (qt_cmpR oq_gt (qe_dget hu (qv 0) qe_str (fun _ _ => rfl)) qe_int (nomark _)) (qss_cons (qs_set (i := 2) sc__law_draw.nd rfl (Or.inl rfl) (qe_op oq_mod (qe_dget hu (qv 0) qe_str (fun _ _ => rfl)) (qv 1)))
      (qss_cons (qs_dput hu (qv 0) qe_str (qe_op oq_fdiv (qe_dget hu (qv 0) qe_str (fun _ _ => rfl)) (qv 1)) rfl)
      (qss_one (qs_ret (qv 2))))) qss_nil)
      (qss_cons (qs_set (i := 3) sc__law_draw.nd rfl (Or.inl rfl) (qe_dget hu (qv 0) qe_str (fun _ _ => rfl)))
      (qss_cons (qs_dput hu (qv 0) qe_str (qe_op oq_add (qv 3) qe_int) rfl)
      (qss_cons (qs_set (i := 4) sc__law_draw.nd rfl (Or.inl rfl) (qe_op oq_add (qe_op oq_mul qe_int (qv 3)) qe_int))
      (qss_cons (qs_if (qt_cmpR oq_gt (qe_callB cq_len (by rfl) T.b_len PySem.boot_len (qa_cons (qe_dget hu (qv 0) qe_str (fun _ _ => rfl)) qa_nil)) qe_int (nomark _)) (qss_one (qs_set (i := 4) sc__law_draw.nd rfl (Or.inl rfl) (qe_ix xq_list (qe_dget hu (qv 0) qe_str (fun _ _ => rfl)) (qe_op oq_mod (qv 3) (qe_callB cq_len (by rfl) T.b_len PySem.boot_len (qa_cons (qe_dget hu (qv 0) qe_str (fun _ _ => rfl)) qa_nil))) (fun _ _ => rfl)))) qss_nil)
      (qss_cons (qs_if (QW.pt (qw_and (qt_cmpR oq_lt (qv 3) (qe_callB cq_len (by rfl) T.b_len PySem.boot_len (qa_cons (qe_dget hu (qv 0) qe_str (fun _ _ => rfl)) qa_nil)) (nomark _)) (qw_and1 (qt_cmpR oq_ge (qe_callB cq_abs (by rfl) T.b_abs PyProof.Rows.boot_abs (qa_cons (qv 4) qa_nil)) (qe_op oq_pow qe_int qe_int) (nomark _))))) (qss_cons (qs_dput hu (qv 0) qe_str (qe_op oq_fdiv (qe_callB cq_abs (by rfl) T.b_abs PyProof.Rows.boot_abs (qa_cons (qv 4) qa_nil)) (qv 1)) rfl)
      (qss_one (qs_ret (qe_op oq_mod (qe_callB cq_abs (by rfl) T.b_abs PyProof.Rows.boot_abs (qa_cons (qv 4) qa_nil)) (qv 1))))) qss_nil)
      (qss_cons (qs_set (i := 5) sc__law_draw.nd rfl (Or.inl rfl) (qe_ix xq_tup (qe_tup (qa_cons qe_int (qa_cons qe_int (qa_cons qe_int (qa_cons qe_int (qa_cons qe_int (qa_cons qe_int (qa_cons qe_int qa_nil)))))))) (qe_op oq_mod (qv 3) qe_int) (fun _ _ => rfl)))
      (qss_cons (qs_set (i := 6) sc__law_draw.nd rfl (Or.inl rfl) (qe_op oq_mod (qe_op oq_pow (qe_op oq_add (qe_op oq_add (qe_op oq_add (qe_op oq_mod (qv 4) qe_int) (qe_op oq_mul (qe_op oq_mul qe_int (qv 3)) (qv 3))) (qe_op oq_mul qe_int (qv 3))) qe_int) qe_int) (qv 5)))
      (qss_cons (qs_set (i := 6) sc__law_draw.nd rfl (Or.inl rfl) (qe_op oq_mod (qe_op oq_pow (qe_op oq_add (qe_op oq_add (qv 6) (qe_op oq_mul qe_int (qv 3))) qe_int) qe_int) qe_int))
      (qss_one (qs_ret (qe_op oq_mod (qe_op oq_fdiv (qe_op oq_mod (qe_op oq_mul (qv 6) qe_int) qe_int) qe_int) (qv 1))))))))))))), ?_⟩
    refine ⟨_, rfl, p, _, rfl, pen_gl hp, _, _, rfl, rfl, _, rfl, ite2 (fun hl => ?_) (fun hl => ?_)⟩
    · have hl' : 0 < l := of_decide_eq_true hl
      refine ⟨_, rfl, p, _, rfl, pen_gl hp, _, rfl, _, _, rfl, rfl, (by show (0 : Int) < many; omega), ?_⟩
      refine ⟨_, rfl, p, _, rfl, pen_gl hp, _, rfl, _, _, rfl, rfl, ⟨by show (0 : Int) < many; omega, h2⟩, _, rfl, p, _, rfl, pen_sl hp _, ?_⟩
      refine ⟨_, rfl, k _ _ (Int.emod_nonneg _ (by omega)) (Int.emod_lt_of_pos _ (by omega)) ⟨⟨a, _, upd_same, ha0, by omega, Int.ediv_nonneg hl0 (by omega)⟩, by rw [upd_ne npc]; exact hc, hlen⟩ (stay_pen hp)⟩
    · refine ⟨_, rfl, p, _, rfl, pen_ga hp, ?_⟩
      refine ⟨_, rfl, _, _, rfl, rfl, _, rfl, p, _, rfl, pen_sa hp _, ?_⟩
      have hp1 : upd H p (.dK (penK c (a + 1) l)) p = some (.dK (penK c (a + 1) l)) := upd_same
      have hc1 : upd H p (.dK (penK c (a + 1) l)) c = some (.lst (ns.map V.int)) := by rw [upd_ne npc]; exact hc
      generalize hH1 : upd H p (.dK (penK c (a + 1) l)) = H1 at hp1 hc1 ⊢
      have st1 : Stay H H1 := hH1 ▸ stay_pen hp
      refine ⟨_, rfl, _, _, rfl, rfl, .inl ⟨by omega, by omega⟩, _, _, rfl, rfl, ?_⟩
      refine' meet (α := Int) _ (fun rest => ?_) ?_
      rotate_left
      · -- if len(cells) > 0
        refine ⟨_, rfl, p, _, rfl, pen_gc hp1, _, _, rfl, .inl ⟨_, .of hc1, rfl⟩, _, _, rfl, rfl, _, rfl, ite2 (fun hz => ?_) (fun hz => ?_)⟩
        have hz' : 0 < ((ns.map V.int).length : Int) := of_decide_eq_true hz
        obtain ⟨cell, hget⟩ := at_mod ns a hz'
        refine ⟨_, rfl, p, _, rfl, pen_gc hp1, _, rfl, _, rfl, p, _, rfl, pen_gc hp1, _, _, rfl, .inl ⟨_, .of hc1, rfl⟩, _, _, rfl, rfl, hz', c, _, _, _, rfl, rfl, .of hc1, hget, ?_⟩
        exact rest cell
        exact rest (41 * a + 13)
      · intro cell
        have nqp : ∀ {q : Addr}, H1 q = none → p ≠ q := fun hq => ne_of_none hp1 hq
        refine' meet0 _ (fun rest => ?_) ?_
        rotate_left
        · refine ⟨_, rfl, _, rfl, p, _, rfl, pen_gc hp1, _, _, rfl, .inl ⟨_, .of hc1, rfl⟩, _, _, rfl, rfl, _, rfl, ite2 (fun h3 => ?_) (fun h3 => ?_)⟩
          rotate_left
          · refine iteF ?_
            exact rest
          refine ⟨_, rfl, _, rfl, _, _, rfl, rfl, ⟨by decide, by decide, by decide⟩, _, _, rfl, rfl, _, rfl, ite2 (fun h4 => ?_) (fun h4 => ?_)⟩
          rotate_left
          · exact rest
          have ha : 0 ≤ (if cell < 0 then -cell else cell) := by split <;> omega
          refine ⟨_, rfl, _, rfl, _, rfl, _, _, rfl, rfl, ⟨by show (0 : Int) < many; omega, h2⟩, _, rfl, p, _, rfl, pen_sl hp1 _, ?_⟩
          refine ⟨_, rfl, _, rfl, _, rfl, _, _, rfl, rfl, (by show (0 : Int) < many; omega), k _ _ (Int.emod_nonneg _ (by omega)) (Int.emod_lt_of_pos _ (by omega)) ⟨⟨a + 1, _, upd_same, by omega, by omega, Int.ediv_nonneg ha (by omega)⟩, by rw [upd_ne npc]; exact hc1, hlen⟩ (st1.trans (stay_pen hp1))⟩
        · obtain ⟨pr, hpr, hpr0, hpr1⟩ := at_prime a
          obtain ⟨sq0, sq1⟩ := sq_bound ha0 han hn
          have mm0 := Int.emod_nonneg cell (show (2147483489 : Int) ≠ 0 by decide)
          have mm1 := Int.emod_lt_of_pos cell (show (0 : Int) < 2147483489 by decide)
          refine ⟨by decide, fun q hq => ⟨_, rfl, _, _, rfl, rfl, (by show (0 : Int) < 7; decide), q, _, _, _, rfl, rfl, SqT.of upd_same, hpr, ?_⟩⟩
          refine ⟨_, rfl, _, _, rfl, rfl, (by show (0 : Int) < 2147483489; decide), _, rfl, _, _, rfl, rfl, .inl ⟨by omega, by omega⟩, _, rfl, _, _, rfl, rfl, .inl ⟨by omega, by omega⟩, _, _, rfl, rfl, _, rfl, _, _, rfl, rfl, .inl ⟨by omega, by omega⟩, _, _, rfl, rfl, _, _, rfl, rfl, _, _, rfl, rfl, ⟨by decide, by decide, ?_⟩, _, rfl, _, _, rfl, rfl, hpr0, ?_⟩
          · show (cell % 2147483489 + 60013 * a * a + 40009 * a + 733).natAbs < 2 ^ 64
            omega
          · generalize hw1 : ((cell % 2147483489 + 60013 * a * a + 40009 * a + 733) ^ (3 : Int).toNat : Int) = w1
            have w0 := Int.emod_nonneg w1 (show pr ≠ 0 by omega)
            have w2 := Int.emod_lt_of_pos w1 hpr0
            refine ⟨_, rfl, _, rfl, _, _, rfl, rfl, .inl ⟨by decide, by decide⟩, _, _, rfl, rfl, _, _, rfl, rfl, _, _, rfl, rfl, ⟨by decide, by decide, ?_⟩, _, _, rfl, rfl, (by show (0 : Int) < 2147483477; decide), ?_⟩
            · show (w1 % pr + 17 * a + 3).natAbs < 2 ^ 64
              omega
            · refine ⟨_, rfl, _, _, rfl, rfl, .inr ⟨by decide, by decide⟩, _, _, rfl, rfl, (by show (0 : Int) < 2147483423; decide), _, _, rfl, rfl, ⟨by decide, by decide⟩, _, rfl, _, _, rfl, rfl, (by show (0 : Int) < many; omega), ?_⟩
              refine k _ _ (Int.emod_nonneg _ (by omega)) (Int.emod_lt_of_pos _ (by omega)) ⟨⟨a + 1, l, by rw [upd_ne (nqp hq)]; exact hp1, by omega, by omega, hl0⟩, by rw [upd_ne (ne_of_none hc1 hq)]; exact hc1, hlen⟩ (st1.trans (Stay.upd hq))
theorem ok__law_is_whole (T : Txt K mg t) : FnOk P w K mg base CX0 1 t.f__law_is_whole t.d__law_is_whole ["_law_thing"] spWhole := by
  refine T._law_is_whole.F.okQ sc__law_is_whole (fun vs H Q E h => ?_) (fun cdv A outer s H vs Q E hr h => ?_)
  · obtain ⟨v, d, rfl, _⟩ := h
    rfl
  · obtain ⟨v, d, rfl, hd, k⟩ := h
    refine ⟨_, (qss_one (qs_ret (qe_and (qe_callB cq_isinst (by rfl) T.b_isinstance PyProof.Rows.boot_isinstance (qa_cons (qv 0) (qa_cons (qe_bltn (v := .ty "int") rfl T.b_int PyProof.Rows.boot_int rfl) qa_nil))) (qe_one (qe_not (qe_callB cq_isinst (by rfl) T.b_isinstance PyProof.Rows.boot_isinstance (qa_cons (qv 0) (qa_cons (qe_bltn (v := .ty "bool") rfl T.b_bool PyProof.Rows.boot_bool rfl) qa_nil)))))))), ?_⟩
    refine ⟨_, rfl, v, "int", _, _, rfl, hd.ty, kit_int _ d, _, rfl, ?_⟩
    cases d with
    | int i => exact iteT ⟨_, rfl, v, "bool", _, _, rfl, hd.ty, kit_bl _ _, _, rfl, k⟩
    | bl b => exact iteT ⟨_, rfl, v, "bool", _, _, rfl, hd.ty, kit_bl _ _, _, rfl, k⟩
    | _ => exact iteF k
theorem ok__law_truth (T : Txt K mg t) : FnOk P w K mg base CX0 1 t.f__law_truth t.d__law_truth ["_law_found", "_law_due"] spTruth := by
  refine T._law_truth.F.okQ sc__law_truth (fun vs H Q E h => ?_) (fun cdv A outer s H vs Q E hr h => ?_)
  · obtain ⟨a, b, rfl, _⟩ := h
    rfl
  · obtain ⟨a, b, rfl, k⟩ := h
    refine ⟨_, (qss_one (qs_ret (qe_and (qe_callB cq_isinst (by rfl) T.b_isinstance PyProof.Rows.boot_isinstance (qa_cons (qv 0) (qa_cons (qe_bltn (v := .ty "bool") rfl T.b_bool PyProof.Rows.boot_bool rfl) qa_nil))) (qe_one (qe_cmpR oq_eq (qv 0) (qv 1) (nomark _)))))), ?_⟩
    refine ⟨_, rfl, _, "bool", _, _, rfl, TyOf.bl a, kit_bl _ (.bl a), _, rfl, iteT ?_⟩
    refine ⟨_, rfl, _, rfl, rfl, ?_⟩
    rw [dec_bl]
    exact k
theorem ok__law_size (T : Txt K mg t) : FnOk P w K mg base CX0 1 t.f__law_size t.d__law_size ["_law_room_here"] spProd := by
  refine T._law_size.F.okQ sc__law_size (fun vs H Q E h => ?_) (fun cdv A outer s H vs Q E hr h => ?_)
  · obtain ⟨a, ns, rfl, _⟩ := h
    rfl
  · obtain ⟨a, ns, rfl, ha, hb, k⟩ := h
    refine ⟨_, (qss_cons (qs_set (i := 1) sc__law_size.nd rfl (Or.inl rfl) qe_int)
      (qss_cons (qs_for PassesOwn.never rfl (qi_tup (qv 0)) (qg_name (i := 2) sc__law_size.nd rfl (Or.inl rfl)) (qss_one (qs_set (i := 1) sc__law_size.nd rfl (Or.inl rfl) (qe_op oq_mul (qv 1) (qv 2)))))
      (qss_one (qs_ret (qv 1))))), ?_⟩
    refine ⟨_, rfl, a, rfl, ⟨_, .of ha⟩, for_tup (K := K) (xs := ns.map V.int) (fun i σ H2 => H2 = H ∧ ∃ v, σ = [some (.ref a), some (.int (prodI (ns.take i))), v]) ⟨rfl, none, rfl⟩ (fun i σ H2 _ ⟨e, _⟩ => e ▸ .of ha) ?_ ?_⟩
    · rintro i y σ H2 hi ⟨rfl, v, rfl⟩
      rw [List.getElem?_map] at hi
      obtain ⟨z, hz, rfl⟩ := Option.map_eq_some_iff.mp hi
      have hm := hb z (List.mem_of_getElem? hz)
      refine ⟨_, rfl, _, rfl, _, _, rfl, rfl, .inr ⟨by omega, by omega⟩, rfl, some (.int z), ?_⟩
      rw [take_succ_get hz, prodI_snoc]
      rfl
    · rintro σ H2 ⟨rfl, v, rfl⟩
      refine ⟨_, rfl, ?_⟩
      rw [List.length_map, List.take_length]
      exact k
theorem ok__law_room (T : Txt K mg t) : FnOk P w K mg base CX0 2 t.f__law_room t.d__law_room ["_law_pen_here", "_law_most"] spMkRoom := by
  have G__law_draw : FnOk P w K mg base CX0 1 t.f__law_draw t.d__law_draw ["_law_pen_here", "_law_many"] spDraw := ok__law_draw T
  have G__law_size : FnOk P w K mg base CX0 1 t.f__law_size t.d__law_size ["_law_room_here"] spProd := ok__law_size T
  refine T._law_room.F.okQ sc__law_room (fun vs H Q E h => ?_) (fun cdv A outer s H vs Q E hr h => ?_)
  · obtain ⟨p, c, ns, n, most, rfl, _⟩ := h
    rfl
  · obtain ⟨p, c, ns, n, most, rfl, hP, hn, hm4, hm256, k⟩ := h
    refine ⟨_, (qss_cons (qs_set (i := 2) sc__law_room.nd rfl (Or.inl rfl) (qe_fn T._law_draw G__law_draw hr (qa_cons (qv 0) (qa_cons qe_int qa_nil))))
      (qss_cons (qs_set (i := 3) sc__law_room.nd rfl (Or.inl rfl) (qe_ix xq_list (qe_lst (qa_cons qe_int (qa_cons qe_int (qa_cons qe_int (qa_cons qe_int (qa_cons qe_int (qa_cons (qe_op oq_add qe_int (qe_fn T._law_draw G__law_draw hr (qa_cons (qv 0) (qa_cons qe_int qa_nil)))) qa_nil))))))) (qv 2) (fun _ _ => rfl)))
      (qss_cons (qs_set (i := 4) sc__law_room.nd rfl (Or.inl rfl) (qe_tup qa_nil))
      (qss_cons (qs_for PassesOwn.never rfl (qi_range1 rfl T.b_range (qa_cons (qv 3) qa_nil)) (qg_name (i := 5) sc__law_room.nd rfl (Or.inl rfl)) (qss_cons (qs_set (i := 6) sc__law_room.nd rfl (Or.inl rfl) (qe_ix xq_list (qe_lst (qa_cons qe_int (qa_cons qe_int (qa_cons (qe_op oq_add qe_int (qe_fn T._law_draw G__law_draw hr (qa_cons (qv 0) (qa_cons qe_int qa_nil)))) qa_nil)))) (qe_callB (cq_min2 rfl) (by rfl) T.b_min PyProof.Rows.boot_min (qa_cons (qv 2) (qa_cons qe_int qa_nil))) (fun _ _ => rfl)))
      (qss_one (qs_if (qt_cmpR oq_le (qe_op oq_mul (qe_fn T._law_size G__law_size hr (qa_cons (qv 4) qa_nil)) (qv 6)) (qv 1) (nomark _)) (qss_one (qs_set (i := 4) sc__law_room.nd rfl (Or.inl rfl) (qe_op oq_catA (qv 4) (qe_tup (qa_cons (qv 6) qa_nil))))) qss_nil))))
      (qss_one (qs_ret (qv 4))))))), ?_⟩
    -- way
    refine ⟨_, rfl, p, c, ns, n, 6, rfl, hP, by omega, by decide, by decide, fun way H1 w0 w1 P1 S1 => ?_⟩
    -- many
    refine ⟨_, rfl, p, c, ns, n + 1, 8, rfl, P1, by omega, by decide, by decide, fun r H2 r0 r1 P2 S2 => ⟨_, _, rfl, rfl, (by show 6 ≤ sizeLine; decide), fun q hq => ?_⟩⟩
    obtain ⟨mv, hat, hmem⟩ := atI_mem (xs := [.int 8, .int 4, .int 1, .int 8, .int 3, .int (1 + r)]) (i := way) w0 (by simpa using w1)
    obtain ⟨many, rfl, m1, m8⟩ : ∃ many : Int, mv = .int many ∧ 1 ≤ many ∧ many ≤ 8 := by
      simp at hmem
      rcases hmem with rfl | rfl | rfl | rfl | rfl | rfl
      all_goals exact ⟨_, rfl, by omega, by omega⟩
    refine ⟨_, rfl, q, _, _, _, rfl, rfl, SqL.of upd_same, hat, ?_⟩
    have P3 := P2.same (Same.upd (o := .lst [.int 8, .int 4, .int 1, .int 8, .int 3, .int (1 + r)]) hq)
    have S3 : Stay H (upd H2 q (.lst [.int 8, .int 4, .int 1, .int 8, .int 3, .int (1 + r)])) := (S1.trans S2).trans (Stay.upd hq)
    generalize upd H2 q (.lst [.int 8, .int 4, .int 1, .int 8, .int 3, .int (1 + r)]) = H3 at P3 S3 ⊢
    -- found = ()
    refine ⟨by decide, fun q0 hq0 => ?_⟩
    -- the loop
    refine ⟨_, rfl, many, rfl, by omega, by omega, for_range (lo := 0) (n := many.toNat) (fun i σ H4 => ∃ (a : Addr) (rm : List Int) (v1 v2 : Option V), σ = [some (.ref p), some (.int most), some (.int way), some (.int many), some (.ref a), v1, v2] ∧
      H4 a = some (.tup (rm.map V.int)) ∧ (∀ x ∈ rm, 2 ≤ x ∧ x ≤ 4) ∧ prodI rm ≤ most ∧ rm.length ≤ i ∧ (1 ≤ i → rm ≠ []) ∧ Pen H4 p c ns (n + 2 + i) ∧ Stay H H4)
      ⟨q0, [], none, none, rfl, upd_same, fun x hx => by simp at hx, by show (1 : Int) ≤ most; omega, Nat.le_refl _, fun z => absurd z (by decide), P3.same (Same.upd hq0), S3.trans (Stay.upd hq0)⟩ ?_ ?_⟩
    · rintro i σ H4 hi ⟨a, rm, v1, v2, rfl, ha, hb, hp, hl, hne, P4, S4⟩
      have hi8 : i < 8 := by omega
      refine ⟨_, rfl, p, c, ns, n + 2 + i, 3, rfl, P4, by omega, by decide, by decide, fun r' H5 r0' r1' P5 S5 => ⟨_, _, rfl, rfl, (by show 3 ≤ sizeLine; decide), fun q' hq' => ?_⟩⟩
      have hix : 0 ≤ (if (2 : Int) < way then 2 else way) ∧ (if (2 : Int) < way then 2 else way) < 3 := by split <;> omega
      obtain ⟨ov, hat', hmem'⟩ := atI_mem (xs := [.int 2, .int 4, .int (2 + r')]) (i := if (2 : Int) < way then 2 else way) hix.1 (by simpa using hix.2)
      obtain ⟨one, rfl, o2, o4⟩ : ∃ one : Int, ov = .int one ∧ 2 ≤ one ∧ one ≤ 4 := by
        simp at hmem'
        rcases hmem' with rfl | rfl | rfl
        all_goals exact ⟨_, rfl, by omega, by omega⟩
      refine ⟨_, rfl, _, _, rfl, q', _, _, _, rfl, rfl, SqL.of upd_same, hat', ?_⟩
      have P6 := P5.same (Same.upd (o := .lst [.int 2, .int 4, .int (2 + r')]) hq')
      have S6 : Stay H4 (upd H5 q' (.lst [.int 2, .int 4, .int (2 + r')])) := S5.trans (Stay.upd hq')
      generalize upd H5 q' (.lst [.int 2, .int 4, .int (2 + r')]) = H6 at P6 S6 ⊢
      have ha6 := S6.tup ha
      refine ⟨_, rfl, a, rm, rfl, ha6, hb, _, rfl, _, _, rfl, rfl, .inr ⟨by omega, by omega⟩, _, rfl, _, _, rfl, rfl, _, rfl, ite2 (fun h1 => ?_) (fun h1 => ?_)⟩
      · have h1' := of_decide_eq_true h1
        refine ⟨_, rfl, _, rfl, (by show 1 ≤ sizeLine; decide), fun q7 hq7 => ?_⟩
        refine ⟨a, q7, rm.map V.int, [.int one], rfl, rfl, by rw [upd_ne (ne_of_none ha6 hq7)]; exact ha6, upd_same, ?_, fun a' H7 ha7 S7 => ?_⟩
        · rw [List.length_map]
          exact Nat.le_of_lt (small1000 (by simp only [List.length_singleton]; omega))
        · refine ⟨a', rm ++ [one], some (.int (0 + (i : Int))), some (.int one), rfl, ?_, ?_, ?_, ?_, fun _ => by simp, ?_, ?_⟩
          · rw [List.map_append]
            exact ha7
          · intro x hx
            rcases List.mem_append.mp hx with z | z
            · exact hb x z
            · rw [List.mem_singleton.mp z]
              exact ⟨o2, o4⟩
          · rw [prodI_snoc]
            exact h1'
          · rw [List.length_append]
            simp
            omega
          · exact (P6.same fun b o e => S7 b o (Same.upd hq7 b o e)).mono (by omega)
          · exact S4.trans (S6.trans ((Stay.upd hq7).trans (Stay.same S7)))
      · have h1' : ¬ (prodI rm * one ≤ most) := fun z => h1 (decide_eq_true z)
        refine ⟨a, rm, some (.int (0 + (i : Int))), some (.int one), rfl, ha6, hb, hp, by omega, fun _ e => ?_, P6.mono (by omega), S4.trans S6⟩
        subst e
        have : prodI [] = 1 := rfl
        rw [this] at h1'
        omega
    · rintro σ H4 ⟨a, rm, v1, v2, rfl, ha, hb, hp, hl, hne, P4, S4⟩
      exact ⟨_, rfl, k a rm H4 ha (hne (by omega)) (by omega) hb hp (P4.mono (by omega)) S4⟩
theorem ok__law_all (T : Txt K mg t) : FnOk P w K mg base CX0 2 t.f__law_all t.d__law_all ["_law_room_here"] spAll := by
  have G__law_size : FnOk P w K mg base CX0 1 t.f__law_size t.d__law_size ["_law_room_here"] spProd := ok__law_size T
  refine T._law_all.F.okQ sc__law_all (fun vs H Q E h => ?_) (fun cdv A outer s H vs Q E hr h => ?_)
  · obtain ⟨ra, rm, rfl, _⟩ := h
    rfl
  · obtain ⟨ra, rm, rfl, hR, hp, k⟩ := h
    have hlf := hR.few
    have hrr : ∀ m ∈ rm.reverse, 1 ≤ m := fun m hm => by
      have := hR.box m (List.mem_reverse.mp hm)
      omega
    have hsz := sizeR_prod hrr
    rw [List.reverse_reverse] at hsz
    refine ⟨_, (qss_cons (qs_set (i := 1) sc__law_all.nd rfl (Or.inl rfl) (qe_lstN qa_nil))
      (qss_cons (qs_for PassesOwn.never rfl (qi_range1 rfl T.b_range (qa_cons (qe_fn T._law_size G__law_size hr (qa_cons (qv 0) qa_nil)) qa_nil)) (qg_name (i := 2) sc__law_all.nd rfl (Or.inl rfl)) (qss_cons (qs_set (i := 3) sc__law_all.nd rfl (Or.inl rfl) (qe_lstN qa_nil))
      (qss_cons (qs_for PassesOwn.never rfl (qi_tup (qe_revT (qv 0))) (qg_name (i := 4) sc__law_all.nd rfl (Or.inl rfl)) (qss_cons (qs_expr (qe_app (qv 3) (qa_cons (qe_op oq_mod (qv 2) (qv 4)) qa_nil)))
      (qss_one (qs_set (i := 2) sc__law_all.nd rfl (Or.inl rfl) (qe_op oq_fdiv (qv 2) (qv 4))))))
      (qss_one (qs_expr (qe_app (qv 1) (qa_cons (qe_callTy cq_tuple_ofN (by rfl) T.b_tuple PyProof.Rows.boot_tuple (qa_cons (qe_revL (qv 3)) qa_nil)) qa_nil)))))))
      (qss_one (qs_ret (qv 1))))), ?_⟩
    refine ⟨(by show 0 ≤ sizeLine; decide), fun fa H1 nfa g1 S1 => ?_⟩
    refine ⟨_, rfl, ra, rm, rfl, S1 _ _ hR.at', hR.box, ?_⟩
    refine ⟨prodI rm, rfl, by omega, by omega, for_range (lo := 0) (n := (prodI rm).toNat) (fun i σ H2 => ∃ (ys : List V) (v2 v3 v4 : Option V), σ = [some (.ref ra), some (.ref fa), v2, v3, v4] ∧ H2 fa = some (.lst ys) ∧ IsL H2 (((List.range i).map (digsR rm.reverse)).map stD) ys ∧ Same H H2)
      ⟨[], none, none, none, rfl, g1, rfl, S1⟩ ?_ ?_⟩
    · rintro i σ H2 hi ⟨ys, v2, v3, v4, rfl, hf2, hys, S2⟩
      refine ⟨(by show 0 ≤ sizeLine; decide), fun wa H3 nwa g3 S3 => ?_⟩
      have S03 : Same H H3 := fun b o e => S3 _ _ (S2 _ _ e)
      have nwa0 : H wa = none := S2.none nwa
      have hfw : fa ≠ wa := ne_of_none hf2 nwa
      refine ⟨_, rfl, ra, _, rfl, S03 _ _ hR.at', fun rva H4 nrv g4 S4 => ?_⟩
      have nrv0 : H rva = none := S03.none nrv
      have hrw : rva ≠ wa := fun e => by subst e; rw [g3] at nrv; cases nrv
      refine ⟨rva, rfl, ⟨_, .of g4⟩, for_tup (K := K) (xs := (rm.map V.int).reverse) (fun j σ H5 => ∃ (ws : List Int) (kk : Nat) (v4 : Option V), σ = [some (.ref ra), some (.ref fa), some (.int kk), some (.ref wa), v4] ∧ H5 wa = some (.lst (ws.map V.int)) ∧ ws.length = j ∧ digsR rm.reverse i = digsR (rm.reverse.drop j) kk ++ ws.reverse ∧ H5 fa = some (.lst ys) ∧ IsL H5 (((List.range i).map (digsR rm.reverse)).map stD) ys ∧ Same H H5 ∧ H5 rva = some (.tup (rm.map V.int).reverse))
        ⟨[], i, v4, by show [some (V.ref ra), some (.ref fa), some (.int (0 + (i : Int))), some (.ref wa), v4] = _; rw [Int.zero_add], S4 _ _ g3, rfl, by rw [List.drop_zero]; simp, S4 _ _ (S3 _ _ hf2), hys.stay ((Stay.same S3).trans (Stay.same S4)), fun b o e => S4 _ _ (S03 _ _ e), g4⟩ (fun _ _ _ _ ⟨_, _, _, _, _, _, _, _, _, _, h⟩ => .of h) ?_ ?_⟩
      · rintro j y σ H5 hy ⟨ws, kk, v4, rfl, hw5, hwl, hdg, hf5, hy5, S5, hrv5⟩
        rw [← List.map_reverse, List.getElem?_map] at hy
        obtain ⟨m, hm, rfl⟩ := Option.map_eq_some_iff.mp hy
        have hmb := hR.box m (List.mem_reverse.mp (List.mem_of_getElem? hm))
        have hj := (List.getElem?_eq_some_iff.mp hm).1
        rw [List.length_reverse] at hj
        have hdr : rm.reverse.drop j = m :: rm.reverse.drop (j + 1) := by
          obtain ⟨hlt, e⟩ := List.getElem?_eq_some_iff.mp hm
          rw [List.drop_eq_getElem_cons hlt, e]
        rw [hdr] at hdg
        have hdg' : digsR rm.reverse i = digsR (rm.reverse.drop (j + 1)) (kk / m.toNat) ++ [((kk % m.toNat : Nat) : Int)] ++ ws.reverse := hdg
        have e1 : (kk : Int) % m = ((kk % m.toNat : Nat) : Int) := by
          rw [Int.natCast_emod, show ((m.toNat : Nat) : Int) = m by omega]
        have e2 : (kk : Int) / m = ((kk / m.toNat : Nat) : Int) := by
          rw [Int.natCast_ediv, show ((m.toNat : Nat) : Int) = m by omega]
        refine ⟨_, rfl, .inl ⟨rfl, _, SqL.of hw5⟩, _, rfl, _, rfl, _, _, rfl, rfl, (by show 0 < m; omega), wa, _, _, rfl, rfl, hw5, small1000 (by rw [List.length_map]; omega), ?_⟩
        refine ⟨_, rfl, _, rfl, _, _, rfl, rfl, ⟨by omega, by omega⟩, ?_⟩
        refine ⟨ws ++ [((kk % m.toNat : Nat) : Int)], kk / m.toNat, some (.int m), ?_, ?_, by rw [List.length_append, hwl]; rfl, ?_, ?_, ?_, ?_, ?_⟩
        · show [some (V.ref ra), some (.ref fa), some (.int ((kk : Int) / m)), some (.ref wa), some (.int m)] = _
          rw [e2]
        · rw [upd_same, List.map_append]
          show some (HO.lst (_ ++ [V.int ((kk : Int) % m)])) = _
          rw [e1]
          rfl
        · rw [hdg', List.reverse_append, List.append_assoc]
          rfl
        · rw [upd_ne hfw]
          exact hf5
        · exact IsL.stayT (StayT.app hw5) (noLs_sts _) hy5
        · exact same_acc nwa0 S5
        · rw [upd_ne hrw]
          exact hrv5
      · rintro σ H5 ⟨ws, kk, v4, rfl, hw5, hwl, hdg, hf5, hy5, S5, hrv5⟩
        rw [List.length_reverse, List.length_map] at hwl hdg
        have hdn : rm.reverse.drop rm.length = [] := List.drop_eq_nil_of_le (by rw [List.length_reverse]; exact Nat.le_refl _)
        rw [hdn] at hdg
        have hdg' : digsR rm.reverse i = ws.reverse := by rw [hdg]; rfl
        refine ⟨_, rfl, .inl ⟨rfl, _, SqL.of hf5⟩, _, rfl, wa, _, rfl, hw5, fun l1 H6 _ g6 S6 => ⟨l1, _, rfl, .inl ⟨.of g6, fun t1 H7 _ g7 S7 => ?_⟩⟩⟩
        have S57 : Same H5 H7 := fun b o e => S7 _ _ (S6 _ _ e)
        have hyl := hy5.length
        rw [List.length_map, List.length_map, List.length_range] at hyl
        refine ⟨fa, ys, _, rfl, rfl, S57 _ _ hf5, small1000 (by omega), ?_⟩
        refine ⟨ys ++ [.ref t1], _, _, _, rfl, upd_same, ?_, same_acc nfa fun b o e => S57 _ _ (S5 _ _ e)⟩
        refine IsL.stayT (StayT.app (S57 _ _ hf5)) (noLs_sts _) ?_
        rw [List.range_succ, List.map_append, List.map_append]
        refine (hy5.stay (Stay.same S57)).append (IsL.one ⟨t1, _, rfl, g7, ?_⟩)
        rw [hdg', ← List.map_reverse]
        exact IsL.ints
    · rintro σ H2 ⟨ys, v2, v3, v4, rfl, hf2, hys, S2⟩
      refine ⟨_, rfl, k fa ys H2 nfa hf2 ?_ S2⟩
      rw [show sizeR rm.reverse = (prodI rm).toNat by omega]
      exact hys
theorem ok__law_standing (T : Txt K mg t) : FnOk P w K mg base CX0 2 t.f__law_standing t.d__law_standing ["_law_pen_here", "_law_room_here"] spMkStanding := by
  have G__law_draw : FnOk P w K mg base CX0 1 t.f__law_draw t.d__law_draw ["_law_pen_here", "_law_many"] spDraw := ok__law_draw T
  refine T._law_standing.F.okQ sc__law_standing (fun vs H Q E h => ?_) (fun cdv A outer s H vs Q E hr h => ?_)
  · obtain ⟨p, c, ra, ns, rm, n, rfl, _⟩ := h
    rfl
  · obtain ⟨p, c, ra, ns, rm, n, rfl, hP, hn, hR, k⟩ := h
    have hpos := hR.pos
    have hfew := hR.few
    refine ⟨_, (qss_cons (qs_set (i := 2) sc__law_standing.nd rfl (Or.inl rfl) (qe_fn T._law_draw G__law_draw hr (qa_cons (qv 0) (qa_cons qe_int qa_nil))))
      (qss_cons (qs_setC (ix := 3) sc__law_standing.nd rfl rfl (N := ["_law_many", "_law_pen_here"]) (cix := [none, some 0]) rfl ⟨rfl, by decide +kernel, rfl⟩ (qi_tup (qv 1)) (fun _ _ _ _ => (qg_name (i := 0) (show (["_law_many", "_law_pen_here"] : List Str).Nodup by decide +kernel) rfl (Or.inl rfl))) (fun _ _ _ _ => qts_nil) (fun _ _ _ _ => (qe_fn T._law_draw G__law_draw hr (qa_cons (qv 1) (qa_cons (qv 0) qa_nil)))))
      (qss_cons (qs_if (qt_cmpR oq_eq (qv 2) qe_int (nomark _)) (qss_one (qs_ret (qe_op oq_repT (qe_tupN (qa_cons qe_int qa_nil)) (qe_callB cq_len (by rfl) T.b_len PySem.boot_len (qa_cons (qv 1) qa_nil))))) qss_nil)
      (qss_cons (qs_if (qt_cmpR oq_eq (qv 2) qe_int (nomark _)) (qss_one (qs_ret (qe_callTy cq_tuple_ofN (by rfl) T.b_tuple PyProof.Rows.boot_tuple (qa_cons (qe_compG (N := ["_law_many"]) (cix := [none]) rfl ⟨rfl, by decide +kernel, rfl⟩ (qi_tup (qv 1)) (fun _ _ _ _ => (qg_name (i := 0) (show (["_law_many"] : List Str).Nodup by decide +kernel) rfl (Or.inl rfl))) (fun _ _ _ _ => qts_nil) (fun _ _ _ _ => (qe_op oq_sub (qv 0) qe_int))) qa_nil)))) qss_nil)
      (qss_one (qs_ret (qe_callTy cq_tuple_ofN (by rfl) T.b_tuple PyProof.Rows.boot_tuple (qa_cons (qv 3) qa_nil)))))))), ?_⟩
    refine ⟨_, rfl, p, c, ns, n, 5, rfl, hP, by omega, by decide, by decide, fun way H1 w0 w1 P1 S1 => ?_⟩
    have hR1 := hR.stay S1
    refine ⟨_, rfl, ra, rfl, ⟨_, .of hR1.at'⟩, fun acc hacc => ?_⟩
    have hca : c ≠ acc := ne_of_none P1.ls hacc
    refine comp_tup (xs := rm.map V.int) hacc (fun i σ' H' => (∃ v, σ' = [v, some (.ref p)]) ∧ ∃ st : List Int, H' acc = some (.lst (st.map V.int)) ∧ st.length = i ∧ (∀ b : Int, 0 ≤ b → b < st.length → 0 ≤ many st b ∧ many st b < many rm b) ∧ Pen H' p c ns (n + 1 + i) ∧ Stay H1 H')
      (fun H' z1 z2 => ⟨⟨_, rfl⟩, [], z1, rfl, fun b b0 b1 => absurd b1 (by simp; omega), P1.same z2, Stay.same z2⟩) (fun _ _ _ _ ⟨_, _, _, _, _, _, S⟩ => .of (hR1.stay S).at') ?_ ?_
    · rintro i y σ' H' hx ⟨⟨v, rfl⟩, st, hac, hsl, hst, P', S'⟩
      rw [List.getElem?_map] at hx
      obtain ⟨m, hm, rfl⟩ := Option.map_eq_some_iff.mp hx
      have hmb := hR.box m (List.mem_of_getElem? hm)
      have hi := (List.getElem?_eq_some_iff.mp hm).1
      refine compNo ⟨_, rfl, _, rfl, p, c, ns, n + 1 + i, m, rfl, P', by omega, by omega, by omega, fun r H2 r0 r1 P2 S2 => ?_⟩
      refine ⟨_, S2.lst hac, small1000 (by rw [List.length_map]; omega), ⟨_, rfl⟩, st ++ [r], by rw [upd_same, List.map_append]; rfl, by rw [List.length_append, hsl]; rfl, fun b b0 b1 => ?_, P2.app (S2.lst hac) hca, stay_acc hacc (S'.trans S2)⟩
      rw [List.length_append] at b1
      by_cases hb : b < (st.length : Int)
      · rw [many_snoc_lt b0 hb]
        exact hst b b0 hb
      · have : b = (st.length : Int) := by
          have : b < (st.length : Int) + 1 := by simpa using b1
          omega
        subst this
        rw [many_snoc_eq, hsl, many_of_get hm]
        exact ⟨r0, r1⟩
    · rintro σ' H' ⟨⟨v, rfl⟩, st, hac, hsl, hst, P', S'⟩
      rw [List.length_map] at hsl P'
      have hR' := hR1.stay S'
      refine ⟨_, rfl, rfl, _, rfl, ite2 (fun h1 => ?_) (fun h1 => ?_)⟩
      · refine ⟨(by show 1 ≤ sizeLine; decide), fun t1 H3 _ g3 S3 => ?_⟩
        refine ⟨_, rfl, _, _, rfl, .inr ⟨_, .of (S3 _ _ hR'.at'), rfl⟩, ?_⟩
        refine ⟨t1, _, _, rfl, rfl, g3, by rw [List.length_map]; omega, by rw [List.length_map]; omega, by simp, ?_, fun t2 H4 g4 S4 => ?_⟩
        · rw [List.length_map]
          exact Nat.le_of_lt (small1000 (by simp; omega))
        · have e : (List.replicate (((rm.map V.int).length : Nat) : Int).toNat [V.int 0]).flatten = (List.replicate rm.length (0 : Int)).map V.int := by
            rw [rep_flat, List.length_map, Int.toNat_natCast]
          rw [e] at g4
          refine k t2 (List.replicate rm.length 0) H4 g4 (by simp) (fun b b0 b1 => ?_) (((P'.same S3).same S4).mono (by omega)) (S1.trans (S'.trans ((Stay.same S3).trans (Stay.same S4))))
          rw [many_rep b0 b1]
          have := room_many hR.box b0 b1
          omega
      refine ⟨_, rfl, rfl, _, rfl, ite2 (fun h2 => ?_) (fun h2 => ?_)⟩
      · refine ⟨_, rfl, ra, rfl, ⟨_, .of hR'.at'⟩, fun acc2 hacc2 => ?_⟩
        refine comp_tup (xs := rm.map V.int) hacc2 (fun i σ' H2 => (∃ v, σ' = [v]) ∧ H2 acc2 = some (.lst (((rm.take i).map (· - 1)).map V.int)) ∧ Same H' H2) (fun H2 z1 z2 => ⟨⟨_, rfl⟩, z1, z2⟩) (fun _ _ _ _ ⟨_, _, S⟩ => .of (S _ _ hR'.at')) ?_ ?_
        · rintro i y σ' H2 hx ⟨⟨v, rfl⟩, hac2, S2⟩
          rw [List.getElem?_map] at hx
          obtain ⟨m, hm, rfl⟩ := Option.map_eq_some_iff.mp hx
          refine compNo ⟨_, rfl, _, _, rfl, rfl, _, hac2, small1000 (by rw [List.length_map, List.length_map, List.length_take]; omega), ⟨_, rfl⟩, ?_, same_acc hacc2 S2⟩
          rw [upd_same, take_succ_get hm, List.map_append, List.map_append]
          rfl
        · rintro σ' H2 ⟨⟨v, rfl⟩, hac2, S2⟩
          rw [List.length_map, List.take_length] at hac2
          refine ⟨acc2, _, rfl, .inl ⟨.of hac2, fun l H3 _ g3 S3 => ?_⟩⟩
          refine k l (rm.map (· - 1)) H3 g3 (by simp) (fun b b0 b1 => ?_) (((P'.same S2).same S3).mono (by omega)) (S1.trans (S'.trans ((Stay.same S2).trans (Stay.same S3))))
          rw [many_map b0 b1]
          have := room_many hR.box b0 b1
          omega
      · refine ⟨_, rfl, acc, _, rfl, .inl ⟨.of hac, fun l H3 _ g3 S3 => ?_⟩⟩
        exact k l st H3 g3 (by omega) (fun b b0 b1 => hst b b0 (by omega)) ((P'.same S3).mono (by omega)) (S1.trans (S'.trans (Stay.same S3)))
theorem ok__law_given (T : Txt K mg t) : FnOk P w K mg base CX0 2 t.f__law_given t.d__law_given ["_law_pen_here", "_law_room_here", "_law_apart"] spMkGiven := by
  have G__law_draw : FnOk P w K mg base CX0 1 t.f__law_draw t.d__law_draw ["_law_pen_here", "_law_many"] spDraw := ok__law_draw T
  refine T._law_given.F.okQ sc__law_given (fun vs H Q E h => ?_) (fun cdv A outer s H vs Q E hr h => ?_)
  · obtain ⟨p, c, ra, ns, rm, n, apart, rfl, _⟩ := h
    rfl
  · obtain ⟨p, c, ra, ns, rm, n, apart, rfl, hP, hn, hR, k⟩ := h
    have hpos := hR.pos
    have hfew := hR.few
    refine ⟨_, (qss_cons (qs_set (i := 3) sc__law_given.nd rfl (Or.inl rfl) (qe_fn T._law_draw G__law_draw hr (qa_cons (qv 0) (qa_cons qe_int qa_nil))))
      (qss_cons (qs_set (i := 4) sc__law_given.nd rfl (Or.inl rfl) (qe_fn T._law_draw G__law_draw hr (qa_cons (qv 0) (qa_cons (qe_callB cq_len (by rfl) T.b_len PySem.boot_len (qa_cons (qv 1) qa_nil)) qa_nil))))
      (qss_cons (qs_set (i := 5) sc__law_given.nd rfl (Or.inl rfl) (qe_lst qa_nil))
      (qss_cons (qs_for PassesOwn.never rfl (qi_enum rfl T.b_enumerate (qa_cons (qv 1) qa_nil)) (qg_tup rfl (qgs_cons (qg_name (i := 6) sc__law_given.nd rfl (Or.inl rfl)) (qgs_cons (qg_name (i := 7) sc__law_given.nd rfl (Or.inl rfl)) qgs_nil))) (qss_cons (qs_set (i := 8) sc__law_given.nd rfl (Or.inl rfl) (qe_fn T._law_draw G__law_draw hr (qa_cons (qv 0) (qa_cons (qv 7) qa_nil))))
      (qss_cons (qs_set (i := 9) sc__law_given.nd rfl (Or.inl rfl) (qe_ix xq_list (qe_lst (qa_cons qe_bl (qa_cons qe_bl (qa_cons (qe_cmpR oq_eq (qv 6) (qv 4) (nomark _)) (qa_cons (qe_cmpR oq_eq (qe_fn T._law_draw G__law_draw hr (qa_cons (qv 0) (qa_cons qe_int qa_nil))) qe_int (nomark _)) (qa_cons (qe_cmpR oq_eq (qe_fn T._law_draw G__law_draw hr (qa_cons (qv 0) (qa_cons qe_int qa_nil))) qe_int (nomark _)) qa_nil)))))) (qv 3) (fun _ _ => rfl)))
      (qss_one (qs_if (QW.pt (qw_and (qt_val (qv 9)) (qw_and1 (qt_cmpR oq_ne (qv 6) (qv 2) (nomark _))))) (qss_one (qs_expr (qe_app (qv 5) (qa_cons (qe_tup (qa_cons (qv 6) (qa_cons (qv 8) qa_nil))) qa_nil)))) qss_nil)))))
      (qss_one (qs_ret (qe_callTy cq_tuple_of (by rfl) T.b_tuple PyProof.Rows.boot_tuple (qa_cons (qv 5) qa_nil)))))))), ?_⟩
    refine ⟨_, rfl, p, c, ns, n, 5, rfl, hP, by omega, by decide, by decide, fun way H1 w0 w1 P1 S1 => ?_⟩
    have hR1 := hR.stay S1
    refine ⟨_, rfl, _, rfl, _, _, rfl, .inr ⟨_, .of hR1.at', rfl⟩, p, c, ns, n + 1, _, rfl, P1, by omega, by rw [List.length_map]; omega, by rw [List.length_map]; omega, fun lone H2 l0 l1 P2 S2 => ?_⟩
    refine ⟨by decide, fun fa hfa => ?_⟩
    have S12 := S1.trans S2
    have hfa0 : ∀ b o, H b = some o → (∀ kvs, o = .dK kvs → valV kvs (Sum.inr "at" : Key) = none) → b ≠ fa := fun b o e nn => ne_of_none (S12 b o e nn) hfa
    refine ⟨_, rfl, ra, rfl, ⟨_, .of ((hR1.stay S2).stay (Stay.upd hfa)).at'⟩, for_enum (K := K) (xs := rm.map V.int) (fun i σ H3 => ∃ (g : List (Int × Int)) (gs : List V) (v1 v2 v3 v4 : Option V),
      σ = [some (.ref p), some (.ref ra), some (.int apart), some (.int way), some (.int lone), some (.ref fa), v1, v2, v3, v4] ∧ H3 fa = some (.lst gs) ∧ IsL H3 (g.map pairD) gs ∧ Giv rm g ∧ (∀ q ∈ g, q.1 < i ∧ q.1 ≠ apart) ∧ g.length ≤ i ∧ Pen H3 p c ns (n + 2 + 3 * i) ∧ Stay H H3)
      ⟨[], [], none, none, none, none, rfl, upd_same, rfl, ⟨fun q hq => by simp at hq, List.Pairwise.nil⟩, fun q hq => by simp at hq, Nat.le_refl _, P2.same (Same.upd hfa), S12.trans (Stay.upd hfa)⟩
      (fun i σ H3 _ ⟨g, gs, v1, v2, v3, v4, _, _, _, _, _, _, _, S3⟩ => .of (hR.stay S3).at') ?_ ?_⟩
    · rintro i x TT σ H3 hi ⟨g, gs, v1, v2, v3, v4, rfl, hf3, hg3, hG, hq, hgl, P3, S3⟩ hTT
      rw [List.getElem?_map] at hi
      obtain ⟨mi, hmi, rfl⟩ := Option.map_eq_some_iff.mp hi
      have hil : i < rm.length := (List.getElem?_eq_some_iff.mp hmi).1
      have hmb := hR.box mi (List.mem_of_getElem? hmi)
      have hmany : many rm (i : Int) = mi := by unfold many; simp [hmi]
      have P3' := P3.same (Same.upd (o := .tup [.int (i : Int), .int mi]) hTT)
      have S34 : Stay H3 (upd H3 TT (.tup [.int (i : Int), .int mi])) := Stay.upd hTT
      have hT4 : upd H3 TT (.tup [.int (i : Int), .int mi]) TT = some (.tup [.int (i : Int), .int mi]) := upd_same
      generalize upd H3 TT (.tup [.int (i : Int), .int mi]) = H4 at P3' S34 hT4 ⊢
      refine ⟨TT, _, rfl, .of hT4, rfl, _, _, rfl, _, _, rfl, rfl, ?_⟩
      refine ⟨_, rfl, _, rfl, p, c, ns, n + 2 + 3 * i, mi, rfl, P3', by omega, by omega, by omega, fun worth H5 wo0 wo1 P5 S5 => ?_⟩
      refine ⟨_, rfl, _, rfl, rfl, ?_⟩
      refine ⟨_, rfl, p, c, ns, n + 2 + 3 * i + 1, 2, rfl, P5, by omega, by decide, by decide, fun r1 H6 _ _ P6 S6 => ⟨rfl, ?_⟩⟩
      refine ⟨_, rfl, p, c, ns, n + 2 + 3 * i + 2, 4, rfl, P6, by omega, by decide, by decide, fun r2 H7 _ _ P7 S7 => ⟨rfl, (by show 5 ≤ sizeLine; decide), fun q hq7 => ?_⟩⟩
      obtain ⟨v, hat, hmem⟩ := atI_mem (i := way) (xs := [.bl false, .bl true, .bl (decide (V.int i = V.int lone)), .bl (decide (V.int r1 = V.int 0)), .bl (decide (V.int r2 = V.int 0))]) w0 (by simpa using w1)
      have hb : ∃ b, v = .bl b := by
        simp only [List.mem_cons, List.not_mem_nil, or_false] at hmem
        rcases hmem with rfl | rfl | rfl | rfl | rfl <;> exact ⟨_, rfl⟩
      obtain ⟨b, rfl⟩ := hb
      have S8 : Same H7 (upd H7 q (.lst [.bl false, .bl true, .bl (decide (V.int i = V.int lone)), .bl (decide (V.int r1 = V.int 0)), .bl (decide (V.int r2 = V.int 0))])) := Same.upd hq7
      refine ⟨_, rfl, q, _, _, _, rfl, rfl, SqL.of upd_same, hat, ?_⟩
      generalize upd H7 q (.lst [.bl false, .bl true, .bl (decide (V.int i = V.int lone)), .bl (decide (V.int r1 = V.int 0)), .bl (decide (V.int r2 = V.int 0))]) = H8 at S8 ⊢
      have P8 := P7.same S8
      have S38 : Stay H3 H8 := (S34.trans S5).trans ((S6.trans S7).trans (Stay.same S8))
      have hf8 := S38.lst hf3
      have hg8 := hg3.stay S38
      have S8' := S3.trans S38
      have skip : ∀ v1 v2 v3 v4 : Option V, ∃ (g' : List (Int × Int)) (gs' : List V) (u1 u2 u3 u4 : Option V), [some (.ref p), some (.ref ra), some (.int apart), some (.int way), some (.int lone), some (.ref fa), v1, v2, v3, v4] = [some (.ref p), some (.ref ra), some (.int apart), some (.int way), some (.int lone), some (.ref fa), u1, u2, u3, u4] ∧ H8 fa = some (.lst gs') ∧ IsL H8 (g'.map pairD) gs' ∧ Giv rm g' ∧ (∀ q ∈ g', q.1 < ((i + 1 : Nat) : Int) ∧ q.1 ≠ apart) ∧ g'.length ≤ i + 1 ∧ Pen H8 p c ns (n + 2 + 3 * (i + 1)) ∧ Stay H H8 := fun v1 v2 v3 v4 =>
        ⟨g, gs, v1, v2, v3, v4, rfl, hf8, hg8, hG, fun q hq' => ⟨by have := (hq q hq').1; omega, (hq q hq').2⟩, by omega, P8.mono (by omega), S8'⟩
      refine ⟨_, rfl, b, rfl, ite2 (fun h1 => ?_) (fun h1 => ?_)⟩
      · refine ⟨_, rfl, _, rfl, rfl, _, rfl, ite2 (fun h2 => ?_) (fun h2 => ?_)⟩
        · have h2' : (i : Int) ≠ apart := fun e => by rw [e] at h2; simp at h2
          refine ⟨_, rfl, .inl ⟨rfl, _, SqL.of hf8⟩, _, rfl, _, rfl, (by show 2 ≤ sizeLine; decide), fun T9 hT9 => ?_⟩
          have hf9 : upd H8 T9 (.tup [.int (i : Int), .int worth]) fa = some (.lst gs) := Same.upd hT9 _ _ hf8
          have hc : c ≠ fa := hfa0 _ _ hP.ls (fun _ e => by cases e)
          refine ⟨fa, gs, _, rfl, rfl, hf9, ?_, ?_⟩
          · have e1 := hg3.length
            rw [List.length_map] at e1
            rw [e1]
            refine Nat.lt_of_lt_of_le (Nat.lt_of_le_of_lt hgl (Nat.lt_of_lt_of_le hil hfew)) ?_
            show 8 ≤ sizeLine
            decide
          · have S89 : Stay H8 (upd H8 T9 (.tup [.int (i : Int), .int worth])) := Stay.upd hT9
            refine ⟨g ++ [((i : Int), worth)], gs ++ [.ref T9], _, _, _, _, rfl, upd_same, ?_, hG.snoc (fun q hq' => (hq q hq').1) (by omega) (by omega) wo0 (by rw [hmany]; exact wo1), ?_, by rw [List.length_append]; show g.length + 1 ≤ i + 1; omega, ((P8.same (Same.upd hT9)).app hf9 hc).mono (by omega), stay_app (S8'.trans S89) hfa0⟩
            · rw [List.map_append]
              refine IsL.stayT (StayT.app hf9) ?_ ?_
              · rw [← List.map_append]; exact noL_pairs _
              · exact (hg8.stay S89).append (IsL.one ⟨T9, _, rfl, upd_same, IsL.ints (ns := [(i : Int), worth])⟩)
            · intro q hq'
              rcases List.mem_append.mp hq' with z | z
              · exact ⟨by have := (hq q z).1; omega, (hq q z).2⟩
              · rw [List.mem_singleton.mp z]; exact ⟨by show (i : Int) < ((i + 1 : Nat) : Int); omega, h2'⟩
        · exact skip _ _ _ _
      · exact iteF (skip _ _ _ _)
    · rintro σ H3 ⟨g, gs, v1, v2, v3, v4, rfl, hf3, hg3, hG, hq, hgl, P3, S3⟩
      rw [List.length_map] at hgl P3
      refine ⟨_, rfl, fa, gs, rfl, .inl ⟨.of hf3, fun l hl => ?_⟩⟩
      exact k l g _ ⟨l, gs, rfl, upd_same, hg3.stay (Stay.upd hl)⟩ hG (fun q hq' => (hq q hq').2) (by omega) ((P3.same (Same.upd hl)).mono (by omega)) (S3.trans (Stay.upd hl))
theorem okv_combined (T : Txt K mg t) : FnOk P w K mg base CX0 1 t.f_combined t.d_combined ["choices"] (spV 1 true F_combined) := FnOk.lift (FnOk.mono (ok_combined T) (by decide)) lift_combined
theorem okv_keeps (T : Txt K mg t) : FnOk P w K mg base CX0 1 t.f_keeps t.d_keeps ["standing", "given"] (spV 2 false F_keeps) := FnOk.lift (FnOk.mono (ok_keeps T) (by decide)) lift_keeps
theorem okv__law_draw (T : Txt K mg t) : FnOk P w K mg base CX0 1 t.f__law_draw t.d__law_draw ["_law_pen_here", "_law_many"] (spV 2 false F_draw) := FnOk.lift (FnOk.mono (ok__law_draw T) (by decide)) lift_draw
theorem okv__law_is_whole (T : Txt K mg t) : FnOk P w K mg base CX0 1 t.f__law_is_whole t.d__law_is_whole ["_law_thing"] (spV 1 false F_whole) := FnOk.lift (FnOk.mono (ok__law_is_whole T) (by decide)) lift_whole
theorem okv__law_truth (T : Txt K mg t) : FnOk P w K mg base CX0 1 t.f__law_truth t.d__law_truth ["_law_found", "_law_due"] (spV 2 false F_truth) := FnOk.lift (FnOk.mono (ok__law_truth T) (by decide)) lift_truth
theorem okv__law_size (T : Txt K mg t) : FnOk P w K mg base CX0 1 t.f__law_size t.d__law_size ["_law_room_here"] (spV 1 false F_prod) := FnOk.lift (FnOk.mono (ok__law_size T) (by decide)) lift_prod
theorem okv__law_room (T : Txt K mg t) : FnOk P w K mg base CX0 2 t.f__law_room t.d__law_room ["_law_pen_here", "_law_most"] (spV 2 false F_mkRoom) := FnOk.lift (FnOk.mono (ok__law_room T) (by decide)) lift_mkRoom
theorem okv__law_all (T : Txt K mg t) : FnOk P w K mg base CX0 2 t.f__law_all t.d__law_all ["_law_room_here"] (spV 1 true F_all) := FnOk.lift (FnOk.mono (ok__law_all T) (by decide)) lift_all
theorem okv__law_standing (T : Txt K mg t) : FnOk P w K mg base CX0 2 t.f__law_standing t.d__law_standing ["_law_pen_here", "_law_room_here"] (spV 2 false F_mkStanding) := FnOk.lift (FnOk.mono (ok__law_standing T) (by decide)) lift_mkStanding
theorem okv__law_given (T : Txt K mg t) : FnOk P w K mg base CX0 2 t.f__law_given t.d__law_given ["_law_pen_here", "_law_room_here", "_law_apart"] (spV 3 false F_mkGiven) := FnOk.lift (FnOk.mono (ok__law_given T) (by decide)) lift_mkGiven
def F_lkeeps : FV := fun _ ws n R => ∃ st g, ws = [.d (stD st), .d (givD g)] ∧ (∀ q ∈ g, 0 ≤ q.1 ∧ q.1 < st.length) ∧ g.length ≤ 100 ∧ R (.d (.bl (keepsB st g))) n
theorem okv__law_keeps (T : Txt K mg t) : FnOk P w K mg base CX0 1 t.f__law_keeps t.d__law_keeps ["_law_standing_here", "_law_base"] (spV 2 false F_lkeeps) := by
  refine Fun.okV (k := 0) (fr := false) [] T._law_keeps.F sc__law_keeps rfl (by decide) fun cdv A outer s H E Pn hr => ⟨_, (jss_one (js_ret (j_cmp (oq_eqD hr.units) v_eqD (JE.bo (j_comp (N := ["_law_one", "_law_standing_here"]) (cix := [none, some 0]) rfl ⟨rfl, by decide +kernel, rfl⟩ (ji_tup K rfl (j_var 1)) (fun _ _ _ _ => (jg_name (i := 0) (show (["_law_one", "_law_standing_here"] : List Str).Nodup by decide +kernel) rfl (Or.inl rfl))) (fun _ _ _ _ => (jts_one (jt_cmp oq_ne v_ne (JE.bo (j_ix xq_tup v_ixT (j_bor 1) (JE.bo (j_ix xq_tup v_ixT (j_bor 0) (JE.bo j_int) (fun _ _ => rfl))) (fun _ _ => rfl))) (JE.bo (j_ix xq_tup v_ixT (j_bor 0) (JE.bo j_int) (fun _ _ => rfl))) (nomark _)))) (fun _ _ _ _ => (j_var 0)))) (JE.bo (j_lst ja_nil)) (nomark _)))), fun ws n R hl hF => ?_⟩
  obtain ⟨st, g, rfl, hg, hg8, r⟩ := hF
  try walk_at "rd"
  refine comp_pure g (fun q => .d (pairD q)) (by rw [List.map_map]; rfl) (fun ρ => ∃ v, ρ = [v, some (.d (stD st))]) (fun q => !decide (many st q.1 = q.2)) pairD (Nat.le_trans hg8 (by decide)) ⟨_, rfl⟩ ?_ ?_
  · rintro q hq ρ' ⟨v, rfl⟩ C hC
    have hb := hg q hq
    try walk_at "rd"
    simp only [at_many hb.1 hb.2]
    try walk_at "rd"
    have := hC [some (.d (pairD q)), some (.d (stD st))] ⟨_, rfl⟩
    by_cases hq : many st q.1 = q.2
    · simpa [hq] using this
    · simpa [hq] using this
  · refine ⟨_, _, rfl, rfl, eqOk_pairs.2, (eqOk_pairs (g := [])).2, fun b hb => ?_⟩
    have e : b = keepsB st g := by
      rw [Bool.eq_iff_iff, hb, keepsB, List.all_eq_true]
      constructor
      · intro z q hq
        apply Classical.byContradiction
        intro hn
        have : q ∈ g.filter (fun q => !decide (many st q.1 = q.2)) := List.mem_filter.mpr ⟨hq, by simpa using hn⟩
        have z' := List.map_eq_nil_iff.mp (Dt.lst.inj z)
        rw [z'] at this
        simp at this
      · intro z
        have : g.filter (fun q => !decide (many st q.1 = q.2)) = [] := List.filter_eq_nil_iff.mpr fun q hq => by simpa using z q hq
        rw [this]
        rfl
    rw [e]
    exact r
def F_keeping : FV := fun _ ws n R => ∃ rm g, ws = [.d (stD rm), .d (givD g)] ∧ RoomOk rm ∧ Giv rm g ∧ R (.d (stsD (keepC rm g))) n
theorem okv_keeping (T : Txt K mg t) : FnOk P w K mg base CX0 2 t.f_keeping t.d_keeping ["room", "given"] (spV 2 true F_keeping) := by
  have G_combined : FnOk P w K mg base CX0 1 t.f_combined t.d_combined ["choices"] (spV 1 true F_combined) := okv_combined T
  refine Fun.okV (k := 1) (fr := true) [] T.keeping.F sc_keeping rfl (by decide) fun cdv A outer s H E Pn hr => ⟨_, (jss_cons (js_set (i := 2) sc_keeping.nd rfl (Or.inr rfl) (j_callTy (cq_dictT rfl) v_dictT (by rfl) T.b_dict PyProof.Rows.boot_dict (jab_cons (j_bor 1) jab_nil)))
      (jss_one (js_ret (j_fn T.combined G_combined hr (ja_cons (j_comp (N := ["box", "worths", "fixed"]) (cix := [none, none, some 2]) rfl ⟨rfl, by decide +kernel, rfl⟩ (ji_enum rfl T.b_enumerate (ja_cons (j_var 0) ja_nil)) (fun _ _ _ _ => (jg_tup (n := 2) K rfl rfl (jgs_cons (jg_name (i := 0) (show (["box", "worths", "fixed"] : List Str).Nodup by decide +kernel) rfl (Or.inl rfl)) (jgs_cons (jg_name (i := 1) (show (["box", "worths", "fixed"] : List Str).Nodup by decide +kernel) rfl (Or.inl rfl)) jgs_nil)))) (fun _ _ _ _ => jts_nil) (fun _ _ _ _ => (j_if (jt_din (hu_of hr) (j_bor 0) (j_bor 2)) (j_lst (ja_cons (j_dget (hu_of hr) (j_bor 2) (j_bor 0) (fun _ _ => rfl)) ja_nil)) (j_listRng T.b_list T.b_range (jab_cons (j_bor 1) jab_nil))))) ja_nil))))), fun ws n R hl hF => ?_⟩
  obtain ⟨rm, g, rfl, hR, hG, r⟩ := hF
  try walk_at "rd"
  have hps : g.map pairD = (g.map fun q => (q.1, Dt.int q.2)).map prD := by rw [List.map_map]; rfl
  have hfew := giv_few hG hR.few
  have hnd : (g.map (·.1)).Nodup := List.Pairwise.map (fun q : Int × Int => q.1) (fun a b h e => by omega) hG.up
  refine ⟨g.map fun q => (q.1, Dt.int q.2), by rw [← hps]; rfl, ?_, by rw [List.length_map]; omega, ?_⟩
  · rw [List.map_map]
    exact hnd
  try walk_at "rd"
  generalize hkv : List.map kvD (List.map (fun q : Int × Int => (q.1, Dt.int q.2)) g) = kvs
  have hlook : ∀ i : Nat, lookD kvs (Sum.inl (i : Int)) = (gw g i).map Dt.int := fun i => by
    rw [← hkv]
    exact look_gw g i
  refine comp_map (List.range rm.length) (fun i => W.d (.tup [.int (i : Int), .int (rm.getD i 0)])) (enW_rng rm) (fun ρ => ∃ a b, ρ = [a, b, some (.dk kvs)]) (fun i => lsD (cho rm g i)) (Nat.le_trans (by rw [List.length_range]; exact hR.few) (by decide)) ⟨_, _, rfl⟩ ?_ ?_
  · rintro i hi ρ' ⟨a, b, rfl⟩ C hC
    have hi' := List.mem_range.mp hi
    have hb := hR.box _ (List.getElem_mem hi')
    have e : rm.getD i 0 = rm[i] := by simp [hi']
    have hC' := hC [some (.d (.int (i : Int))), some (.d (.int (rm.getD i 0))), some (.dk kvs)] ⟨_, _, rfl⟩
    try walk_at "rd"
    simp only [hlook]
    unfold cho at hC'
    cases hg : gw g i with
    | some v =>
      rw [hg] at hC'
      simpa [lsD] using hC'
    | none =>
      rw [hg] at hC'
      simp only [Option.map_none, Option.isSome_none, Bool.false_eq_true, if_false]
      try walk_at "rd"
      refine ⟨(rm.getD i 0).toNat, by omega, by omega, ?_⟩
      have e2 : lsD (rangeI (rm.getD i 0)) = Dt.lst (rngD (rm.getD i 0).toNat) := by unfold lsD rangeI rngD; rw [List.map_map]; rfl
      rw [← e2]
      exact hC'
  · refine ⟨chs rm g, by unfold chs; rw [List.map_map]; rfl, by unfold chs; rw [List.length_map, List.length_range]; exact hR.few, fun c hc => ?_, r⟩
    obtain ⟨i, hi, rfl⟩ := List.mem_map.mp hc
    have hi' := List.mem_range.mp hi
    have hb := hR.box _ (List.getElem_mem hi')
    have e : rm.getD i 0 = rm[i] := by simp [hi']
    unfold cho
    cases gw g i with
    | some v => simp
    | none => rw [rangeI_len]; omega
def F_near : FV := fun Pn ws n R => ∃ p c ns rm g, Pn = some (p, c, ns) ∧ ws = [.pen p, .d (stD rm), .d (givD g)] ∧ n + 40 ≤ 1000000 ∧ RoomOk rm ∧ Giv rm g ∧ ∀ st, st.length = rm.length → R (.d (stD st)) (n + 13)
theorem okv__law_near (T : Txt K mg t) : FnOk P w K mg base CX0 3 t.f__law_near t.d__law_near ["_law_pen_here", "_law_room_here", "_law_base"] (spV 3 false F_near) := by
  have G__law_draw : FnOk P w K mg base CX0 1 t.f__law_draw t.d__law_draw ["_law_pen_here", "_law_many"] (spV 2 false F_draw) := okv__law_draw T
  have G__law_standing : FnOk P w K mg base CX0 2 t.f__law_standing t.d__law_standing ["_law_pen_here", "_law_room_here"] (spV 2 false F_mkStanding) := okv__law_standing T
  refine Fun.okV (k := 2) (fr := false) [5] T._law_near.F sc__law_near rfl (by decide) fun cdv A outer s H E Pn hr => ⟨_, (jss_cons (js_set (i := 3) sc__law_near.nd rfl (Or.inl rfl) (j_fn T._law_draw G__law_draw hr (ja_cons (j_var 0) (ja_cons j_int ja_nil))))
      (jss_cons (js_set (i := 4) sc__law_near.nd rfl (Or.inl rfl) (j_fn T._law_draw G__law_draw hr (ja_cons (j_var 0) (ja_cons (j_callB cq_len v_len (by rfl) T.b_len PySem.boot_len (jab_cons (j_bor 1) jab_nil)) ja_nil))))
      (jss_cons (js_own (i := 5) sc__law_near.nd rfl (Or.inl rfl) (j_callTy cq_list_ofN v_list (by rfl) T.b_list PyProof.Rows.boot_list (jab_cons (JE.bo (j_fn T._law_standing G__law_standing hr (ja_cons (j_var 0) (ja_cons (j_var 1) ja_nil)))) jab_nil)))
      (jss_cons (js_set (i := 6) sc__law_near.nd rfl (Or.inl rfl) (j_fn T._law_draw G__law_draw hr (ja_cons (j_var 0) (ja_cons (j_ix xq_tup v_ixT (j_bor 1) (j_bor 4) (fun _ _ => rfl)) ja_nil))))
      (jss_cons (js_if (jt_cmp oq_gt v_gt (j_bor 3) (JE.bo j_int) (nomark _)) (jss_one (js_for PassesOwn.never rfl (ji_tup K rfl (j_var 2)) (jg_tup (n := 2) K rfl rfl (jgs_cons (jg_name (i := 7) sc__law_near.nd rfl (Or.inl rfl)) (jgs_cons (jg_name (i := 8) sc__law_near.nd rfl (Or.inl rfl)) jgs_nil))) (jss_one (js_put 5 (j_bor 7) (j_var 8))))) jss_nil)
      (jss_cons (js_if (jt_cmp oq_eq v_eq (j_bor 3) (JE.bo j_int) (nomark _)) (jss_one (js_put 5 (j_bor 4) (j_var 6))) jss_nil)
      (jss_one (js_ret (j_callTy cq_tuple_ofN v_tuple (by rfl) T.b_tuple PyProof.Rows.boot_tuple (jab_cons (j_bor 5) jab_nil)))))))))), fun ws n R hl hF => ?_⟩
  obtain ⟨p, c, ns, rm, g, rfl, rfl, hn, hR, hG, r⟩ := hF
  have hpos := hR.pos
  have hfew := hR.few
  try walk_at "rd"
  refine ⟨p, c, ns, 4, rfl, rfl, by omega, by decide, by decide, fun way w0 w1 => ?_⟩
  refine ⟨p, c, ns, _, rfl, rfl, by omega, by omega, by omega, fun box b0 b1 => ?_⟩
  refine ⟨p, c, ns, rm, rfl, rfl, by omega, hR, fun st hst _ => ?_⟩
  refine ⟨st.map Dt.int, .inr rfl, ?_⟩
  try walk_at "rd"
  simp only [at_many b0 b1]
  try walk_at "rd"
  have hm := room_many hR.box b0 b1
  refine ⟨p, c, ns, _, rfl, rfl, by omega, by omega, by omega, fun wo o0 o1 => ?_⟩
  have fin : ∀ st : List Int, st.length = rm.length → (if decide (way = 2) = true then box < ((st.map Dt.int).length : Int) ∧ fTuple [W.d (.lst ((st.map Dt.int).set box.toNat (.int wo)))] (n + 1 + 1 + 10 + 1) R else fTuple [W.d (.lst (st.map Dt.int))] (n + 1 + 1 + 10 + 1) R) := fun st hs => by
    split
    · refine ⟨by rw [List.length_map, hs]; exact b1, (st.set box.toNat wo).map Dt.int, .inl (by rw [List.map_set]), r _ (by rw [List.length_set]; exact hs)⟩
    · exact ⟨st.map Dt.int, .inl rfl, r st hs⟩
  split
  · refine for_inv (fun i ρ n' => n' = n + 1 + 1 + 10 + 1 ∧ ∃ (st : List Int) (v7 v8 : Option W), st.length = rm.length ∧ ρ = [some (.pen p), some (.d (stD rm)), some (.d (givD g)), some (.d (.int way)), some (.d (.int box)), some (.d (.lst (st.map Dt.int))), some (.d (.int wo)), v7, v8]) ⟨rfl, st, none, none, hst, rfl⟩ ?_ ?_
    · rintro i w ρ n' hw ⟨rfl, st, v7, v8, hs, rfl⟩
      rw [List.map_map, List.getElem?_map] at hw
      obtain ⟨q, hq, rfl⟩ := Option.map_eq_some_iff.mp hw
      have hb := hG.ok q (List.mem_of_getElem? hq)
      try walk_at "rd"
      refine ⟨hb.1, by rw [List.length_map, hs]; exact hb.2.1, st.set q.1.toNat q.2, by rw [List.length_set]; exact hs, by rw [List.map_set]⟩
    · rintro ρ n' ⟨rfl, st, v7, v8, hs, rfl⟩
      try walk_at "rd"
      have := fin st hs
      simpa [b0] using this
  · have := fin st hst
    simpa [b0] using this
def F_lright : FV := fun _ ws n R => ∃ rm g, ws = [.d (stD rm), .d (givD g), .d (stsD (keepC rm g))] ∧ RoomOk rm ∧ Giv rm g ∧ R (.d (.bl true)) n
theorem okv__law_list_right (T : Txt K mg t) : FnOk P w K mg base CX0 3 t.f__law_list_right t.d__law_list_right ["_law_room_here", "_law_base", "_law_due"] (spV 3 false F_lright) := by
  have G_keeping : FnOk P w K mg base CX0 2 t.f_keeping t.d_keeping ["room", "given"] (spV 2 true F_keeping) := okv_keeping T
  have G__law_is_whole : FnOk P w K mg base CX0 1 t.f__law_is_whole t.d__law_is_whole ["_law_thing"] (spV 1 false F_whole) := okv__law_is_whole T
  refine Fun.okV (k := 2) (fr := false) [3] T._law_list_right.F sc__law_list_right rfl (by decide) fun cdv A outer s H E Pn hr => ⟨_, (jss_cons (js_own (i := 3) sc__law_list_right.nd rfl (Or.inl rfl) (j_fn T.keeping G_keeping hr (ja_cons (j_var 0) (ja_cons (j_var 1) ja_nil))))
      (jss_cons (js_if (JW.t (jw_or (jt_not (jt_val (JE.bo (j_isinst_list (by rfl) T.b_isinstance T.b_list (j_bor 3))))) (jw_one (.inr rfl) (jt_cmp (oq_neD hr.units) v_neD (j_bor 3) (j_bor 2) (nomark _))))) (jss_one (js_ret j_bl)) jss_nil)
      (jss_cons (js_if (jt_cmp (oq_neD hr.units) v_neD (JE.bo (j_comp (N := ["_law_one"]) (cix := [none]) rfl ⟨rfl, by decide +kernel, rfl⟩ (ji_own K rfl (j_bor 3)) (fun _ _ _ _ => (jg_name (i := 0) (show (["_law_one"] : List Str).Nodup by decide +kernel) rfl (Or.inl rfl))) (fun _ _ _ _ => (jts_one (JW.t (jw_or (jt_not (jt_val (JE.bo (j_isinst_tuple (by rfl) T.b_isinstance T.b_tuple (j_bor 0))))) (jw_one (.inr rfl) (jt_not (jt_val (JE.bo (j_callB (cq_all rfl) v_all (by rfl) T.b_all PyProof.Rows.boot_all (jab_cons (JE.bo (j_comp (N := ["_law_x"]) (cix := [none]) rfl ⟨rfl, by decide +kernel, rfl⟩ (ji_tup K rfl (j_var 0)) (fun _ _ _ _ => (jg_name (i := 0) (show (["_law_x"] : List Str).Nodup by decide +kernel) rfl (Or.inl rfl))) (fun _ _ _ _ => jts_nil) (fun _ _ _ _ => (j_fn T._law_is_whole G__law_is_whole hr (ja_cons (j_var 0) ja_nil))))) jab_nil)))))))))) (fun _ _ _ _ => (j_var 0)))) (JE.bo (j_lst ja_nil)) (nomark _)) (jss_one (js_ret j_bl)) jss_nil)
      (jss_cons (js_reverse 3)
      (jss_cons (js_app 3 (j_tup ja_nil))
      (jss_one (js_ret j_bl))))))), fun ws n R hl hF => ?_⟩
  obtain ⟨rm, g, rfl, hR, hG, r⟩ := hF
  try walk_at "rd"
  refine ⟨rm, g, rfl, hR, hG, ?_⟩
  try walk_at "rd"
  have hlen := keepC_len hG
  have hfew : (keepC rm g).length ≤ 65536 := keepC_few hR
  have hok : (Dt.lst ((keepC rm g).map stD)).eqOk := eqOk_sts (n := rm.length) fun e he => by
    obtain ⟨st, hst, rfl⟩ := List.mem_map.mp he
    exact ⟨st, rfl, hlen st hst⟩
  refine ⟨_, _, rfl, rfl, hok, hok, fun b hb => ⟨_, rfl, ?_⟩⟩
  rw [hb.mpr rfl, if_neg (by decide)]
  refine comp_pure (keepC rm g) (fun st => .d (stD st)) (by rw [List.map_map]; rfl) (fun ρ => ∃ v, ρ = [v]) (fun _ => false) stD (Nat.le_trans hfew (by decide)) ⟨_, rfl⟩ ?_ ?_
  · rintro st hst ρ' ⟨v, rfl⟩ C hC
    try walk_at "rd"
    refine comp_map st (fun i => .d (.int i)) (by rw [List.map_map]; rfl) (fun ρ => ∃ v, ρ = [v]) (fun _ => .bl true) (by rw [hlen st hst]; exact Nat.le_trans hR.few (by decide)) ⟨_, rfl⟩ ?_ ?_
    · rintro i hi ρ' ⟨v, rfl⟩ C hC
      try walk_at "rd"
      exact ⟨_, rfl, _, rfl, hC _ ⟨_, rfl⟩⟩
    · refine ⟨List.replicate st.length true, by rw [List.map_replicate]; congr 3; exact (List.map_const' ..).trans rfl, _, rfl, ?_⟩
      rw [show (List.replicate st.length true).all id = true from by rw [List.all_replicate]; simp]
      exact hC _ ⟨_, rfl⟩
  · try walk_at "rd"
    have e : ((keepC rm g).filter fun _ => false).map stD = [] := by rw [List.filter_eq_nil_iff.mpr fun _ _ => by simp]; rfl
    rw [e]
    refine ⟨_, _, rfl, rfl, (eqOk_pairs (g := [])).2, (eqOk_pairs (g := [])).2, fun b hb => ⟨_, rfl, ?_⟩⟩
    rw [hb.mpr rfl, if_neg (by decide)]
    exact ⟨by rw [List.length_reverse, List.length_map]; omega, r⟩
theorem ok_law (T : Txt K mg t) : FnOk P w K mg base CX0 4 t.f_law t.d_law ["_law_script"] (spLaw K) := by
  have G_keeps : FnOk P w K mg base CX0 1 t.f_keeps t.d_keeps ["standing", "given"] (spV 2 false F_keeps) := okv_keeps T
  have G_keeping : FnOk P w K mg base CX0 2 t.f_keeping t.d_keeping ["room", "given"] (spV 2 true F_keeping) := okv_keeping T
  have G__law_pen : FnOk P w K mg base CX0 1 t.f__law_pen t.d__law_pen ["_law_script"] (spPen K) := ok__law_pen T
  have G__law_draw : FnOk P w K mg base CX0 1 t.f__law_draw t.d__law_draw ["_law_pen_here", "_law_many"] (spV 2 false F_draw) := okv__law_draw T
  have G__law_truth : FnOk P w K mg base CX0 1 t.f__law_truth t.d__law_truth ["_law_found", "_law_due"] (spV 2 false F_truth) := okv__law_truth T
  have G__law_room : FnOk P w K mg base CX0 2 t.f__law_room t.d__law_room ["_law_pen_here", "_law_most"] (spV 2 false F_mkRoom) := okv__law_room T
  have G__law_all : FnOk P w K mg base CX0 2 t.f__law_all t.d__law_all ["_law_room_here"] (spV 1 true F_all) := okv__law_all T
  have G__law_given : FnOk P w K mg base CX0 2 t.f__law_given t.d__law_given ["_law_pen_here", "_law_room_here", "_law_apart"] (spV 3 false F_mkGiven) := okv__law_given T
  have G__law_keeps : FnOk P w K mg base CX0 1 t.f__law_keeps t.d__law_keeps ["_law_standing_here", "_law_base"] (spV 2 false F_lkeeps) := okv__law_keeps T
  have G__law_near : FnOk P w K mg base CX0 3 t.f__law_near t.d__law_near ["_law_pen_here", "_law_room_here", "_law_base"] (spV 3 false F_near) := okv__law_near T
  have G__law_list_right : FnOk P w K mg base CX0 3 t.f__law_list_right t.d__law_list_right ["_law_room_here", "_law_base", "_law_due"] (spV 3 false F_lright) := okv__law_list_right T
  refine okLaw (k := 3) (r := 8) [] T.law.F sc_law rfl rfl (by decide) fun cdv A outer s H E Pn hr => ⟨_, _, _, rfl, (qs_set (i := 1) sc_law.nd rfl (Or.inl rfl) (qe_fn T._law_pen G__law_pen hr (qa_cons (qv 0) qa_nil))), (jss_cons (js_for PassesOwn.never rfl (ji_range1 rfl T.b_range (jab_cons (JE.bo j_int) jab_nil)) (jg_name (i := 2) sc_law.nd rfl (Or.inl rfl)) (jss_cons (js_set (i := 3) sc_law.nd rfl (Or.inl rfl) (j_fn T._law_room G__law_room hr (ja_cons (j_var 1) (ja_cons (j_ix xq_list v_ixL (JE.bo (j_lst (ja_cons j_int (ja_cons j_int (ja_cons j_int ja_nil))))) (JE.bo (j_fn T._law_draw G__law_draw hr (ja_cons (j_var 1) (ja_cons j_int ja_nil)))) (fun _ _ => rfl)) ja_nil))))
      (jss_cons (js_set (i := 4) sc_law.nd rfl (Or.inl rfl) (j_fn T._law_all G__law_all hr (ja_cons (j_var 3) ja_nil)))
      (jss_cons (js_for PassesOwn.never rfl (ji_range1 rfl T.b_range (jab_cons (JE.bo j_int) jab_nil)) (jg_name (i := 5) sc_law.nd rfl (Or.inl rfl)) (jss_cons (js_set (i := 6) sc_law.nd rfl (Or.inr rfl) (j_fn T._law_given G__law_given hr (ja_cons (j_var 1) (ja_cons (j_var 3) (ja_cons (j_ix xq_list v_ixL (JE.bo (j_lst (ja_cons (j_un uq_neg v_neg (JE.bo j_int)) (ja_cons j_int ja_nil)))) (JE.bo (j_fn T._law_draw G__law_draw hr (ja_cons (j_var 1) (ja_cons j_int ja_nil)))) (fun _ _ => rfl)) ja_nil)))))
      (jss_cons (js_setC (i := 7) (js_compC (ix := 7) sc_law.nd rfl rfl (N := ["_law_standing_here", "_law_base"]) (cix := [none, some 6]) rfl ⟨rfl, by decide +kernel, rfl⟩ (ji_list K rfl (j_var 4)) (fun _ _ _ _ => (jg_name (i := 0) (show (["_law_standing_here", "_law_base"] : List Str).Nodup by decide +kernel) rfl (Or.inl rfl))) (fun _ _ _ _ => (jts_one (jt_val (JE.bo (j_fn T._law_keeps G__law_keeps hr (ja_cons (j_var 0) (ja_cons (j_var 1) ja_nil))))))) (fun _ _ _ _ => (j_var 0))))
      (jss_cons (js_if (JW.t (jw_or (jt_not (jt_val (JE.bo (j_fn T._law_list_right G__law_list_right hr (ja_cons (j_var 3) (ja_cons (j_var 6) (ja_cons (j_var 7) ja_nil))))))) (jw_one (.inr rfl) (jt_not (jt_val (JE.bo (j_fn T._law_list_right G__law_list_right hr (ja_cons (j_var 3) (ja_cons (j_var 6) (ja_cons (j_var 7) ja_nil)))))))))) (jss_one (js_ret j_bl)) jss_nil)
      (jss_one (js_for PassesOwn.never rfl (ji_range1 rfl T.b_range (jab_cons (JE.bo j_int) jab_nil)) (jg_name (i := 8) sc_law.nd rfl (Or.inl rfl)) (jss_cons (js_set (i := 9) sc_law.nd rfl (Or.inl rfl) (j_fn T._law_near G__law_near hr (ja_cons (j_var 1) (ja_cons (j_var 3) (ja_cons (j_var 6) ja_nil)))))
      (jss_one (js_if (jt_not (jt_val (JE.bo (j_fn T._law_truth G__law_truth hr (ja_cons (j_fn T.keeps G_keeps hr (ja_cons (j_var 9) (ja_cons (j_var 6) ja_nil))) (ja_cons (j_fn T._law_keeps G__law_keeps hr (ja_cons (j_var 9) (ja_cons (j_var 6) ja_nil))) ja_nil)))))) (jss_one (js_ret j_bl)) jss_nil)))))))))
      (jss_one (js_if (JW.t (jw_or (jt_cmp (oq_neD hr.units) v_neD (JE.bo (j_fn T.keeping G_keeping hr (ja_cons (j_var 3) (ja_cons (j_tup ja_nil) ja_nil)))) (j_bor 4) (nomark _)) (jw_one (.inr rfl) (jt_cmp oq_isnot_bl v_isnot_bl (JE.bo (j_fn T.keeps G_keeps hr (ja_cons (j_ix xq_list v_ixL (j_bor 4) (JE.bo (j_un uq_neg v_neg (JE.bo j_int))) (fun _ _ => rfl)) (ja_cons (j_tup ja_nil) ja_nil)))) (JE.bo j_bl) (nomark _))))) (jss_one (js_ret j_bl)) jss_nil))))))
      (jss_one (js_ret j_bl))), fun p c ns hPn => ?_⟩
  subst hPn
  try walk_at "rd"
  refine for_rng (fun i ρ n => n ≤ 2000 * i ∧ ∃ v2 v3 v4 v5 v6 v7 v8 v9, ρ = [none, some (.pen p), v2, v3, v4, v5, v6, v7, v8, v9]) ⟨Nat.le_refl _, none, none, none, none, none, none, none, none, rfl⟩ ?_ ?_
  · rintro i ρ n hi ⟨hn, v2, v3, v4, v5, v6, v7, v8, v9, rfl⟩
    try walk_at "rd"
    refine ⟨p, c, ns, 3, rfl, rfl, by omega, by decide, by decide, fun r r0 r1 => ?_⟩
    obtain ⟨d, hat, hmem⟩ := at_mem (l := [Dt.int 256, .int 48, .int 48]) r0 (by simpa using r1)
    obtain ⟨most, rfl, m1, m2⟩ : ∃ most, d = .int most ∧ 4 ≤ most ∧ most ≤ 256 := by
      simp at hmem
      rcases hmem with rfl | rfl | rfl
      all_goals exact ⟨_, rfl, by omega, by omega⟩
    refine ⟨r, rfl, _, hat, ?_⟩
    refine ⟨p, c, ns, most, rfl, rfl, by omega, m1, m2, fun rm hR hp => ?_⟩
    refine ⟨rm, rfl, hR, by omega, ?_⟩
    have hfew := hR.few
    have hall : (allC (rm.map rangeI)).length ≤ 65536 := by rw [← keepC_nil]; exact keepC_few hR
    have hrow : ∀ st ∈ allC (rm.map rangeI), st.length = rm.length := fun st hst => by rw [allC_row _ _ hst, List.length_map]
    have hnilG : Giv rm [] := ⟨fun _ h => by simp at h, .nil⟩
    have hok : (Dt.lst ((allC (rm.map rangeI)).map stD)).eqOk := eqOk_sts (n := rm.length) fun e he => by
      obtain ⟨st, hst, rfl⟩ := List.mem_map.mp he
      exact ⟨st, rfl, hrow st hst⟩
    refine for_rng (fun j ρ m => m ≤ n + 11 + 200 * j ∧ ∃ v5 v6 v7 v8 v9, ρ = [none, some (.pen p), some (.d (.int (i : Int))), some (.d (stD rm)), some (.d (stsD (allC (rm.map rangeI)))), v5, v6, v7, v8, v9]) ⟨by omega, _, _, _, _, _, rfl⟩ ?_ ?_
    · rintro j ρ m hj ⟨hm, v5, v6, v7, v8, v9, rfl⟩
      try walk_at "rd"
      refine ⟨p, c, ns, 2, rfl, rfl, by omega, by decide, by decide, fun r r0 r1 => ?_⟩
      obtain ⟨d, hat, hmem⟩ := at_mem (l := [Dt.int (-1), .int 0]) r0 (by simpa using r1)
      obtain ⟨ap, rfl⟩ : ∃ ap, d = .int ap := by
        simp at hmem
        rcases hmem with rfl | rfl
        all_goals exact ⟨_, rfl⟩
      refine ⟨r, rfl, _, hat, ?_⟩
      refine ⟨p, c, ns, rm, ap, rfl, rfl, by omega, hR, fun g hG _ hg8 => ?_⟩
      try walk_at "rd"
      refine comp_pure (allC (rm.map rangeI)) (fun st => .d (stD st)) (by rw [List.map_map]; rfl) (fun ρ => ∃ v, ρ = [v, some (.d (givD g))]) (fun st => keepsB st g) stD (Nat.le_trans hall (by decide)) ⟨_, rfl⟩ ?_ ?_
      · rintro st hst ρ' ⟨v, rfl⟩ C hC
        try walk_at "rd"
        refine ⟨st, g, rfl, fun q hq => ?_, by omega, _, rfl, ?_⟩
        · have := hG.ok q hq
          rw [hrow st hst]
          exact ⟨this.1, this.2.1⟩
        · have := hC [some (.d (stD st)), some (.d (givD g))] ⟨_, rfl⟩
          cases hk : keepsB st g with
          | true => simpa [hk] using this
          | false => simpa [hk] using this
      · rw [keep_filter hG]
        try walk_at "rd"
        refine ⟨rm, g, rfl, hR, hG, true, rfl, ?_⟩
        rw [if_neg (by decide)]
        refine ⟨rm, g, rfl, hR, hG, true, rfl, ?_⟩
        rw [if_neg (by decide)]
        refine for_rng (fun k ρ m' => m' ≤ m + 31 + 13 * k ∧ ∃ v8 v9, ρ = [none, some (.pen p), some (.d (.int (i : Int))), some (.d (stD rm)), some (.d (stsD (allC (rm.map rangeI)))), some (.d (.int (j : Int))), some (.d (givD g)), some (.d (stsD (keepC rm g))), v8, v9]) ⟨by omega, _, _, rfl⟩ ?_ ?_
        · rintro k ρ m' hk ⟨hm', v8, v9, rfl⟩
          try walk_at "rd"
          refine ⟨p, c, ns, rm, g, rfl, rfl, by omega, hR, hG, fun st hst => ?_⟩
          have hb : ∀ q ∈ g, 0 ≤ q.1 ∧ q.1 < st.length := fun q hq => by
            have := hG.ok q hq
            rw [hst]
            exact ⟨this.1, this.2.1⟩
          refine ⟨st, g, rfl, hb, ?_⟩
          refine ⟨st, g, rfl, hb, by omega, ?_⟩
          refine ⟨_, _, rfl, _, rfl, ?_⟩
          rw [beq_self_eq_true, if_neg (by decide)]
          omega
        · rintro ρ m' ⟨hm', v8, v9, rfl⟩
          exact ⟨by omega, _, _, _, _, _, rfl⟩
    · rintro ρ m ⟨hm, v5, v6, v7, v8, v9, rfl⟩
      try walk_at "rd"
      refine ⟨rm, [], rfl, hR, hnilG, ?_⟩
      rw [keepC_nil]
      refine ⟨_, _, rfl, rfl, hok, hok, fun b hb => ⟨_, rfl, ?_⟩⟩
      rw [hb.mpr rfl, if_neg (by decide)]
      have hne : (allC (rm.map rangeI)).map stD ≠ [] := by
        intro z
        have z' := List.map_eq_nil_iff.mp z
        have hs := room_all rm
        rw [z'] at hs
        have hrr : ∀ m ∈ rm.reverse, 1 ≤ m := fun m hm => by
          have := hR.box m (List.mem_reverse.mp hm)
          omega
        have hz := congrArg List.length hs
        rw [List.length_map, List.length_range] at hz
        have := sizeR_pos hrr
        simp at hz
        omega
      obtain ⟨d, hat, hmem⟩ := at_last hne
      obtain ⟨st, hst, rfl⟩ := List.mem_map.mp hmem
      refine ⟨_, hat, st, [], rfl, fun _ h => by simp at h, _, rfl, ?_⟩
      rw [show keepsB st [] = true from rfl, if_neg (by decide)]
      omega
  · rintro ρ n ⟨hn, v2, v3, v4, v5, v6, v7, v8, v9, rfl⟩
    try walk_at "rd"
end
theorem all_mk {l : PySem.W.OpenLaw} {w : World} {K : PySem.W.Frag} {h : Heap} {mg : Str → Option Value} {fa f0 f1 f2 f3 f4 f5 f6 f7 f8 f9 f10 f11 f12 f13 f14 f15 : Addr} (X : K.In h) (G : h.Ns mainGlobals mg) (hfa : mg "law" = some (.ref fa))
    {od0 an0 od1 an1 od2 an2 od3 an3 od4 an4 od5 an5 od6 an6 od7 an7 od8 an8 od9 an9 od10 an10 od11 an11 od12 an12 od13 an13 od14 an14 od15 an15 : Option Addr} {sl0 sl1 sl2 sl3 sl4 sl5 sl6 sl7 sl8 sl9 sl10 sl11 sl12 sl13 sl14 sl15 : Array (Option Value)} {oc0 kV0 dc0 pm0 cd0 ct0 oc1 kV1 dc1 pm1 cd1 ct1 oc2 kV2 dc2 pm2 cd2 ct2 oc3 kV3 dc3 pm3 cd3 ct3 oc4 kV4 dc4 pm4 cd4 ct4 oc5 kV5 dc5 pm5 cd5 ct5 oc6 kV6 dc6 pm6 cd6 ct6 oc7 kV7 dc7 pm7 cd7 ct7 oc8 kV8 dc8 pm8 cd8 ct8 oc9 kV9 dc9 pm9 cd9 ct9 oc10 kV10 dc10 pm10 cd10 ct10 oc11 kV11 dc11 pm11 cd11 ct11 oc12 kV12 dc12 pm12 cd12 ct12 oc13 kV13 dc13 pm13 cd13 ct13 oc14 kV14 dc14 pm14 cd14 ct14 oc15 kV15 dc15 pm15 cd15 ct15 : Value}
    (a0 : PySem.W.nsIn K mainGlobals "combined" = some (some (.ref f0))) (l0 : K.lookup f0 = some ⟨oc0, od0, .func (PySem.W.fnOf "combined" "combined" (defArgs s_combined) (defBody s_combined) (defScope s_combined) .none kV0 dc0 pm0 an0 cd0 ct0), sl0⟩) (c0 : PySem.W.codeIn K cd0 "combined" = true) (k0 : PySem.W.keepIn K (.ref f0) = true)
    (a1 : PySem.W.nsIn K mainGlobals "keeps" = some (some (.ref f1))) (l1 : K.lookup f1 = some ⟨oc1, od1, .func (PySem.W.fnOf "keeps" "keeps" (defArgs s_keeps) (defBody s_keeps) (defScope s_keeps) .none kV1 dc1 pm1 an1 cd1 ct1), sl1⟩) (c1 : PySem.W.codeIn K cd1 "keeps" = true) (k1 : PySem.W.keepIn K (.ref f1) = true)
    (a2 : PySem.W.nsIn K mainGlobals "_law_pen" = some (some (.ref f2))) (l2 : K.lookup f2 = some ⟨oc2, od2, .func (PySem.W.fnOf "_law_pen" "_law_pen" (defArgs s__law_pen) (defBody s__law_pen) (defScope s__law_pen) .none kV2 dc2 pm2 an2 cd2 ct2), sl2⟩) (c2 : PySem.W.codeIn K cd2 "_law_pen" = true) (k2 : PySem.W.keepIn K (.ref f2) = true)
    (a3 : PySem.W.nsIn K mainGlobals "_law_draw" = some (some (.ref f3))) (l3 : K.lookup f3 = some ⟨oc3, od3, .func (PySem.W.fnOf "_law_draw" "_law_draw" (defArgs s__law_draw) (defBody s__law_draw) (defScope s__law_draw) .none kV3 dc3 pm3 an3 cd3 ct3), sl3⟩) (c3 : PySem.W.codeIn K cd3 "_law_draw" = true) (k3 : PySem.W.keepIn K (.ref f3) = true)
    (a4 : PySem.W.nsIn K mainGlobals "_law_is_whole" = some (some (.ref f4))) (l4 : K.lookup f4 = some ⟨oc4, od4, .func (PySem.W.fnOf "_law_is_whole" "_law_is_whole" (defArgs s__law_is_whole) (defBody s__law_is_whole) (defScope s__law_is_whole) .none kV4 dc4 pm4 an4 cd4 ct4), sl4⟩) (c4 : PySem.W.codeIn K cd4 "_law_is_whole" = true) (k4 : PySem.W.keepIn K (.ref f4) = true)
    (a5 : PySem.W.nsIn K mainGlobals "_law_truth" = some (some (.ref f5))) (l5 : K.lookup f5 = some ⟨oc5, od5, .func (PySem.W.fnOf "_law_truth" "_law_truth" (defArgs s__law_truth) (defBody s__law_truth) (defScope s__law_truth) .none kV5 dc5 pm5 an5 cd5 ct5), sl5⟩) (c5 : PySem.W.codeIn K cd5 "_law_truth" = true) (k5 : PySem.W.keepIn K (.ref f5) = true)
    (a6 : PySem.W.nsIn K mainGlobals "_law_size" = some (some (.ref f6))) (l6 : K.lookup f6 = some ⟨oc6, od6, .func (PySem.W.fnOf "_law_size" "_law_size" (defArgs s__law_size) (defBody s__law_size) (defScope s__law_size) .none kV6 dc6 pm6 an6 cd6 ct6), sl6⟩) (c6 : PySem.W.codeIn K cd6 "_law_size" = true) (k6 : PySem.W.keepIn K (.ref f6) = true)
    (a7 : PySem.W.nsIn K mainGlobals "_law_room" = some (some (.ref f7))) (l7 : K.lookup f7 = some ⟨oc7, od7, .func (PySem.W.fnOf "_law_room" "_law_room" (defArgs s__law_room) (defBody s__law_room) (defScope s__law_room) .none kV7 dc7 pm7 an7 cd7 ct7), sl7⟩) (c7 : PySem.W.codeIn K cd7 "_law_room" = true) (k7 : PySem.W.keepIn K (.ref f7) = true)
    (a8 : PySem.W.nsIn K mainGlobals "_law_all" = some (some (.ref f8))) (l8 : K.lookup f8 = some ⟨oc8, od8, .func (PySem.W.fnOf "_law_all" "_law_all" (defArgs s__law_all) (defBody s__law_all) (defScope s__law_all) .none kV8 dc8 pm8 an8 cd8 ct8), sl8⟩) (c8 : PySem.W.codeIn K cd8 "_law_all" = true) (k8 : PySem.W.keepIn K (.ref f8) = true)
    (a9 : PySem.W.nsIn K mainGlobals "_law_standing" = some (some (.ref f9))) (l9 : K.lookup f9 = some ⟨oc9, od9, .func (PySem.W.fnOf "_law_standing" "_law_standing" (defArgs s__law_standing) (defBody s__law_standing) (defScope s__law_standing) .none kV9 dc9 pm9 an9 cd9 ct9), sl9⟩) (c9 : PySem.W.codeIn K cd9 "_law_standing" = true) (k9 : PySem.W.keepIn K (.ref f9) = true)
    (a10 : PySem.W.nsIn K mainGlobals "_law_given" = some (some (.ref f10))) (l10 : K.lookup f10 = some ⟨oc10, od10, .func (PySem.W.fnOf "_law_given" "_law_given" (defArgs s__law_given) (defBody s__law_given) (defScope s__law_given) .none kV10 dc10 pm10 an10 cd10 ct10), sl10⟩) (c10 : PySem.W.codeIn K cd10 "_law_given" = true) (k10 : PySem.W.keepIn K (.ref f10) = true)
    (a11 : PySem.W.nsIn K mainGlobals "_law_keeps" = some (some (.ref f11))) (l11 : K.lookup f11 = some ⟨oc11, od11, .func (PySem.W.fnOf "_law_keeps" "_law_keeps" (defArgs s__law_keeps) (defBody s__law_keeps) (defScope s__law_keeps) .none kV11 dc11 pm11 an11 cd11 ct11), sl11⟩) (c11 : PySem.W.codeIn K cd11 "_law_keeps" = true) (k11 : PySem.W.keepIn K (.ref f11) = true)
    (a12 : PySem.W.nsIn K mainGlobals "keeping" = some (some (.ref f12))) (l12 : K.lookup f12 = some ⟨oc12, od12, .func (PySem.W.fnOf "keeping" "keeping" (defArgs s_keeping) (defBody s_keeping) (defScope s_keeping) .none kV12 dc12 pm12 an12 cd12 ct12), sl12⟩) (c12 : PySem.W.codeIn K cd12 "keeping" = true) (k12 : PySem.W.keepIn K (.ref f12) = true)
    (a13 : PySem.W.nsIn K mainGlobals "_law_near" = some (some (.ref f13))) (l13 : K.lookup f13 = some ⟨oc13, od13, .func (PySem.W.fnOf "_law_near" "_law_near" (defArgs s__law_near) (defBody s__law_near) (defScope s__law_near) .none kV13 dc13 pm13 an13 cd13 ct13), sl13⟩) (c13 : PySem.W.codeIn K cd13 "_law_near" = true) (k13 : PySem.W.keepIn K (.ref f13) = true)
    (a14 : PySem.W.nsIn K mainGlobals "_law_list_right" = some (some (.ref f14))) (l14 : K.lookup f14 = some ⟨oc14, od14, .func (PySem.W.fnOf "_law_list_right" "_law_list_right" (defArgs s__law_list_right) (defBody s__law_list_right) (defScope s__law_list_right) .none kV14 dc14 pm14 an14 cd14 ct14), sl14⟩) (c14 : PySem.W.codeIn K cd14 "_law_list_right" = true) (k14 : PySem.W.keepIn K (.ref f14) = true)
    (a15 : PySem.W.nsIn K mainGlobals "law" = some (some (.ref f15))) (l15 : K.lookup f15 = some ⟨oc15, od15, .func (PySem.W.fnOf "law" "law" (defArgs s_law) (defBody s_law) (defScope s_law) .none kV15 dc15 pm15 an15 cd15 ct15), sl15⟩) (c15 : PySem.W.codeIn K cd15 "law" = true) (k15 : PySem.W.keepIn K (.ref f15) = true)
    (z_dict : PySem.W.nsIn K mainGlobals "dict" = some none)
    (z_range : PySem.W.nsIn K mainGlobals "range" = some none)
    (z_tuple : PySem.W.nsIn K mainGlobals "tuple" = some none)
    (z_enumerate : PySem.W.nsIn K mainGlobals "enumerate" = some none)
    (z_list : PySem.W.nsIn K mainGlobals "list" = some none)
    (z_len : PySem.W.nsIn K mainGlobals "len" = some none)
    (z_isinstance : PySem.W.nsIn K mainGlobals "isinstance" = some none)
    (z_int : PySem.W.nsIn K mainGlobals "int" = some none)
    (z_bool : PySem.W.nsIn K mainGlobals "bool" = some none)
    (z_abs : PySem.W.nsIn K mainGlobals "abs" = some none)
    (z_min : PySem.W.nsIn K mainGlobals "min" = some none)
    (z_all : PySem.W.nsIn K mainGlobals "all" = some none)
    : ∃ fd : FuncData, (∀ (s : Shared) (v : Value), BindsTo s fd ⟨[v], []⟩ [("_law_script", v)]) ∧ ∀ base : Heap, K.In base → base.Ns mainGlobals mg → FnOk l.prog w K mg base CX0 4 fa fd ["_law_script"] (spLaw K) := by
  have e := hfa.symm.trans (PySem.W.mg_of X G a15)
  cases e
  have F0 := fun_mk (st := s_combined) l0 c0 k0
  have b0 := F0.binds (ps := ["choices"]) fun _ _ _ _ _ _ us hl => match us, hl with | [_], _ => rfl
  have F1 := fun_mk (st := s_keeps) l1 c1 k1
  have b1 := F1.binds (ps := ["standing", "given"]) fun _ _ _ _ _ _ us hl => match us, hl with | [_, _], _ => rfl
  have F2 := fun_mk (st := s__law_pen) l2 c2 k2
  have b2 := F2.binds (ps := ["_law_script"]) fun _ _ _ _ _ _ us hl => match us, hl with | [_], _ => rfl
  have F3 := fun_mk (st := s__law_draw) l3 c3 k3
  have b3 := F3.binds (ps := ["_law_pen_here", "_law_many"]) fun _ _ _ _ _ _ us hl => match us, hl with | [_, _], _ => rfl
  have F4 := fun_mk (st := s__law_is_whole) l4 c4 k4
  have b4 := F4.binds (ps := ["_law_thing"]) fun _ _ _ _ _ _ us hl => match us, hl with | [_], _ => rfl
  have F5 := fun_mk (st := s__law_truth) l5 c5 k5
  have b5 := F5.binds (ps := ["_law_found", "_law_due"]) fun _ _ _ _ _ _ us hl => match us, hl with | [_, _], _ => rfl
  have F6 := fun_mk (st := s__law_size) l6 c6 k6
  have b6 := F6.binds (ps := ["_law_room_here"]) fun _ _ _ _ _ _ us hl => match us, hl with | [_], _ => rfl
  have F7 := fun_mk (st := s__law_room) l7 c7 k7
  have b7 := F7.binds (ps := ["_law_pen_here", "_law_most"]) fun _ _ _ _ _ _ us hl => match us, hl with | [_, _], _ => rfl
  have F8 := fun_mk (st := s__law_all) l8 c8 k8
  have b8 := F8.binds (ps := ["_law_room_here"]) fun _ _ _ _ _ _ us hl => match us, hl with | [_], _ => rfl
  have F9 := fun_mk (st := s__law_standing) l9 c9 k9
  have b9 := F9.binds (ps := ["_law_pen_here", "_law_room_here"]) fun _ _ _ _ _ _ us hl => match us, hl with | [_, _], _ => rfl
  have F10 := fun_mk (st := s__law_given) l10 c10 k10
  have b10 := F10.binds (ps := ["_law_pen_here", "_law_room_here", "_law_apart"]) fun _ _ _ _ _ _ us hl => match us, hl with | [_, _, _], _ => rfl
  have F11 := fun_mk (st := s__law_keeps) l11 c11 k11
  have b11 := F11.binds (ps := ["_law_standing_here", "_law_base"]) fun _ _ _ _ _ _ us hl => match us, hl with | [_, _], _ => rfl
  have F12 := fun_mk (st := s_keeping) l12 c12 k12
  have b12 := F12.binds (ps := ["room", "given"]) fun _ _ _ _ _ _ us hl => match us, hl with | [_, _], _ => rfl
  have F13 := fun_mk (st := s__law_near) l13 c13 k13
  have b13 := F13.binds (ps := ["_law_pen_here", "_law_room_here", "_law_base"]) fun _ _ _ _ _ _ us hl => match us, hl with | [_, _, _], _ => rfl
  have F14 := fun_mk (st := s__law_list_right) l14 c14 k14
  have b14 := F14.binds (ps := ["_law_room_here", "_law_base", "_law_due"]) fun _ _ _ _ _ _ us hl => match us, hl with | [_, _, _], _ => rfl
  have F15 := fun_mk (st := s_law) l15 c15 k15
  have b15 := F15.binds (ps := ["_law_script"]) fun _ _ _ _ _ _ us hl => match us, hl with | [_], _ => rfl
  have T : Txt K mg ⟨f0, _, f1, _, f2, _, f3, _, f4, _, f5, _, f6, _, f7, _, f8, _, f9, _, f10, _, f11, _, f12, _, f13, _, f14, _, fa, _⟩ := ⟨⟨F0, b0, PySem.W.mg_of X G a0⟩, ⟨F1, b1, PySem.W.mg_of X G a1⟩, ⟨F2, b2, PySem.W.mg_of X G a2⟩, ⟨F3, b3, PySem.W.mg_of X G a3⟩, ⟨F4, b4, PySem.W.mg_of X G a4⟩, ⟨F5, b5, PySem.W.mg_of X G a5⟩, ⟨F6, b6, PySem.W.mg_of X G a6⟩, ⟨F7, b7, PySem.W.mg_of X G a7⟩, ⟨F8, b8, PySem.W.mg_of X G a8⟩, ⟨F9, b9, PySem.W.mg_of X G a9⟩, ⟨F10, b10, PySem.W.mg_of X G a10⟩, ⟨F11, b11, PySem.W.mg_of X G a11⟩, ⟨F12, b12, PySem.W.mg_of X G a12⟩, ⟨F13, b13, PySem.W.mg_of X G a13⟩, ⟨F14, b14, PySem.W.mg_of X G a14⟩, ⟨F15, b15, PySem.W.mg_of X G a15⟩, PySem.W.mg_none_of X G z_dict, PySem.W.mg_none_of X G z_range, PySem.W.mg_none_of X G z_tuple, PySem.W.mg_none_of X G z_enumerate, PySem.W.mg_none_of X G z_list, PySem.W.mg_none_of X G z_len, PySem.W.mg_none_of X G z_isinstance, PySem.W.mg_none_of X G z_int, PySem.W.mg_none_of X G z_bool, PySem.W.mg_none_of X G z_abs, PySem.W.mg_none_of X G z_min, PySem.W.mg_none_of X G z_all⟩
  exact ⟨_, fun s v => .of_eq rfl, fun base _ _ => ok_law T⟩
theorem walk {l : PySem.W.OpenLaw} {q : Program} {loose : List Str} {XP : (Str → Option Value) → Heap → Prop} {YP : World → Heap → Prop} {d : DefRec} {K : Params → PySem.W.Frag} (hn : l.most = some 63) (hdf : d.params.defaults = [])
    (hY : ∀ (w : World) (h : Heap), YP w h → (K w.params).In h)
    (F : ∀ (w : World) (mg : Str → Option Value) (fa : Addr) (h : Heap), (K w.params).In h → h.Ns mainGlobals mg → mg d.name = some (.ref fa) →
      ∃ fd : FuncData, (∀ (s : Shared) (u : Value), BindsTo s fd ⟨[u], []⟩ [("_law_script", u)]) ∧ ∀ base : Heap, (K w.params).In base → base.Ns mainGlobals mg → FnOk l.prog w (K w.params) mg base CX0 4 fa fd ["_law_script"] (spLaw (K w.params))) :
    PySem.W.WalkO q loose XP YP l.row.toRowW d [] (fun f vs => PySem.call f vs) :=
  L2.walk_of (n := 63) (k := 4) (x := "_law_script") (CX := fun _ => CX0) (sp := fun w => spLaw (K w.params)) hn (by decide) hdf ⟨rfl, by decide, by decide⟩ hY F (fun _ _ a ns hl _ hS => ⟨a, ns, rfl, hS, hl, fun _ => rfl⟩) fun _ _ _ _ _ z => z
end Law
open PySem PySem.W PyProof.Rows
set_option maxRecDepth 100000 in
set_option maxHeartbeats 0 in
theorem PySem.Challenge.cw_allelse_k05_givens_kept_holds : PySem.Challenge.rw_allelse_k05_givens_kept.Holds := by
  w_on; o_law; k_head; (case hw => w_witness2)
  k_fill
  refine Law.walk (l := PySem.Challenge.rw_allelse_k05_givens_kept) rfl rfl (fun w h Y => PySem.W.kIn_of Y) ?F
  case F =>
    intro w mg fa h KX G hmg
    refine' Law.all_mk KX G hmg ?a0 ?l0 ?c0 ?k0 ?a1 ?l1 ?c1 ?k1 ?a2 ?l2 ?c2 ?k2 ?a3 ?l3 ?c3 ?k3 ?a4 ?l4 ?c4 ?k4 ?a5 ?l5 ?c5 ?k5 ?a6 ?l6 ?c6 ?k6 ?a7 ?l7 ?c7 ?k7 ?a8 ?l8 ?c8 ?k8 ?a9 ?l9 ?c9 ?k9 ?a10 ?l10 ?c10 ?k10 ?a11 ?l11 ?c11 ?k11 ?a12 ?l12 ?c12 ?k12 ?a13 ?l13 ?c13 ?k13 ?a14 ?l14 ?c14 ?k14 ?a15 ?l15 ?c15 ?k15 ?z_dict ?z_range ?z_tuple ?z_enumerate ?z_list ?z_len ?z_isinstance ?z_int ?z_bool ?z_abs ?z_min ?z_all
    (case a0 => k_is); (case l0 => k_is); (case c0 => k_is); (case k0 => k_is)
    (case a1 => k_is); (case l1 => k_is); (case c1 => k_is); (case k1 => k_is)
    (case a2 => k_is); (case l2 => k_is); (case c2 => k_is); (case k2 => k_is)
    (case a3 => k_is); (case l3 => k_is); (case c3 => k_is); (case k3 => k_is)
    (case a4 => k_is); (case l4 => k_is); (case c4 => k_is); (case k4 => k_is)
    (case a5 => k_is); (case l5 => k_is); (case c5 => k_is); (case k5 => k_is)
    (case a6 => k_is); (case l6 => k_is); (case c6 => k_is); (case k6 => k_is)
    (case a7 => k_is); (case l7 => k_is); (case c7 => k_is); (case k7 => k_is)
    (case a8 => k_is); (case l8 => k_is); (case c8 => k_is); (case k8 => k_is)
    (case a9 => k_is); (case l9 => k_is); (case c9 => k_is); (case k9 => k_is)
    (case a10 => k_is); (case l10 => k_is); (case c10 => k_is); (case k10 => k_is)
    (case a11 => k_is); (case l11 => k_is); (case c11 => k_is); (case k11 => k_is)
    (case a12 => k_is); (case l12 => k_is); (case c12 => k_is); (case k12 => k_is)
    (case a13 => k_is); (case l13 => k_is); (case c13 => k_is); (case k13 => k_is)
    (case a14 => k_is); (case l14 => k_is); (case c14 => k_is); (case k14 => k_is)
    (case a15 => k_is); (case l15 => k_is); (case c15 => k_is); (case k15 => k_is)
    (case z_dict => k_is)
    (case z_range => k_is)
    (case z_tuple => k_is)
    (case z_enumerate => k_is)
    (case z_list => k_is)
    (case z_len => k_is)
    (case z_isinstance => k_is)
    (case z_int => k_is)
    (case z_bool => k_is)
    (case z_abs => k_is)
    (case z_min => k_is)
    (case z_all => k_is)



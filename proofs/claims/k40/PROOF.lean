import PyProof.Rows.All
import Wide.All
import OpenK.AllK
import Wide.FinOn
import Lean
import PyProof.EqAt
import PyProof.EqKinds
import PyProof.TupleCall
import PySem.Challenge.RW_tiercask_k40_what_is_a_blend
set_option Elab.async false
set_option linter.all false
set_option maxRecDepth 100000
set_option maxHeartbeats 4000000
set_option exponentiation.threshold 100000
/-! THE HAND LAYER, for ints, bools, texts, own classes, LISTS and tuples (index, slices, in, append, pop ..), calls, loops. Paste it whole ahead of your own text; what your proof does not reach may be deleted. -/
namespace L2
open PySem PySem.Spec PyProof.Rows

/-- a key: an int or a str -/
abbrev Key := Sum Int Str
def keyIs : Key → Value → Bool
  | .inl k, v => Value.isInt k v
  | .inr x, v => Value.isStrOf x v
def keyH (w : World) : Key → Int
  | .inl k => hashInt k
  | .inr x => hashStr w x
theorem keyIs_shape : ∀ {k : Key} {v : Value}, keyIs k v = true → (∃ i t, k = Sum.inl i ∧ v = Value.int i t) ∨ (∃ x t, k = Sum.inr x ∧ v = Value.str x t)
  | .inl i, v, h => by
    obtain ⟨t, e⟩ := Value.isInt_shape (k := i) (v := v) h
    exact .inl ⟨i, t, rfl, e⟩
  | .inr x, v, h => by
    obtain ⟨t, e⟩ := Value.isStrOf_shape (x := x) (v := v) h
    exact .inr ⟨x, t, rfl, e⟩
theorem keyIs_int (i : Int) (t : Tok) : keyIs (.inl i) (.int i t) = true := by simp [keyIs, Value.isInt]
theorem keyIs_str (x : Str) (t : Tok) : keyIs (.inr x) (.str x t) = true := by simp [keyIs, Value.isStrOf]
theorem key_ll (a b : Int) : decide ((Sum.inl a : Key) = Sum.inl b) = (a == b) := by
  by_cases e : a = b
  · subst e; simp
  · have h : ¬ (Sum.inl a : Key) = Sum.inl b := fun q => e (Sum.inl.inj q)
    rw [decide_eq_false h]
    exact (beq_eq_false_iff_ne.mpr e).symm
theorem key_rr (a b : Str) : decide ((Sum.inr a : Key) = Sum.inr b) = decide (a = b) := by
  by_cases e : a = b
  · subst e; simp
  · have h : ¬ (Sum.inr a : Key) = Sum.inr b := fun q => e (Sum.inr.inj q)
    rw [decide_eq_false h, decide_eq_false e]
theorem key_lr (a : Int) (b : Str) : decide ((Sum.inl a : Key) = Sum.inr b) = false := decide_eq_false (fun q => nomatch q)
theorem key_rl (a : Str) (b : Int) : decide ((Sum.inr a : Key) = Sum.inl b) = false := decide_eq_false (fun q => nomatch q)

def mixKind (prog : Program) (w : World) : PySem.KeyKind prog w Key where
  is := keyIs
  hash := keyH w
  inj := fun v a b ha hb => by
    rcases keyIs_shape ha with ⟨i, t, rfl, rfl⟩ | ⟨x, t, rfl, rfl⟩
    · rcases keyIs_shape hb with ⟨j, u, rfl, e⟩ | ⟨y, u, rfl, e⟩
      · injection e with e1 _; rw [e1]
      · exact nomatch e
    · rcases keyIs_shape hb with ⟨j, u, rfl, e⟩ | ⟨y, u, rfl, e⟩
      · exact nomatch e
      · injection e with e1 _; rw [e1]
  byValue := fun k v h => by
    rcases keyIs_shape h with ⟨i, t, rfl, rfl⟩ | ⟨x, t, rfl, rfl⟩ <;> rfl
  pyHash := fun hv h => by
    rcases keyIs_shape hv with ⟨i, t, rfl, rfl⟩ | ⟨x, t, rfl, rfl⟩
    · exact wpAny_pyHash_int h
    · exact wpAny_pyHash_str h
  eqBool := fun hu hv h => by
    rcases keyIs_shape hu with ⟨i, t, rfl, rfl⟩ | ⟨x, t, rfl, rfl⟩
    · rcases keyIs_shape hv with ⟨j, u, rfl, rfl⟩ | ⟨y, u, rfl, rfl⟩
      · rw [key_ll] at h; exact wpAny_eqBool_int h
      · rw [key_lr] at h; exact SeqAt.EqAt.int_str i t y u _ _ _ _ h
    · rcases keyIs_shape hv with ⟨j, u, rfl, rfl⟩ | ⟨y, u, rfl, rfl⟩
      · rw [key_rl] at h; exact SeqAt.EqAt.str_int x t j u _ _ _ _ h
      · rw [key_rr] at h; exact wpAny_eqBool_str h
  «strs» := fun k x t v h => by
    rcases keyIs_shape h with ⟨i, u, rfl, e⟩ | ⟨y, u, rfl, e⟩
    · exact nomatch e
    · injection e with e1 _
      subst e1
      cases v <;> rfl

theorem mixKind_int (prog : Program) (w : World) (i : Int) (t : Tok) : (mixKind prog w).is (.inl i) (.int i t) = true := keyIs_int i t
theorem mixKind_str (prog : Program) (w : World) (x : Str) (t : Tok) : (mixKind prog w).is (.inr x) (.str x t) = true := keyIs_str x t
end L2

namespace L2
open PySem PySem.Spec PyProof.Rows

/-- a value, without the heap -/
inductive V where
  | non | bl (b : Bool) | int (i : Int) | str (x : Str) | byt (b : Array UInt8) | flt (b : UInt64) | ref (a : Addr) | ty (n : String)
  deriving DecidableEq

def RelV : V → Value → Prop
  | .non, u => u = Value.none
  | .bl b, u => u = Value.bool b
  | .int i, u => ∃ t, u = Value.int i t
  | .str x, u => ∃ t, u = Value.str x t
  | .byt b, u => ∃ t, u = Value.bytes b t
  | .flt b, u => ∃ t, u = Value.float b t
  | .ref a, u => u = Value.ref a
  | .ty n, u => u = Value.type n

abbrev Vals : List V → List Value → Prop := Paired RelV
theorem Vals.length {xs : List V} {us : List Value} (r : Vals xs us) : xs.length = us.length := Paired.length r
theorem Vals.get : ∀ {xs : List V} {us : List Value} {i : Nat} {x : V}, Vals xs us → xs[i]? = some x → ∃ u, us[i]? = some u ∧ RelV x u
  | _, _, _, _, .nil, e => by simp at e
  | _, _, 0, _, .cons r _, e => by simp at e; subst e; exact ⟨_, rfl, r⟩
  | _, _, i + 1, x, .cons _ t, e => by
    obtain ⟨u, h1, h2⟩ := Vals.get (i := i) (x := x) t (by simpa using e)
    exact ⟨u, by simpa using h1, h2⟩
theorem Vals.set {x : V} {u : Value} (r : RelV x u) : ∀ {xs : List V} {us : List Value} (i : Nat), Vals xs us → Vals (xs.set i x) (us.set i u)
  | _, _, _, .nil => .nil
  | _, _, 0, .cons _ t => .cons r t
  | _, _, i + 1, .cons q t => .cons q (Vals.set r i t)
theorem Vals.append : ∀ {xs ys : List V} {us ws : List Value}, Vals xs us → Vals ys ws → Vals (xs ++ ys) (us ++ ws)
  | _, _, _, _, .nil, s => s
  | _, _, _, _, .cons r t, s => .cons r (Vals.append t s)
theorem Vals.take : ∀ {xs : List V} {us : List Value} (n : Nat), Vals xs us → Vals (xs.take n) (us.take n)
  | _, _, 0, _ => .nil
  | _, _, _ + 1, .nil => .nil
  | _, _, n + 1, .cons r t => .cons r (Vals.take n t)
theorem Vals.drop : ∀ {xs : List V} {us : List Value} (n : Nat), Vals xs us → Vals (xs.drop n) (us.drop n)
  | _, _, 0, r => r
  | _, _, _ + 1, .nil => .nil
  | _, _, n + 1, .cons _ t => Vals.drop n t
def RelO : Option V → Option Value → Prop
  | some v, some u => RelV v u
  | none, none => True
  | _, _ => False
def KV {κ : Type} : List (κ × V) → List (κ × Value) → Prop := Paired fun (p : κ × V) (q : κ × Value) => p.1 = q.1 ∧ RelV p.2 q.2

/-- a key of a dict (00_mix): an int or a text -/
def kV : Key → V
  | .inl i => .int i
  | .inr x => .str x

/-- what stands at a tracked address -/
inductive HO where
  /-- a list -/
  | lst (xs : List V)
  /-- a tuple (never changes) -/
  | tup (xs : List V)
  /-- a dict whose keys are ints and texts; one whose keys are tuples of ints and texts (the empty one is both) -/
  | dK (kvs : List (Key × V)) | dT (kvs : List (List Key × V))
  /-- a set of ints: its members, its size -/
  | set (S : Int → Bool) (n : Nat)
  /-- an instance of the class at C, its dict at dx, its attributes -/
  | ins (C dx : Addr) (fs : List (Str × V))
  /-- the dict of the instance at x -/
  | own (x : Addr)
  /-- the dict of an exception -/
  | xd (fs : List (Str × V))
  /-- a bound method, f of x -/
  | met (f x : Addr)
  /-- a range object lo, lo + 1, .. below hi -/
  | rng (lo hi : Int)
  /-- a thing that is known to the object (the script; a dict while a loop walks it): read, never written while it is so -/
  | frz (o : Obj) (u : HO)
  /-- a code object's table -/
  | tbl (ps : Array Value)
  /-- any other thing, by what is true of its one object (a def of one's own: SetO a S n := HO.ext fun h => ..) -/
  | ext (φ : Heap → Prop)

abbrev Hp := Addr → Option HO
def upd (H : Hp) (a : Addr) (o : HO) : Hp := fun b => if b = a then some o else H b
theorem upd_same {H : Hp} {a : Addr} {o : HO} : upd H a o a = some o := by unfold upd; rw [if_pos rfl]
theorem upd_ne {H : Hp} {a b : Addr} {o : HO} (h : b ≠ a) : upd H a o b = H b := by unfold upd; rw [if_neg h]
/-- two objects of different content stand apart -/
theorem ne_of {H : Hp} {a b : Addr} {o u : HO} (h : H a = some o) (h' : H b = some u) (d : o ≠ u) : a ≠ b := by
  intro e; subst e; rw [h] at h'; exact d (Option.some.inj h')
theorem ne_of_none {H : Hp} {a b : Addr} {o : HO} (h : H a = some o) (h' : H b = none) : a ≠ b := by
  intro e; subst e; rw [h] at h'; cases h'

section
variable (P : Program) (w : World)
def ObjOk (H : Hp) (h : Heap) (a : Addr) : HO → Prop
  | .lst xs => xs.length ≤ sizeLine ∧ ∃ (its : List Value) (n : Nat), Vals xs its ∧ h.get? a = some { cls := .type "list", data := .seq its.toArray n }
  | .tup xs => xs.length ≤ sizeLine ∧ ∃ its : List Value, Vals xs its ∧ IsTup h a its.toArray
  | .dK kvs => kvs.length ≤ sizeLine ∧ (a == sysModules) = false ∧ ∃ vs, KV kvs vs ∧ h.DictOf (mixKind P w) a vs
  | .dT kvs => kvs.length ≤ sizeLine ∧ (a == sysModules) = false ∧ ∃ xs : List (List Key × Addr × Value),
      Paired (fun (p : List Key × V) (q : List Key × Addr × Value) => p.1 = q.1 ∧ H q.2.1 = some (.tup (p.1.map kV)) ∧ RelV p.2 q.2.2) kvs xs ∧
      ∃ o es ep, h.get? a = some o ∧ o.ExactDict ∧ o.data = .dict es ep ∧ es.toList = xs.map (entryOfKey (tupleKind (mixKind P w))) ∧ (xs.map (·.1)).Nodup
  | .set S n => h.SetOf (intKind P w) a S n
  | .ins C dx fs => H dx = some (.own a) ∧ fs.length ≤ 1000 ∧ dx ≠ a ∧ h.get? a = some (PySem.W.instObj C dx) ∧
      ∃ mA, h.Ns1 dx mA ∧ (∀ f, RelO (fs.lookup f) (mA f)) ∧ PySem.Within mA (fs.map (·.1))
  | .own _ => ∃ o, h.get? a = some o
  | .xd fs => ∃ mA, h.Ns1 a mA ∧ ∀ f, RelO (fs.lookup f) (mA f)
  | .rng lo hi => ∃ t u v, h.get? a = some { cls := .type "range", data := .fields #[.int lo t, .int hi u, .int 1 v] }
  | .frz o u => h.get? a = some o ∧ ObjOk H h a u
  | .tbl ps => h.get? a = some { cls := .none, data := .fields ps }
  | .met f x => h.get? a = some (PySem.W.methodObj (.ref f) (.ref x))
  | .ext φ => φ h ∧ (∃ o, h.get? a = some o) ∧ ∀ h1 h2 : Heap, φ h1 → (∀ o, h1.get? a = some o → h2.get? a = some o) → φ h2
/-- the abstract heap is held -/
def HOk (H : Hp) (h : Heap) : Prop := ∀ a o, H a = some o → ObjOk P w H h a o
end

section
variable {P : Program} {w : World} {H H' : Hp} {h h' : Heap} {a : Addr} {o : HO}
theorem ObjOk.lt (x : ObjOk P w H h a o) : a < h.objs.size := by
  cases o with
  | lst xs => obtain ⟨_, _, _, _, e⟩ := x; exact Heap.lt_size e
  | tup xs => obtain ⟨_, _, _, p⟩ := x; exact p.lt
  | dK kvs => obtain ⟨_, _, _, _, o, _, _, e, _⟩ := x; exact Heap.lt_size e
  | dT kvs => obtain ⟨_, _, _, _, o, _, _, e, _⟩ := x; exact Heap.lt_size e
  | set S n => obtain ⟨o, _, _, _, e, _⟩ := x; exact Heap.lt_size e
  | ins C dx fs => obtain ⟨_, _, _, e, _⟩ := x; exact Heap.lt_size e
  | own y => obtain ⟨_, e⟩ := x; exact Heap.lt_size e
  | xd fs => obtain ⟨_, ⟨_, _, _, e, _⟩, _⟩ := x; exact Heap.lt_size e
  | rng lo hi => obtain ⟨_, _, _, e⟩ := x; exact Heap.lt_size e
  | frz ob u => obtain ⟨e, _⟩ := x; exact Heap.lt_size e
  | tbl ps => exact Heap.lt_size (show h.get? a = some _ from x)
  | met f y => exact Heap.lt_size (show h.get? a = some _ from x)
  | ext φ => obtain ⟨_, ⟨_, e⟩, _⟩ := x; exact Heap.lt_size e
theorem Paired.mapP {α β : Type} {F G : α → β → Prop} : ∀ {l₁ : List α} {l₂ : List β}, Paired F l₁ l₂ → (∀ a b, F a b → G a b) → Paired G l₁ l₂
  | _, _, .nil, _ => .nil
  | _, _, .cons r t, f => .cons (f _ _ r) (Paired.mapP t f)
/-- what an object's description leans on: its own object, its own dict, the tuples -/
theorem ObjOk.stay (x : ObjOk P w H h a o) (k : ∀ b u, (b = a ∨ H b = some (.own a)) → h.get? b = some u → h'.get? b = some u)
    (ho : ∀ b, H b = some (.own a) → H' b = some (.own a)) (ht : ∀ b xs, H b = some (.tup xs) → H' b = some (.tup xs)) : ObjOk P w H' h' a o := by
  induction o with
  | lst xs => obtain ⟨z, its, n, r, e⟩ := x; exact ⟨z, its, n, r, k _ _ (.inl rfl) e⟩
  | tup xs => obtain ⟨z, its, r, ob, e, c⟩ := x; exact ⟨z, its, r, ob, k _ _ (.inl rfl) e, c⟩
  | dK kvs => obtain ⟨z, y, vs, r, ob, es, ep, e, c⟩ := x; exact ⟨z, y, vs, r, ob, es, ep, k _ _ (.inl rfl) e, c⟩
  | dT kvs =>
    obtain ⟨z, y, xs, r, ob, es, ep, e, c⟩ := x
    exact ⟨z, y, xs, Paired.mapP r fun p q z => ⟨z.1, ht _ _ z.2.1, z.2.2⟩, ob, es, ep, k _ _ (.inl rfl) e, c⟩
  | set S n => obtain ⟨ob, es, ep, t, e, c⟩ := x; exact ⟨ob, es, ep, t, k _ _ (.inl rfl) e, c⟩
  | ins C dx fs =>
    obtain ⟨d, z, ne, e, mA, ⟨od, es, ep, e2, c⟩, r⟩ := x
    exact ⟨ho _ d, z, ne, k _ _ (.inl rfl) e, mA, ⟨od, es, ep, k _ _ (.inr d) e2, c⟩, r⟩
  | own y => obtain ⟨ob, e⟩ := x; exact ⟨ob, k _ _ (.inl rfl) e⟩
  | xd fs => obtain ⟨mA, ⟨od, es, ep, e, c⟩, r⟩ := x; exact ⟨mA, ⟨od, es, ep, k _ _ (.inl rfl) e, c⟩, r⟩
  | rng lo hi => obtain ⟨t, u, v, e⟩ := x; exact ⟨t, u, v, k _ _ (.inl rfl) e⟩
  | frz ob u ih => obtain ⟨e, q⟩ := x; exact ⟨k _ _ (.inl rfl) e, ih q⟩
  | tbl ps =>
    have e : h.get? a = some { cls := .none, data := .fields ps } := x
    show h'.get? a = some { cls := .none, data := .fields ps }
    exact k a _ (.inl rfl) e
  | met f y =>
    have e : h.get? a = some (PySem.W.methodObj (.ref f) (.ref y)) := x
    show h'.get? a = some (PySem.W.methodObj (.ref f) (.ref y))
    exact k a _ (.inl rfl) e
  | ext φ => obtain ⟨p, ⟨o, e⟩, st⟩ := x; exact ⟨st _ _ p fun o q => k _ _ (.inl rfl) q, ⟨o, k _ _ (.inl rfl) e⟩, st⟩
theorem HOk.lt (x : HOk P w H h) (e : H a = some o) : a < h.objs.size := (x a o e).lt
theorem HOk.fresh (x : HOk P w H h) (e : h.objs.size ≤ a) : H a = none := by
  cases q : H a with
  | none => rfl
  | some u => exact absurd (Nat.lt_of_lt_of_le (x.lt q) e) (Nat.lt_irrefl _)
/-- every object of the heap is kept -/
theorem HOk.kept (x : HOk P w H h) (k : ∀ b u, h.get? b = some u → h'.get? b = some u) : HOk P w H h' := fun a o e =>
  (x a o e).stay (fun b u _ q => k b u q) (fun _ q => q) fun _ _ q => q
/-- a new object is laid and tracked -/
theorem HOk.laid (x : HOk P w H h) (k : ∀ b u, h.get? b = some u → h'.get? b = some u) (hp : h.objs.size ≤ a) (new : ObjOk P w (upd H a o) h' a o) : HOk P w (upd H a o) h' := fun b u e => by
  have hn := x.fresh hp
  by_cases hb : b = a
  · subst hb; rw [upd_same] at e; cases e; exact new
  · rw [upd_ne hb] at e
    exact (x b u e).stay (fun c v _ q => k c v q) (fun c q => by rw [upd_ne (ne_of_none q hn)]; exact q) fun c xs q => by rw [upd_ne (ne_of_none q hn)]; exact q
end

/-- what may be read as u: it is u, or a known u -/
def Rd (H : Hp) (a : Addr) (u : HO) : Prop := H a = some u ∨ ∃ o, H a = some (.frz o u)
theorem Rd.of {H : Hp} {a : Addr} {u : HO} (h : H a = some u) : Rd H a u := .inl h
theorem Rd.ok {P : Program} {w : World} {H : Hp} {h : Heap} {a : Addr} {u : HO} (r : Rd H a u) (x : HOk P w H h) : ObjOk P w H h a u := by
  rcases r with r | ⟨o, r⟩
  · exact x a u r
  · obtain ⟨_, q⟩ := x a _ r
    exact q
/-- what may be written -/
def Mut : Option HO → Prop
  | some (.lst _) => True
  | some (.dK _) => True
  | some (.dT _) => True
  | some (.set _ _) => True
  | some (.ins _ _ _) => True
  | some (.ext _) => True
  | _ => False
section
variable {P : Program} {w : World} {H : Hp} {h h' : Heap} {x e : Addr} {o' : HO}
/-- the object at e is changed: x itself, or the dict of the instance x -/
theorem HOk.write (ok : HOk P w H h) (mu : Mut (H x)) (he : e = x ∨ H e = some (.own x)) (k : ∀ b u, b ≠ e → h.get? b = some u → h'.get? b = some u) (heo : ∃ u, h'.get? e = some u)
    (new : ObjOk P w (upd H x o') h' x o') : HOk P w (upd H x o') h' := fun b u q => by
  have nown : ∀ c y, H c = some (.own y) → c ≠ x := fun c y r z => by subst z; rw [r] at mu; exact mu
  have ntup : ∀ c xs, H c = some (.tup xs) → c ≠ x := fun c xs r z => by subst z; rw [r] at mu; exact mu
  by_cases hb : b = x
  · subst hb; rw [upd_same] at q; cases q; exact new
  · rw [upd_ne hb] at q
    by_cases hbe : b = e
    · have q' : H b = some (.own x) := by
        rcases he with z | z
        · exact absurd (hbe.trans z) hb
        · rw [hbe]; exact z
      rw [q] at q'; cases q'
      obtain ⟨v, hv⟩ := heo
      exact ⟨v, by rw [hbe]; exact hv⟩
    · refine (ok b u q).stay (fun c v hc r => k c v ?_ r) (fun c r => by rw [upd_ne (nown c b r)]; exact r) fun c xs r => by rw [upd_ne (ntup c xs r)]; exact r
      rcases hc with rfl | hc
      · exact hbe
      · rintro rfl
        rcases he with z | z
        · exact nown c b hc z
        · rw [hc] at z; cases z; exact hb rfl
end

/-! ### kept unless tracked; of the frames at fs (the callers') the slots may change (an exception that passes writes there); of the records at ex (iterators) nothing is said -/
structure Un (fs ex : List Addr) (H H' : Hp) (h h' : Heap) : Prop where
  keep : ∀ b o, h.get? b = some o → H b = none → b ∉ fs → b ∉ ex → h'.get? b = some o
  slot : ∀ b o, h.get? b = some o → H b = none → b ∈ fs → b ∉ ex → ∃ sl, h'.get? b = some { o with slots := sl }
  free : ∀ b o, h.get? b = some o → H b = none → b ∉ ex → H' b = none
  there : ∀ b o, h.get? b = some o → b ∉ ex → ∃ o', h'.get? b = some o'
  tups : ∀ b xs, H b = some (.tup xs) → H' b = some (.tup xs)
  frzs : ∀ b o u, H b = some (.frz o u) → H' b = some (.frz o u)
  tbls : ∀ b ps, H b = some (.tbl ps) → ∃ more, H' b = some (.tbl (ps ++ more))
section
variable {fs fs' ex ex' : List Addr} {H H1 H2 : Hp} {h h1 h2 h' : Heap} {a x e : Addr} {o : HO}
theorem Un.any (u : Un fs ex H H1 h h1) {b : Addr} {ob : Obj} (q : h.get? b = some ob) (n : H b = none) (hx : b ∉ ex) : ∃ sl, h1.get? b = some { ob with slots := sl } := by
  by_cases hb : b ∈ fs
  · exact u.slot b ob q n hb hx
  · exact ⟨ob.slots, u.keep b ob q n hb hx⟩
theorem Un.trans (a : Un fs ex H H1 h h1) (b : Un fs ex H1 H2 h1 h2) : Un fs ex H H2 h h2 where
  keep := fun c ob q n hc hx => b.keep c ob (a.keep c ob q n hc hx) (a.free c ob q n hx) hc hx
  slot := fun c ob q n hc hx => by
    obtain ⟨sl, e1⟩ := a.slot c ob q n hc hx
    obtain ⟨sl', e2⟩ := b.slot c _ e1 (a.free c ob q n hx) hc hx
    exact ⟨sl', e2⟩
  free := fun c ob q n hx => by
    obtain ⟨o', e1⟩ := a.there c ob q hx
    exact b.free c o' e1 (a.free c ob q n hx) hx
  there := fun c ob q hx => by
    obtain ⟨o', e1⟩ := a.there c ob q hx
    exact b.there c o' e1 hx
  tups := fun c xs q => b.tups c xs (a.tups c xs q)
  frzs := fun c ob xs q => b.frzs c ob xs (a.frzs c ob xs q)
  tbls := fun c ps q => by
    obtain ⟨m1, e1⟩ := a.tbls c ps q
    obtain ⟨m2, e2⟩ := b.tbls c _ e1
    exact ⟨m1 ++ m2, by rw [e2, Array.append_assoc]⟩
theorem Un.kept (k : ∀ b u, h.get? b = some u → h'.get? b = some u) : Un fs ex H H h h' :=
  ⟨fun b ob q _ _ _ => k b ob q, fun b ob q _ _ _ => ⟨ob.slots, k b ob q⟩, fun _ _ _ n _ => n, fun b ob q _ => ⟨ob, k b ob q⟩, fun _ _ q => q, fun _ _ _ q => q, fun _ ps q => ⟨#[], by rw [q]; simp⟩⟩
theorem Un.refl : Un fs ex H H h h := Un.kept fun _ _ q => q
theorem Un.laid (k : ∀ b u, h.get? b = some u → h'.get? b = some u) (hp : h.objs.size ≤ a) (hn : H a = none) : Un fs ex H (upd H a o) h h' where
  keep := fun b u q _ _ _ => k b u q
  slot := fun b u q _ _ _ => ⟨u.slots, k b u q⟩
  free := fun b u q n _ => by rw [upd_ne (Nat.ne_of_lt (Nat.lt_of_lt_of_le (Heap.lt_size q) hp))]; exact n
  there := fun b u q _ => ⟨u, k b u q⟩
  tups := fun b xs q => by rw [upd_ne (ne_of_none q hn)]; exact q
  frzs := fun b u xs q => by rw [upd_ne (ne_of_none q hn)]; exact q
  tbls := fun b ps q => ⟨#[], by rw [upd_ne (ne_of_none q hn), q]; simp⟩
theorem Un.write (mu : Mut (H x)) (he : e = x ∨ H e = some (.own x)) (k : ∀ b u, b ≠ e → h.get? b = some u → h'.get? b = some u) (heo : ∃ u, h'.get? e = some u) : Un fs ex H (upd H x o) h h' := by
  have hx : ∀ b, H b = none → b ≠ x := fun b n z => by subst z; rw [n] at mu; exact mu
  have hb : ∀ b, H b = none → b ≠ e := fun b n z => by
    subst z
    rcases he with r | r
    · exact hx b n r
    · rw [n] at r; cases r
  have hm : ∀ b u, H b = some u → ¬ Mut (some u) → b ≠ x := fun b u q nm z => by subst z; rw [q] at mu; exact nm mu
  refine ⟨fun b u q n _ _ => k b u (hb b n) q, fun b u q n _ _ => ⟨u.slots, k b u (hb b n) q⟩, fun b u q n _ => by rw [upd_ne (hx b n)]; exact n, fun b u q _ => ?_,
    fun b xs q => by rw [upd_ne (hm b _ q fun z => z)]; exact q, fun b u xs q => by rw [upd_ne (hm b _ q fun z => z)]; exact q, fun b ps q => ⟨#[], by rw [upd_ne (hm b _ q fun z => z), q]; simp⟩⟩
  by_cases hbe : b = e
  · subst hbe; exact heo
  · exact ⟨u, k b u hbe q⟩
theorem Un.mono (u : Un fs ex H H1 h h1) (hs : ∀ b ∈ fs, b ∈ fs') (hx : ∀ b ∈ ex, b ∈ ex') : Un fs' ex' H H1 h h1 :=
  ⟨fun b ob q n hb he => u.keep b ob q n (fun z => hb (hs b z)) fun z => he (hx b z), fun _ _ q n _ he => u.any q n fun z => he (hx _ z), fun b ob q n he => u.free b ob q n fun z => he (hx b z), fun b ob q he => u.there b ob q fun z => he (hx b z), u.tups, u.frzs, u.tbls⟩
end

/-! ### the heap without what is tracked -/
def trk (h : Heap) (H : Hp) : List Addr := (List.range h.objs.size).filter fun a => (H a).isSome
def hidT (h : Heap) (H : Hp) : Heap := PySem.W.hideAll h (trk h H)
theorem hidT_size (h : Heap) (H : Hp) : (hidT h H).objs.size = h.objs.size := PySem.W.hideAll_size _ _
theorem hidT_get {h : Heap} {H : Hp} {b : Addr} {o : Obj} (e : h.get? b = some o) (n : H b = none) : (hidT h H).get? b = some o :=
  PySem.W.hideAll_get _ e fun hm => by
    have q : (H b).isSome = true := (List.mem_filter.mp hm).2
    rw [n] at q; simp at q
theorem of_hidT {h : Heap} {H : Hp} {b : Addr} {o : Obj} (e : (hidT h H).get? b = some o) : h.get? b = some o ∧ H b = none := by
  have e' : h.get? b = some o := PySem.W.of_hideAll (trk h H) e
  refine ⟨e', ?_⟩
  cases q : H b with
  | none => rfl
  | some x =>
    have hm : b ∈ trk h H := List.mem_filter.mpr ⟨List.mem_range.mpr (Heap.lt_size e'), by simp [q]⟩
    have z : (hidT h H).get? b = none := PySem.W.hideAll_none (trk h H) hm
    rw [z] at e; cases e

/-! ### OpenK's ledger, filled with every new object but one -/
def allNews (g h : Heap) (L : Addr) : List (Addr × Obj) := (List.range h.objs.size).filterMap fun a => if a = L ∨ (g.get? a).isSome = true then none else (h.get? a).map fun o => (a, o)
theorem mem_allNews {g h : Heap} {L a : Addr} {o : Obj} (h1 : a ≠ L) (h2 : g.get? a = none) (h3 : h.get? a = some o) : (a, o) ∈ allNews g h L :=
  List.mem_filterMap.mpr ⟨a, List.mem_range.mpr (Heap.lt_size h3), by simp [h1, h2, h3]⟩
theorem of_mem_allNews {g h : Heap} {L : Addr} {p : Addr × Obj} (hp : p ∈ allNews g h L) : p.1 ≠ L ∧ g.get? p.1 = none ∧ h.get? p.1 = some p.2 := by
  obtain ⟨b, _, e⟩ := List.mem_filterMap.mp hp
  split at e
  · cases e
  · rename_i hn
    cases q : h.get? b with
    | none => rw [q] at e; simp at e
    | some u =>
      rw [q] at e
      simp only [Option.map_some, Option.some.injEq] at e
      subst e
      refine ⟨fun z => hn (.inl z), ?_, q⟩
      show g.get? b = none
      cases r : g.get? b with
      | none => rfl
      | some v => exact (hn (.inr (by simp [r]))).elim
def rest (g h : Heap) (L d : Addr) : List (Addr × Obj) := (allNews g h L).filter fun p => decide (p.1 ≠ d)
theorem news_all {g h : Heap} {L : Addr} : News g L h (allNews g h L) := fun p hp => let ⟨a, b, c⟩ := of_mem_allNews hp; ⟨c, a, b⟩
end L2

namespace L2
open PySem PySem.Spec PyProof.Rows

/-- the module's facts, over the base: the heap at the law's entry without what is tracked there -/
structure Mod (K : PySem.W.Frag) (mg : Str → Option Value) (base : Heap) : Prop where
  kin : K.In base
  glob : base.Ns mainGlobals mg
  blt : ∃ mb, base.Ns builtinsNs mb ∧ ∀ x : Str, x ≠ "__name__" → mb x = bootBuiltins x
  nolimit : base.NoLimit

/-- the context: a def's body (or a comprehension's block) running. base: fixed through the whole law; s₀, H₀: the entry; outer: the frames whose slots others may change (a def's callers); stack: all frames that run;
   ex: iterators that were made ahead of the entry and are walked here (a comprehension's); fn: the names whose cells were made at the entry (a def: all; a comprehension's block: its own); calm: not within an except suite; pn: pins that every state bears; xe: what is wanted of an exception that leaves the code -/
structure Cx where
  prog : Program
  w : World
  K : PySem.W.Frag
  mg : Str → Option Value
  base : Heap
  A : Around
  N : List Str
  s₀ : Shared
  H₀ : Hp
  env : Env
  outer : List Env
  stack : List Env
  ex : List Addr
  fn : Str → Bool
  calm : Bool
  pn : List (Addr × Obj)
  xe : Value → Shared → Prop
/-- the callers' frames -/
def frs (l : List Env) : List Addr := l.filterMap (·.frame)
abbrev Cx.fs (X : Cx) : List Addr := frs X.outer

def Vis (sc : Scope) (x : Str) : Prop := sc.names.lookup x = some .local ∨ sc.names.lookup x = some .cell ∨ sc.names.lookup x = some .free
def Loc (sc : Scope) (x : Str) : Prop := sc.names.lookup x = some .local ∨ sc.names.lookup x = some .cell
def Look (env : Env) (h : Heap) (m : Str → Option Value) (x : Str) (u : Value) : Prop :=
  (env.kindOf x = some .local ∧ m x = some u) ∨ ((env.kindOf x = some .cell ∨ env.kindOf x = some .free) ∧ ∃ c, env.cells.lookup x = some c ∧ h.IsCell c (some u))

structure Cx.Ok (X : Cx) : Prop where
  mod : Mod X.K X.mg X.base
  kind : X.env.scope.kind = .function
  glob : X.env.globals = mainGlobals
  blt : X.env.builtins = builtinsNs
  above : X.s₀.heap.objs.size ≤ X.env.locals
  inj : ∀ x y c, X.env.cells.lookup x = some c → X.env.cells.lookup y = some c → x = y
  has : ∀ x, (X.env.kindOf x = some .cell ∨ X.env.kindOf x = some .free) → ∃ c, X.env.cells.lookup x = some c
  cab : ∀ x c, X.fn x = true → X.env.cells.lookup x = some c → X.s₀.heap.objs.size ≤ c
  hd : X.calm = true → X.A.handled = none
  frames : X.A.frames = some X.stack
  stk : X.stack = X.outer ∨ (X.stack = X.env :: X.outer ∧ X.env.frame = some X.env.locals)
  exf : ∀ b ∈ X.ex, b ≠ X.env.locals ∧ ∀ x c, X.env.cells.lookup x = some c → c ≠ b
  bs : ∀ b o, X.base.get? b = some o → X.s₀.heap.get? b = some o ∧ X.H₀ b = none
  bsz : X.base.objs.size ≤ X.s₀.heap.objs.size
  noex : ∀ b o, X.base.get? b = some o → b ∉ X.ex
  exfs : ∀ b ∈ X.ex, b ∉ X.fs
  funs : X.s₀.heap.FunFrames X.base X.outer
  frf : ∀ b ∈ X.fs, X.H₀ b = none

structure Inv (X : Cx) (pins : List (Addr × Obj)) (σ : List (Option V)) (H : Hp) (s : Shared) : Prop where
  ok : X.Ok
  os : s.os = X.s₀.os
  bare : AllBare s.gens
  base : Un X.fs X.ex X.H₀ H X.s₀.heap s.heap
  loc : ∃ m, s.heap.Ns X.env.locals m ∧ ∀ (i : Nat) (x : Str) (v : V), X.N[i]? = some x → σ[i]? = some (some v) → Vis X.env.scope x → ∃ u, RelV v u ∧ Look X.env s.heap m x u
  cell : ∀ x c, X.env.cells.lookup x = some c → ∃ v, s.heap.IsCell c v
  free : H X.env.locals = none
  freeC : ∀ x c, X.env.cells.lookup x = some c → H c = none
  pin : ∀ p ∈ X.pn ++ pins, s.heap.get? p.1 = some p.2 ∧ H p.1 = none ∧ p.1 ≠ X.env.locals ∧ p.1 ∉ X.fs ∧ ∀ v, p.2.data ≠ .cell v
  hok : HOk X.prog X.w H s.heap
  len : σ.length = X.N.length

section
variable {X : Cx} {pins : List (Addr × Obj)} {σ : List (Option V)} {H H' : Hp} {s : Shared} {h' : Heap}

theorem Cx.Ok.nofr (ok : X.Ok) {b : Addr} {o : Obj} (e : X.base.get? b = some o) : b ∉ X.fs := fun hb => by
  have := (ok.funs.mem hb).1
  rw [e] at this; cases this
theorem Inv.bs (I : Inv X pins σ H s) : ∀ b o, X.base.get? b = some o → s.heap.get? b = some o ∧ H b = none := fun b o e =>
  ⟨I.base.keep b o (I.ok.bs b o e).1 (I.ok.bs b o e).2 (I.ok.nofr e) (I.ok.noex b o e), I.base.free b o (I.ok.bs b o e).1 (I.ok.bs b o e).2 (I.ok.noex b o e)⟩
theorem Inv.bk (I : Inv X pins σ H s) : ∀ b o, X.base.get? b = some o → s.heap.get? b = some o := fun b o e => (I.bs b o e).1
theorem Inv.mod (I : Inv X pins σ H s) : Mod X.K X.mg X.base := I.ok.mod
theorem Inv.kIn (I : Inv X pins σ H s) : X.K.In s.heap := I.ok.mod.kin.keeps I.bk
theorem Inv.nolimit (I : Inv X pins σ H s) : s.heap.NoLimit := I.ok.mod.nolimit.keeps I.bk
/-- the frame over the base: for OpenK's rules (K.In X.base is I.mod.kin) -/
theorem Inv.fr (I : Inv X pins σ H s) : ∃ m, Fr X.base X.env.locals s.heap m :=
  let ⟨m, hn, _⟩ := I.loc
  ⟨m, hn, I.bk, Nat.le_trans I.ok.bsz I.ok.above⟩
theorem Inv.lt (I : Inv X pins σ H s) : X.env.locals < s.heap.objs.size := let ⟨_, hn, _⟩ := I.loc; hn.lt
theorem Inv.sz (I : Inv X pins σ H s) : X.s₀.heap.objs.size ≤ s.heap.objs.size := Nat.le_trans I.ok.above (Nat.le_of_lt I.lt)
theorem Inv.nofs (I : Inv X pins σ H s) {a : Addr} (h : s.heap.objs.size ≤ a) : a ∉ X.fs := fun hb => by
  obtain ⟨_, o, ho, _⟩ := I.ok.funs.mem hb
  exact absurd (Nat.lt_of_lt_of_le (Heap.lt_size ho) (Nat.le_trans I.sz h)) (Nat.lt_irrefl _)
theorem Inv.cne (I : Inv X pins σ H s) : ∀ x c, X.env.cells.lookup x = some c → c ≠ X.env.locals := fun x c e z => by
  obtain ⟨v, o, ho, hd⟩ := I.cell x c e
  obtain ⟨m, ⟨o', es, ep, ho', hd', _⟩, _⟩ := I.loc
  rw [z, ho'] at ho; cases ho; rw [hd'] at hd; cases hd
theorem Inv.funs (I : Inv X pins σ H s) : s.heap.FunFrames X.base X.outer := by
  have all : ∀ (l : List Env), (∀ b ∈ frs l, b ∈ X.fs) → X.s₀.heap.FunFrames X.base l → s.heap.FunFrames X.base l := by
    intro l
    induction l with
    | nil => intro _ _; trivial
    | cons env r ih =>
      intro hs hl
      obtain ⟨hk, ⟨L, o, hf, hn, ho, hd⟩, hr⟩ := hl
      have hL : L ∈ X.fs := hs L (by unfold frs; rw [List.filterMap_cons, hf]; exact List.mem_cons_self)
      obtain ⟨sl, e⟩ := I.base.slot L o ho (I.ok.frf L hL) hL fun z => I.ok.exfs L z hL
      exact ⟨hk, ⟨L, _, hf, hn, e, hd⟩, ih (fun b hb => hs b (by unfold frs; rw [List.filterMap_cons, hf]; exact List.mem_cons_of_mem _ hb)) hr⟩
  exact all X.outer (fun _ hb => hb) I.ok.funs

/-- the frames that run, for a call -/
theorem Inv.stack (I : Inv X pins σ H s) : s.heap.FunFrames X.base X.stack := by
  rcases I.ok.stk with e | ⟨e, hf⟩
  · rw [e]; exact I.funs
  · rw [e]
    obtain ⟨m, hn, _⟩ := I.loc
    refine .cons (by rw [I.ok.kind]; decide) hf hn ?_ I.funs
    exact Heap.get?_none_of_le (Nat.le_trans I.ok.bsz I.ok.above)
theorem Inv.stkSub (I : Inv X pins σ H s) : ∀ b ∈ frs X.stack, b ∈ X.env.locals :: X.fs := fun b hb => by
  rcases I.ok.stk with e | ⟨e, hf⟩
  · rw [e] at hb; exact List.mem_cons_of_mem _ hb
  · rw [e] at hb
    unfold frs at hb
    rw [List.filterMap_cons, hf] at hb
    exact hb
theorem Inv.stkFree (I : Inv X pins σ H s) : ∀ b ∈ frs X.stack, H b = none := fun b hb => by
  rcases List.mem_cons.mp (I.stkSub b hb) with e | hb
  · rw [e]; exact I.free
  · obtain ⟨_, o, ho, _⟩ := I.ok.funs.mem hb
    exact I.base.free b o ho (I.ok.frf b hb) fun z => I.ok.exfs b z hb

/-- THE STEP: the untracked objects but the frame and the records at ch are kept (the callers' frames up to slots), the frame's map is kept, the new abstract heap is held -/
theorem Inv.step {g' : Array GenState} {t' : Nat} {d' : Drawn} {ch : List Addr} (I : Inv X pins σ H s)
    (hch : ∀ b ∈ ch, (b ∈ X.ex ∨ X.s₀.heap.objs.size ≤ b) ∧ b ≠ X.env.locals ∧ (∀ x c, X.env.cells.lookup x = some c → c ≠ b) ∧ ∀ p ∈ X.pn ++ pins, p.1 ≠ b)
    (keep : ∀ b o, b ≠ X.env.locals → b ∉ X.fs → b ∉ ch → s.heap.get? b = some o → H b = none → h'.get? b = some o)
    (slot : ∀ b o, b ≠ X.env.locals → b ∈ X.fs → b ∉ ch → s.heap.get? b = some o → H b = none → ∃ sl, h'.get? b = some { o with slots := sl }) (free : ∀ b o, b ∉ ch → s.heap.get? b = some o → H b = none → H' b = none)
    (there : ∀ b o, b ∉ ch → s.heap.get? b = some o → ∃ o', h'.get? b = some o')
    (tups : ∀ b xs, H b = some (.tup xs) → H' b = some (.tup xs)) (frzs : ∀ b o u, H b = some (.frz o u) → H' b = some (.frz o u)) (tbls : ∀ b ps, H b = some (.tbl ps) → ∃ more, H' b = some (.tbl (ps ++ more)))
    (ns : ∀ m, s.heap.Ns X.env.locals m → h'.Ns X.env.locals m) (hok : HOk X.prog X.w H' h') (hg : AllBare g') :
    Inv X pins σ H' { s with heap := h', gens := g', drawn := d', toks := t' } := by
  have neL : ∀ b o, X.s₀.heap.get? b = some o → b ≠ X.env.locals := fun b o e => Nat.ne_of_lt (Nat.lt_of_lt_of_le (Heap.lt_size e) I.ok.above)
  have neC : ∀ b o, X.s₀.heap.get? b = some o → b ∉ X.ex → b ∉ ch := fun b o e hx hb => by
    rcases (hch b hb).1 with z | z
    · exact hx z
    · exact absurd (Nat.lt_of_lt_of_le (Heap.lt_size e) z) (Nat.lt_irrefl _)
  have cellK : ∀ x c, X.env.cells.lookup x = some c → ∀ v, s.heap.IsCell c v → h'.IsCell c v := fun x c e v ⟨o, ho, hd⟩ => by
    have nch : c ∉ ch := fun z => (hch c z).2.2.1 x c e rfl
    by_cases hc : c ∈ X.fs
    · obtain ⟨sl, q⟩ := slot c o (I.cne x c e) hc nch ho (I.freeC x c e)
      exact ⟨_, q, hd⟩
    · exact ⟨o, keep c o (I.cne x c e) hc nch ho (I.freeC x c e), hd⟩
  refine ⟨I.ok, I.os, hg, ⟨fun b o e n hb hx => ?_, fun b o e n hb hx => ?_, fun b o e n hx => ?_, fun b o e hx => ?_, fun b xs e => tups b xs (I.base.tups b xs e), fun b o xs e => frzs b o xs (I.base.frzs b o xs e), fun b ps e => ?_⟩, ?_, fun x c e => ?_, ?_, fun x c e => ?_, fun p hp => ?_, hok, I.len⟩
  · exact keep b o (neL b o e) hb (neC b o e hx) (I.base.keep b o e n hb hx) (I.base.free b o e n hx)
  · obtain ⟨sl, e1⟩ := I.base.slot b o e n hb hx
    obtain ⟨sl', e2⟩ := slot b _ (neL b o e) hb (neC b o e hx) e1 (I.base.free b o e n hx)
    exact ⟨sl', e2⟩
  · obtain ⟨o', e1⟩ := I.base.there b o e hx
    exact free b o' (neC b o e hx) e1 (I.base.free b o e n hx)
  · obtain ⟨o', e1⟩ := I.base.there b o e hx
    exact there b o' (neC b o e hx) e1
  · obtain ⟨m1, e1⟩ := I.base.tbls b ps e
    obtain ⟨m2, e2⟩ := tbls b _ e1
    exact ⟨m1 ++ m2, by rw [e2, Array.append_assoc]⟩
  · obtain ⟨m, hn, hl⟩ := I.loc
    refine ⟨m, ns m hn, fun i x v e1 e2 e3 => ?_⟩
    obtain ⟨u, r, l⟩ := hl i x v e1 e2 e3
    refine ⟨u, r, ?_⟩
    rcases l with l | ⟨k, c, e, z⟩
    · exact .inl l
    · exact .inr ⟨k, c, e, cellK x c e _ z⟩
  · obtain ⟨v, z⟩ := I.cell x c e
    exact ⟨v, cellK x c e v z⟩
  · obtain ⟨m, ⟨o, _, _, ho, _⟩, _⟩ := I.loc
    exact free _ o (fun z => (hch _ z).2.1 rfl) ho I.free
  · obtain ⟨v, o, ho, hd⟩ := I.cell x c e
    exact free c o (fun z => (hch c z).2.2.1 x c e rfl) ho (I.freeC x c e)
  · obtain ⟨e, n, ne, nf, d⟩ := I.pin p hp
    have nch : p.1 ∉ ch := fun z => (hch p.1 z).2.2.2 p hp rfl
    exact ⟨keep p.1 p.2 ne nf nch e n, free p.1 p.2 nch e n, ne, nf, d⟩
/-- .. where the frame's own object is kept too -/
theorem Inv.un {t' : Nat} (I : Inv X pins σ H s) (u : Un X.fs [] H H' s.heap h') (hok : HOk X.prog X.w H' h') : Inv X pins σ H' { s with heap := h', toks := t' } := by
  obtain ⟨m, ⟨o, es, ep, ho, r⟩, _⟩ := id I.loc
  obtain ⟨sl, hL⟩ := u.any ho I.free (by simp)
  exact I.step (g' := s.gens) (d' := s.drawn) (ch := []) (fun _ z => nomatch z) (fun b o _ hb _ e n => u.keep b o e n hb (by simp)) (fun b o _ hb _ e n => u.slot b o e n hb (by simp)) (fun b o _ e n => u.free b o e n (by simp)) (fun b o _ e => u.there b o e (by simp)) u.tups u.frzs u.tbls (fun m' hm => by
    obtain ⟨o', es', ep', ho', r'⟩ := hm
    rw [ho] at ho'; cases ho'
    exact ⟨_, es', ep', hL, r'⟩) hok I.bare
/-- behind a call (or a comprehension's block): the slots of this frame may have changed too, the records at ch may have turned -/
theorem Inv.call {g' : Array GenState} {t' : Nat} {d' : Drawn} {ch : List Addr} (I : Inv X pins σ H s) (u : Un (frs X.stack) ch H H' s.heap h') (hok : HOk X.prog X.w H' h') (hg : AllBare g')
    (hch : ∀ b ∈ ch, (b ∈ X.ex ∨ X.s₀.heap.objs.size ≤ b) ∧ b ≠ X.env.locals ∧ (∀ x c, X.env.cells.lookup x = some c → c ≠ b) ∧ ∀ p ∈ X.pn ++ pins, p.1 ≠ b) :
    Inv X pins σ H' { s with heap := h', gens := g', drawn := d', toks := t' } := by
  obtain ⟨m, ⟨o, es, ep, ho, r⟩, _⟩ := id I.loc
  obtain ⟨sl, hL⟩ := u.any ho I.free fun z => (hch _ z).2.1 rfl
  exact I.step (ch := ch) hch (fun b o hL hb hc e n => u.keep b o e n (fun z => (List.mem_cons.mp (I.stkSub b z)).elim hL hb) hc) (fun b o _ _ hc e n => u.any e n hc) (fun b o hc e n => u.free b o e n hc) (fun b o hc e => u.there b o e hc) u.tups u.frzs u.tbls (fun m' hm => by
    obtain ⟨o', es', ep', ho', r'⟩ := hm
    rw [ho] at ho'; cases ho'
    exact ⟨_, es', ep', hL, r'⟩) hok hg
/-- an untracked record of ours (an iterator) has turned -/
theorem Inv.turned {t' : Nat} {it : Addr} (I : Inv X pins σ H s) (k : ∀ b o, b ≠ it → s.heap.get? b = some o → h'.get? b = some o) (hn : H it = none) (hL : it ≠ X.env.locals)
    (h1 : it ∈ X.ex ∨ X.s₀.heap.objs.size ≤ it) (h2 : ∀ x c, X.env.cells.lookup x = some c → c ≠ it) (h3 : ∀ p ∈ X.pn ++ pins, p.1 ≠ it) : Inv X pins σ H { s with heap := h', toks := t' } := by
  have nit : ∀ b u, H b = some u → b ≠ it := fun b u e z => by rw [z, hn] at e; cases e
  refine I.step (g' := s.gens) (d' := s.drawn) (ch := [it]) (fun b hb => ?_) (fun b o _ _ hc e _ => k b o (fun z => hc (by simp [z])) e) (fun b o _ _ hc e _ => ⟨o.slots, k b o (fun z => hc (by simp [z])) e⟩) (fun _ _ _ _ n => n)
    (fun b o hc e => ⟨o, k b o (fun z => hc (by simp [z])) e⟩) (fun _ _ e => e) (fun _ _ _ e => e) (fun b ps e => ⟨#[], by rw [e]; simp⟩) (fun m hm => ?_) (fun b u e => ?_) I.bare
  · have e : b = it := by simpa using hb
    subst e
    exact ⟨h1, hL, h2, h3⟩
  · obtain ⟨o, es, ep, ho, r⟩ := hm
    exact ⟨o, es, ep, k _ o (Ne.symm hL) ho, r⟩
  · refine (I.hok b u e).stay (fun c v hc q => k c v ?_ q) (fun _ q => q) fun _ _ q => q
    rcases hc with z | z
    · rw [z]; exact nit b u e
    · exact nit c _ z
theorem Inv.tok (I : Inv X pins σ H s) (t : Nat) : Inv X pins σ H { s with toks := t } := I.un (h' := s.heap) (t' := t) Un.refl I.hok
/-- all objects kept -/
theorem Inv.kept {t' : Nat} (I : Inv X pins σ H s) (k : ∀ b u, s.heap.get? b = some u → h'.get? b = some u) : Inv X pins σ H { s with heap := h', toks := t' } := I.un (Un.kept k) (I.hok.kept k)
/-- a new object laid and tracked -/
theorem Inv.laid {a : Addr} {o : HO} {t' : Nat} (I : Inv X pins σ H s) (k : ∀ b u, s.heap.get? b = some u → h'.get? b = some u) (hp : s.heap.objs.size ≤ a) (new : ObjOk X.prog X.w (upd H a o) h' a o) :
    Inv X pins σ (upd H a o) { s with heap := h', toks := t' } := I.un (Un.laid k hp (I.hok.fresh hp)) (I.hok.laid k hp new)
/-- an object written -/
theorem Inv.write {x e : Addr} {o : HO} {t' : Nat} (I : Inv X pins σ H s) (mu : Mut (H x)) (he : e = x ∨ H e = some (.own x)) (k : ∀ b u, b ≠ e → s.heap.get? b = some u → h'.get? b = some u) (heo : ∃ u, h'.get? e = some u)
    (new : ObjOk X.prog X.w (upd H x o) h' x o) : Inv X pins σ (upd H x o) { s with heap := h', toks := t' } := I.un (Un.write mu he k heo) (I.hok.write mu he k heo new)
theorem Inv.pins_of {pins' : List (Addr × Obj)} (I : Inv X pins σ H s) (h : ∀ p ∈ pins', s.heap.get? p.1 = some p.2 ∧ H p.1 = none ∧ p.1 ≠ X.env.locals ∧ p.1 ∉ X.fs ∧ ∀ v, p.2.data ≠ .cell v) : Inv X pins' σ H s :=
  ⟨I.ok, I.os, I.bare, I.base, I.loc, I.cell, I.free, I.freeC, fun p hp => (List.mem_append.mp hp).elim (fun z => I.pin p (List.mem_append_left _ z)) (h p), I.hok, I.len⟩

theorem nodup_ix {N : List Str} (hN : N.Nodup) {i j : Nat} {x : Str} (a : N[i]? = some x) (b : N[j]? = some x) : i = j := by
  obtain ⟨h1, e1⟩ := List.getElem?_eq_some_iff.mp a
  obtain ⟨h2, e2⟩ := List.getElem?_eq_some_iff.mp b
  exact (List.getElem_inj hN).mp (e1.trans e2.symm)

/-- a name is stored; what changed -/
theorem store_ok2 {M : Model} {A : Around} {E : Value → Shared → Prop} {i : Nat} {x : Str} {v : V} {u : Value} {Q : Unit → Shared → Prop} (I : Inv X pins σ H s) (hN : X.N.Nodup) (hi : X.N[i]? = some x) (hx : Loc X.env.scope x) (r : RelV v u)
    (h : ∀ s', Inv X pins (σ.set i (some v)) H s' → (∃ a, Heap.SameBut a s.heap s'.heap ∧ (a = X.env.locals ∨ X.env.cells.lookup x = some a)) → Q () s') (hf : X.fn x = true ∨ X.env.scope.names.lookup x = some .local := by first | exact .inl rfl | exact .inr rfl | assumption) : wpAny M A (storeName X.env x u) Q E s := by
  obtain ⟨m, hn, hl⟩ := id I.loc
  have hcls : (X.env.scope.kind == .class || (X.env.scope.kind == .module && X.env.locals != X.env.globals)) = false := by rw [I.ok.kind]; rfl
  have hiσ : i < σ.length := by rw [I.len]; exact (List.getElem?_eq_some_iff.mp hi).1
  have cne := I.cne
  have tracked : ∀ {a : Addr} {h' : Heap}, (∃ o, s.heap.get? a = some o ∧ H a = none) → Heap.SameBut a s.heap h' → HOk X.prog X.w H h' := fun {a h'} ha hs b ob e => by
    obtain ⟨_, _, hfree⟩ := ha
    refine (I.hok b ob e).stay (fun c w' hc q => (hs.2 c ?_).trans q) (fun _ q => q) fun _ _ q => q
    rintro rfl
    rcases hc with rfl | hc
    · rw [hfree] at e; cases e
    · rw [hfree] at hc; cases hc
  rcases hx with hk | hk
  · refine wpAny_storeName_local hk hn (fun h' hn' hs => ?_) hcls
    obtain ⟨oL, _, _, hoL, _⟩ := id hn
    refine h _ ⟨I.ok, I.os, I.bare, ⟨fun b o e n hb hx => ?_, fun b o e n hb hx => ?_, I.base.free, fun b o e hx => ?_, I.base.tups, I.base.frzs, I.base.tbls⟩, ⟨_, hn', fun j y v' e1 e2 e3 => ?_⟩, fun y c e => ?_, I.free, I.freeC, fun p hp => ?_, tracked ⟨oL, hoL, I.free⟩ hs, by simpa using I.len⟩ ⟨_, hs, .inl rfl⟩
    · exact (hs.2 b (Nat.ne_of_lt (Nat.lt_of_lt_of_le (Heap.lt_size e) I.ok.above))).trans (I.base.keep b o e n hb hx)
    · obtain ⟨sl, e1⟩ := I.base.slot b o e n hb hx
      exact ⟨sl, (hs.2 b (Nat.ne_of_lt (Nat.lt_of_lt_of_le (Heap.lt_size e) I.ok.above))).trans e1⟩
    · obtain ⟨o', e1⟩ := I.base.there b o e hx
      exact ⟨o', (hs.2 b (Nat.ne_of_lt (Nat.lt_of_lt_of_le (Heap.lt_size e) I.ok.above))).trans e1⟩
    · by_cases hj : j = i
      · subst hj
        rw [hi] at e1; cases e1
        rw [List.getElem?_set_self hiσ] at e2
        cases e2
        exact ⟨u, r, .inl ⟨hk, by simp⟩⟩
      · rw [List.getElem?_set_ne (Ne.symm hj)] at e2
        obtain ⟨u', r', q⟩ := hl j y v' e1 e2 e3
        refine ⟨u', r', ?_⟩
        rcases q with ⟨k, e⟩ | ⟨k, c, e, z⟩
        · refine .inl ⟨k, ?_⟩
          have : y ≠ x := fun e => hj (nodup_ix hN e1 (e ▸ hi))
          simp [this, e]
        · exact .inr ⟨k, c, e, z.sameBut hs (cne y c e)⟩
    · obtain ⟨w', z⟩ := I.cell y c e
      exact ⟨w', z.sameBut hs (cne y c e)⟩
    · obtain ⟨e, n, ne, nf, d⟩ := I.pin p hp
      exact ⟨(hs.2 p.1 ne).trans e, n, ne, nf, d⟩
  · have hfn : X.fn x = true := by
      rcases hf with z | z
      · exact z
      · rw [z] at hk; cases hk
    obtain ⟨c, hc⟩ := I.ok.has x (.inl hk)
    obtain ⟨w', z⟩ := I.cell x c hc
    refine wpAny_storeName_cell I.ok.kind hk hc z (fun h' hc' hs => ?_)
    obtain ⟨oc, hoc, hocd⟩ := id z
    refine h { s with heap := h' } ⟨I.ok, I.os, I.bare, ⟨fun b o e n hb hx => ?_, fun b o e n hb hx => ?_, I.base.free, fun b o e hx => ?_, I.base.tups, I.base.frzs, I.base.tbls⟩, ⟨m, hn.sameBut hs (Ne.symm (cne x c hc)), fun j y v' e1 e2 e3 => ?_⟩, fun y c' e => ?_, I.free, I.freeC, fun p hp => ?_, tracked ⟨oc, hoc, I.freeC x c hc⟩ hs, by simpa using I.len⟩ ⟨c, hs, .inr hc⟩
    · exact (hs.2 b (Nat.ne_of_lt (Nat.lt_of_lt_of_le (Heap.lt_size e) (I.ok.cab x c hfn hc)))).trans (I.base.keep b o e n hb hx)
    · obtain ⟨sl, e1⟩ := I.base.slot b o e n hb hx
      exact ⟨sl, (hs.2 b (Nat.ne_of_lt (Nat.lt_of_lt_of_le (Heap.lt_size e) (I.ok.cab x c hfn hc)))).trans e1⟩
    · obtain ⟨o', e1⟩ := I.base.there b o e hx
      exact ⟨o', (hs.2 b (Nat.ne_of_lt (Nat.lt_of_lt_of_le (Heap.lt_size e) (I.ok.cab x c hfn hc)))).trans e1⟩
    · by_cases hj : j = i
      · subst hj
        rw [hi] at e1; cases e1
        rw [List.getElem?_set_self hiσ] at e2
        cases e2
        exact ⟨u, r, .inr ⟨.inl hk, c, hc, hc'⟩⟩
      · rw [List.getElem?_set_ne (Ne.symm hj)] at e2
        obtain ⟨u', r', q⟩ := hl j y v' e1 e2 e3
        refine ⟨u', r', ?_⟩
        rcases q with q | ⟨k, c', e, z'⟩
        · exact .inl q
        · refine .inr ⟨k, c', e, z'.sameBut hs ?_⟩
          rintro rfl
          exact hj (nodup_ix hN e1 (I.ok.inj _ _ _ e hc ▸ hi))
    · by_cases hcc : c' = c
      · subst hcc; exact ⟨_, hc'⟩
      · obtain ⟨w2, z2⟩ := I.cell y c' e
        exact ⟨w2, z2.sameBut hs hcc⟩
    · obtain ⟨e, n, ne, nf, d⟩ := I.pin p hp
      refine ⟨(hs.2 p.1 ?_).trans e, n, ne, nf, d⟩
      intro q
      rw [q, hoc] at e
      have q' : oc = p.2 := Option.some.inj e
      exact d w' (by rw [← q']; exact hocd)
theorem store_ok {M : Model} {A : Around} {E : Value → Shared → Prop} {i : Nat} {x : Str} {v : V} {u : Value} {Q : Unit → Shared → Prop} (I : Inv X pins σ H s) (hN : X.N.Nodup) (hi : X.N[i]? = some x) (hx : Loc X.env.scope x) (r : RelV v u)
    (h : ∀ s', Inv X pins (σ.set i (some v)) H s' → Q () s') (hf : X.fn x = true ∨ X.env.scope.names.lookup x = some .local := by first | exact .inl rfl | exact .inr rfl | assumption) : wpAny M A (storeName X.env x u) Q E s :=
  store_ok2 I hN hi hx r (fun s' I' _ => h s' I') hf
/-- behind a call or a block, the state as it is -/
theorem Inv.call' {s' : Shared} {ch : List Addr} (I : Inv X pins σ H s) (ho : s'.os = s.os) (u : Un (frs X.stack) ch H H' s.heap s'.heap) (hok : HOk X.prog X.w H' s'.heap) (hg : AllBare s'.gens)
    (hch : ∀ b ∈ ch, (b ∈ X.ex ∨ X.s₀.heap.objs.size ≤ b) ∧ b ≠ X.env.locals ∧ (∀ x c, X.env.cells.lookup x = some c → c ≠ b) ∧ ∀ p ∈ X.pn ++ pins, p.1 ≠ b) : Inv X pins σ H' s' := by
  obtain ⟨h', g', d', t', o'⟩ := s'
  have e : o' = s.os := ho
  subst e
  exact I.call (g' := g') (t' := t') (d' := d') u hok hg hch
end

/-! ### the judgements -/
/-- an exception: its class, its own dict's address (where it has one), the abstract heap behind it -/
abbrev XK := Value → Option Addr → Hp → Prop
abbrev St := List (Option V)
abbrev VK := V → Hp → Prop
/-- an expression's reading; a test's; an argument list's -/
abbrev TE := St → Hp → VK → Prop
abbrev TT := St → Hp → (Bool → Hp → Prop) → Prop
abbrev TA := St → Hp → (List V → Hp → Prop) → Prop
/-- what is wanted behind a statement -/
structure Ends where
  nx : St → Hp → Prop
  rt : VK
  bk : St → Hp → Prop := fun _ _ => False
  ct : St → Hp → Prop := fun _ _ => False
abbrev TS := Ends → St → Hp → Prop

def EP (X : Cx) (pins : List (Addr × Obj)) (σ : St) (Q : VK) (u : Value) (s' : Shared) : Prop := ∃ v H', Inv X pins σ H' s' ∧ RelV v u ∧ Q v H'
def TP (X : Cx) (pins : List (Addr × Obj)) (σ : St) (Q : Bool → Hp → Prop) (b : Bool) (s' : Shared) : Prop := ∃ H', Inv X pins σ H' s' ∧ Q b H'
def AP (X : Cx) (pins : List (Addr × Obj)) (σ : St) (Q : List V → Hp → Prop) (us : List Value) (s' : Shared) : Prop := ∃ vs H', Inv X pins σ H' s' ∧ Vals vs us ∧ Q vs H'
def SP (X : Cx) (pins : List (Addr × Obj)) (D : Ends) (f : Flow) (s' : Shared) : Prop :=
  match f with
  | .next => ∃ σ' H', Inv X pins σ' H' s' ∧ D.nx σ' H'
  | .brk => ∃ σ' H', Inv X pins σ' H' s' ∧ D.bk σ' H'
  | .cont => ∃ σ' H', Inv X pins σ' H' s' ∧ D.ct σ' H'
  | .ret u => ∃ v σ' H', Inv X pins σ' H' s' ∧ RelV v u ∧ D.rt v H'

def PE (X : Cx) (e : Expr) (t : TE) : Prop :=
  ∀ (pins : List (Addr × Obj)) (s : Shared) (σ : St) (H : Hp) (Q : VK), Inv X pins σ H s → t σ H Q → wpAny (model X.prog X.w) X.A (eval e X.env) (EP X pins σ Q) X.xe s
def PT (X : Cx) (e : Expr) (t : TT) : Prop :=
  ∀ (pins : List (Addr × Obj)) (s : Shared) (σ : St) (H : Hp) (Q : Bool → Hp → Prop), Inv X pins σ H s → t σ H Q → wpAny (model X.prog X.w) X.A (isTrue e X.env (eval e X.env)) (TP X pins σ Q) X.xe s
/-- a test whatever its 'whole' is (and, or) -/
def PW (X : Cx) (e : Expr) (t : TT) : Prop :=
  ∀ (whole : Sem Value) (pins : List (Addr × Obj)) (s : Shared) (σ : St) (H : Hp) (Q : Bool → Hp → Prop), Inv X pins σ H s → t σ H Q → wpAny (model X.prog X.w) X.A (isTrue e X.env whole) (TP X pins σ Q) X.xe s
theorem PW.pt {X : Cx} {e : Expr} {t : TT} (h : PW X e t) : PT X e t := h _
/-- an argument list (no star), from the left -/
def PA (X : Cx) (es : List Expr) (t : TA) : Prop :=
  ∀ (pos : Pos) (pins : List (Addr × Obj)) (s : Shared) (σ : St) (H : Hp) (Q : List V → Hp → Prop), Inv X pins σ H s → t σ H Q → wpAny (model X.prog X.w) X.A (spliced (backTo pos (starEach es X.env))) (AP X pins σ Q) X.xe s
def PS (X : Cx) (st : Stmt) (t : TS) : Prop :=
  ∀ (pins : List (Addr × Obj)) (s : Shared) (σ : St) (H : Hp) (D : Ends), Inv X pins σ H s → t D σ H → wpAny (model X.prog X.w) X.A (exec st X.env) (SP X pins D) X.xe s
def PSs (X : Cx) (st : List Stmt) (t : TS) : Prop :=
  ∀ (pins : List (Addr × Obj)) (s : Shared) (σ : St) (H : Hp) (D : Ends), Inv X pins σ H s → t D σ H → wpAny (model X.prog X.w) X.A (execs st X.env) (SP X pins D) X.xe s
/-- weaken the end -/
theorem thn {α : Type} {t : Sem α} {Q Q' : α → Shared → Prop} {M : Model} {A : Around} {E : Value → Shared → Prop} {s : Shared} (h : wpAny M A t Q E s) (hQ : ∀ a s, Q a s → Q' a s) : wpAny M A t Q' E s := wpAny_mono h hQ fun _ _ x => x
end L2

namespace L2
open PySem PySem.Spec PyProof.Rows
section
variable {X : Cx}

/-! ### names and constants -/
def tVar (i : Nat) : TE := fun σ H Q => ∃ v, σ[i]? = some (some v) ∧ Q v H
def tC (v : V) : TE := fun _ H Q => Q v H
theorem pe_var {i : Nat} {x : Str} {pos : Pos} (hN : X.N[i]? = some x) (hv : Vis X.env.scope x) (hd : (x == ("__debug__" : Str)) = false := by decide) (hcd : (x == ("__classdict__" : Str)) = false := by decide) : PE X (.Name x pos) (tVar i) := by
  intro pins s σ H Q I h
  obtain ⟨v, e, h⟩ := h
  obtain ⟨m, hn, hl⟩ := I.loc
  obtain ⟨u, r, l⟩ := hl i x v hN e hv
  have fin : EP X pins σ Q u s := ⟨v, H, I, r, h⟩
  rcases l with ⟨hk, hm⟩ | ⟨hk, c, hc, hcell⟩
  · exact wpAny_Name (wpAny_loadName_local I.ok.kind hk hn hm fin) hd
  · rcases hk with hk | hk
    · exact wpAny_Name (wpAny_loadName_cell I.ok.kind hk hc hcell fin) hd
    · exact wpAny_Name (wpAny_loadName_free I.ok.kind hk hc hcell fin hcd) hd
theorem pe_int {i j pos} : PE X (.Constant (.int i) j pos) (tC (.int i)) := fun _ _ _ H _ I h => wpAny_Constant_int ⟨.int i, H, I.tok _, ⟨_, rfl⟩, h⟩
theorem pe_bl {b j pos} : PE X (.Constant (.bool b) j pos) (tC (.bl b)) := fun _ _ _ H _ I h => Constant_bool ⟨.bl b, H, I, rfl, h⟩
theorem pe_str {x j pos} : PE X (.Constant (.str x) j pos) (tC (.str x)) := fun _ _ _ H _ I h => Calls.Constant_str ⟨.str x, H, I.tok _, ⟨_, rfl⟩, h⟩

/-- a global name of the def -/
def Gl (X : Cx) (x : Str) : Prop := X.env.kindOf x = some .globalImplicit
theorem ld_glob {E : Value → Shared → Prop} {pins : List (Addr × Obj)} {s : Shared} {σ : St} {H : Hp} {x : Str} {u : Value} {pos : Pos} {Q : Value → Shared → Prop} (I : Inv X pins σ H s) (hg : Gl X x) (hm : X.mg x = some u) (h : Q u s)
    (hd : (x == ("__debug__" : Str)) = false := by decide) : wpAny (model X.prog X.w) X.A (eval (.Name x pos) X.env) Q E s :=
  Calls.Name_function_global I.ok.kind hg (Calls.loadGlobal_global (by rw [I.ok.glob]; exact I.mod.glob.keeps I.bk) hm h) hd
theorem ld_blt {E : Value → Shared → Prop} {pins : List (Addr × Obj)} {s : Shared} {σ : St} {H : Hp} {x : Str} {u : Value} {pos : Pos} {Q : Value → Shared → Prop} (I : Inv X pins σ H s) (hg : Gl X x) (hm : X.mg x = none) (hv : bootBuiltins x = some u) (h : Q u s)
    (hn : x ≠ "__name__" := by decide) (hd : (x == ("__debug__" : Str)) = false := by decide) : wpAny (model X.prog X.w) X.A (eval (.Name x pos) X.env) Q E s := by
  obtain ⟨mb, h1, h2⟩ := I.mod.blt
  exact Calls.Name_function_global I.ok.kind hg (Calls.loadGlobal_builtin (by rw [I.ok.glob]; exact I.mod.glob.keeps I.bk) hm (by rw [I.ok.blt]; exact h1.keeps I.bk) ((h2 x hn).trans hv) h) hd
theorem pe_bltn {x : Str} {v : V} {u : Value} {pos : Pos} (hg : Gl X x) (hm : X.mg x = none) (hv : bootBuiltins x = some u) (r : RelV v u) (hn : x ≠ "__name__" := by decide) (hd : (x == ("__debug__" : Str)) = false := by decide) : PE X (.Name x pos) (tC v) :=
  fun _ _ _ H _ I h => ld_blt I hg hm hv ⟨v, H, I, r, h⟩ hn hd

/-! ### arithmetic -/
variable {a b : Expr} {ta tb : TE} {pos : Pos}
/-! ### comparisons -/
/-- a comparison as a value, as a test -/
def tB (t : TE) : TT := fun σ H Q => t σ H fun x H1 => ∃ c, x = .bl c ∧ Q c H1
/-- an expression whose value is a bool, as a test -/
theorem pt_val {e : Expr} {t : TE} (h : PE X e t) (he : ∀ whole, isTrue e X.env whole = (do let v ← whole; standAt e.pos; holding [v] (truthy v)) := by intro _; rfl) : PT X e (tB t) := by
  intro pins s σ H Q I hw
  refine isTrue_plain (thn (h pins s σ H _ I hw) fun v s1 ⟨x, H1, I1, r1, q1⟩ => ?_) (he _)
  obtain ⟨d, rfl, q⟩ := q1
  cases r1
  exact wpAny_truthy_bool ⟨H1, I1, q⟩

/-! ### and, or, not -/
variable {tA tB' : TT} {rest : List Expr}
def tOr (t u : TT) : TT := fun σ H Q => t σ H fun c H1 => if c = true then Q true H1 else u σ H1 Q
def tNot (t : TT) : TT := fun σ H Q => t σ H fun c H1 => Q (!c) H1
theorem pw_or1 (ha : PT X a tA) : PW X (.BoolOp .Or [a] pos) tA := by
  intro wh pins s σ H Q I h
  refine isTrue_or (thn (ha pins s σ H Q I h) fun c s1 e => ?_)
  cases c with
  | false => exact isTrue_or_nil e
  | true => exact e
theorem pw_or (ha : PT X a tA) (hb : PW X (.BoolOp .Or (b :: rest) pos) tB') : PW X (.BoolOp .Or (a :: b :: rest) pos) (tOr tA tB') := by
  intro wh pins s σ H Q I h
  refine isTrue_or (thn (ha pins s σ H _ I h) fun c s1 ⟨H1, I1, q1⟩ => ?_)
  cases c with
  | true => exact ⟨H1, I1, q1⟩
  | false => exact hb wh pins s1 σ H1 Q I1 q1
theorem pt_not (ha : PT X a tA) : PT X (.UnaryOp .Not a pos) (tNot tA) := by
  intro pins s σ H Q I h
  exact isTrue_not (ha pins s σ H (fun c H1 => Q (!c) H1) I h)
/-- .. as values (bools) -/
def tAndV (ta tb : TE) : TE := fun σ H Q => ta σ H fun x H1 => ∃ c, x = .bl c ∧ if c = true then tb σ H1 Q else Q (.bl false) H1
def tOrV (ta tb : TE) : TE := fun σ H Q => ta σ H fun x H1 => ∃ c, x = .bl c ∧ if c = true then Q (.bl true) H1 else tb σ H1 Q
def tNotV (ta : TE) : TE := fun σ H Q => ta σ H fun x H1 => ∃ c, x = .bl c ∧ Q (.bl (!c)) H1
theorem pe_one {op} {t : TE} (h : PE X a t) : PE X (.BoolOp op [a] pos) t := fun pins s σ H Q I hw => BoolOp_one (h pins s σ H Q I hw)
theorem pe_and (ha : PE X a ta) (hb : PE X (.BoolOp .And (b :: rest) pos) tb) : PE X (.BoolOp .And (a :: b :: rest) pos) (tAndV ta tb) := by
  intro pins s σ H Q I h
  refine BoolOp_and (thn (ha pins s σ H _ I h) fun v s1 ⟨x, H1, I1, r1, q1⟩ => ?_)
  obtain ⟨c, rfl, q1⟩ := q1
  cases r1
  refine wpAny_truthy_bool ?_
  cases c with
  | true => exact hb pins s1 σ H1 Q I1 q1
  | false => exact ⟨.bl false, H1, I1, rfl, q1⟩
theorem pe_or (ha : PE X a ta) (hb : PE X (.BoolOp .Or (b :: rest) pos) tb) : PE X (.BoolOp .Or (a :: b :: rest) pos) (tOrV ta tb) := by
  intro pins s σ H Q I h
  refine BoolOp_or (thn (ha pins s σ H _ I h) fun v s1 ⟨x, H1, I1, r1, q1⟩ => ?_)
  obtain ⟨c, rfl, q1⟩ := q1
  cases r1
  refine wpAny_truthy_bool ?_
  cases c with
  | false => exact hb pins s1 σ H1 Q I1 q1
  | true => exact ⟨.bl true, H1, I1, rfl, q1⟩
theorem pe_not (ha : PE X a ta) : PE X (.UnaryOp .Not a pos) (tNotV ta) := by
  intro pins s σ H Q I h
  refine UnaryOp_ (thn (ha pins s σ H _ I h) fun v s1 ⟨x, H1, I1, r1, q1⟩ => ?_)
  obtain ⟨c, rfl, q1⟩ := q1
  cases r1
  exact not_of (wpAny_truthy_bool ⟨.bl (!c), H1, I1, rfl, q1⟩)
/-- a if t else b -/
def tIf (t : TT) (ta tb : TE) : TE := fun σ H Q => t σ H fun c H1 => if c = true then ta σ H1 Q else tb σ H1 Q
theorem pe_ifExp {c : Expr} (hc : PT X c tA) (ha : PE X a ta) (hb : PE X b tb) : PE X (.IfExp c a b pos) (tIf tA ta tb) := by
  intro pins s σ H Q I h
  refine wpAny_IfExp (thn (hc pins s σ H _ I h) fun d s1 ⟨H1, I1, q1⟩ => ?_)
  cases d with
  | true => exact ha pins s1 σ H1 Q I1 q1
  | false => exact hb pins s1 σ H1 Q I1 q1
end
end L2

namespace L2
open PySem PySem.Spec PyProof.Rows

/-! ### a list, a tuple that is read: tracked, frozen, or an object of the module -/
def SqL (K : PySem.W.Frag) (H : Hp) (a : Addr) (xs : List V) : Prop :=
  Rd H a (.lst xs) ∨
    ∃ (o : Obj) (its : Array Value) (n : Nat), K.lookup a = some o ∧ o.cls = .type "list" ∧ o.dict = none ∧ o.data = .seq its n ∧ its.size ≤ sizeLine ∧ Vals xs its.toList
def SqT (K : PySem.W.Frag) (H : Hp) (a : Addr) (xs : List V) : Prop :=
  Rd H a (.tup xs) ∨
    ∃ (o : Obj) (its : Array Value) (n : Nat), K.lookup a = some o ∧ o.cls = .type "tuple" ∧ o.data = .seq its n ∧ its.size ≤ sizeLine ∧ Vals xs its.toList
def absV : Value → Option V
  | .none => some .non
  | .bool b => some (.bl b)
  | .int i _ => some (.int i)
  | .str x _ => some (.str x)
  | .bytes b _ => some (.byt b)
  | .float b _ => some (.flt b)
  | .ref a => some (.ref a)
  | .type n => some (.ty n)
  | _ => none
theorem RelV.abs {x : V} {u : Value} (r : RelV x u) : absV u = some x := by
  cases x with
  | non => cases r; rfl
  | bl _ => cases r; rfl
  | int _ => obtain ⟨t, rfl⟩ := r; rfl
  | str _ => obtain ⟨t, rfl⟩ := r; rfl
  | byt _ => obtain ⟨t, rfl⟩ := r; rfl
  | flt _ => obtain ⟨t, rfl⟩ := r; rfl
  | ref _ => cases r; rfl
  | ty _ => cases r; rfl
theorem RelV.inj {x y : V} {u : Value} (r : RelV x u) (q : RelV y u) : x = y := Option.some.inj (r.abs.symm.trans q.abs)
theorem Vals.inj : ∀ {xs ys : List V} {us : List Value}, Vals xs us → Vals ys us → xs = ys
  | _, _, _, .nil, .nil => rfl
  | _, _, _, .cons r t, .cons r' t' => by rw [r.inj r', Vals.inj t t']
section
variable {X : Cx} {pins : List (Addr × Obj)} {σ : St} {H : Hp} {s : Shared} {a : Addr} {xs ys : List V}
theorem SqL.of {K : PySem.W.Frag} (h : H a = some (.lst xs)) : SqL K H a xs := .inl (.inl h)
theorem SqT.of {K : PySem.W.Frag} (h : H a = some (.tup xs)) : SqT K H a xs := .inl (.inl h)
theorem Inv.list (I : Inv X pins σ H s) (h : SqL X.K H a xs) : ∃ its : List Value, Vals xs its ∧ PlainL s.heap a its.toArray ∧ xs.length ≤ sizeLine := by
  rcases h with h | ⟨o, its, n, hk, hc, hd, hs, hz, r⟩
  · obtain ⟨z, its, n, r, e⟩ := h.ok I.hok
    exact ⟨its, r, ⟨_, n, e, rfl, rfl, rfl⟩, z⟩
  · refine ⟨its.toList, r, ⟨o, n, I.kIn a o hk, hc, hd, by simpa using hs⟩, ?_⟩
    have e := r.length
    simp only [Array.length_toList] at e
    omega
theorem Inv.tuple (I : Inv X pins σ H s) (h : SqT X.K H a xs) : ∃ its : List Value, Vals xs its ∧ IsTup s.heap a its.toArray ∧ xs.length ≤ sizeLine := by
  rcases h with h | ⟨o, its, n, hk, hc, hs, hz, r⟩
  · obtain ⟨z, its, r, p⟩ := h.ok I.hok
    exact ⟨its, r, p, z⟩
  · refine ⟨its.toList, r, ⟨o, I.kIn a o hk, hc, n, by simpa using hs⟩, ?_⟩
    have e := r.length
    simp only [Array.length_toList] at e
    omega
theorem Inv.list_inj (I : Inv X pins σ H s) (h : SqL X.K H a xs) (h' : SqL X.K H a ys) : xs = ys := by
  obtain ⟨its, r, ⟨o, n, e, _, _, d⟩, _⟩ := I.list h
  obtain ⟨its', r', ⟨o', n', e', _, _, d'⟩, _⟩ := I.list h'
  rw [e] at e'; cases e'
  rw [d] at d'
  injection d' with d1 _
  have : its = its' := by simpa using congrArg Array.toList d1
  subst this
  exact r.inj r'
end

/-! ### another wish about exceptions -/
abbrev Cx.wish (X : Cx) (E : Value → Shared → Prop) : Cx := { X with xe := E }
/-- no exception leaves -/
abbrev Cx.nox (X : Cx) : Cx := X.wish fun _ _ => False
theorem Cx.Ok.wish {X : Cx} (ok : X.Ok) (E : Value → Shared → Prop) : (X.wish E).Ok :=
  ⟨ok.mod, ok.kind, ok.glob, ok.blt, ok.above, ok.inj, ok.has, ok.cab, ok.hd, ok.frames, ok.stk, ok.exf, ok.bs, ok.bsz, ok.noex, ok.exfs, ok.funs, ok.frf⟩
theorem Cx.Ok.unwish {X : Cx} {E : Value → Shared → Prop} (ok : (X.wish E).Ok) : X.Ok :=
  ⟨ok.mod, ok.kind, ok.glob, ok.blt, ok.above, ok.inj, ok.has, ok.cab, ok.hd, ok.frames, ok.stk, ok.exf, ok.bs, ok.bsz, ok.noex, ok.exfs, ok.funs, ok.frf⟩
section
variable {X : Cx} {pins : List (Addr × Obj)} {σ : St} {H : Hp} {s : Shared} {E : Value → Shared → Prop}
theorem Inv.wish (I : Inv X pins σ H s) (E : Value → Shared → Prop) : Inv (X.wish E) pins σ H s := ⟨I.ok.wish E, I.os, I.bare, I.base, I.loc, I.cell, I.free, I.freeC, I.pin, I.hok, I.len⟩
theorem Inv.unwish (I : Inv (X.wish E) pins σ H s) : Inv X pins σ H s := ⟨I.ok.unwish, I.os, I.bare, I.base, I.loc, I.cell, I.free, I.freeC, I.pin, I.hok, I.len⟩
theorem SP.unwish {D : Ends} {f : Flow} {s' : Shared} (h : SP (X.wish E) pins D f s') : SP X pins D f s' := by
  cases f with
  | next => obtain ⟨σ', H', I, q⟩ := h; exact ⟨σ', H', I.unwish, q⟩
  | brk => obtain ⟨σ', H', I, q⟩ := h; exact ⟨σ', H', I.unwish, q⟩
  | cont => obtain ⟨σ', H', I, q⟩ := h; exact ⟨σ', H', I.unwish, q⟩
  | ret u => obtain ⟨v, σ', H', I, r, q⟩ := h; exact ⟨v, σ', H', I.unwish, r, q⟩
theorem PE.nox {e : Expr} {t : TE} (h : PE X.nox e t) : PE X e t := fun pins s σ H Q I hw =>
  wpAny_mono (h pins s σ H Q (I.wish _) hw) (fun _ _ ⟨v, H', I', r, q⟩ => ⟨v, H', I'.unwish, r, q⟩) fun _ _ z => False.elim z
theorem PT.nox {e : Expr} {t : TT} (h : PT X.nox e t) : PT X e t := fun pins s σ H Q I hw =>
  wpAny_mono (h pins s σ H Q (I.wish _) hw) (fun _ _ ⟨H', I', q⟩ => ⟨H', I'.unwish, q⟩) fun _ _ z => False.elim z
theorem PSs.nox {st : List Stmt} {t : TS} (h : PSs X.nox st t) : PSs X st t := fun pins s σ H D I hw =>
  wpAny_mono (h pins s σ H D (I.wish _) hw) (fun _ _ q => q.unwish) fun _ _ z => False.elim z
end

/-! ### blocks and small statements -/
section
variable {X : Cx} {st : Stmt} {rest : List Stmt} {t u : TS} {e : Expr} {te : TE} {pos : Pos}
def tNext : TS := fun D σ H => D.nx σ H
def tSeq (t u : TS) : TS := fun D σ H => t { D with nx := u D } σ H
theorem pss_nil : PSs X [] tNext := fun _ _ σ H _ I h => wpAny_execs_nil ⟨σ, H, I, h⟩
theorem pss_cons (h1 : PS X st t) (h2 : PSs X rest u) : PSs X (st :: rest) (tSeq t u) := by
  intro pins s σ H D I h
  refine wpAny_execs_cons (thn (h1 pins s σ H { D with nx := u D } I h) fun f s1 q => ?_)
  cases f with
  | next =>
    obtain ⟨σ', H', I', q⟩ := q
    exact h2 pins s1 σ' H' D I' q
  | ret v => exact q
  | brk => exact q
  | cont => exact q
theorem pss_one (h1 : PS X st t) : PSs X [st] t := by
  intro pins s σ H D I h
  refine wpAny_execs_cons (thn (h1 pins s σ H D I h) fun f s1 q => ?_)
  cases f with
  | next => exact wpAny_execs_nil q
  | ret v => exact q
  | brk => exact q
  | cont => exact q
/-- in a def's body nothing is shown -/
theorem Inv.quiet {pins : List (Addr × Obj)} {σ : St} {H : Hp} {s : Shared} (I : Inv X pins σ H s) : interactive X.env = false := by simp [interactive, I.ok.kind]
/-- an expression whose value is dropped -/
def tDrop (te : TE) : TS := fun D σ H => te σ H fun _ H1 => D.nx σ H1
theorem ps_expr (he : PE X e te) (hs : swapsWith e none pos.line X.env = pure false := by rfl) : PS X (.Expr e pos) (tDrop te) := by
  intro pins s σ H D I h
  exact wpAny_Expr_any (thn (he pins s σ H _ I h) fun v s1 ⟨x, H1, I1, r1, q1⟩ => ⟨σ, H1, I1, q1⟩) I.quiet hs
def tRet (te : TE) : TS := fun D σ H => te σ H D.rt
theorem ps_ret (he : PE X e te) : PS X (.Return (some e) pos) (tRet te) := by
  intro pins s σ H D I h
  exact wpAny_Return_some (thn (he pins s σ H _ I h) fun v s1 ⟨x, H1, I1, r1, q1⟩ => ⟨x, σ, H1, I1, r1, q1⟩)
def tIfS (c : TT) (t u : TS) : TS := fun D σ H => c σ H fun b H1 => if b = true then t D σ H1 else u D σ H1
theorem ps_if {c : Expr} {a b : List Stmt} {tc : TT} (hc : PT X c tc) (ha : PSs X a t) (hb : PSs X b u) : PS X (.If c a b pos) (tIfS tc t u) := by
  intro pins s σ H D I h
  refine wpAny_If (thn (hc pins s σ H _ I h) fun d s1 ⟨H1, I1, q1⟩ => ?_)
  cases d with
  | true => exact ha pins s1 σ H1 D I1 q1
  | false => exact hb pins s1 σ H1 D I1 q1
/-- code that the proof never comes to -/
def tNever : TS := fun _ _ _ => False
theorem ps_never : PS X st tNever := fun _ _ _ _ _ _ h => h.elim
end

/-! ### targets -/
abbrev TG := V → St → Hp → (St → Hp → Prop) → Prop
abbrev TGs := List V → St → Hp → (St → Hp → Prop) → Prop
def PG (X : Cx) (target : Expr) (t : TG) : Prop :=
  ∀ (pins : List (Addr × Obj)) (s : Shared) (σ : St) (H : Hp) (v : V) (u : Value) (Q : St → Hp → Prop), Inv X pins σ H s → RelV v u → t v σ H Q →
    wpAny (model X.prog X.w) X.A (assign target X.env u) (fun _ s' => ∃ σ' H', Inv X pins σ' H' s' ∧ Q σ' H') X.xe s
/-- several targets, one after another -/
def PGs (X : Cx) (ts : List Expr) (t : TGs) : Prop :=
  ∀ (pins : List (Addr × Obj)) (s : Shared) (σ : St) (H : Hp) (vs : List V) (us : List Value) (Q : St → Hp → Prop), Inv X pins σ H s → Vals vs us → t vs σ H Q →
    wpAny (model X.prog X.w) X.A (assignInOrder ((assignEach ts X.env).map (·.2)) us) (fun _ s' => ∃ σ' H', Inv X pins σ' H' s' ∧ Q σ' H') X.xe s
section
variable {X : Cx} {pos : Pos}
def gName (i : Nat) : TG := fun v σ H Q => Q (σ.set i (some v)) H
theorem pg_name {i : Nat} {x : Str} (hN : X.N.Nodup) (hi : X.N[i]? = some x) (hx : Loc X.env.scope x) (hf : X.fn x = true ∨ X.env.scope.names.lookup x = some .local := by first | exact .inl rfl | exact .inr rfl | assumption) : PG X (.Name x pos) (gName i) := by
  intro pins s σ H v u Q I r h
  exact wpAny_assign_Name (store_ok I hN hi hx r (fun s' I' => ⟨_, H, I', h⟩) hf)
def gNil : TGs := fun vs σ H Q => vs = [] ∧ Q σ H
def gCons (t : TG) (u : TGs) : TGs := fun vs σ H Q => ∃ v r, vs = v :: r ∧ t v σ H fun σ' H' => u r σ' H' Q
theorem pgs_nil : PGs X [] gNil := by
  intro pins s σ H vs us Q I r h
  obtain ⟨e, h⟩ := h
  subst e
  cases r
  exact assignInOrder_nil ⟨σ, H, I, h⟩
theorem pgs_cons {e : Expr} {es : List Expr} {t : TG} {u : TGs} (h1 : PG X e t) (h2 : PGs X es u)
    (hs : (assignEach (e :: es) X.env).map (·.2) = assign e X.env :: (assignEach es X.env).map (·.2) := by rfl) : PGs X (e :: es) (gCons t u) := by
  intro pins s σ H vs us Q I r h
  obtain ⟨v, vr, e1, h⟩ := h
  subst e1
  cases r with
  | cons r rr =>
    rw [hs]
    refine assignInOrder_cons (thn (h1 pins s σ H _ _ _ I r h) fun _ s1 ⟨σ1, H1, I1, q1⟩ => ?_)
    exact h2 pins s1 σ1 H1 _ _ Q I1 rr q1
/-- (a, b, ..) = a tuple of that length -/
def gTup (K : PySem.W.Frag) (n : Nat) (t : TGs) : TG := fun v σ H Q => ∃ a xs, v = .ref a ∧ SqT K H a xs ∧ xs.length = n ∧ t xs σ H Q
theorem pg_tup {es : List Expr} {k : Nat} {t : TGs} {n : Nat} (hc : X.calm = true) (h : PGs X es t)
    (hn : (assignEach es X.env).length = n := by rfl) (hst : (assignEach es X.env).findIdx? (·.1) = none := by rfl) : PG X (.Tuple es k pos) (gTup X.K n t) := by
  intro pins s σ H v u Q I r hw
  obtain ⟨a, xs, e1, hq, hl, hw⟩ := hw
  subst e1
  cases r
  obtain ⟨its, rv, ht, hz⟩ := I.tuple hq
  refine assign_Tuple_tuple (I.ok.hd hc) ht (by simp [hn, ← hl, rv.length]) hst fun h' hx => ?_
  have I1 : Inv X pins σ H { s with heap := h' } := I.kept (t' := s.toks) fun b o e => hx b o (Nat.ne_of_lt (Heap.lt_size e)) e
  exact h pins _ σ H xs _ Q I1 (by simpa using rv) hw
/-- target = value -/
def tAsg (te : TE) (g : TG) : TS := fun D σ H => te σ H fun x H1 => g x σ H1 D.nx
theorem ps_asg {tg e : Expr} {te : TE} {g : TG} (he : PE X e te) (hg : PG X tg g) (hs : swapsWithSole [tg] e pos.line X.env = pure false := by rfl) (hw : swappedStores [tg] e X.env = pure none := by rfl)
    (h1 : (assignEach [tg] X.env).map (·.2) = [assign tg X.env] := by rfl) : PS X (.Assign [tg] e pos) (tAsg te g) := by
  intro pins s σ H D I h
  refine wpAny_Assign_stores (thn (he pins s σ H _ I h) fun v s1 ⟨x, H1, I1, r1, q1⟩ => ?_) hs hw
  rw [h1]
  exact thn (hg pins s1 σ H1 x v _ I1 r1 q1) fun _ s2 q => q
/-- name = value -/
theorem ps_set {i : Nat} {x : Str} {e : Expr} {te : TE} {pos' : Pos} (hN : X.N.Nodup) (hi : X.N[i]? = some x) (hx : Loc X.env.scope x) (he : PE X e te) (hs : swapsWith e (some (.Name x pos')) pos.line X.env = pure false := by rfl) (hf : X.fn x = true ∨ X.env.scope.names.lookup x = some .local := by first | exact .inl rfl | exact .inr rfl | assumption) :
    PS X (.Assign [.Name x pos'] e pos) (tAsg te (gName i)) := by
  intro pins s σ H D I h
  refine wpAny_Assign_Name (thn (he pins s σ H _ I h) fun v s1 ⟨y, H1, I1, r1, q1⟩ => ?_) hs
  exact store_ok I1 hN hi hx r1 (fun s2 I2 => ⟨_, H1, I2, q1⟩) hf
/-- a, b = x, y with plain local names: stored from the right; the pair itself is not tracked (the opening rows as in PyProof/Rows/TupAssign.lean:23) -/
def tPar (i j : Nat) (ta : TA) : TS := fun D σ H => ta σ H fun vs H1 => ∃ v w, vs = [v, w] ∧ D.nx ((σ.set i (some v)).set j (some w)) H1
theorem ps_par {i j : Nat} {x y : Str} {a b : Expr} {ta : TA} {px py pt : Pos} {kt k2 pt2} (hc : X.calm = true) (hN : X.N.Nodup) (hi : X.N[i]? = some x) (hj : X.N[j]? = some y) (hij : i ≠ j)
    (hx : X.env.scope.names.lookup x = some .local) (hy : X.env.scope.names.lookup y = some .local) (ha : PA X [a, b] ta)
    (hw : swappedStores [.Tuple [.Name x px, .Name y py] kt pt] (.Tuple [a, b] k2 pt2) X.env = pure (some [x, y]))
    (hs : swapsWithSole [.Tuple [.Name x px, .Name y py] kt pt] (.Tuple [a, b] k2 pt2) pos.line X.env = pure false := by rfl) :
    PS X (.Assign [.Tuple [.Name x px, .Name y py] kt pt] (.Tuple [a, b] k2 pt2) pos) (tPar i j ta) := by
  intro pins s σ H D I h
  rw [exec_Assign_arm]
  refine wpAny_bind (wpAny_standAt ?_)
  rw [hs]
  refine wpAny_bind (wpAny_pure ?_)
  rw [if_neg (by decide)]
  refine wpAny_bind (Tuple_ (thn (ha _ pins s σ H _ I h) fun us s1 ⟨vs, H1, I1, r1, q1⟩ => ?_))
  obtain ⟨v, w, e1, q1⟩ := q1
  subst e1
  obtain ⟨u1, u2, rfl, rv, rw'⟩ : ∃ u1 u2, us = [u1, u2] ∧ RelV v u1 ∧ RelV w u2 := by
    cases r1 with
    | cons p q =>
      cases q with
      | cons p' q' =>
        cases q'
        exact ⟨_, _, rfl, p, p'⟩
  refine wpAny_newObj_type ?_ (by show 2 ≤ sizeLine; decide)
  have I2 : Inv X pins σ H1 { s1 with heap := s1.heap.push { cls := .type "tuple", data := .seq [u1, u2].toArray } } := I1.kept (t' := s1.toks) fun b o e => Heap.get?_push_of_some _ e
  rw [hw]
  refine wpAny_bind (wpAny_pure ?_)
  show wpAny (model X.prog X.w) X.A (do rule "assign.swapped-stores"; let items ← unpackItems (.ref s1.heap.objs.size) 2 none; assignInOrder [fun v => bindName X.env y v, fun v => bindName X.env x v] items.reverse; pure Flow.next) _ _ _
  refine wpAny_bind (wpAny_rule (wpAny_bind (unpackItems_tuple (items := #[u1, u2]) (I.ok.hd hc) (IsTup.new s1.heap _) fun h' hx' => ?_)))
  have I3 := I2.kept (h' := h') (t' := s1.toks) fun b o e => hx' b o (Nat.ne_of_lt (Heap.lt_size e)) e
  show wpAny _ _ (assignInOrder [fun v => bindName X.env y v, fun v => bindName X.env x v] [u2, u1] >>= fun _ => pure Flow.next) _ _ _
  refine wpAny_bind (assignInOrder_cons (wpAny_bindName (store_ok I3 hN hj (.inl hy) rw' (fun s2 I4 => ?_) (.inr hy))))
  refine assignInOrder_cons (wpAny_bindName (store_ok I4 hN hi (.inl hx) rv (fun s3 I5 => assignInOrder_nil (wpAny_pure ?_)) (.inr hx)))
  rw [List.set_comm _ _ (Ne.symm hij)] at I5
  exact ⟨_, H1, I5, q1⟩
end

/-! ### while -/
section
variable {X : Cx} {pos : Pos}
/-- the invariant W with its measure -/
def tWhile (c : TT) (tb : TS) : TS := fun D σ H => ∃ W : Nat → St → Hp → Prop, (∃ m, W m σ H) ∧ ∀ m σ H, W m σ H →
  c σ H fun b H1 => if b = true then ∃ N : St → Hp → Prop, (∀ σ' H', N σ' H' → ∃ m', m' < m ∧ W m' σ' H') ∧ tb { D with nx := N, ct := N, bk := D.nx } σ H1 else D.nx σ H1
theorem ps_while {c : Expr} {body : List Stmt} {tc : TT} {tb : TS} (hp : PassesOwn (model X.prog X.w) X.A X.env X.xe) (hc : PT X c tc) (hb : PSs X body tb) : PS X (.While c body [] pos) (tWhile tc tb) := by
  intro pins s σ H D I h
  obtain ⟨W, ⟨m0, w0⟩, turn⟩ := h
  refine wpAny_While (codeAny_whileLoop (fun n s' => ∃ σ' H', Inv X pins σ' H' s' ∧ W n σ' H') ?_ m0 ⟨σ, H, I, w0⟩)
  rintro n s1 ⟨σ1, H1, I1, w1⟩
  refine wpAny_passesOwn hp (thn (hc pins s1 σ1 H1 _ I1 (turn n σ1 H1 w1)) fun b s2 ⟨H2, I2, q2⟩ => ?_)
  cases b with
  | true =>
    obtain ⟨N, hN, q2⟩ := q2
    rw [if_pos rfl]
    refine wpAny_passesOwn hp (thn (hb pins s2 σ1 H2 _ I2 q2) fun f s3 q3 => ?_)
    cases f with
    | next =>
      obtain ⟨σ3, H3, I3, n3⟩ := q3
      obtain ⟨m', hm, w3⟩ := hN σ3 H3 n3
      exact ⟨m', hm, σ3, H3, I3, w3⟩
    | cont =>
      obtain ⟨σ3, H3, I3, n3⟩ := q3
      obtain ⟨m', hm, w3⟩ := hN σ3 H3 n3
      exact ⟨m', hm, σ3, H3, I3, w3⟩
    | brk => exact q3
    | ret v => exact q3
  | false =>
    rw [if_neg Bool.false_ne_true]
    exact wpAny_execs_nil ⟨σ1, H2, I2, q2⟩
end

/-! ### what a loop or a comprehension walks -/
/-- at turn i: it yields x (the heap may grow), or it stops -/
structure It where
  go : Nat → Hp → Prop
  yld : Nat → Hp → V → Hp → Prop
  stop : Nat → Hp → Prop
/-- the iterator's own objects may turn: they are not the frame's, not pinned, younger than the entry (or a comprehension's own) -/
def FpOk (X : Cx) (pins : List (Addr × Obj)) (H : Hp) (b : Addr) : Prop :=
  H b = none ∧ b ≠ X.env.locals ∧ b ∉ X.fs ∧ (b ∈ X.ex ∨ X.s₀.heap.objs.size ≤ b) ∧ (∀ x c, X.env.cells.lookup x = some c → c ≠ b) ∧ ∀ p ∈ X.pn ++ pins, p.1 ≠ b
theorem Inv.fpOk {X : Cx} {pins : List (Addr × Obj)} {σ : St} {H H' : Hp} {s : Shared} {b : Addr} (I : Inv X pins σ H s) (hb : s.heap.objs.size ≤ b) (hn : H' b = none) : FpOk X pins H' b := by
  refine ⟨hn, Nat.ne_of_gt (Nat.lt_of_lt_of_le I.lt hb), I.nofs hb, .inr (Nat.le_trans I.sz hb), fun x c e z => ?_, fun p hp z => ?_⟩
  · obtain ⟨v, q⟩ := I.cell x c e
    exact absurd (Nat.lt_of_lt_of_le q.lt (by rw [z]; exact hb)) (Nat.lt_irrefl _)
  · exact absurd (Nat.lt_of_lt_of_le (Heap.lt_size (I.pin p hp).1) (by rw [z]; exact hb)) (Nat.lt_irrefl _)
structure Turn (P : Program) (w : World) (K : PySem.W.Frag) (tg : Expr) (J : It) (fp : List Addr) (it : Addr) (tn : Nat → Heap → Prop) : Prop where
  mem : it ∈ fp
  obj : ∀ i h, tn i h → ∀ b ∈ fp, ∃ o, h.get? b = some o ∧ ∀ v, o.data ≠ .cell v
  keep : ∀ i h h', tn i h → (∀ b ∈ fp, ∀ o, h.get? b = some o → h'.get? b = some o) → tn i h'
  item : ∀ (X : Cx), X.prog = P → X.w = w → X.K = K → X.calm = true → ∀ (i : Nat) (pins : List (Addr × Obj)) (s : Shared) (σ : St) (H : Hp) (E : Value → Shared → Prop), Inv X pins σ H s → (∀ b ∈ fp, FpOk X pins H b) → tn i s.heap → J.go i H →
    wpAny (model P w) X.A (pyNext (.ref it)) (fun r s1 => ∃ u, r = some u ∧
      wpAny (model P w) X.A (letOwnedTupleGo tg (.ref it) u) (fun _ s2 => ∃ x H', Inv X pins σ H' s2 ∧ RelV x u ∧ J.yld i H x H' ∧ tn (i + 1) s2.heap ∧ ∀ b ∈ fp, H' b = none) E s1) E s
  done : ∀ (X : Cx), X.prog = P → X.w = w → X.K = K → X.calm = true → ∀ (i : Nat) (pins : List (Addr × Obj)) (s : Shared) (σ : St) (H : Hp) (E : Value → Shared → Prop), Inv X pins σ H s → (∀ b ∈ fp, FpOk X pins H b) → tn i s.heap → J.stop i H →
    wpAny (model P w) X.A (pyNext (.ref it)) (fun r s1 => r = none ∧ Inv X pins σ H s1) E s
  self : ∀ (A : Around) (i : Nat) (s : Shared) (Q : Value → Shared → Prop) (E : Value → Shared → Prop), tn i s.heap → Q (.ref it) s → wpAny (model P w) A (pyIter (.ref it)) Q E s
abbrev TI := St → Hp → (It → Hp → Prop) → Prop
/-- an iterator has come -/
def PIE (X : Cx) (pins : List (Addr × Obj)) (σ : St) (tg : Expr) (R : It → Hp → Prop) (itv : Value) (s2 : Shared) : Prop :=
  ∃ (it : Addr) (fp : List Addr) (tn : Nat → Heap → Prop) (J : It) (H' : Hp), itv = .ref it ∧ Inv X pins σ H' s2 ∧ Turn X.prog X.w X.K tg J fp it tn ∧ tn 0 s2.heap ∧ (∀ b ∈ fp, FpOk X pins H' b) ∧ R J H'
def PI (X : Cx) (tg iter : Expr) (wi : TI) : Prop :=
  ∀ (pins : List (Addr × Obj)) (s : Shared) (σ : St) (H : Hp) (R : It → Hp → Prop), Inv X pins σ H s → wi σ H R →
    wpAny (model X.prog X.w) X.A (eval iter X.env) (fun v s1 => wpAny (model X.prog X.w) X.A (pyIter v) (PIE X pins σ tg R) X.xe s1) X.xe s

/-- the step ahead of the store is nothing for an iterator that keeps no tuple -/
theorem go_of {M : Model} {A : Around} {E : Value → Shared → Prop} {s : Shared} {tg : Expr} {it : Addr} {u : Value} {o : Obj} {n : String} {vs : Array Value} {Q : Unit → Shared → Prop} (ho : s.heap.get? it = some o) (hc : o.cls = .type n) (hd : o.data = .fields vs)
    (hn : ["enumerate", "zip", "dict_itemiterator", "dict_reverseitemiterator", "odict_iterator", "itertools.zip_longest", "itertools.pairwise"].contains n = false) (hQ : Q () s) : wpAny M A (letOwnedTupleGo tg (.ref it) u) Q E s := by
  unfold letOwnedTupleGo
  cases tg <;> first
    | exact wpAny_pure hQ
    | (cases u <;> first
        | exact wpAny_pure hQ
        | (refine wpAny_bind (wpAny_load ho ?_)
           rw [hc, hd]
           show wpAny M A (if (["enumerate", "zip", "dict_itemiterator", "dict_reverseitemiterator", "odict_iterator", "itertools.zip_longest", "itertools.pairwise"].contains n && vs[0]? == some (rawInt _)) = true then _ else _) Q E s
           rw [if_neg (by intro h; rw [hn, Bool.false_and] at h; cases h)]
           exact wpAny_pure hQ))

/-- the list at a, as it stands at each turn (a loop may append to it) -/
def Itl (K : PySem.W.Frag) (a : Addr) : It :=
  ⟨fun i H => ∃ xs x, SqL K H a xs ∧ xs[i]? = some x, fun i H x H' => H' = H ∧ ∀ xs, SqL K H a xs → xs[i]? = some x, fun i H => ∃ xs, SqL K H a xs ∧ xs.length ≤ i⟩
/-- lo, lo + 1, .. (n of them) -/
def Itr (lo : Int) (n : Nat) : It := ⟨fun i _ => i < n, fun i H x H' => H' = H ∧ x = .int (lo + i), fun i _ => n ≤ i⟩
theorem turn_list {P : Program} {w : World} {K : PySem.W.Frag} {tg : Expr} (a it : Addr) : Turn P w K tg (Itl K a) [it] it (fun i h => h.IsListIter it a i) where
  mem := by simp
  obj := fun i h st b hb => by
    have e : b = it := by simpa using hb
    subst e
    obtain ⟨o, e, c, d⟩ := st
    exact ⟨o, e, fun v z => by rw [d] at z; cases z⟩
  keep := fun i h h' st k => st.at fun o e => k it (by simp) o e
  item := by
    intro X hP hw hK hc i pins s σ H E I hf st hg
    subst hP hw hK
    obtain ⟨xs, x, hq, hx⟩ := hg
    obtain ⟨its, rv, p, hz⟩ := I.list hq
    obtain ⟨u, hu, ru⟩ := rv.get hx
    obtain ⟨f0, f1, f2, f3, f4, f5⟩ := hf it (by simp)
    refine wpAny_pyNext_list_item st p.isList (x := u) (by simpa using hu) fun h' st' sb => ?_
    have I1 : Inv X pins σ H { s with heap := h' } := I.turned (t' := s.toks) (fun b o hb e => (sb.2 b hb).trans e) f0 f1 f3 f4 f5
    obtain ⟨o, e, c, d⟩ := id st'
    exact ⟨u, rfl, go_of (s := { s with heap := h' }) e c d (by decide) ⟨x, H, I1, ru, ⟨rfl, fun ys hy => by rw [I.list_inj hy hq]; exact hx⟩, st', fun b hb => (hf b hb).1⟩⟩
  done := by
    intro X hP hw hK hc i pins s σ H E I hf st hg
    subst hP hw hK
    obtain ⟨xs, hq, hx⟩ := hg
    obtain ⟨its, rv, p, hz⟩ := I.list hq
    obtain ⟨f0, f1, f2, f3, f4, f5⟩ := hf it (by simp)
    have hl := rv.length
    exact wpAny_pyNext_list_end (I.ok.hd hc) st p.isList (by simp; omega) fun h' eb => ⟨rfl, I.turned (t' := s.toks) (fun b o hb e => eb b o hb e) f0 f1 f3 f4 f5⟩
  self := fun _ _ _ _ _ st h => wpAny_pyIter_listiter st h
theorem turn_range {P : Program} {w : World} {K : PySem.W.Frag} {tg : Expr} (it : Addr) (lo : Int) (n : Nat) : Turn P w K tg (Itr lo n) [it] it (fun i h => IsRangeIter h it (lo + (i : Nat) * 1) ((n : Int) - (i : Nat)) 1) where
  mem := by simp
  obj := fun i h st b hb => by
    have e : b = it := by simpa using hb
    subst e
    exact ⟨_, st, fun v z => by
      have z' : Data.fields _ = Data.cell v := z
      cases z'⟩
  keep := fun i h h' st k => k it (by simp) _ st
  item := by
    intro X hP hw hK hc i pins s σ H E I hf st hg
    subst hP hw hK
    obtain ⟨f0, f1, f2, f3, f4, f5⟩ := hf it (by simp)
    have W := Walks.range (prog := X.prog) (w := X.w) (I.ok.hd hc) it lo 1 n
    refine W.item i s _ _ hg st fun v h' tk hv st' kk => ?_
    obtain ⟨t, rfl⟩ := hv
    have I1 : Inv X pins σ H { s with heap := h', toks := tk } := I.turned (fun b o hb e => kk b o (by simpa using hb) e) f0 f1 f3 f4 f5
    refine ⟨_, rfl, go_of (s := { s with heap := h', toks := tk }) (n := "range_iterator") st' rfl rfl (by decide) ⟨.int (lo + i), H, I1, ⟨t, ?_⟩, ⟨rfl, rfl⟩, st', fun b hb => (hf b hb).1⟩⟩
    rw [Int.mul_one]
  done := by
    intro X hP hw hK hc i pins s σ H E I hf st hg
    subst hP hw hK
    obtain ⟨f0, f1, f2, f3, f4, f5⟩ := hf it (by simp)
    exact wpAny_pyNext_range_end (I.ok.hd hc) st (by have : n ≤ i := hg; omega) fun h' eb => ⟨rfl, I.turned (t' := s.toks) (fun b o hb e => eb b o hb e) f0 f1 f3 f4 f5⟩
  self := fun _ _ _ _ _ st h => wpAny_pyIter_rangeiter st h
end L2

namespace L2
open PySem PySem.Spec PyProof.Rows
section
variable {X : Cx} {tg : Expr}
def iList (K : PySem.W.Frag) (tl : TE) : TI := fun σ H R => tl σ H fun x H1 => ∃ a, x = .ref a ∧ (∃ xs, SqL K H1 a xs) ∧ R (Itl K a) H1
theorem pi_list {l : Expr} {tl : TE} (hl : PE X l tl) : PI X tg l (iList X.K tl) := by
  intro pins s σ H R I h
  refine thn (hl pins s σ H _ I h) fun v s1 ⟨x, H1, I1, r1, q1⟩ => ?_
  obtain ⟨a, e, ⟨xs, hq⟩, q⟩ := q1
  subst e
  cases r1
  obtain ⟨its, rv, p, hz⟩ := I1.list hq
  refine wpAny_pyIter_list p.isList ?_
  refine ⟨s1.heap.objs.size, [s1.heap.objs.size], _, _, H1, rfl, I1.kept (t' := s1.toks) fun b o e => Heap.get?_push_of_some _ e, turn_list a _, ⟨_, Heap.get?_push_size _ rfl, rfl, rfl⟩, fun b hb => ?_, q⟩
  have e : b = s1.heap.objs.size := by simpa using hb
  subst e
  exact I1.fpOk (Nat.le_refl _) (I1.hok.fresh (Nat.le_refl _))
/-- a range object just made, walked -/
theorem range_it {pins : List (Addr × Obj)} {σ : St} {H : Hp} {s : Shared} {R : It → Hp → Prop} {E : Value → Shared → Prop} {lo hi : Int} {t u v : Tok} {tk : Nat} (I : Inv X pins σ H s) (h1 : -(2 ^ 62) ≤ lo) (h2 : lo < 2 ^ 62) (h3 : -(2 ^ 62) ≤ hi) (h4 : hi < 2 ^ 62)
    (q : R (Itr lo (hi - lo).toNat) H) : wpAny (model X.prog X.w) X.A (pyIter (.ref s.heap.objs.size)) (PIE X pins σ tg R) E { s with heap := s.heap.push { cls := .type "range", data := .fields #[.int lo t, .int hi u, .int 1 v] }, toks := tk } := by
  refine wpAny_pyIter_range (IsRange.new ..) (small_one h1 h2 h3 h4) ?_
  have I1 : Inv X pins σ H { s with heap := s.heap.push { cls := .type "range", data := .fields #[.int lo t, .int hi u, .int 1 v] }, toks := tk } := I.kept fun b o e => Heap.get?_push_of_some _ e
  refine ⟨(s.heap.push { cls := .type "range", data := .fields #[.int lo t, .int hi u, .int 1 v] }).objs.size, [(s.heap.push { cls := .type "range", data := .fields #[.int lo t, .int hi u, .int 1 v] }).objs.size], _, _, H, rfl,
    I1.kept (t' := tk) fun b o e => Heap.get?_push_of_some _ e, turn_range _ lo (hi - lo).toNat, ?_, fun b hb => ?_, q⟩
  · have e1 : lo + ((0 : Nat) : Int) * 1 = lo := by simp
    have e2 : (((hi - lo).toNat : Nat) : Int) - ((0 : Nat) : Int) = Builtin.Range.rangeSize lo hi 1 := by rw [rangeSize_one]; split <;> omega
    show IsRangeIter _ _ (lo + ((0 : Nat) : Int) * 1) ((((hi - lo).toNat : Nat) : Int) - ((0 : Nat) : Int)) 1
    rw [e1, e2]
    exact Heap.get?_push_size _ rfl
  · have e : b = (s.heap.push { cls := .type "range", data := .fields #[.int lo t, .int hi u, .int 1 v] }).objs.size := by simpa using hb
    subst e
    exact I1.fpOk (Nat.le_refl _) (I1.hok.fresh (Nat.le_refl _))
def iRng1 (ta : TA) : TI := fun σ H R => ta σ H fun vs H1 => ∃ j : Int, vs = [.int j] ∧ -(2 ^ 62) ≤ j ∧ j < 2 ^ 62 ∧ R (Itr 0 j.toNat) H1
theorem pi_range1 {a : Expr} {ta : TA} {p pos : Pos} (hg : Gl X "range") (hm : X.mg "range" = none) (ha : PA X [a] ta) (hs : starEach [a] X.env = [(false, eval a X.env)] := by rfl) : PI X tg (.Call (.Name "range" p) [a] [] pos) (iRng1 ta) := by
  intro pins s σ H R I h
  refine Call_ (ld_blt I hg hm boot_range (PyProof.Rows.callWith_type1 (thn (ha pos pins s σ H _ I h) fun us s1 ⟨vs, H1, I1, r1, q1⟩ => ?_) hs rfl))
  obtain ⟨j, e, q1, q2, q⟩ := q1
  subst e
  cases r1 with
  | cons r rr =>
    cases rr
    obtain ⟨t, rfl⟩ := r
    exact call_range_1 (range_it I1 (by omega) (by omega) q1 q2 (by simpa using q))
/-! ### for -/
/-- W: the invariant by the turn and a measure; N: what the body is to reach -/
def tFor (wi : TI) (g : TG) (tb : TS) : TS := fun D σ H => wi σ H fun J H1 => ∃ W : Nat → Nat → St → Hp → Prop, (∃ m, W 0 m σ H1) ∧ ∀ i m σ H, W i m σ H →
  (J.stop i H ∧ D.nx σ H) ∨ (J.go i H ∧ ∃ N : St → Hp → Prop, (∀ σ' H', N σ' H' → ∃ m', m' < m ∧ W (i + 1) m' σ' H') ∧ ∀ x H', J.yld i H x H' → g x σ H' fun σ2 H2 => tb { D with nx := N, ct := N, bk := D.nx } σ2 H2)
/-- the records at fp as they stand -/
def pinsAt (fp : List Addr) (h : Heap) : List (Addr × Obj) := fp.filterMap fun b => (h.get? b).map fun o => (b, o)
theorem mem_pinsAt {fp : List Addr} {h : Heap} {b : Addr} {o : Obj} (hb : b ∈ fp) (e : h.get? b = some o) : (b, o) ∈ pinsAt fp h := List.mem_filterMap.mpr ⟨b, hb, by rw [e]; rfl⟩
theorem of_pinsAt {fp : List Addr} {h : Heap} {p : Addr × Obj} (hp : p ∈ pinsAt fp h) : p.1 ∈ fp ∧ h.get? p.1 = some p.2 := by
  obtain ⟨b, hb, e⟩ := List.mem_filterMap.mp hp
  cases q : h.get? b with
  | none => rw [q] at e; cases e
  | some o =>
    rw [q] at e
    have e' : (b, o) = p := Option.some.inj e
    subst e'
    exact ⟨hb, q⟩
theorem Inv.pinned {pins : List (Addr × Obj)} {σ : St} {H : Hp} {s : Shared} {fp : List Addr} (I : Inv X pins σ H s) (hf : ∀ b ∈ fp, FpOk X pins H b) (ho : ∀ b ∈ fp, ∃ o, s.heap.get? b = some o ∧ ∀ v, o.data ≠ .cell v) : Inv X (pins ++ pinsAt fp s.heap) σ H s :=
  I.pins_of fun p hp => (List.mem_append.mp hp).elim (fun z => I.pin p (List.mem_append_right _ z)) fun z => by
    obtain ⟨hb, e⟩ := of_pinsAt z
    obtain ⟨f0, f1, f2, _⟩ := hf p.1 hb
    obtain ⟨o, e', d⟩ := ho p.1 hb
    rw [e] at e'; cases e'
    exact ⟨e, f0, f1, f2, d⟩
theorem Inv.unpinned {pins pl : List (Addr × Obj)} {σ : St} {H : Hp} {s : Shared} (I : Inv X (pins ++ pl) σ H s) : Inv X pins σ H s := I.pins_of fun p hp => I.pin p (List.mem_append_right _ (List.mem_append_left _ hp))
theorem ps_for {iter : Expr} {body : List Stmt} {wi : TI} {g : TG} {tb : TS} {pos : Pos} (hp : PassesOwn (model X.prog X.w) X.A X.env X.xe) (hc : X.calm = true) (hi : PI X tg iter wi) (hg : PG X tg g) (hb : PSs X body tb)
    (hs : ∀ x, foldedSetIterable iter X.env x = pure x := by intro _; rfl) : PS X (.For tg iter body [] pos) (tFor wi g tb) := by
  intro pins s σ H D I h
  refine wpAny_For (thn (hi pins s σ H _ I h) fun v s1 h1 => thn h1 fun itv s2 h2 => ?_) hs
  obtain ⟨it, fp, tn, J, H2, e, I2, T, st2, f2, W, ⟨m0, w0⟩, turn⟩ := h2
  subst e
  -- what stays true of the iterator's objects through the loop
  have stat : ∀ {H' : Hp}, (∀ b ∈ fp, H' b = none) → ∀ b ∈ fp, FpOk X pins H' b := fun hn b hb => ⟨hn b hb, (f2 b hb).2⟩
  refine codeAny_forLoop_any (fun n s' => ∃ i σ' H', Inv X pins σ' H' s' ∧ tn i s'.heap ∧ (∀ b ∈ fp, H' b = none) ∧ W i n σ' H') ?_ m0 ⟨0, σ, H2, I2, st2, fun b hb => (f2 b hb).1, w0⟩
  rintro n s3 ⟨i, σ3, H3, I3, st3, fr3, w3⟩
  rcases turn i n σ3 H3 w3 with ⟨stop, qn⟩ | ⟨go, N, hN, step⟩
  · refine wpAny_passesOwn hp (thn (T.done X rfl rfl rfl hc i pins s3 σ3 H3 X.xe I3 (stat fr3) st3 stop) fun r s4 ⟨hr, I4⟩ => ?_)
    subst hr
    exact wpAny_execs_nil ⟨σ3, H3, I4, qn⟩
  · refine wpAny_passesOwn hp (thn (T.item X rfl rfl rfl hc i pins s3 σ3 H3 X.xe I3 (stat fr3) st3 go) fun r s4 ⟨u, hr, h4⟩ => ?_)
    subst hr
    refine wpAny_passesOwn hp (thn h4 fun _ s5 ⟨x, H5, I5, r5, y5, st5, fr5⟩ => ?_)
    have I5' := I5.pinned (stat fr5) (T.obj _ _ st5)
    refine wpAny_passesOwn hp (thn (hg _ s5 σ3 H5 x u _ I5' r5 (step x H5 y5)) fun _ s6 ⟨σ6, H6, I6, q6⟩ => ?_)
    refine wpAny_passesOwn hp (thn (hb _ s6 σ6 H6 _ I6 q6) fun f s7 q7 => ?_)
    have again : ∀ {σ7 : St} {H7 : Hp}, Inv X (pins ++ pinsAt fp s5.heap) σ7 H7 s7 → N σ7 H7 → ∃ m, m < n ∧ ∃ i σ' H', Inv X pins σ' H' s7 ∧ tn i s7.heap ∧ (∀ b ∈ fp, H' b = none) ∧ W i m σ' H' := fun {σ7 H7} I7 n7 => by
      obtain ⟨m', hm, w7⟩ := hN σ7 H7 n7
      refine ⟨m', hm, i + 1, σ7, H7, I7.unpinned, T.keep _ _ _ st5 fun b hb o e => (I7.pin (b, o) (List.mem_append_right _ (List.mem_append_right _ (mem_pinsAt hb e)))).1, fun b hb => ?_, w7⟩
      obtain ⟨o, e, d⟩ := T.obj _ _ st5 b hb
      exact (I7.pin (b, o) (List.mem_append_right _ (List.mem_append_right _ (mem_pinsAt hb e)))).2.1
    cases f with
    | next => obtain ⟨σ7, H7, I7, n7⟩ := q7; exact again I7 n7
    | cont => obtain ⟨σ7, H7, I7, n7⟩ := q7; exact again I7 n7
    | brk => obtain ⟨σ7, H7, I7, q7⟩ := q7; exact ⟨σ7, H7, I7.unpinned, q7⟩
    | ret v => obtain ⟨x7, σ7, H7, I7, r7, q7⟩ := q7; exact ⟨x7, σ7, H7, I7.unpinned, r7, q7⟩
end

/-! ### the forms one uses -/
/-- over a list that the body leaves as it is -/
theorem for_list {K : PySem.W.Frag} {a : Addr} {xs : List V} {g : TG} {tb : TS} {D : Ends} {σ : St} {H : Hp} (Pv : Nat → St → Hp → Prop) (h0 : Pv 0 σ H) (hl : ∀ i σ H, i ≤ xs.length → Pv i σ H → SqL K H a xs)
    (hs : ∀ i x σ H, xs[i]? = some x → Pv i σ H → g x σ H fun σ2 H2 => tb { D with nx := Pv (i + 1), ct := Pv (i + 1), bk := D.nx } σ2 H2) (hd : ∀ σ H, Pv xs.length σ H → D.nx σ H) :
    ∃ W : Nat → Nat → St → Hp → Prop, (∃ m, W 0 m σ H) ∧ ∀ i m σ H, W i m σ H →
      ((Itl K a).stop i H ∧ D.nx σ H) ∨ ((Itl K a).go i H ∧ ∃ N : St → Hp → Prop, (∀ σ' H', N σ' H' → ∃ m', m' < m ∧ W (i + 1) m' σ' H') ∧ ∀ x H', (Itl K a).yld i H x H' → g x σ H' fun σ2 H2 => tb { D with nx := N, ct := N, bk := D.nx } σ2 H2) := by
  refine ⟨fun i m σ H => m = xs.length - i ∧ i ≤ xs.length ∧ Pv i σ H, ⟨xs.length, by simp, Nat.zero_le _, h0⟩, ?_⟩
  rintro i m σ H ⟨rfl, hi, p⟩
  have q := hl i σ H hi p
  by_cases hlt : i < xs.length
  · refine .inr ⟨⟨xs, xs[i], q, by simp [hlt]⟩, Pv (i + 1), fun σ' H' p' => ⟨xs.length - (i + 1), by omega, rfl, hlt, p'⟩, fun x H' y => ?_⟩
    obtain ⟨e, y⟩ := y
    subst e
    exact hs i x σ _ (y xs q) p
  · have e : i = xs.length := by omega
    subst e
    exact .inl ⟨⟨xs, q, Nat.le_refl _⟩, hd σ H p⟩
theorem for_range {lo : Int} {n : Nat} {g : TG} {tb : TS} {D : Ends} {σ : St} {H : Hp} (Pv : Nat → St → Hp → Prop) (h0 : Pv 0 σ H)
    (hs : ∀ i σ H, i < n → Pv i σ H → g (.int (lo + i)) σ H fun σ2 H2 => tb { D with nx := Pv (i + 1), ct := Pv (i + 1), bk := D.nx } σ2 H2) (hd : ∀ σ H, Pv n σ H → D.nx σ H) :
    ∃ W : Nat → Nat → St → Hp → Prop, (∃ m, W 0 m σ H) ∧ ∀ i m σ H, W i m σ H →
      ((Itr lo n).stop i H ∧ D.nx σ H) ∨ ((Itr lo n).go i H ∧ ∃ N : St → Hp → Prop, (∀ σ' H', N σ' H' → ∃ m', m' < m ∧ W (i + 1) m' σ' H') ∧ ∀ x H', (Itr lo n).yld i H x H' → g x σ H' fun σ2 H2 => tb { D with nx := N, ct := N, bk := D.nx } σ2 H2) := by
  refine ⟨fun i m σ H => m = n - i ∧ i ≤ n ∧ Pv i σ H, ⟨n, by simp, Nat.zero_le _, h0⟩, ?_⟩
  rintro i m σ H ⟨rfl, hi, p⟩
  by_cases hlt : i < n
  · refine .inr ⟨hlt, Pv (i + 1), fun σ' H' p' => ⟨n - (i + 1), by omega, rfl, hlt, p'⟩, fun x H' y => ?_⟩
    obtain ⟨e, y⟩ := y
    subst e y
    exact hs i σ _ hlt p
  · have e : i = n := by omega
    subst e
    exact .inl ⟨Nat.le_refl _, hd σ H p⟩
/-- while, by a word and a measure of the state -/
theorem while_by {c : TT} {tb : TS} {D : Ends} {σ : St} {H : Hp} (Pv : St → Hp → Prop) (μ : St → Hp → Nat) (h0 : Pv σ H)
    (hs : ∀ σ H, Pv σ H → c σ H fun b H1 => if b = true then tb { D with nx := fun σ' H' => Pv σ' H' ∧ μ σ' H' < μ σ H, ct := fun σ' H' => Pv σ' H' ∧ μ σ' H' < μ σ H, bk := D.nx } σ H1 else D.nx σ H1)
    (mono : ∀ σ H Q Q', (∀ b H1, Q b H1 → Q' b H1) → c σ H Q → c σ H Q') : tWhile c tb D σ H := by
  refine ⟨fun m σ H => m = μ σ H ∧ Pv σ H, ⟨_, rfl, h0⟩, ?_⟩
  rintro m σ H ⟨rfl, p⟩
  refine mono σ H _ _ (fun b H1 q => ?_) (hs σ H p)
  cases b with
  | true => exact ⟨_, fun σ' H' ⟨p', l⟩ => ⟨_, l, rfl, p'⟩, q⟩
  | false => exact q
end L2

namespace L2
open PySem PySem.Spec PyProof.Rows

abbrev R2 := V → V → Hp → VK → Prop
/-- a two-place operation on values: f is binaryOp op, inplaceOp op or compareOp op -/
def OpR (X : Cx) (f : Value → Value → Sem Value) (r : R2) : Prop :=
  ∀ (pins : List (Addr × Obj)) (s : Shared) (σ : St) (H : Hp) (x y : V) (v u : Value) (Q : VK), Inv X pins σ H s → RelV x v → RelV y u → r x y H Q →
    wpAny (model X.prog X.w) X.A (f v u) (EP X pins σ Q) X.xe s
/-- a call of a value that is known (a builtin, a type) with values -/
def CallR (X : Cx) (f : Value) (r : List V → Hp → VK → Prop) : Prop :=
  ∀ (pins : List (Addr × Obj)) (s : Shared) (σ : St) (H : Hp) (xs : List V) (us : List Value) (Q : VK), Inv X pins σ H s → Vals xs us → r xs H Q →
    wpAny (model X.prog X.w) X.A (call f us) (EP X pins σ Q) X.xe s
def tOp (r : R2) (ta tb : TE) : TE := fun σ H Q => ta σ H fun x H1 => tb σ H1 fun y H2 => r x y H2 Q
/-- ints in, under C, and a value out -/
def rI (C : Int → Int → Prop) (g : Int → Int → V) : R2 := fun x y H Q => ∃ i j, x = .int i ∧ y = .int j ∧ C i j ∧ Q (g i j) H
def rI0 (g : Int → Int → V) : R2 := fun x y H Q => ∃ i j, x = .int i ∧ y = .int j ∧ Q (g i j) H
section
variable {X : Cx} {a b c : Expr} {ta tb tc : TE} {pos : Pos}

theorem binT (ha : PE X a ta) (hb : PE X b tb) {pins : List (Addr × Obj)} {s : Shared} {σ : St} {H : Hp} {R : V → V → Hp → Prop} (I : Inv X pins σ H s)
    (h : ta σ H fun x H1 => tb σ H1 fun y H2 => R x y H2) {Q : Value → Shared → Prop} {f : Value → Value → Sem Value}
    (hf : ∀ v u s2 x y H2, Inv X pins σ H2 s2 → RelV x v → RelV y u → R x y H2 → wpAny (model X.prog X.w) X.A (f v u) Q X.xe s2) :
    wpAny (model X.prog X.w) X.A (eval a X.env) (fun v s₁ => wpAny (model X.prog X.w) X.A (eval b X.env) (fun u s₂ => wpAny (model X.prog X.w) X.A (f v u) Q X.xe s₂) X.xe s₁) X.xe s := by
  refine thn (ha pins s σ H _ I h) fun v s1 ⟨x, H1, I1, r1, q1⟩ => ?_
  refine thn (hb pins s1 σ H1 _ I1 q1) fun u s2 ⟨y, H2, I2, r2, q2⟩ => ?_
  exact hf v u s2 x y H2 I2 r1 r2 q2

theorem pe_op {op : Operator} {r : R2} (ho : OpR X (binaryOp op) r) (ha : PE X a ta) (hb : PE X b tb) : PE X (.BinOp a op b pos) (tOp r ta tb) := by
  intro pins s σ H Q I h
  exact wpAny_BinOp (binT ha hb I h fun v u s2 x y H2 I2 rx ry q => ho pins s2 σ H2 x y v u Q I2 rx ry q)
/-! ### ints -/
theorem opI {f : Value → Value → Sem Value} {C : Int → Int → Prop} {g : Int → Int → Int}
    (rule : ∀ (i j : Int) (t u : Tok) (s : Shared) (Q : Value → Shared → Prop) (E : Value → Shared → Prop), C i j → Q (.int (g i j) s.toks) { s with toks := s.toks + 1 } → wpAny (model X.prog X.w) X.A (f (.int i t) (.int j u)) Q E s) :
    OpR X f (rI C fun i j => .int (g i j)) := by
  intro pins s σ H x y v u Q I rx ry h
  obtain ⟨i, j, rfl, rfl, hc, q⟩ := h
  obtain ⟨t, rfl⟩ := rx
  obtain ⟨t', rfl⟩ := ry
  exact rule i j t t' s _ _ hc ⟨.int (g i j), H, I.tok _, ⟨_, rfl⟩, q⟩
theorem opI0 {f : Value → Value → Sem Value} {g : Int → Int → Int}
    (rule : ∀ (i j : Int) (t u : Tok) (s : Shared) (Q : Value → Shared → Prop) (E : Value → Shared → Prop), Q (.int (g i j) s.toks) { s with toks := s.toks + 1 } → wpAny (model X.prog X.w) X.A (f (.int i t) (.int j u)) Q E s) :
    OpR X f (rI0 fun i j => .int (g i j)) := by
  intro pins s σ H x y v u Q I rx ry h
  obtain ⟨i, j, rfl, rfl, q⟩ := h
  obtain ⟨t, rfl⟩ := rx
  obtain ⟨t', rfl⟩ := ry
  exact rule i j t t' s _ _ ⟨.int (g i j), H, I.tok _, ⟨_, rfl⟩, q⟩
theorem opB0 {f : Value → Value → Sem Value} {g : Int → Int → Bool}
    (rule : ∀ (i j : Int) (t u : Tok) (s : Shared) (Q : Value → Shared → Prop) (E : Value → Shared → Prop), Q (.bool (g i j)) s → wpAny (model X.prog X.w) X.A (f (.int i t) (.int j u)) Q E s) :
    OpR X f (rI0 fun i j => .bl (g i j)) := by
  intro pins s σ H x y v u Q I rx ry h
  obtain ⟨i, j, rfl, rfl, q⟩ := h
  obtain ⟨t, rfl⟩ := rx
  obtain ⟨t', rfl⟩ := ry
  exact rule i j t t' s _ _ ⟨.bl (g i j), H, I, rfl, q⟩

def CPow (i j : Int) : Prop := 0 ≤ j ∧ j ≤ 1000000 ∧ i.natAbs < 2 ^ 64
def CMul (i j : Int) : Prop := (-(2 ^ 64) < i ∧ i < 2 ^ 64) ∨ (-(2 ^ 64) < j ∧ j < 2 ^ 64)
theorem CMul.ok {i j : Int} (h : CMul i j) : IntMulOk i j := by
  rcases h with ⟨h1, h2⟩ | ⟨h1, h2⟩
  · exact .of_left (intBits_le_64 h1 h2)
  · exact .of_right (intBits_le_64 h1 h2)
theorem op_add : OpR X (binaryOp .Add) (rI0 fun i j => .int (i + j)) := opI0 fun _ _ _ _ _ _ _ q => add_int q
theorem op_sub : OpR X (binaryOp .Sub) (rI0 fun i j => .int (i - j)) := opI0 fun _ _ _ _ _ _ _ q => sub_int q
theorem op_modN : OpR X (binaryOp .Mod) (rI (fun _ j => j ≠ 0) fun i j => .int (i.fmod j)) := opI fun _ _ _ _ _ _ _ hc q => mod_int' hc q
theorem op_pow : OpR X (binaryOp .Pow) (rI CPow fun i j => .int (i ^ j.toNat)) := opI fun _ _ _ _ _ _ _ hc q => pow_int_small hc.1 hc.2.1 hc.2.2 q
/-! ### bools among ints: n += (a < b) -/
end

/-! ### comparisons -/
/-- the scalars that == tells apart as data does -/
def scal : V → V → Bool
  | .non, .non => true | .non, .int _ => true | .int _, .non => true | .non, .bl _ => true | .bl _, .non => true | .non, .str _ => true | .str _, .non => true
  | .int _, .int _ => true | .bl _, .bl _ => true | .str _, .str _ => true | .byt _, .byt _ => true
  | .int _, .str _ => true | .str _, .int _ => true | .bl _, .str _ => true | .str _, .bl _ => true
  | _, _ => false
def rEq : R2 := fun x y H Q => scal x y = true ∧ Q (.bl (decide (x = y))) H
def rNe : R2 := fun x y H Q => scal x y = true ∧ Q (.bl (!decide (x = y))) H

theorem dec_int {i j : Int} : decide (V.int i = V.int j) = (i == j) := by
  rw [Bool.eq_iff_iff]
  simp
theorem dec_bl {i j : Bool} : decide (V.bl i = V.bl j) = (i == j) := by
  rw [Bool.eq_iff_iff]
  simp
theorem dec_str {i j : Str} : decide (V.str i = V.str j) = (i == j) := by
  rw [Bool.eq_iff_iff]
  simp
theorem dec_byt {i j : Array UInt8} : decide (V.byt i = V.byt j) = (i.toList == j.toList) := by
  rw [Bool.eq_iff_iff]
  cases i
  cases j
  simp

section
variable {X : Cx} {a b c : Expr} {ta tb tc : TE} {pos : Pos}
theorem fin_bl {pins : List (Addr × Obj)} {σ : St} {H : Hp} {s : Shared} {Q : VK} {k k' : Bool} (I : Inv X pins σ H s) (q : Q (.bl k) H) (e : k = k') : EP X pins σ Q (.bool k') s := by
  subst e
  exact ⟨.bl k, H, I, rfl, q⟩
theorem op_eq : OpR X (compareOp .Eq) rEq := by
  intro pins s σ H x y v u Q I rx ry h
  obtain ⟨hs, q⟩ := h
  cases x with
  | non =>
    cases rx
    cases y with
    | non => cases ry; exact PySem.EqNone.eq_none_none (fin_bl I q (by simp))
    | bl j => cases ry; exact PySem.EqNone.eq_none_bool (fin_bl I q (by simp))
    | int j => obtain ⟨t', rfl⟩ := ry; exact PySem.EqNone.eq_none_int (fin_bl I q (by simp))
    | str j => obtain ⟨t', rfl⟩ := ry; exact PySem.EqNone.eq_none_str (fin_bl I q (by simp))
    | _ => exact absurd (show false = true from hs) Bool.false_ne_true
  | bl i =>
    cases rx
    cases y with
    | non => cases ry; exact PySem.EqNone.eq_bool_none (fin_bl I q (by simp))
    | bl j => cases ry; exact eq_bool (fin_bl I q dec_bl)
    | str j => obtain ⟨t', rfl⟩ := ry; exact PySem.EqMixed.eq_bool_str (fin_bl I q (by simp))
    | _ => exact absurd (show false = true from hs) Bool.false_ne_true
  | int i =>
    obtain ⟨t, rfl⟩ := rx
    cases y with
    | non => cases ry; exact PySem.EqNone.eq_int_none (fin_bl I q (by simp))
    | int j => obtain ⟨t', rfl⟩ := ry; exact eq_int (fin_bl I q dec_int)
    | str j => obtain ⟨t', rfl⟩ := ry; exact PySem.EqMixed.eq_int_str (fin_bl I q (by simp))
    | _ => exact absurd (show false = true from hs) Bool.false_ne_true
  | str i =>
    obtain ⟨t, rfl⟩ := rx
    cases y with
    | non => cases ry; exact PySem.EqNone.eq_str_none (fin_bl I q (by simp))
    | bl j => cases ry; exact PySem.EqMixed.eq_str_bool (fin_bl I q (by simp))
    | int j => obtain ⟨t', rfl⟩ := ry; exact PySem.EqMixed.eq_str_int (fin_bl I q (by simp))
    | str j => obtain ⟨t', rfl⟩ := ry; exact eq_str (fin_bl I q dec_str)
    | _ => exact absurd (show false = true from hs) Bool.false_ne_true
  | byt i =>
    obtain ⟨t, rfl⟩ := rx
    cases y with
    | byt j => obtain ⟨t', rfl⟩ := ry; exact PySem.W.eq_bytes (fin_bl I q dec_byt)
    | _ => exact absurd (show false = true from hs) Bool.false_ne_true
  | _ => cases y <;> exact absurd (show false = true from hs) Bool.false_ne_true
theorem op_ne : OpR X (compareOp .NotEq) rNe := by
  intro pins s σ H x y v u Q I rx ry h
  obtain ⟨hs, q⟩ := h
  cases x with
  | non =>
    cases rx
    cases y with
    | non => cases ry; exact PySem.EqNone.ne_none_none (fin_bl I q (by simp))
    | bl j => cases ry; exact PySem.EqNone.ne_none_bool (fin_bl I q (by simp))
    | int j => obtain ⟨t', rfl⟩ := ry; exact PySem.EqNone.ne_none_int (fin_bl I q (by simp))
    | str j => obtain ⟨t', rfl⟩ := ry; exact PySem.EqNone.ne_none_str (fin_bl I q (by simp))
    | _ => exact absurd (show false = true from hs) Bool.false_ne_true
  | bl i =>
    cases rx
    cases y with
    | non => cases ry; exact PySem.EqNone.ne_bool_none (fin_bl I q (by simp))
    | bl j => cases ry; exact ne_bool (fin_bl I q (congrArg not dec_bl))
    | str j => obtain ⟨t', rfl⟩ := ry; exact PySem.EqMixed.ne_bool_str (fin_bl I q (by simp))
    | _ => exact absurd (show false = true from hs) Bool.false_ne_true
  | int i =>
    obtain ⟨t, rfl⟩ := rx
    cases y with
    | non => cases ry; exact PySem.EqNone.ne_int_none (fin_bl I q (by simp))
    | int j => obtain ⟨t', rfl⟩ := ry; exact ne_int (fin_bl I q (congrArg not dec_int))
    | str j => obtain ⟨t', rfl⟩ := ry; exact PySem.EqMixed.ne_int_str (fin_bl I q (by simp))
    | _ => exact absurd (show false = true from hs) Bool.false_ne_true
  | str i =>
    obtain ⟨t, rfl⟩ := rx
    cases y with
    | non => cases ry; exact PySem.EqNone.ne_str_none (fin_bl I q (by simp))
    | bl j => cases ry; exact PySem.EqMixed.ne_str_bool (fin_bl I q (by simp))
    | int j => obtain ⟨t', rfl⟩ := ry; exact PySem.EqMixed.ne_str_int (fin_bl I q (by simp))
    | str j => obtain ⟨t', rfl⟩ := ry; exact ne_str (fin_bl I q (congrArg not dec_str))
    | _ => exact absurd (show false = true from hs) Bool.false_ne_true
  | byt i =>
    obtain ⟨t, rfl⟩ := rx
    cases y with
    | byt j => obtain ⟨t', rfl⟩ := ry; exact PySem.W.ne_bytes (fin_bl I q (congrArg not dec_byt))
    | _ => exact absurd (show false = true from hs) Bool.false_ne_true
  | _ => cases y <;> exact absurd (show false = true from hs) Bool.false_ne_true

theorem op_lt : OpR X (compareOp .Lt) (rI0 fun i j => .bl (decide (i < j))) := opB0 fun _ _ _ _ _ _ _ q => lt_int q
theorem op_le : OpR X (compareOp .LtE) (rI0 fun i j => .bl (decide (i ≤ j))) := opB0 fun _ _ _ _ _ _ _ q => le_int q
theorem op_gt : OpR X (compareOp .Gt) (rI0 fun i j => .bl (decide (j < i))) := opB0 fun _ _ _ _ _ _ _ q => gt_int q
theorem op_ge : OpR X (compareOp .GtE) (rI0 fun i j => .bl (decide (j ≤ i))) := opB0 fun _ _ _ _ _ _ _ q => ge_int q
/-- two rules for one operation: by cases -/
theorem OpR.or {f : Value → Value → Sem Value} {r r' : R2} (h : OpR X f r) (h' : OpR X f r') : OpR X f (fun x y H Q => r x y H Q ∨ r' x y H Q) := by
  intro pins s σ H x y v u Q I rx ry q
  rcases q with q | q
  · exact h pins s σ H x y v u Q I rx ry q
  · exact h' pins s σ H x y v u Q I rx ry q

theorem nomark (b : Expr) {op : CmpOp} (h : op ≠ .In := by decide) (h2 : op ≠ .NotIn := by decide) : behindInMarks op b = false := by
  have e1 : (op == CmpOp.In) = false := by cases op <;> first | rfl | exact absurd rfl h
  have e2 : (op == CmpOp.NotIn) = false := by cases op <;> first | rfl | exact absurd rfl h2
  cases b <;> simp [behindInMarks, e1, e2]
/-- a comparison as a value; hm: nomark b, or (for in, not in) by with_unfolding_all rfl -/
theorem pe_cmpR {op : CmpOp} {r : R2} (ho : OpR X (compareOp op) r) (ha : PE X a ta) (hb : PE X b tb) (hm : behindInMarks op b = false) : PE X (.Compare a [op] [b] pos) (tOp r ta tb) := by
  intro pins s σ H Q I h
  exact wpAny_Compare1 (binT ha hb I h fun v u s2 x y H2 I2 rx ry q => ho pins s2 σ H2 x y v u Q I2 rx ry q) hm
/-- a reading of a value as a test -/
def tTest (t : TE) : TT := fun σ H Q => t σ H fun x H' => ∃ k, x = .bl k ∧ Q k H'
theorem pt_cmpR {op : CmpOp} {r : R2} (ho : OpR X (compareOp op) r) (ha : PE X a ta) (hb : PE X b tb) (hm : behindInMarks op b = false) : PT X (.Compare a [op] [b] pos) (tTest (tOp r ta tb)) := by
  intro pins s σ H Q I h
  refine wpAny_isTrue_Compare1 (thn (ha pins s σ H _ I h) fun v s1 ⟨x, H1, I1, r1, q1⟩ => thn (hb pins s1 σ H1 _ I1 q1) fun u s2 ⟨y, H2, I2, r2, q2⟩ =>
    thn (ho pins s2 σ H2 x y v u _ I2 r1 r2 q2) fun c s3 ⟨z, H3, I3, r3, k, e, q3⟩ => ?_) hm
  subst e
  cases r3
  exact wpAny_truthy_bool ⟨H3, I3, q3⟩
/-- a op1 b op2 c -/
def tChain (r r' : R2) (ta tb tc : TE) : TE := fun σ H Q => ta σ H fun x H1 => tb σ H1 fun y H2 => r x y H2 fun z H3 => ∃ k, z = .bl k ∧
  (if k = true then tc σ H3 fun w' H4 => r' y w' H4 Q else Q (.bl false) H3)
theorem pe_chain {op op' : CmpOp} {r r' : R2} (ho : OpR X (compareOp op) r) (ho' : OpR X (compareOp op') r') (ha : PE X a ta) (hb : PE X b tb) (hc : PE X c tc)
    (hm : lastMarks [op, op'] [b, c] = false := by with_unfolding_all rfl) : PE X (.Compare a [op, op'] [b, c] pos) (tChain r r' ta tb tc) := by
  intro pins s σ H Q I h
  refine Compare_chain (thn (ha pins s σ H _ I h) fun v s1 ⟨x, H1, I1, r1, q1⟩ => chain_link (thn (hb pins s1 σ H1 _ I1 q1) fun u s2 ⟨y, H2, I2, r2, q2⟩ =>
    thn (ho pins s2 σ H2 x y v u _ I2 r1 r2 q2) fun d s3 ⟨z, H3, I3, r3, k, e, q3⟩ => ?_)) hm
  subst e
  cases r3
  refine wpAny_truthy_bool ?_
  cases k with
  | false => exact ite_ff ⟨.bl false, H3, I3, rfl, q3⟩
  | true => exact ite_tt (chain_last (thn (hc pins s3 σ H3 _ I3 q3) fun w' s4 ⟨z', H4, I4, r4, q4⟩ => ho' pins s4 σ H4 y z' u w' Q I4 r2 r4 q4))
/-! ### truth -/
theorem line63 : (sizeLine : Nat) < 2 ^ 63 := by rw [sizeLine_eq]; decide
/-! ### strs and bytes -/
/-! ### scalar builtins, by CallR -/
theorem vals1 {x : V} {us : List Value} (r : Vals [x] us) : ∃ u, us = [u] ∧ RelV x u := by
  cases r with
  | cons r1 r2 => cases r2; exact ⟨_, rfl, r1⟩
theorem vals2 {x y : V} {us : List Value} (r : Vals [x, y] us) : ∃ u w', us = [u, w'] ∧ RelV x u ∧ RelV y w' := by
  cases r with
  | cons r1 r2 =>
    cases r2 with
    | cons r3 r4 => cases r4; exact ⟨_, _, rfl, r1, r3⟩
theorem call_abs : CallR X (.builtin "abs") (fun xs H Q => ∃ i, xs = [.int i] ∧ Q (.int (if i < 0 then -i else i)) H) := by
  intro pins s σ H xs us Q I r h
  obtain ⟨i, rfl, q⟩ := h
  obtain ⟨u, rfl, t, rfl⟩ := vals1 r
  exact call_abs_int fun u tk => ⟨.int (if i < 0 then -i else i), H, I.tok _, ⟨_, rfl⟩, q⟩
theorem call_max2 (hc : X.calm = true) : CallR X (.builtin "max") (fun xs H Q => ∃ i j, xs = [.int i, .int j] ∧ Q (.int (if j > i then j else i)) H) := by
  intro pins s σ H xs us Q I r h
  obtain ⟨i, j, rfl, q⟩ := h
  obtain ⟨u, w', rfl, ⟨t, rfl⟩, ⟨t', rfl⟩⟩ := vals2 r
  refine max_two_ints (I.ok.hd hc) fun h' tk k => ⟨_, H, I.kept k, ?_, q⟩
  by_cases hj : j > i
  · rw [if_pos hj, if_pos hj]; exact ⟨_, rfl⟩
  · rw [if_neg hj, if_neg hj]; exact ⟨_, rfl⟩
theorem call_min2 (hc : X.calm = true) : CallR X (.builtin "min") (fun xs H Q => ∃ i j, xs = [.int i, .int j] ∧ Q (.int (if j < i then j else i)) H) := by
  intro pins s σ H xs us Q I r h
  obtain ⟨i, j, rfl, q⟩ := h
  obtain ⟨u, w', rfl, ⟨t, rfl⟩, ⟨t', rfl⟩⟩ := vals2 r
  refine min_two_ints (I.ok.hd hc) fun h' tk k => ⟨_, H, I.kept k, ?_, q⟩
  by_cases hj : j < i
  · rw [if_pos hj, if_pos hj]; exact ⟨_, rfl⟩
  · rw [if_neg hj, if_neg hj]; exact ⟨_, rfl⟩
theorem call_int1 : CallR X (.type "int") (fun xs H Q => (∃ i, xs = [.int i] ∧ Q (.int i) H) ∨ ∃ k, xs = [.bl k] ∧ Q (.int (if k then 1 else 0)) H) := by
  intro pins s σ H xs us Q I r h
  rcases h with ⟨i, rfl, q⟩ | ⟨k, rfl, q⟩
  · obtain ⟨u, rfl, t, rfl⟩ := vals1 r
    exact call_int_int ⟨.int i, H, I, ⟨_, rfl⟩, q⟩
  · obtain ⟨u, rfl, r1⟩ := vals1 r
    cases r1
    exact call_int_bool ⟨.int (if k then 1 else 0), H, I.tok _, ⟨_, rfl⟩, q⟩
/-- len of a str, a bytes, a list, a tuple -/
def LenV (K : PySem.W.Frag) (x : V) (H : Hp) (n : Nat) : Prop :=
  match x with
  | .str y => y.length ≤ sizeLine ∧ n = y.length
  | .byt y => y.size ≤ sizeLine ∧ n = y.size
  | .ref p => (∃ xs, SqL K H p xs ∧ n = xs.length) ∨ ∃ xs, SqT K H p xs ∧ n = xs.length
  | _ => False
theorem call_len : CallR X (.builtin "len") (fun xs H Q => ∃ x n, xs = [x] ∧ LenV X.K x H n ∧ Q (.int n) H) := by
  intro pins s σ H xs us Q I r h
  obtain ⟨x, n, rfl, e, q⟩ := h
  obtain ⟨u, rfl, rx⟩ := vals1 r
  have hl := line63
  have hs : sizeLine = 16777216 := sizeLine_eq
  cases x with
  | str y =>
    obtain ⟨t, rfl⟩ := rx
    obtain ⟨hy, e'⟩ : y.length ≤ sizeLine ∧ n = y.length := e
    subst e'
    exact len_str (by omega) ⟨.int _, H, I.tok _, ⟨_, rfl⟩, q⟩
  | byt y =>
    obtain ⟨t, rfl⟩ := rx
    obtain ⟨hy, e'⟩ : y.size ≤ sizeLine ∧ n = y.size := e
    subst e'
    exact PySem.W.len_bytes (by omega) ⟨.int _, H, I.tok _, ⟨_, rfl⟩, q⟩
  | ref p =>
    cases rx
    have e' : (∃ xs, SqL X.K H p xs ∧ n = xs.length) ∨ ∃ xs, SqT X.K H p xs ∧ n = xs.length := e
    rcases e' with ⟨xs, hx, e'⟩ | ⟨xs, hx, e'⟩
    · subst e'
      obtain ⟨its, r', pl, hz⟩ := I.list hx
      have hlen := r'.length
      exact Calls.call_len_list pl.isList (by simp only [List.size_toArray]; omega) ⟨.int xs.length, H, I.tok _, ⟨_, by simp only [List.size_toArray]; rw [hlen]⟩, q⟩
    · subst e'
      obtain ⟨its, r', pl, hz⟩ := I.tuple hx
      have hlen := r'.length
      exact len_tuple pl (by simp only [List.size_toArray]; omega) ⟨.int xs.length, H, I.tok _, ⟨_, by simp only [List.size_toArray]; rw [hlen]⟩, q⟩
  | _ => exact (show False from e).elim
end
end L2

namespace L2
open PySem PySem.Spec PyProof.Rows

/-! ### an instance, its attributes a map -/
structure ObjM (h : Heap) (x dx C : Addr) (mA : Str → Option Value) : Prop where
  obj : h.get? x = some (PySem.W.instObj C dx)
  ns : h.Ns1 dx mA
  ne : dx ≠ x

theorem lookIn_ns {h : Heap} {dx : Addr} {mA : Str → Option Value} (n : h.Ns1 dx mA) : ∃ od, h.get? dx = some od ∧ ∀ name, PySem.W.lookIn name od = some (mA name) := by
  obtain ⟨o, es, ep, ho, hd, hk, _, hm⟩ := n
  refine ⟨o, ho, fun name => ?_⟩
  have e := hm name
  unfold nsFind findBy at e
  rw [← Array.find?_toList] at e
  unfold PySem.W.lookIn
  rw [hd]
  dsimp only
  split
  · rename_i y q
    rw [q] at e
    exact congrArg some e
  · rename_i q
    rw [q] at e
    have a : es.toList.any (·.refKey) = false := by
      rw [List.any_eq_false]
      intro y hy
      obtain ⟨z, t, hkey⟩ := hk y (Array.mem_toList_iff.mp hy)
      simp [DictEntry.refKey, hkey]
    have a' : ¬ es.toList.any (·.refKey) = true := by rw [a]; exact Bool.false_ne_true
    rw [if_neg a']
    exact congrArg some e

theorem ObjM.look {h : Heap} {x dx C : Addr} {mA : Str → Option Value} (I : ObjM h x dx C mA) : ∃ od, PySem.W.InstAt h x (PySem.W.instObj C dx) C (some od) ∧ ∀ name, PySem.W.lookIn name od = some (mA name) :=
  let ⟨od, ho, hl⟩ := lookIn_ns I.ns
  ⟨od, ⟨I.obj, rfl, rfl, ho⟩, hl⟩

section
variable {prog : Program} {w : World} {A : Around} {E : Value → Shared → Prop} {s : Shared} {K : PySem.W.Frag} {x dx C f : Addr} {mA : Str → Option Value} {name : Str} {v : Value}

end

/-! ### the attributes as a list of pairs -/
section
variable {P : Program} {w : World} {H H' : Hp} {h h' : Heap} {a C dx : Addr} {fs fs' : List (Str × V)}
theorem ins_get (hok : HOk P w H h) (e : H a = some (.ins C dx fs)) : ∃ mA, ObjM h a dx C mA ∧ (∀ f, RelO (fs.lookup f) (mA f)) ∧ PySem.Within mA (fs.map (·.1)) ∧ fs.length ≤ 1000 ∧ H dx = some (.own a) := by
  obtain ⟨d, z, ne, ob, mA, n, r, q⟩ := (show ObjOk P w H h a (.ins C dx fs) from hok a _ e)
  exact ⟨mA, ⟨ob, n, ne⟩, r, q, z, d⟩
end

/-! ### what of the text a class must have -/
structure Cls (K : PySem.W.Frag) (C : Addr) : Prop where
  pg : PySem.W.plainGet K C Str.empty = true
  hd : PySem.W.hasDictIn K C = true
  po : PySem.W.plainOver K C = true
  sa : PySem.W.findIn K (.ref C) "__setattr__" = some (some (.builtin "object.__setattr__"))
theorem Cls.get {K : PySem.W.Frag} {C : Addr} (c : Cls K C) (f : Str) : PySem.W.plainGet K C f = true := c.pg
/-- a constant of the class -/
structure Con (K : PySem.W.Frag) (C : Addr) (f : Str) (v : V) (u : Value) : Prop where
  at_ : PySem.W.findIn K (.ref C) f = some (some u)
  rel : RelV v u
  get : PySem.W.specialIn K u "__get__" = some none
  cp : PySem.W.copiedNames.contains f = false
/-- a method: a plain def of the class or of one above it -/
structure Meth (K : PySem.W.Frag) (C : Addr) (m : Str) (f : Addr) : Prop where
  at_ : PySem.W.findIn K (.ref C) m = some (some (.ref f))
  fn : PySem.W.isFn K (.ref f) = true
  kp : PySem.W.keepIn K (.ref f) = true

section
variable {X : Cx} {pins : List (Addr × Obj)} {σ : St} {H : Hp} {s : Shared} {a C dx : Addr} {fs : List (Str × V)} {f : Str} {v : V} {A : Around} {E : Value → Shared → Prop}

/-- a new instance, tracked, without attributes -/
theorem Inv.made (I : Inv X pins σ H s) : Inv X pins σ (upd (upd H s.heap.objs.size (.own (s.heap.objs.size + 1))) (s.heap.objs.size + 1) (.ins C s.heap.objs.size []))
    { s with heap := (s.heap.push PySem.W.emptyDict).push (PySem.W.instObj C s.heap.objs.size) } := by
  have e1 : (s.heap.push PySem.W.emptyDict).get? s.heap.objs.size = some PySem.W.emptyDict := Heap.get?_push_size s.heap rfl
  have e2 : ((s.heap.push PySem.W.emptyDict).push (PySem.W.instObj C s.heap.objs.size)).get? (s.heap.objs.size + 1) = some (PySem.W.instObj C s.heap.objs.size) := by
    have := Heap.get?_push_size (s.heap.push PySem.W.emptyDict) (o := PySem.W.instObj C s.heap.objs.size) rfl
    rwa [Heap.size_push] at this
  have e3 : (s.heap.push PySem.W.emptyDict).Ns s.heap.objs.size (fun _ => none) := ⟨PySem.W.emptyDict, #[], _, e1, rfl, (fun e he => absurd he (by simp)), fun _ => rfl⟩
  have I1 := I.laid (a := s.heap.objs.size) (o := .own (s.heap.objs.size + 1)) (h' := s.heap.push PySem.W.emptyDict) (t' := s.toks) (fun b u q => Heap.get?_push_of_some _ q) (Nat.le_refl _) ⟨_, e1⟩
  refine I1.laid (a := s.heap.objs.size + 1) (o := .ins C s.heap.objs.size []) (t' := s.toks) (fun b u q => Heap.get?_push_of_some _ q) (Nat.le_of_eq (Heap.size_push _ _)) ?_
  have ne : s.heap.objs.size ≠ s.heap.objs.size + 1 := Nat.ne_of_lt (Nat.lt_succ_self _)
  refine ⟨by rw [upd_ne ne, upd_same], Nat.zero_le _, ne, e2, fun _ => none, (Heap.Ns1.of_empty e3).at fun o q => Heap.get?_push_of_some _ q, fun _ => True.intro, fun y hy => absurd rfl hy⟩

end

/-! ### readings and rules -/
section
variable {X : Cx} {o e value : Expr} {f : Str} {pos pos' tpos : Pos} {ta tv : TE}
end

/-! ### isinstance -/
section
variable {X : Cx} {pins : List (Addr × Obj)} {σ : St} {H : Hp} {s : Shared} {A : Around} {E : Value → Shared → Prop} {Q : Value → Shared → Prop} {c : Value} {b : Bool}
/-- the type of a value, as the fragment's deciders take it; for an instance its class -/
inductive TyOf (K : PySem.W.Frag) (H : Hp) : V → Value → Prop where
  | non : TyOf K H .non (.type "NoneType")
  | bl (x : Bool) : TyOf K H (.bl x) (.type "bool")
  | int (i : Int) : TyOf K H (.int i) (.type "int")
  | str (x : Str) : TyOf K H (.str x) (.type "str")
  | flt (x : UInt64) : TyOf K H (.flt x) (.type "float")
  | lst {a : Addr} {xs : List V} (e : H a = some (.lst xs)) : TyOf K H (.ref a) (.type "list")
  | frz {a : Addr} {o : Obj} {xs : List V} (e : H a = some (.frz o (.lst xs))) : TyOf K H (.ref a) (.type "list")
  | tup {a : Addr} {xs : List V} (e : H a = some (.tup xs)) : TyOf K H (.ref a) (.type "tuple")
  | dK {a : Addr} {kvs : List (Key × V)} (e : H a = some (.dK kvs)) : TyOf K H (.ref a) (.type "dict")
  | dT {a : Addr} {kvs : List (List Key × V)} (e : H a = some (.dT kvs)) : TyOf K H (.ref a) (.type "dict")
  | ins {a C dx : Addr} {fs : List (Str × V)} (e : H a = some (.ins C dx fs)) (cl : Cls K C) (ha : PySem.W.findIn K (.ref C) "__class__" = some (some (.builtin "object.__class__")))
      (hn : PySem.W.specialIn K (.builtin "object.__class__") "__get__" = some (some (.builtin "getset_descriptor.__get__"))) (htk : PySem.W.takesIn K (.builtin "object.__class__") = some true)
      (hm : PySem.W.mroIn K C (.type "object") = some true) : TyOf K H (.ref a) (.ref C)
/-- isinstance(x, c) for one class c, a built-in or an own one: kitOne's answer -/
theorem isinst_ok {x : V} {u t : Value} (I : Inv X pins σ H s) (rx : RelV x u) (ty : TyOf X.K H x t) (e : PySem.W.kitOne X.K t c = some b) (h : ∀ tk, Q (.bool b) { s with toks := tk }) :
    wpAny (model X.prog X.w) A (call (.builtin "isinstance") [u, c]) Q E s := by
  cases ty with
  | non => cases (show u = Value.none from rx); exact PySem.W.kia_one PySem.W.kitx_none I.kIn True.intro e (fun z => nomatch z) h
  | bl y => cases (show u = Value.bool y from rx); exact PySem.W.kia_one PySem.W.kitx_bool I.kIn True.intro e (fun z => nomatch z) h
  | int i => obtain ⟨t, q⟩ := (show ∃ t, u = Value.int i t from rx); cases q; exact PySem.W.kia_one PySem.W.kitx_int I.kIn True.intro e (fun z => nomatch z) h
  | str y => obtain ⟨t, q⟩ := (show ∃ t, u = Value.str y t from rx); cases q; exact PySem.W.kia_one PySem.W.kitx_str I.kIn True.intro e (fun z => nomatch z) h
  | flt y => obtain ⟨t, q⟩ := (show ∃ t, u = Value.float y t from rx); cases q; exact PySem.W.kia_one PySem.W.kitx_float I.kIn True.intro e (fun z => nomatch z) h
  | @lst a xs ea =>
    cases (show u = Value.ref a from rx)
    obtain ⟨_, _, n, _, h1⟩ := (show ObjOk X.prog X.w H s.heap a (.lst xs) from I.hok a _ ea)
    exact PySem.W.kia_one PySem.W.kitx_list I.kIn ⟨_, h1, rfl⟩ e (fun z => nomatch z) h
  | @frz a ob xs ea =>
    cases (show u = Value.ref a from rx)
    obtain ⟨_, _, _, n, _, h1⟩ := (show ObjOk X.prog X.w H s.heap a (.frz ob (.lst xs)) from I.hok a _ ea)
    exact PySem.W.kia_one PySem.W.kitx_list I.kIn ⟨_, h1, rfl⟩ e (fun z => nomatch z) h
  | @tup a xs ea =>
    cases (show u = Value.ref a from rx)
    obtain ⟨_, _, _, p⟩ := (show ObjOk X.prog X.w H s.heap a (.tup xs) from I.hok a _ ea)
    obtain ⟨o, h1, h2, _⟩ := p
    exact PySem.W.kia_one PySem.W.kitx_tuple I.kIn ⟨o, h1, h2⟩ e (fun z => nomatch z) h
  | @dK a kvs ea =>
    cases (show u = Value.ref a from rx)
    obtain ⟨_, _, vs, _, p⟩ := (show ObjOk X.prog X.w H s.heap a (.dK kvs) from I.hok a _ ea)
    obtain ⟨o, es, ep, h1, h2, _⟩ := p
    exact PySem.W.kia_one PySem.W.kitx_dict I.kIn ⟨o, h1, h2.1⟩ e (fun z => nomatch z) h
  | @dT a kvs ea =>
    cases (show u = Value.ref a from rx)
    obtain ⟨_, _, xs, _, o, es, ep, h1, h2, _⟩ := (show ObjOk X.prog X.w H s.heap a (.dT kvs) from I.hok a _ ea)
    exact PySem.W.kia_one PySem.W.kitx_dict I.kIn ⟨o, h1, h2.1⟩ e (fun z => nomatch z) h
  | @ins a C dx fs ea cl ha hn htk hm =>
    cases (show u = Value.ref a from rx)
    obtain ⟨mA, O, _⟩ := ins_get I.hok ea
    obtain ⟨od, J, _⟩ := O.look
    exact PySem.W.kia_one (PySem.W.kitx_own (cl.get _) cl.hd ha hn htk hm) I.kIn J e (fun z => nomatch z) h
end
end L2

namespace L2
open PySem PySem.Spec PyProof.Rows

/-! ### room -/
structure Room (k : Nat) (A : Around) : Prop where
  hd : A.handled = none
  dp : A.depth + 3 * k + 5 < recursionLimit
  un : A.units + 16 * k + 200 < cLine
theorem Room.mono {j k : Nat} {A : Around} (r : Room k A) (h : j ≤ k) : Room j A := ⟨r.hd, by have := r.dp; omega, by have := r.un; omega⟩
theorem Room.deeper {k : Nat} {A : Around} (r : Room (k + 1) A) (env : Env) : Room k (A.deeper env) :=
  ⟨r.hd, by have := r.dp; show A.depth + 1 + 3 * k + 5 < _; omega, by have := r.un; show A.units + 3 + 16 * k + 200 < _; omega⟩
theorem Room.in1 {k : Nat} {A : Around} (r : Room (k + 1) A) : Room k A.in1 :=
  ⟨r.hd, by have := r.dp; show A.depth + 3 * k + 5 < _; omega, by have := r.un; show A.units + 1 + 16 * k + 200 < _; omega⟩
theorem Room.depth {k : Nat} {A : Around} (r : Room k A) : A.depth < recursionLimit := by have := r.dp; omega
theorem Room.units {k : Nat} {A : Around} (r : Room k A) : A.units + 64 < cLine := by have := r.un; omega
/-! ### argument lists and displays -/
def tNil : TA := fun _ H Q => Q [] H
def tCons (ta : TE) (tr : TA) : TA := fun σ H Q => ta σ H fun x H1 => tr σ H1 fun xs H2 => Q (x :: xs) H2
section
variable {X : Cx} {e : Expr} {es : List Expr} {te : TE} {t : TA} {pos : Pos}
theorem pa_nil : PA X [] tNil := fun _ _ _ _ H Q I h => Calls.spliced_nil ⟨[], H, I, .nil, h⟩
theorem pa_cons (ha : PE X e te) (hr : PA X es t) (hs : starEach (e :: es) X.env = (false, eval e X.env) :: starEach es X.env := by rfl) : PA X (e :: es) (tCons te t) := by
  intro pos pins s σ H Q I h
  rw [hs]
  show wpAny _ _ (spliced ((false, eval e X.env) :: backTo pos (starEach es X.env))) _ _ s
  refine Calls.spliced_cons (thn (ha pins s σ H _ I h) fun u s1 ⟨x, H1, I1, r1, q1⟩ => ?_)
  exact thn (hr pos pins s1 σ H1 _ I1 q1) fun us s2 ⟨xs, H2, I2, r2, q2⟩ => ⟨x :: xs, H2, I2, .cons r1 r2, q2⟩

/-- a tuple, a list of written items -/
def tTup (t : TA) : TE := fun σ H Q => t σ H fun xs H1 => xs.length ≤ sizeLine ∧ ∀ p, H1 p = none → Q (.ref p) (upd H1 p (.tup xs))
def tLst (t : TA) : TE := fun σ H Q => t σ H fun xs H1 => xs.length ≤ sizeLine ∧ ∀ p, H1 p = none → Q (.ref p) (upd H1 p (.lst xs))
theorem pe_tup {x1} (h : PA X es t) : PE X (.Tuple es x1 pos) (tTup t) := by
  intro pins s σ H Q I hq
  refine wpAny_Tuple_spliced (thn (h pos pins s σ H _ I hq) fun us s1 ⟨xs, H1, I1, r, z, q⟩ => ⟨by rw [← r.length]; exact z, ?_⟩)
  have hf : H1 s1.heap.objs.size = none := I1.hok.fresh (Nat.le_refl _)
  refine ⟨.ref s1.heap.objs.size, upd H1 s1.heap.objs.size (.tup xs), I1.laid (t' := s1.toks) (fun b u e => Heap.get?_push_of_some _ e) (Nat.le_refl _) ?_, rfl, q _ hf⟩
  exact ⟨z, us, r, ⟨_, Heap.get?_push_size _ rfl, rfl, _, rfl⟩⟩
theorem pe_lst (h : PA X es t) : PE X (.List es pos) (tLst t) := by
  intro pins s σ H Q I hq
  refine wpAny_List_spliced (thn (h pos pins s σ H _ I hq) fun us s1 ⟨xs, H1, I1, r, z, q⟩ => ⟨by rw [← r.length]; exact z, ?_⟩)
  have hf : H1 s1.heap.objs.size = none := I1.hok.fresh (Nat.le_refl _)
  refine ⟨.ref s1.heap.objs.size, upd H1 s1.heap.objs.size (.lst xs), I1.laid (t' := s1.toks) (fun b u e => Heap.get?_push_of_some _ e) (Nat.le_refl _) ?_, rfl, q _ hf⟩
  exact ⟨z, us, 0, r, Heap.get?_push_size _ rfl⟩
end

/-! ### what a def promises -/
/-- a def's promise: the bound arguments in the parameters' order, the heap, the wanted end, the wanted exception -/
abbrev Sp := List V → Hp → VK → XK → Prop
/-- how an exception lies behind a call (file 08 gives it): the callers' frames, abstract heap and state ahead of the call, the wish, the exception, the state -/
abbrev CXT := List Env → Hp → Shared → XK → Value → Shared → Prop

/-- the state at a call -/
structure Env0 (P : Program) (w : World) (K : PySem.W.Frag) (mg : Str → Option Value) (base : Heap) (A : Around) (outer : List Env) (s : Shared) (H : Hp) : Prop where
  frames : A.frames = some outer
  mod : Mod K mg base
  bs : ∀ b o, base.get? b = some o → s.heap.get? b = some o ∧ H b = none
  bsz : base.objs.size ≤ s.heap.objs.size
  funs : s.heap.FunFrames base outer
  frf : ∀ b ∈ frs outer, H b = none
  hok : HOk P w H s.heap
  bare : AllBare s.gens
/-- a call's end -/
def CE (outer : List Env) (P : Program) (w : World) (H : Hp) (s : Shared) (Q : VK) (u : Value) (s' : Shared) : Prop :=
  ∃ v H', s'.os = s.os ∧ AllBare s'.gens ∧ Un (frs outer) [] H H' s.heap s'.heap ∧ HOk P w H' s'.heap ∧ RelV v u ∧ Q v H'
def CR (CX : CXT) (outer : List Env) (P : Program) (w : World) (H : Hp) (s : Shared) (Q : VK) (E : XK) (r : Result) (s' : Shared) : Prop :=
  match r with
  | .ok (.ret u) => CE outer P w H s Q u s'
  | .ok _ => False
  | .error e => CX outer H s E e s'
structure FnOk (P : Program) (w : World) (K : PySem.W.Frag) (mg : Str → Option Value) (base : Heap) (CX : CXT) (k : Nat) (f : Addr) (fd : FuncData) (ps : List Str) (sp : Sp) : Prop where
  len : ∀ vs H Q E, sp vs H Q E → vs.length = ps.length
  run : ∀ (A : Around) (outer : List Env) (s : Shared) (H : Hp) (args : Args) (us : List Value) (vs : List V) (Q : VK) (E : XK), Room k A → Env0 P w K mg base A outer s H → BindsTo s fd args (ps.zip us) → Vals vs us → sp vs H Q E →
    codeAny (model P w) A (.call (.ref f) args) (CR CX outer P w H s Q E) s
theorem FnOk.mono {P : Program} {w : World} {K : PySem.W.Frag} {mg : Str → Option Value} {base : Heap} {CX : CXT} {j k : Nat} {f : Addr} {fd : FuncData} {ps : List Str} {sp : Sp} (F : FnOk P w K mg base CX j f fd ps sp) (h : j ≤ k) :
    FnOk P w K mg base CX k f fd ps sp := ⟨F.len, fun A outer s H args us vs Q E hr => F.run A outer s H args us vs Q E (hr.mono h)⟩
theorem Env0.in1 {P : Program} {w : World} {K : PySem.W.Frag} {mg : Str → Option Value} {base : Heap} {A : Around} {outer : List Env} {s : Shared} {H : Hp} (e : Env0 P w K mg base A outer s H) :
    Env0 P w K mg base A.in1 outer s H := ⟨e.frames, e.mod, e.bs, e.bsz, e.funs, e.frf, e.hok, e.bare⟩

section
variable {X : Cx} {pins : List (Addr × Obj)} {σ : St} {H : Hp} {s s' : Shared}
/-- from a body: what a callee wants -/
theorem Inv.env0 (I : Inv X pins σ H s) : Env0 X.prog X.w X.K X.mg X.base X.A X.stack s H :=
  ⟨I.ok.frames, I.ok.mod, I.bs, Nat.le_trans I.ok.bsz I.sz, I.stack, I.stkFree, I.hok, I.bare⟩
/-- behind a call -/
theorem Inv.after {Q : VK} {u : Value} (I : Inv X pins σ H s) (h : CE X.stack X.prog X.w H s Q u s') : EP X pins σ Q u s' := by
  obtain ⟨v, H', os, bare, un, hok, r, q⟩ := h
  obtain ⟨hh, g, d, t, os'⟩ := s'
  obtain rfl : os' = s.os := os
  exact ⟨v, H', I.call (h' := hh) (g' := g) (d' := d) (t' := t) (ch := []) un hok bare (fun b z => absurd z (by simp)), r, q⟩
end

/-! ### calls -/
/-- f(..): the written arguments, then the defaults dvs; E: what is wanted of an exception -/
def tCall (sp : Sp) (dvs : List V) (E : XK) (t : TA) : TE := fun σ H Q => t σ H fun vs H1 => sp (vs ++ dvs) H1 Q E
/-- how the parameters are bound: us the positional arguments, kw the keywords' values by name, ds the defaults that fill up -/
def Binds (K : PySem.W.Frag) (fd : FuncData) (ps : List Str) (ds : List Value) : Prop :=
  ∀ (s : Shared) (us : List Value), K.In s.heap → (us ++ ds).length = ps.length → BindsTo s fd ⟨us, []⟩ (ps.zip (us ++ ds))
/-- every parameter is given -/
theorem Binds.all {K : PySem.W.Frag} {fd : FuncData} {ps : List Str} (h : ∀ us : List Value, us.length = ps.length → bindArgs fd ⟨us, []⟩ = pure (ps.zip us)) : Binds K fd ps [] := fun s us _ hl => by
  rw [List.append_nil] at hl ⊢
  exact .of_eq (h us hl)

/-- an exception of a callee reaches what this body wants of exceptions -/
def Passes (CX : CXT) (X : Cx) (E : XK) : Prop := ∀ (pins : List (Addr × Obj)) (σ : St) (H : Hp) (s : Shared) (e : Value) (s' : Shared), Inv X pins σ H s → CX X.stack H s E e s' → X.xe e s'

section
variable {X : Cx} {CX : CXT} {k : Nat} {f C : Addr} {fd : FuncData} {ps : List Str} {sp : Sp} {dvs : List V} {ds : List Value} {E : XK} {x m : Str} {p pos apos : Pos} {e o : Expr} {es : List Expr} {ta : TE} {t : TA}

/-- the callee runs -/
theorem run_fn {pins : List (Addr × Obj)} {σ : St} {H : Hp} {s : Shared} {Q : VK} {us : List Value} {vs : List V} (F : FnOk X.prog X.w X.K X.mg X.base CX k f fd ps sp) (hr : Room k X.A) (hb : Binds X.K fd ps ds) (hd : Vals dvs ds) (hx : Passes CX X E)
    (I : Inv X pins σ H s) (r : Vals vs us) (h : sp (vs ++ dvs) H Q E) : wpAny (model X.prog X.w) X.A (call (.ref f) us) (EP X pins σ Q) X.xe s := by
  have r2 : Vals (vs ++ dvs) (us ++ ds) := r.append hd
  have hl : (us ++ ds).length = ps.length := by rw [← r2.length]; exact F.len _ _ _ _ h
  refine wpAny_call (codeAny_mono (F.run X.A X.stack s H ⟨us, []⟩ (us ++ ds) (vs ++ dvs) Q E hr I.env0 (hb s us I.kIn hl) r2 h) fun r s' hq => ?_)
  cases r with
  | error e => exact hx pins σ H s e s' I hq
  | ok fl =>
    cases fl with
    | ret u => exact I.after hq
    | next => exact False.elim hq
    | brk => exact False.elim hq
    | cont => exact False.elim hq

theorem pe_call (F : FnOk X.prog X.w X.K X.mg X.base CX k f fd ps sp) (hr : Room k X.A) (hg : Gl X x) (hm : X.mg x = some (.ref f)) (hk : PySem.W.keepIn X.K (.ref f) = true) (hb : Binds X.K fd ps ds) (hd : Vals dvs ds) (hx : Passes CX X E)
    (ha : PA X (e :: es) t) (hdb : (x == ("__debug__" : Str)) = false := by decide) (he : starEach (e :: es) X.env = (false, eval e X.env) :: starEach es X.env := by rfl) (hpl : (backTo pos (starEach es X.env)).any (·.1) = false := by rfl) :
    PE X (.Call (.Name x p) (e :: es) [] pos) (tCall sp dvs E t) := by
  intro pins s σ H Q I h
  refine wpAny_Call_Name_kw (ld_glob I hg hm ?_ hdb)
  refine PySem.W.callWith_K (h₀ := X.base) I.ok.mod.kin hk (thn (ha pos pins s σ H _ I h) fun us s1 ⟨vs, H1, I1, r, q⟩ => ⟨I1.kIn, ?_⟩) he hpl
  exact run_fn F hr hb hd hx I1 r q
/-- what a class must have to be made -/
structure Mk (K : PySem.W.Frag) (C f : Addr) : Prop where
  makes : PySem.W.makesIn K C = true
  init : PySem.W.findIn K (.ref C) "__init__" = some (some (.ref f))
  fn : PySem.W.isFn K (.ref f) = true
  kp : PySem.W.keepIn K (.ref C) = true

end

/-! ### keywords -/
section
variable {X : Cx} {CX : CXT} {k : Nat} {f C : Addr} {fd : FuncData} {ps ks : List Str} {sp : Sp} {E : XK} {x m : Str} {p pos apos kpos : Pos} {e o : Expr} {es : List Expr} {kws : List Keyword} {te ta : TE} {t tk : TA} {nm : Option Str}
/-- how a call with keywords binds: g puts the positional values us and the keywords' values ws (names ks) in the parameters' order, defaults among them -/
structure KBinds (K : PySem.W.Frag) (fd : FuncData) (ps ks : List Str) (g : List Value → List Value → List Value) (gV : List V → List V → List V) : Prop where
  to : ∀ (s : Shared) (us ws : List Value), K.In s.heap → (g us ws).length = ps.length → BindsTo s fd ⟨us, ks.zip ws⟩ (ps.zip (g us ws))
  rel : ∀ {vs : List V} {us : List Value} {zs : List V} {ws : List Value}, Vals vs us → Vals zs ws → Vals (gV vs zs) (g us ws)
variable {g : List Value → List Value → List Value} {gV : List V → List V → List V}
end

/-! ### a def's body keeps its promise -/
/-- names: the parameters first -/
structure FnScope (N P : List Str) (sc : Scope) : Prop where
  kind : sc.kind = .function
  co : sc.isCoroutine = false
  gen : sc.isGenerator = false
  nd : N.Nodup
  pre : N.take P.length = P
  par : ∀ x ∈ P, sc.names.lookup x = some .local ∨ sc.names.lookup x = some .cell
  nofree : ∀ y ∈ sc.names, y.2 ≠ .free

theorem bindL_out {kindOf : Str → Option NameKind} {x : Str} : ∀ {binds : List (Str × Value)} {m : Str → Option Value}, (∀ v, (x, v) ∉ binds) → bindL kindOf binds m x = m x
  | [], _, _ => rfl
  | (n, v) :: r, m, h => by
    unfold bindL
    rw [bindL_out fun w hw => h w (List.mem_cons_of_mem _ hw)]
    split
    · have : x ≠ n := by rintro rfl; exact h v List.mem_cons_self
      simp [this]
    · rfl
theorem bindC_out {kindOf : Str → Option NameKind} {x : Str} : ∀ {binds : List (Str × Value)} {m : Str → Option Value}, (∀ v, (x, v) ∉ binds) → bindC kindOf binds m x = m x
  | [], _, _ => rfl
  | (n, v) :: r, m, h => by
    unfold bindC
    rw [bindC_out fun w hw => h w (List.mem_cons_of_mem _ hw)]
    split
    · rfl
    · have : x ≠ n := by rintro rfl; exact h v List.mem_cons_self
      simp [this]
theorem bindL_get {kindOf : Str → Option NameKind} {x : Str} {v : Value} : ∀ {P : List Str} {vs : List Value} {i : Nat} {m : Str → Option Value}, P.Nodup → P[i]? = some x → vs[i]? = some v → kindOf x = some .local →
    bindL kindOf (P.zip vs) m x = some v
  | [], _, _, _, _, h, _, _ => by simp at h
  | _ :: _, [], _, _, _, _, h, _ => by simp at h
  | p :: P, w :: vs, 0, m, nd, h1, h2, hk => by
    simp at h1 h2; subst h1; subst h2
    show bindL kindOf ((p, w) :: P.zip vs) m p = _
    unfold bindL
    rw [bindL_out fun v hv => (List.nodup_cons.mp nd).1 (List.of_mem_zip hv).1, if_pos hk]
    simp
  | p :: P, w :: vs, i + 1, m, nd, h1, h2, hk => by
    show bindL kindOf ((p, w) :: P.zip vs) m x = _
    unfold bindL
    exact bindL_get (i := i) (List.nodup_cons.mp nd).2 (by simpa using h1) (by simpa using h2) hk
theorem bindC_get {kindOf : Str → Option NameKind} {x : Str} {v : Value} : ∀ {P : List Str} {vs : List Value} {i : Nat} {m : Str → Option Value}, P.Nodup → P[i]? = some x → vs[i]? = some v → kindOf x ≠ some .local →
    bindC kindOf (P.zip vs) m x = some v
  | [], _, _, _, _, h, _, _ => by simp at h
  | _ :: _, [], _, _, _, _, h, _ => by simp at h
  | p :: P, w :: vs, 0, m, nd, h1, h2, hk => by
    simp at h1 h2; subst h1; subst h2
    show bindC kindOf ((p, w) :: P.zip vs) m p = _
    unfold bindC
    rw [bindC_out fun v hv => (List.nodup_cons.mp nd).1 (List.of_mem_zip hv).1, if_neg hk]
    simp
  | p :: P, w :: vs, i + 1, m, nd, h1, h2, hk => by
    show bindC kindOf ((p, w) :: P.zip vs) m x = _
    unfold bindC
    exact bindC_get (i := i) (List.nodup_cons.mp nd).2 (by simpa using h1) (by simpa using h2) hk

/-- the names' values at the entry -/
def start (N : List Str) (vs : List V) : St := vs.map some ++ List.replicate (N.length - vs.length) none

/-- the context of a def's body, at its entry; an exception leaves the frame, then lies as CX says -/
def cxOf (CX : CXT) (P : Program) (w : World) (K : PySem.W.Frag) (mg : Str → Option Value) (base : Heap) (N : List Str) (qual : Str) (scope : Scope) (f : Addr) (cd : Value) (A : Around) (outer : List Env) (s : Shared) (H : Hp) (E : XK) : Cx where
  prog := P
  w := w
  K := K
  mg := mg
  base := base
  A := A.deeper (envOfC qual scope s.heap.objs.size f cd)
  N := N
  s₀ := s
  H₀ := H
  env := envOfC qual scope s.heap.objs.size f cd
  outer := outer
  stack := envOfC qual scope s.heap.objs.size f cd :: outer
  ex := []
  calm := true
  fn := fun _ => true
  pn := []
  xe := fun e s' => wpAny (model P w) (A.deeper (envOfC qual scope s.heap.objs.size f cd)) (leaving (envOfC qual scope s.heap.objs.size f cd) e) (fun _ s'' => CX outer H s E e s'') (fun e' s'' => CX outer H s E e' s'') s'

theorem cell_has {sc : Scope} {n : Nat} {x : Str} (h : sc.names.lookup x = some .cell) : ∃ c, (cellsFrom n sc.names []).lookup x = some c := by
  have q := PySem.W.cellsFrom_some sc.names n [] (.inl h)
  exact Option.isSome_iff_exists.mp q

theorem inv_start {CX : CXT} {P : Program} {w : World} {K : PySem.W.Frag} {mg : Str → Option Value} {base : Heap} {N ps : List Str} {qual : Str} {scope : Scope} {f : Addr} {cd : Value} {A : Around} {outer : List Env} {s s1 : Shared} {H : Hp} {E : XK} {us : List Value} {vs : List V}
    (S : FnScope N ps scope) (hd : A.handled = none) (e0 : Env0 P w K mg base A outer s H) (hl : vs.length = ps.length) (r : Vals vs us)
    (x : InCallC s s.heap.objs.size (bindL (envOfC qual scope s.heap.objs.size f cd).kindOf (ps.zip us) fun _ => none) (cellsFrom (s.heap.objs.size + 1) scope.names []) (bindC (envOfC qual scope s.heap.objs.size f cd).kindOf (ps.zip us) fun _ => none) s1) :
    Inv (cxOf CX P w K mg base N qual scope f cd A outer s H E) [] (start N vs) H s1 := by
  have hpl : ps.length ≤ N.length := by have := congrArg List.length S.pre; rw [List.length_take] at this; omega
  obtain ⟨h1, tk, rfl, hk⟩ := x.done
  have noA : ∀ b : Addr, b ∉ (cxOf CX P w K mg base N qual scope f cd A outer s H E).ex := fun b z => absurd (show b ∈ ([] : List Addr) from z) (by simp)
  refine ⟨⟨e0.mod, S.kind, rfl, rfl, Nat.le_refl _, fun y z c h1 h2 => ?_, fun y hy => ?_, fun y c _ h => ?_, fun _ => hd, Around.frames_deeper e0.frames, .inr ⟨rfl, rfl⟩, fun b z => absurd z (noA b), e0.bs, e0.bsz, fun b _ _ => noA b, fun b z => absurd z (noA b), e0.funs, e0.frf⟩,
    rfl, e0.bare, Un.kept hk, ⟨_, x.toInCall.ns, fun i y v h1 h2 h3 => ?_⟩, fun y c h => ⟨_, x.cell y c h⟩, e0.hok.fresh (Nat.le_refl _), fun y c h => ?_, fun p hp => absurd (show p ∈ ([] : List (Addr × Obj)) from hp) (by simp), e0.hok.kept hk, ?_⟩
  · exact name_of_addr x.apart (PySem.mem_of_lookup h1) (PySem.mem_of_lookup h2)
  · have hy : scope.names.lookup y = some .cell ∨ scope.names.lookup y = some .free := hy
    rcases hy with hy | hy
    · exact cell_has hy
    · exact absurd rfl (S.nofree _ (PySem.mem_of_lookup hy))
  · exact Nat.le_of_lt (x.above y c (PySem.mem_of_lookup h))
  · have hi : i < vs.length := by
      unfold start at h2
      by_cases hi : i < vs.length
      · exact hi
      · rw [List.getElem?_append_right (by simpa using hi)] at h2
        rw [List.getElem?_replicate] at h2
        split at h2 <;> cases h2
    have ha : vs[i]? = some v := by
      unfold start at h2
      rw [List.getElem?_append_left (by simpa using hi), List.getElem?_map] at h2
      cases e : vs[i]? with
      | none => rw [e] at h2; cases h2
      | some a => rw [e] at h2; cases h2; rfl
    obtain ⟨u, hu, rv⟩ := r.get ha
    have hp : ps[i]? = some y := by
      rw [← S.pre, List.getElem?_take_of_lt (by omega)]; exact h1
    have ndP : ps.Nodup := by rw [← S.pre]; exact S.nd.sublist (List.take_sublist _ _)
    refine ⟨u, rv, ?_⟩
    rcases S.par y (List.mem_of_getElem? hp) with k | k
    · exact .inl ⟨k, bindL_get ndP hp hu k⟩
    · obtain ⟨c, e⟩ := cell_has (n := s.heap.objs.size + 1) k
      refine .inr ⟨.inl k, c, e, ?_⟩
      have q := x.cell y c e
      rw [bindC_get ndP hp hu (by show scope.names.lookup y ≠ _; rw [k]; decide)] at q
      exact q
  · exact e0.hok.fresh (Nat.le_of_lt (x.above y c (PySem.mem_of_lookup h)))
  · unfold start
    show _ = N.length
    rw [List.length_append, List.length_map, List.length_replicate]
    omega

/-- THE RULE: a def (or a method) of the text, by its body. The body's reading t is chosen for each entry; it is run at the parameters' values -/
theorem fn_of {CX : CXT} {P : Program} {w : World} {K : PySem.W.Frag} {mg : Str → Option Value} {base : Heap} {k : Nat} {f : Addr} {name qual : Str} {params : Arguments} {body : List Stmt} {scope : Scope} {dV kV doc pm cdv ct oc : Value} {an od : Option Addr}
    {osl : Array (Option Value)} {N ps : List Str} {sp : Sp} (lk : K.lookup f = some ⟨oc, od, .func (PySem.W.fnOf name qual params body scope dV kV doc pm an cdv ct), osl⟩) (hcd : PySem.W.codeIn K cdv qual = true) (S : FnScope N ps scope)
    (len : ∀ vs H Q E, sp vs H Q E → vs.length = ps.length)
    (hbody : ∀ (A : Around) (outer : List Env) (s : Shared) (H : Hp) (vs : List V) (Q : VK) (E : XK), Room k (A.deeper (envOfC qual scope s.heap.objs.size f cdv)) → sp vs H Q E →
      ∃ t, PSs (cxOf CX P w K mg base N qual scope f cdv A outer s H E) body t ∧ t { nx := fun _ H' => Q .non H', rt := Q } (start N vs) H) :
    FnOk P w K mg base CX (k + 1) f (PySem.W.fnOf name qual params body scope dV kV doc pm an cdv ct) ps sp := by
  refine ⟨len, fun A outer s H args us vs Q E hr e0 hb r hsp => ?_⟩
  have hl := len _ _ _ _ hsp
  have KX : K.In s.heap := e0.mod.kin.keeps fun b o e => (e0.bs b o e).1
  have lim : s.heap.NoLimit := e0.mod.nolimit.keeps fun b o e => (e0.bs b o e).1
  have hkind : ∀ y ∈ ps.zip us, scope.names.lookup y.1 = some .local ∨ (scope.names.lookup y.1 = some .cell ∧ ((cellsFrom (s.heap.objs.size + 1) scope.names []).lookup y.1).isSome = true) := fun ⟨n, v⟩ hy => by
    rcases S.par n (List.of_mem_zip hy).1 with q | q
    · exact .inl q
    · exact .inr ⟨q, PySem.W.cellsFrom_some _ _ _ (.inl q)⟩
  refine codeAny_call_function hr.depth (KX _ _ lk) rfl S.co S.gen rfl (PySem.W.codeRec_of KX hcd) (hb _ _ _ _ ?_)
  refine wpAny_newFunctionEnv_cells S.kind hkind fun env he s1 x => ?_
  subst he
  refine ⟨lim.keeps x.toInCall.keep, codeAny_func ?_⟩
  obtain ⟨t, ht, hq⟩ := hbody A outer s H vs Q E (hr.deeper _) hsp
  have I : Inv (cxOf CX P w K mg base N qual scope f cdv A outer s H E) [] (start N vs) H s1 := inv_start S hr.hd e0 hl r x
  refine wpAny_mono (ht [] s1 (start N vs) H _ I hq) (fun fl s' hs => ?_) fun e s' hs => hs
  have fin : ∀ {σ' : St} {H' : Hp} {v : V} {u : Value}, Inv (cxOf CX P w K mg base N qual scope f cdv A outer s H E) [] σ' H' s' → RelV v u → Q v H' → CE outer P w H s Q u s' :=
    fun {σ' H' v u} J rv q => ⟨v, H', J.os, J.bare, J.base, J.hok, rv, q⟩
  cases fl with
  | ret u =>
    obtain ⟨v, σ', H', J, rv, q⟩ := hs
    exact fin J rv q
  | next =>
    obtain ⟨σ', H', J, q⟩ := hs
    exact fin (v := V.non) (u := Value.none) J rfl q
  | brk =>
    obtain ⟨_, _, _, q⟩ := hs
    exact False.elim q
  | cont =>
    obtain ⟨_, _, _, q⟩ := hs
    exact False.elim q
end L2

namespace L2
open PySem PySem.Spec PyProof.Rows
section
variable {X : Cx} {x : Str} {p pos : Pos} {e : Expr} {es : List Expr} {t : TA} {id T : String} {r : List V → Hp → VK → Prop}

def tCB (r : List V → Hp → VK → Prop) (t : TA) : TE := fun σ H Q => t σ H fun vs H1 => r vs H1 Q
/-- f(e, ..), f a built-in function -/
theorem pe_callB (hc : CallR X (.builtin id) r) (hg : Gl X x) (hm : X.mg x = none) (hv : bootBuiltins x = some (.builtin id)) (ha : PA X (e :: es) t) (hn : x ≠ "__name__" := by decide) (hdb : (x == ("__debug__" : Str)) = false := by decide)
    (he : starEach (e :: es) X.env = (false, eval e X.env) :: starEach es X.env := by rfl) (hpl : (backTo pos (starEach es X.env)).any (·.1) = false := by rfl) : PE X (.Call (.Name x p) (e :: es) [] pos) (tCB r t) := by
  intro pins s σ H Q I h
  refine wpAny_Call_Name_kw (ld_blt I hg hm hv ?_ hn hdb)
  exact PyProof.Rows.callWith_builtin1 (thn (ha pos pins s σ H _ I h) fun us s1 ⟨vs, H1, I1, r1, q1⟩ => hc pins s1 σ H1 vs us Q I1 r1 q1) he hpl
/-- T(e, ..), T a built-in type -/
theorem pe_callTy (hc : CallR X (.type T) r) (hg : Gl X x) (hm : X.mg x = none) (hv : bootBuiltins x = some (.type T)) (ha : PA X (e :: es) t) (hn : x ≠ "__name__" := by decide) (hdb : (x == ("__debug__" : Str)) = false := by decide)
    (he : starEach (e :: es) X.env = (false, eval e X.env) :: starEach es X.env := by rfl) (hpl : (backTo pos (starEach es X.env)).any (·.1) = false := by rfl) : PE X (.Call (.Name x p) (e :: es) [] pos) (tCB r t) := by
  intro pins s σ H Q I h
  refine wpAny_Call_Name_kw (ld_blt I hg hm hv ?_ hn hdb)
  exact PyProof.Rows.callWith_type1 (thn (ha pos pins s σ H _ I h) fun us s1 ⟨vs, H1, I1, r1, q1⟩ => hc pins s1 σ H1 vs us Q I1 r1 q1) he hpl
end
end L2

namespace L2
open PySem PySem.Spec PyProof.Rows

/-! ### lists of pairs as tables -/
section
variable {κ : Type} [DecidableEq κ]
def valV (kvs : List (κ × V)) (k : κ) : Option V := (kvs.find? fun kv => decide (kv.1 = k)).map (·.2)
/-- in its place, or at the end -/
def putK (kvs : List (κ × V)) (k : κ) (v : V) : List (κ × V) :=
  if (kvs.any fun kv => decide (kv.1 = k)) = true then kvs.map (fun kv => if kv.1 = k then (kv.1, v) else kv) else kvs ++ [(k, v)]
def dropK (kvs : List (κ × V)) (k : κ) : List (κ × V) := kvs.filter fun kv => decide (kv.1 ≠ k)

theorem valV_pos {p : κ × V} {r : List (κ × V)} {k : κ} (e : p.1 = k) : valV (p :: r) k = some p.2 := by simp [valV, List.find?_cons, e]
theorem valV_neg {p : κ × V} {r : List (κ × V)} {k : κ} (e : ¬ p.1 = k) : valV (p :: r) k = valV r k := by simp [valV, List.find?_cons, e]
theorem valV_any (k : κ) : ∀ kvs : List (κ × V), (kvs.any fun kv => decide (kv.1 = k)) = (valV kvs k).isSome
  | [] => rfl
  | p :: r => by
    rw [List.any_cons]
    by_cases e : p.1 = k
    · simp only [valV_pos e, decide_eq_true e, Bool.true_or, Option.isSome_some]
    · rw [valV_neg e, decide_eq_false e, Bool.false_or]; exact valV_any k r
theorem length_putK (kvs : List (κ × V)) (k : κ) (v : V) : (putK kvs k v).length ≤ kvs.length + 1 := by
  unfold putK
  split
  · rw [List.length_map]; omega
  · rw [List.length_append, List.length_cons, List.length_nil]; omega
theorem RelO.isSome_eq {o : Option V} {u : Option Value} (r : RelO o u) : o.isSome = u.isSome := by
  cases o with
  | none => cases u with
    | none => rfl
    | some _ => exact (show False from r).elim
  | some _ => cases u with
    | none => exact (show False from r).elim
    | some _ => rfl
theorem RelO.getD {o : Option V} {u : Option Value} {d : V} {d' : Value} (r : RelO o u) (rd : RelV d d') : RelV (o.getD d) (u.getD d') := by
  cases o with
  | none => cases u with
    | none => exact rd
    | some _ => exact (show False from r).elim
  | some _ => cases u with
    | none => exact (show False from r).elim
    | some _ => exact r

/-- raw tables of the same keys -/
theorem KV.val {kvs : List (κ × V)} {vs : List (κ × Value)} (r : KV kvs vs) (k : κ) : RelO (valV kvs k) (valueAt vs k) := by
  unfold KV at r
  induction r with
  | nil => exact True.intro
  | @cons p q ps qs h t ih =>
    obtain ⟨h1, h2⟩ := h
    by_cases e : p.1 = k
    · have e' : q.1 = k := h1.symm.trans e
      have b : valueAt (q :: qs) k = some q.2 := by simp [valueAt, List.find?_cons, e']
      rw [valV_pos e, b]; exact h2
    · have e' : ¬ q.1 = k := fun z => e (h1.trans z)
      have b : valueAt (q :: qs) k = valueAt qs k := by simp [valueAt, List.find?_cons, e']
      rw [valV_neg e, b]; exact ih
theorem KV.any {kvs : List (κ × V)} {vs : List (κ × Value)} (r : KV kvs vs) (k : κ) : (kvs.any fun kv => decide (kv.1 = k)) = vs.any fun kv => decide (kv.1 = k) := by
  unfold KV at r
  induction r with
  | nil => rfl
  | cons h t ih => rw [List.any_cons, List.any_cons, ih, h.1]
theorem KV.repl {kvs : List (κ × V)} {vs : List (κ × Value)} (r : KV kvs vs) (k : κ) {y : V} {u : Value} (ry : RelV y u) :
    KV (kvs.map fun kv => if kv.1 = k then (kv.1, y) else kv) (vs.map fun kv => if kv.1 = k then (kv.1, u) else kv) := by
  unfold KV at r ⊢
  induction r with
  | nil => exact .nil
  | @cons p q ps qs h t ih =>
    rw [List.map_cons, List.map_cons]
    refine .cons ?_ ih
    obtain ⟨h1, h2⟩ := h
    by_cases e : p.1 = k
    · rw [if_pos e, if_pos (h1.symm.trans e)]; exact ⟨h1, ry⟩
    · rw [if_neg e, if_neg (fun z => e (h1.trans z))]; exact ⟨h1, h2⟩
theorem KV.put {kvs : List (κ × V)} {vs : List (κ × Value)} (r : KV kvs vs) (k : κ) {y : V} {u : Value} (ry : RelV y u) : KV (putK kvs k y) (stored vs k u) := by
  unfold putK stored
  rw [r.any k]
  by_cases e : (vs.any fun kv => decide (kv.1 = k)) = true
  · rw [if_pos e, if_pos e]; exact r.repl k ry
  · rw [if_neg e, if_neg e]; exact Paired.snoc r ⟨rfl, ry⟩
theorem KV.drop {kvs : List (κ × V)} {vs : List (κ × Value)} (r : KV kvs vs) (k : κ) : KV (dropK kvs k) (without vs k) := by
  unfold KV at r ⊢
  unfold dropK without
  induction r with
  | nil => exact .nil
  | @cons p q ps qs h t ih =>
    obtain ⟨h1, h2⟩ := h
    rw [List.filter_cons, List.filter_cons]
    by_cases e : p.1 = k
    · have a : ¬ decide (p.1 ≠ k) = true := by simp [e]
      have b : ¬ decide (q.1 ≠ k) = true := by simp [h1.symm.trans e]
      rw [if_neg a, if_neg b]; exact ih
    · have e' : ¬ q.1 = k := fun z => e (h1.trans z)
      have a : decide (p.1 ≠ k) = true := by simp [e]
      have b : decide (q.1 ≠ k) = true := by simp [e']
      rw [if_pos a, if_pos b]; exact .cons ⟨h1, h2⟩ ih
theorem KV.keys {kvs : List (κ × V)} {vs : List (κ × Value)} (r : KV kvs vs) : kvs.map (·.1) = vs.map (·.1) := by
  unfold KV at r
  induction r with
  | nil => rfl
  | cons h t ih => rw [List.map_cons, List.map_cons, ih, h.1]
theorem KV.length {kvs : List (κ × V)} {vs : List (κ × Value)} (r : KV kvs vs) : kvs.length = vs.length := Paired.length r
end


/-! ### a tracked dict, its keys ints and texts or tuples of these -/
theorem kV_is {P : Program} {w : World} {k : Key} {u : Value} (r : RelV (kV k) u) : (mixKind P w).is k u = true := by
  cases k with
  | inl i => obtain ⟨t, e⟩ := (show ∃ t, u = Value.int i t from r); subst e; exact mixKind_int P w i t
  | inr x => obtain ⟨t, e⟩ := (show ∃ t, u = Value.str x t from r); subst e; exact mixKind_str P w x t
theorem items_are {P : Program} {w : World} : ∀ {ks : List Key} {us : List Value}, Vals (ks.map kV) us → ItemsAre (mixKind P w) ks us
  | [], _, r => by rw [List.map_nil] at r; cases r; exact .nil
  | k :: ks, _, r => by
    rw [List.map_cons] at r
    cases r with
    | cons h t => exact .cons (kV_is h) (items_are t)

/-- raw entries of a dict with tuple keys -/
abbrev KT (H : Hp) : List (List Key × V) → List (List Key × Addr × Value) → Prop := Paired fun p q => p.1 = q.1 ∧ H q.2.1 = some (.tup (p.1.map kV)) ∧ RelV p.2 q.2.2
theorem KT.val {H : Hp} {kvs : List (List Key × V)} {xs : List (List Key × Addr × Value)} (r : KT H kvs xs) (k : List Key) : RelO (valV kvs k) ((atKey xs k).map (·.2)) := by
  induction r with
  | nil => exact True.intro
  | @cons p q ps qs h t ih =>
    obtain ⟨h1, _, h2⟩ := h
    by_cases e : p.1 = k
    · have e' : q.1 = k := h1.symm.trans e
      have b : atKey (q :: qs) k = some q.2 := by simp [atKey, List.find?_cons, e']
      rw [valV_pos e, b]; exact h2
    · have e' : ¬ q.1 = k := fun z => e (h1.trans z)
      have b : atKey (q :: qs) k = atKey qs k := by simp [atKey, List.find?_cons, e']
      rw [valV_neg e, b]; exact ih
theorem KT.repl {H : Hp} {kvs : List (List Key × V)} {xs : List (List Key × Addr × Value)} (r : KT H kvs xs) (k : List Key) {y : V} {u : Value} (ry : RelV y u) :
    KT H (kvs.map fun kv => if kv.1 = k then (kv.1, y) else kv) (xs.map (putAt k u)) := by
  induction r with
  | nil => exact .nil
  | @cons p q ps qs h t ih =>
    rw [List.map_cons, List.map_cons]
    refine .cons ?_ ih
    obtain ⟨h1, h2, h3⟩ := h
    unfold putAt
    by_cases e : p.1 = k
    · rw [if_pos e, if_pos (h1.symm.trans e)]; exact ⟨h1, h2, ry⟩
    · rw [if_neg e, if_neg (fun z => e (h1.trans z))]; exact ⟨h1, h2, h3⟩
theorem KT.put {H : Hp} {kvs : List (List Key × V)} {xs : List (List Key × Addr × Value)} (r : KT H kvs xs) (k : List Key) {b : Addr} {y : V} {u : Value} (hb : H b = some (.tup (k.map kV))) (ry : RelV y u) :
    KT H (putK kvs k y) (storedH xs k b u) := by
  have e : (kvs.any fun kv => decide (kv.1 = k)) = (atKey xs k).isSome := by
    rw [valV_any, (r.val k).isSome_eq, Option.isSome_map]
  unfold putK storedH
  rw [e]
  by_cases q : (atKey xs k).isSome = true
  · rw [if_pos q, if_pos q]; exact r.repl k ry
  · rw [if_neg q, if_neg q]; exact Paired.snoc r ⟨rfl, hb, ry⟩
theorem KT.keeps {H H' : Hp} {kvs : List (List Key × V)} {xs : List (List Key × Addr × Value)} (r : KT H kvs xs) (ht : ∀ b ys, H b = some (.tup ys) → H' b = some (.tup ys)) : KT H' kvs xs :=
  Paired.mapP r fun _ _ z => ⟨z.1, ht _ _ z.2.1, z.2.2⟩

section
variable {P : Program} {w : World} {H : Hp} {h : Heap} {a : Addr}
theorem rd_of {u : HO} (ok : HOk P w H h) (e : Rd H a u) : ObjOk P w H h a u := e.ok ok
theorem dk_rd {kvs : List (Key × V)} (ok : HOk P w H h) (e : Rd H a (.dK kvs)) : kvs.length ≤ sizeLine ∧ (a == sysModules) = false ∧ ∃ vs, KV kvs vs ∧ h.DictOf (mixKind P w) a vs :=
  show ObjOk P w H h a (.dK kvs) from rd_of ok e
theorem dk_of {kvs : List (Key × V)} (ok : HOk P w H h) (e : H a = some (.dK kvs)) : kvs.length ≤ sizeLine ∧ (a == sysModules) = false ∧ ∃ vs, KV kvs vs ∧ h.DictOf (mixKind P w) a vs := dk_rd ok (.inl e)
/-- a tracked tuple of ints and texts is a key -/
theorem key_of {ks : List Key} (ok : HOk P w H h) (e : H a = some (.tup (ks.map kV))) : (tupleKind (mixKind P w)).is h ks a := by
  obtain ⟨_, its, r, o, h1, h2, n, h3⟩ := (show ObjOk P w H h a (.tup (ks.map kV)) from ok a _ e)
  exact ⟨o, its.toArray, n, h1, h2, h3, by simpa using items_are r⟩
theorem dt_rd {kvs : List (List Key × V)} (ok : HOk P w H h) (e : Rd H a (.dT kvs)) : kvs.length ≤ sizeLine ∧ (a == sysModules) = false ∧
    ∃ xs, KT H kvs xs ∧ h.DictOfH (tupleKind (mixKind P w)) a xs := by
  obtain ⟨z, y, xs, r, o, es, ep, h1, h2, h3, h4, h5⟩ := (show ObjOk P w H h a (.dT kvs) from rd_of ok e)
  refine ⟨z, y, xs, r, o, es, ep, h1, h2, h3, h4, fun x hx => ?_, h5⟩
  have all : ∀ {l : List (List Key × V)} {m : List (List Key × Addr × Value)}, KT H l m → ∀ x ∈ m, (tupleKind (mixKind P w)).is h x.1 x.2.1 := by
    intro l m q
    induction q with
    | nil => intro x hx; exact nomatch hx
    | @cons p q ps qs hq t ih =>
      intro x hx
      rcases List.mem_cons.mp hx with e | hx
      · subst e
        exact key_of ok (by rw [← hq.1]; exact hq.2.1)
      · exact ih x hx
  exact all r x hx
theorem dt_of {kvs : List (List Key × V)} (ok : HOk P w H h) (e : H a = some (.dT kvs)) : kvs.length ≤ sizeLine ∧ (a == sysModules) = false ∧
    ∃ xs, KT H kvs xs ∧ h.DictOfH (tupleKind (mixKind P w)) a xs := dt_rd ok (.inl e)
end

/-- what the dict at a holds at the key y -/
def DGet (H : Hp) (a : Addr) (y : V) (r : Option V) : Prop :=
  (∃ kvs k, Rd H a (.dK kvs) ∧ y = kV k ∧ r = valV kvs k) ∨ ∃ kvs k b, Rd H a (.dT kvs) ∧ y = .ref b ∧ H b = some (.tup (k.map kV)) ∧ r = valV kvs k
/-- the heap behind a[y] = v -/
def DPut (H : Hp) (a : Addr) (y v : V) (H' : Hp) : Prop :=
  (∃ kvs k, H a = some (.dK kvs) ∧ y = kV k ∧ kvs.length < sizeLine ∧ H' = upd H a (.dK (putK kvs k v))) ∨
  ∃ kvs k b, H a = some (.dT kvs) ∧ y = .ref b ∧ H b = some (.tup (k.map kV)) ∧ kvs.length < sizeLine ∧ H' = upd H a (.dT (putK kvs k v))
theorem DGet.k {H : Hp} {a : Addr} {kvs : List (Key × V)} {k : Key} (e : H a = some (.dK kvs)) : DGet H a (kV k) (valV kvs k) := .inl ⟨kvs, k, .inl e, rfl, rfl⟩
theorem DGet.t {H : Hp} {a b : Addr} {kvs : List (List Key × V)} {k : List Key} (e : H a = some (.dT kvs)) (eb : H b = some (.tup (k.map kV))) : DGet H a (.ref b) (valV kvs k) := .inr ⟨kvs, k, b, .inl e, rfl, eb, rfl⟩
theorem DPut.k {H : Hp} {a : Addr} {kvs : List (Key × V)} {k : Key} {v : V} (e : H a = some (.dK kvs)) (hl : kvs.length < sizeLine) : DPut H a (kV k) v (upd H a (.dK (putK kvs k v))) := .inl ⟨kvs, k, e, rfl, hl, rfl⟩
theorem DPut.t {H : Hp} {a b : Addr} {kvs : List (List Key × V)} {k : List Key} {v : V} (e : H a = some (.dT kvs)) (eb : H b = some (.tup (k.map kV))) (hl : kvs.length < sizeLine) :
    DPut H a (.ref b) v (upd H a (.dT (putK kvs k v))) := .inr ⟨kvs, k, b, e, rfl, eb, hl, rfl⟩


section
variable {X : Cx} {pins : List (Addr × Obj)} {σ : St} {H : Hp} {s : Shared} {a : Addr} {y v : V} {u r : Value} {o : Option V} {A : Around} {E : Value → Shared → Prop}

theorem Inv.big (I : Inv X pins σ H s) : sysModules < s.heap.objs.size := by
  have h : mainGlobals < s.heap.objs.size := (I.mod.glob.keeps I.bk).lt
  exact Nat.lt_trans (by decide) h

/-- a dict's object is replaced -/
theorem d_write {h' : Heap} {t' : Nat} {ob : HO} (I : Inv X pins σ H s) (mu : Mut (H a)) (hs : Heap.SameBut a s.heap h') (he : ∃ q, h'.get? a = some q) (new : ObjOk X.prog X.w (upd H a ob) h' a ob) :
    Inv X pins σ (upd H a ob) { s with heap := h', toks := t' } :=
  I.write (x := a) (e := a) mu (.inl rfl) (fun b q hb z => (hs.2 b hb).trans z) he new
theorem dk_new {P : Program} {w : World} {H' : Hp} {h' : Heap} {kvs : List (Key × V)} {vs : List (Key × Value)} (z : kvs.length ≤ sizeLine) (hd : (a == sysModules) = false) (rel : KV kvs vs) (dd : h'.DictOf (mixKind P w) a vs) :
    ObjOk P w H' h' a (.dK kvs) := ⟨z, hd, vs, rel, dd⟩
/-- d[y] = v -/
theorem d_setItem {H' : Hp} {Q : Unit → Shared → Prop} (hu : A.units + 1 < cLine) (I : Inv X pins σ H s) (g : DPut H a y v H') (ry : RelV y u) (rv : RelV v r) (h : ∀ s', Inv X pins σ H' s' → Q () s') :
    wpAny (model X.prog X.w) A (setItem (.ref a) u r) Q E s := by
  rcases g with ⟨kvs, k, e, ey, l, eH⟩ | ⟨kvs, k, b, e, ey, eb, l, eH⟩
  · subst ey eH
    obtain ⟨z, hd, vs, rel, dd⟩ := dk_of I.hok e
    have hz : vs.length ≤ sizeLine := by rw [← rel.length]; exact z
    have hl : (putK kvs k v).length ≤ sizeLine := by have := length_putK kvs k v; omega
    refine wpAny_setItem_pairs (hsz := hz) (kV_is ry) dd fun h' dd' hs => h _ ?_
    have he : ∃ q, h'.get? a = some q := let ⟨q, _, _, hq, _⟩ := dd'; ⟨q, hq⟩
    exact d_write I (by rw [e]; exact True.intro) hs he (dk_new hl hd (rel.put k rv) dd')
  · subst ey eH
    cases (show u = Value.ref b from ry)
    obtain ⟨z, hd, xs, rel, dd⟩ := dt_of I.hok e
    have hz : xs.length ≤ sizeLine := by rw [← Paired.length rel]; exact z
    have hl : (putK kvs k v).length ≤ sizeLine := by have := length_putK kvs k v; omega
    refine wpAny_setItem_heap (hsz := hz) (tupleKind_room_in1 hu) (key_of I.hok eb) dd fun h' dd' hs => h _ ?_
    obtain ⟨q, es, ep, hq, h2, h3, h4, _, h5⟩ := dd'
    refine d_write I (by rw [e]; exact True.intro) hs ⟨q, hq⟩ ⟨hl, hd, _, (rel.put k eb rv).keeps fun c ys ec => ?_, q, es, ep, hq, h2, h3, h4, h5⟩
    rw [upd_ne (ne_of ec e (fun z => nomatch z))]
    exact ec
end

section
variable {X : Cx} {pins : List (Addr × Obj)} {σ : St} {H : Hp} {s : Shared} {a : Addr} {kvs : List (Key × V)} {k : Key} {u : Value} {A : Around} {E : Value → Shared → Prop}
end


/-! ### readings and rules -/
/-- d[y] = v -/
def sDPut (td ty tv : TE) : TS := fun D σ H => tv σ H fun v H1 => td σ H1 fun x H2 => ty σ H2 fun y H3 => ∃ a H4, x = .ref a ∧ DPut H3 a y v H4 ∧ D.nx σ H4
section
variable {X : Cx} {o i e value : Expr} {pos pos' tpos : Pos} {td ty tv : TE}
theorem ps_dput (hu : X.A.units + 1 < cLine) (ho : PE X o td) (hi : PE X i ty) (hv : PE X value tv) (hs : swapsWith value (some (.Subscript o i pos')) pos.line X.env = pure false) :
    PS X (.Assign [.Subscript o i pos'] value pos) (sDPut td ty tv) := by
  intro pins s σ H D I h
  refine wpAny_Assign_Subscript (thn (hv pins s σ H _ I h) fun r s1 ⟨v, H1, I1, rv, q1⟩ => thn (ho pins s1 σ H1 _ I1 q1) fun u s2 ⟨x, H2, I2, rx, q2⟩ => thn (hi pins s2 σ H2 _ I2 q2) fun iv s3 ⟨y, H3, I3, ry, a, H4, ex, g, q3⟩ => ?_) hs
  subst ex
  obtain rfl : u = Value.ref a := rx
  exact d_setItem hu I3 g ry rv fun s4 I4 => ⟨σ, H4, I4, q3⟩
end


/-! ### displays -/
theorem dt_empty {P : Program} {w : World} {H : Hp} (h : Heap) (hb : sysModules < h.objs.size) : ObjOk P w H (h.push { cls := .type "dict", data := .dict #[] }) h.objs.size (.dT []) :=
  ⟨Nat.zero_le _, beq_eq_false_iff_ne.mpr (Ne.symm (Nat.ne_of_lt hb)), [], .nil, _, #[], 0, Heap.get?_push_size _ rfl, ⟨rfl, rfl, rfl⟩, rfl, rfl, List.nodup_nil⟩
def tDNewT : TE := fun _ H Q => ∀ p, H p = none → Q (.ref p) (upd H p (.dT []))
section
variable {X : Cx} {pos : Pos}
theorem pe_dnewT : PE X (.Dict [] [] pos) tDNewT := fun pins s σ H Q I h =>
  wpAny_Dict_empty ⟨.ref s.heap.objs.size, _, I.laid (a := s.heap.objs.size) (o := .dT []) (t' := s.toks) (fun _ _ q => Heap.get?_push_of_some _ q) (Nat.le_refl _) (dt_empty s.heap I.big), rfl, h _ (I.hok.fresh (Nat.le_refl _))⟩
end

/-! ### methods -/
/-- a method call o.m(e) of a built-in, with one argument: what must be seen of the text -/
structure M1 (X : Cx) (o : Expr) (m : Str) (apos : Pos) (e : Expr) (cpos : Pos) : Prop where
  base : attributeBase o m X.env (eval o X.env) = eval o X.env
  few : ((backTo cpos (starEach [e] X.env)).all (fun x => !x.1) && (backToKw cpos (keywordEach [] X.env)).all (fun x => x.1.isSome)
    && decide (([e] : List Expr).length + ([] : List Keyword).length + (if ([] : List Keyword).isEmpty then 0 else 1) < 30)) = true
  line : (apos.endLine == cpos.line) = true
  trees : backTo cpos (starEach [e] X.env) = [(false, eval e X.env)]
structure M2 (X : Cx) (o : Expr) (m : Str) (apos : Pos) (e f : Expr) (cpos : Pos) : Prop where
  base : attributeBase o m X.env (eval o X.env) = eval o X.env
  few : ((backTo cpos (starEach [e, f] X.env)).all (fun x => !x.1) && (backToKw cpos (keywordEach [] X.env)).all (fun x => x.1.isSome)
    && decide (([e, f] : List Expr).length + ([] : List Keyword).length + (if ([] : List Keyword).isEmpty then 0 else 1) < 30)) = true
  line : (apos.endLine == cpos.line) = true
  trees : backTo cpos (starEach [e, f] X.env) = [(false, eval e X.env), (false, eval f X.env)]

section
variable {X : Cx} {pins : List (Addr × Obj)} {σ : St} {H : Hp} {s : Shared} {a : Addr} {y d : V} {u r : Value} {o : Option V} {A : Around} {E : Value → Shared → Prop}
end

section
variable {X : Cx} {o e f : Expr} {apos cpos : Pos} {td ty tx : TE}
end

/-! ### dict(d): a copy -/
section
variable {X : Cx} {pins : List (Addr × Obj)} {σ : St} {H : Hp} {s : Shared} {a : Addr} {kvs : List (Key × V)} {A : Around} {E : Value → Shared → Prop}
end


section
variable {X : Cx} {pins : List (Addr × Obj)} {σ : St} {H : Hp} {s : Shared} {a : Addr} {y : V} {u : Value} {A : Around} {E : Value → Shared → Prop}
end
end L2

namespace HT
open PySem PyProof.Rows

section
open PySem.SeqAt
open PySem.AutoSeq1 (wpAny_loadPart')
open PySem.MeetsSeq PySem.MeetsSeq2 PySem.MeetsSeq3

end

section
variable {prog : Program} {w : World} {A : Around} {E : Value → Shared → Prop} {s : Shared}

/-! ### t[a:b], not the whole -/
/-- a slice's bound as a place among n (d where it is left out) -/
def sIx (n d : Nat) : Option Int → Nat
  | none => d
  | some v => if v < 0 then (v + (n : Int)).toNat else min v.toNat n
theorem sIx_nat (n d k : Nat) : sIx n d (some (k : Int)) = min k n := by
  show (if (k : Int) < 0 then ((k : Int) + (n : Int)).toNat else min (k : Int).toNat n) = min k n
  rw [if_neg (by omega), Int.toNat_natCast]
end
end HT

namespace L2
open PySem PySem.Spec PyProof.Rows

/-! ### the parts of a slice -/
abbrev TO := St → Hp → (Option Int → Hp → Prop) → Prop
/-- a slice's part (left out, or an int) -/
def PO (X : Cx) (e : Option Expr) (t : TO) : Prop :=
  ∀ (pins : List (Addr × Obj)) (s : Shared) (σ : St) (H : Hp) (Q : Option Int → Hp → Prop), Inv X pins σ H s → t σ H Q →
    wpAny (model X.prog X.w) X.A (evalPart e X.env) (fun u s' => ∃ o H', Inv X pins σ H' s' ∧ IsPart u o ∧ Q o H') X.xe s
def tPart (t : TE) : TO := fun σ H Q => t σ H fun x H1 => ∃ i, x = .int i ∧ Q (some i) H1

section
variable {X : Cx} {e : Expr} {te : TE} {lo hi : Option Expr} {tl th : TO} {pos p2 : Pos}

theorem po_some (h : PE X e te) : PO X (some e) (tPart te) := by
  intro pins s σ H Q I hw
  rw [evalPart_some]
  refine thn (h pins s σ H _ I hw) fun u s1 ⟨x, H1, I1, r1, q1⟩ => ?_
  obtain ⟨i, rfl, q⟩ := q1
  obtain ⟨t, rfl⟩ := r1
  exact ⟨some i, H1, I1, .int i t, q⟩

/-- what a slice of a value is, by values: the slice object stands at sl -/
def SlR (X : Cx) (r : V → Option Int → Option Int → Hp → VK → Prop) : Prop :=
  ∀ (pins : List (Addr × Obj)) (s : Shared) (σ : St) (H : Hp) (x : V) (v vl vu : Value) (lo hi : Option Int) (sl : Addr) (Q : VK), Inv X pins σ H s → RelV x v → s.heap.IsSliceOf sl vl vu .none → IsPart vl lo → IsPart vu hi → r x lo hi H Q →
    ∃ T id, typeLookup (.type T) "__getitem__" = pure (some (.builtin id)) ∧ s.TypeIs v T ∧ wpAny (model X.prog X.w) X.A (getItem v (.ref sl)) (EP X pins σ Q) X.xe s
theorem SlR.or {r r' : V → Option Int → Option Int → Hp → VK → Prop} (h : SlR X r) (h' : SlR X r') : SlR X (fun x lo hi H Q => r x lo hi H Q ∨ r' x lo hi H Q) := by
  intro pins s σ H x v vl vu lo hi sl Q I rx hs pl pu q
  rcases q with q | q
  · exact h pins s σ H x v vl vu lo hi sl Q I rx hs pl pu q
  · exact h' pins s σ H x v vl vu lo hi sl Q I rx hs pl pu q
def tSl (r : V → Option Int → Option Int → Hp → VK → Prop) (te : TE) (tl th : TO) : TE := fun σ H Q => te σ H fun x H1 => tl σ H1 fun l H2 => th σ H2 fun u H3 => r x l u H3 Q
/-- a[lo:hi], any a -/
theorem pe_slice {r : V → Option Int → Option Int → Hp → VK → Prop} (hr : SlR X r) (he : PE X e te) (hl : PO X lo tl) (hu : PO X hi th) : PE X (.Subscript e (.Slice lo hi none p2) pos) (tSl r te tl th) := by
  intro pins s σ H Q I h
  refine Subscript_ (thn (he pins s σ H _ I h) fun v s1 ⟨x, H1, I1, r1, q1⟩ => ?_)
  refine wpAny_Slice (thn (hl pins s1 σ H1 _ I1 q1) fun vl s2 ⟨l, H2, I2, pl, q2⟩ => thn (hu pins s2 σ H2 _ I2 q2) fun vu s3 ⟨u, H3, I3, pu, q3⟩ => ?_)
  rw [evalPart_none]
  refine wpAny_pure ?_
  have I4 : Inv X pins σ H3 { s3 with heap := s3.heap.push { cls := .type "slice", data := .fields #[vl, vu, .none] } } := I3.kept (t' := s3.toks) fun b ob q => Heap.get?_push_of_some _ q
  obtain ⟨T, id, hT, ht, hg⟩ := hr pins { s3 with heap := s3.heap.push { cls := .type "slice", data := .fields #[vl, vu, .none] } } σ H3 x v vl vu l u s3.heap.objs.size Q I4 r1 (Heap.IsSliceOf.new ..) pl pu q3
  show wpAny (model X.prog X.w) X.A (subscriptTail e (.Slice lo hi none p2) v (.ref s3.heap.objs.size)) (EP X pins σ Q) X.xe { s3 with heap := s3.heap.push { cls := .type "slice", data := .fields #[vl, vu, .none] } }
  exact tail_any (ops := [.ref s3.heap.objs.size, v]) ht hT hg (by with_unfolding_all rfl)

/-- the items of xs[lo:hi] -/
def cutV (xs : List V) (lo hi : Option Int) : List V := (xs.drop (HT.sIx xs.length 0 lo)).take (HT.sIx xs.length xs.length hi - HT.sIx xs.length 0 lo)
theorem cutV_length (xs : List V) (lo hi : Option Int) : (cutV xs lo hi).length ≤ xs.length := by
  unfold cutV
  rw [List.length_take, List.length_drop]
  omega
/-! ### t < u, t + u -/
end
end L2

namespace L2
open PySem PySem.Spec PyProof.Rows

/-! ### places -/
/-- the place that an index of any sign means -/
def ixN (n : Nat) (i : Int) : Option Nat := if 0 ≤ i then (if i < n then some i.toNat else none) else if -(n : Int) ≤ i then some (i + n).toNat else none
def atI {α : Type} (xs : List α) (i : Int) : Option α := (ixN xs.length i).bind fun j => xs[j]?
theorem ixN_seq {n : Nat} {i : Int} {j : Nat} (h : ixN n i = some j) : seqIndex? i n = some j ∧ j < n ∧ -(n : Int) ≤ i ∧ i < n := by
  unfold ixN at h
  by_cases h0 : 0 ≤ i
  · rw [if_pos h0] at h
    by_cases h1 : i < n
    · rw [if_pos h1] at h
      have e : i.toNat = j := Option.some.inj h
      exact ⟨by rw [seqIndex_of h0 h1, e], by omega, by omega, h1⟩
    · rw [if_neg h1] at h; cases h
  · rw [if_neg h0] at h
    by_cases h1 : -(n : Int) ≤ i
    · rw [if_pos h1] at h
      have e : (i + n).toNat = j := Option.some.inj h
      exact ⟨by rw [seqIndex_neg (by omega) h1, e], by omega, h1, by omega⟩
    · rw [if_neg h1] at h; cases h
theorem atI_get {α : Type} {xs : List α} {i : Int} {v : α} (h : atI xs i = some v) : ∃ j, seqIndex? i xs.length = some j ∧ xs[j]? = some v ∧ j < xs.length ∧ -(xs.length : Int) ≤ i ∧ i < xs.length := by
  unfold atI at h
  cases e : ixN xs.length i with
  | none => rw [e] at h; cases h
  | some j =>
    rw [e] at h
    obtain ⟨h1, h2, h3, h4⟩ := ixN_seq e
    exact ⟨j, h1, h, h2, h3, h4⟩
theorem atI_nat {α : Type} {xs : List α} {j : Nat} {v : α} (h : xs[j]? = some v) : atI xs (j : Int) = some v := by
  have hj : j < xs.length := (List.getElem?_eq_some_iff.mp h).1
  have e : ixN xs.length (j : Int) = some j := by
    unfold ixN
    rw [if_pos (by omega), if_pos (by omega)]; simp
  unfold atI; rw [e]; exact h
/-! ### what may be subscripted -/
/-- what stands as an index of a plain subscript -/
def PlainIx (b : Expr) : Prop := ∀ o i, subscripted b false o i = operate [o, i] (getItem o i)
/-- a subscript by values -/
def IxR (X : Cx) (r : R2) : Prop :=
  ∀ (value slice : Expr) (pins : List (Addr × Obj)) (s : Shared) (σ : St) (H : Hp) (x y : V) (v u : Value) (Q : VK), Inv X pins σ H s → RelV x v → RelV y u → r x y H Q →
    subscripted slice false v u = operate [v, u] (getItem v u) → wpAny (model X.prog X.w) X.A (subscriptTail value slice v u) (EP X pins σ Q) X.xe s
/-- a call of a builtin's method by values: the receiver, the arguments -/
def MtR (X : Cx) (id : String) (r : V → List V → Hp → VK → Prop) : Prop :=
  ∀ (pins : List (Addr × Obj)) (s : Shared) (σ : St) (H : Hp) (x : V) (xs : List V) (v : Value) (us : List Value) (Q : VK), Inv X pins σ H s → RelV x v → Vals xs us → r x xs H Q →
    wpAny (model X.prog X.w) X.A (call (.builtin id) (v :: us)) (EP X pins σ Q) X.xe s
section
variable {X : Cx} {a b : Expr} {ta tb : TE} {pos : Pos}
theorem IxR.or {r r' : R2} (h : IxR X r) (h' : IxR X r') : IxR X (fun x y H Q => r x y H Q ∨ r' x y H Q) := by
  intro value slice pins s σ H x y v u Q I rx ry q hs
  rcases q with q | q
  · exact h value slice pins s σ H x y v u Q I rx ry q hs
  · exact h' value slice pins s σ H x y v u Q I rx ry q hs
theorem MtR.or {id : String} {r r' : V → List V → Hp → VK → Prop} (h : MtR X id r) (h' : MtR X id r') : MtR X id (fun x xs H Q => r x xs H Q ∨ r' x xs H Q) := by
  intro pins s σ H x xs v us Q I rx rs q
  rcases q with q | q
  · exact h pins s σ H x xs v us Q I rx rs q
  · exact h' pins s σ H x xs v us Q I rx rs q
/-- a[b] -/
theorem pe_ix {r : R2} (hr : IxR X r) (ha : PE X a ta) (hb : PE X b tb) (hs : PlainIx b) : PE X (.Subscript a b pos) (tOp r ta tb) := by
  intro pins s σ H Q I h
  exact Subscript_ (binT ha hb I h fun v u s2 x y H2 I2 rx ry q => hr a b pins s2 σ H2 x y v u Q I2 rx ry q (hs _ _))

def rIxL (K : PySem.W.Frag) : R2 := fun x y H Q => ∃ p xs i v, x = .ref p ∧ y = .int i ∧ SqL K H p xs ∧ atI xs i = some v ∧ Q v H
def rIxT (K : PySem.W.Frag) : R2 := fun x y H Q => ∃ p xs i v, x = .ref p ∧ y = .int i ∧ SqT K H p xs ∧ atI xs i = some v ∧ Q v H
def rIxS : R2 := fun x y H Q => ∃ z i c, x = .str z ∧ y = .int i ∧ z.length ≤ sizeLine ∧ atI z.cps.toList i = some c ∧ Q (.str ⟨#[c]⟩) H
theorem ix_list : IxR X (rIxL X.K) := by
  intro value slice pins s σ H x y v u Q I rx ry h hs
  obtain ⟨p, xs, i, z, rfl, rfl, hq, he, q⟩ := h
  cases rx
  obtain ⟨t, rfl⟩ := ry
  obtain ⟨its, r, pl, hz⟩ := I.list hq
  obtain ⟨j, h1, h2, h3, h4, h5⟩ := atI_get he
  obtain ⟨w, ew, rw'⟩ := r.get h2
  have hl := r.length
  have hn := line63
  have fin : EP X pins σ Q w s := ⟨z, H, I, rw', q⟩
  by_cases h0 : 0 ≤ i
  · have hj : i.toNat = j := by
      rw [seqIndex_of h0 h5] at h1
      exact Option.some.inj h1
    exact item_listR pl.isList h0 (by omega) (by rw [hj]; simpa using ew) fin hs
  · have hj : (i + (its.toArray.size : Int)).toNat = j := by
      rw [seqIndex_neg (by omega) h4] at h1
      rw [List.size_toArray, ← hl]
      exact Option.some.inj h1
    exact subscriptTail_builtinR (x := w) pl.isList.typeIs slot_list_getitem.lookup
      (wpAny_getItem_list_neg (Q := fun r s' => r = w ∧ EP X pins σ Q r s') pl.isList (by omega) (by rw [List.size_toArray] <;> omega) (by omega) (by rw [hj]; simpa using ew) ⟨rfl, fin⟩) hs
theorem ix_tup : IxR X (rIxT X.K) := by
  intro value slice pins s σ H x y v u Q I rx ry h hs
  obtain ⟨p, xs, i, z, rfl, rfl, hq, he, q⟩ := h
  cases rx
  obtain ⟨t, rfl⟩ := ry
  obtain ⟨its, r, pl, hz⟩ := I.tuple hq
  obtain ⟨j, h1, h2, h3, h4, h5⟩ := atI_get he
  obtain ⟨w, ew, rw'⟩ := r.get h2
  have hl := r.length
  have hn := line63
  have fin : EP X pins σ Q w s := ⟨z, H, I, rw', q⟩
  exact subscriptTail_builtinR (x := w) pl.typeIs slot_tuple_getitem.lookup
    (getItem_tuple (j := j) (Q := fun r s' => r = w ∧ EP X pins σ Q r s') pl (by omega) (by omega) (by rw [List.size_toArray, ← hl]; exact h1) (by simpa using ew) ⟨rfl, fin⟩) hs
theorem ix_str : IxR X rIxS := by
  intro value slice pins s σ H x y v u Q I rx ry h hs
  obtain ⟨z, i, c, rfl, rfl, hz, he, q⟩ := h
  obtain ⟨t, rfl⟩ := rx
  obtain ⟨t', rfl⟩ := ry
  obtain ⟨j, h1, h2, h3, h4, h5⟩ := atI_get he
  have hl : z.cps.toList.length = z.length := by simp [Str.length]
  rw [hl] at h1 h4 h5
  have hn := line63
  exact tail_any (typeIs_str s z t) slot_str_getitem.lookup (getItem_str (c := c) (by
    have e1 : decide (i < -(2 ^ 63 : Int)) = false := decide_eq_false (by omega)
    have e2 : decide (i ≥ 2 ^ 63) = false := decide_eq_false (by omega)
    rw [e1, e2, Bool.or_false]) (by rw [h1]; simpa using h2) ⟨.str ⟨#[c]⟩, H, I.tok _, ⟨_, rfl⟩, q⟩) hs
/-! ### xs[i] = v, any sign -/
theorem Inv.lst {pins : List (Addr × Obj)} {σ : St} {H : Hp} {s : Shared} {p : Addr} {xs : List V} (I : Inv X pins σ H s) (h : H p = some (.lst xs)) :
    ∃ (its : List Value) (n : Nat), Vals xs its ∧ s.heap.get? p = some { cls := .type "list", data := .seq its.toArray n } ∧ xs.length ≤ sizeLine := by
  obtain ⟨z, its, n, r, e⟩ := I.hok p _ h
  exact ⟨its, n, r, e, z⟩
/-! ### slices -/
theorem slice_bounds (lo hi : Option Int) (n : Nat) : (sliceBounds lo hi none n).1 = ((HT.sIx n 0 lo : Nat) : Int) ∧ (sliceBounds lo hi none n).2.1 = ((HT.sIx n n hi : Nat) : Int) ∧ (sliceBounds lo hi none n).2.2 = 1 := by
  refine ⟨?_, ?_, rfl⟩
  · cases lo with
    | none => simp [sliceBounds, HT.sIx]
    | some i =>
      simp only [sliceBounds, HT.sIx, Option.getD_none, show (1 : Int) > 0 by decide, if_true]
      by_cases h : i < 0
      · simp only [h, if_true] <;> omega
      · simp only [h, if_false] <;> omega
  · cases hi with
    | none => simp [sliceBounds, HT.sIx]
    | some i =>
      simp only [sliceBounds, HT.sIx, Option.getD_none, show (1 : Int) > 0 by decide, if_true]
      by_cases h : i < 0
      · simp only [h, if_true] <;> omega
      · simp only [h, if_false] <;> omega
theorem slicePick_cut (its : List Value) (lo hi : Option Int) : slicePick its.toArray lo hi none = ((its.drop (HT.sIx its.length 0 lo)).take (HT.sIx its.length its.length hi - HT.sIx its.length 0 lo)).toArray := by
  obtain ⟨h1, h2, h3⟩ := slice_bounds lo hi its.toArray.size
  unfold slicePick
  rw [h1, h2, h3]
  simp only [sliceRange_one, pick_run, List.size_toArray] <;> rfl
/-- xs[lo:hi] of a list: a new list -/
def rSlL (K : PySem.W.Frag) : V → Option Int → Option Int → Hp → VK → Prop := fun x lo hi H Q => ∃ a xs, x = .ref a ∧ SqL K H a xs ∧ ∀ p, H p = none → Q (.ref p) (upd H p (.lst (cutV xs lo hi)))
theorem sl_list : SlR X (rSlL X.K) := by
  intro pins s σ H x v vl vu lo hi sl Q I rx hs pl pu h
  obtain ⟨a, xs, rfl, hx, q⟩ := h
  cases rx
  obtain ⟨its, r, ht, hz⟩ := I.list hx
  have hlen := r.length
  refine ⟨"list", _, slot_list_getitem.lookup, ht.isList.typeIs, ?_⟩
  refine wpAny_getItem_list_slice ht.isList hs pl pu .none (by simp) ?_ (by rw [List.size_toArray] <;> omega)
  rw [slicePick_cut, ← hlen]
  refine ⟨.ref s.heap.objs.size, _, I.laid (t' := s.toks) (o := .lst (cutV xs lo hi)) (fun b ob q => Heap.get?_push_of_some _ q) (Nat.le_refl _) ?_, rfl, q _ (I.hok.fresh (Nat.le_refl _))⟩
  exact ⟨Nat.le_trans (cutV_length xs lo hi) hz, _, 0, (r.drop (HT.sIx xs.length 0 lo)).take (HT.sIx xs.length xs.length hi - HT.sIx xs.length 0 lo), Heap.get?_push_size _ rfl⟩

/-! ### in, not in: flat items -/
/-! ### len, list(x), tuple(x) of any list or tuple that is read -/
theorem CallR.or {f : Value} {r r' : List V → Hp → VK → Prop} (h : CallR X f r) (h' : CallR X f r') : CallR X f (fun xs H Q => r xs H Q ∨ r' xs H Q) := by
  intro pins s σ H xs us Q I rs q
  rcases q with q | q
  · exact h pins s σ H xs us Q I rs q
  · exact h' pins s σ H xs us Q I rs q
theorem call_list_of : CallR X (.type "list") (fun xs H Q => ∃ p ys, xs = [.ref p] ∧ (SqL X.K H p ys ∨ SqT X.K H p ys) ∧ ∀ l, H l = none → Q (.ref l) (upd H l (.lst ys))) := by
  intro pins s σ H xs us Q I r h
  obtain ⟨p, ys, rfl, hq, q⟩ := h
  obtain ⟨u, rfl, rx⟩ := vals1 r
  cases rx
  have fin : ∀ (its : List Value), Vals ys its → ys.length ≤ sizeLine → ∀ (h' : Heap) (c' : Nat), (∀ b o', s.heap.get? b = some o' → h'.get? b = some o') →
      h'.get? s.heap.objs.size = some { cls := .type "list", dict := none, data := .seq its.toArray c', slots := #[] } → EP X pins σ Q (.ref s.heap.objs.size) { s with heap := h' } := fun its r' hz h' c' kp e =>
    ⟨.ref s.heap.objs.size, _, I.laid (t' := s.toks) kp (Nat.le_refl _) (show ObjOk X.prog X.w _ h' _ (.lst ys) from ⟨hz, its, c', r', e⟩), rfl, q _ (I.hok.fresh (Nat.le_refl _))⟩
  rcases hq with hq | hq
  · obtain ⟨its, r', pl, hz⟩ := I.list hq
    have hlen := r'.length
    obtain ⟨o, ho, hc, n, hd⟩ := pl.isList
    exact call_list_seq p (.inl rfl) ho hc hd (fun h' c' kp e => fin its r' hz h' c' kp e) (by simp only [List.size_toArray] <;> omega)
  · obtain ⟨its, r', pl, hz⟩ := I.tuple hq
    have hlen := r'.length
    obtain ⟨o, ho, hc, n, hd⟩ := pl
    exact call_list_seq p (.inr rfl) ho hc hd (fun h' c' kp e => fin its r' hz h' c' kp e) (by simp only [List.size_toArray] <;> omega)
/-! ### the call of a builtin's method: o.m(..) -/
/-- the value is of that builtin type -/
def tyV (K : PySem.W.Frag) (T : String) (x : V) (H : Hp) : Prop := match x with
  | .str _ => T = "str"
  | .int _ => T = "int"
  | .ref p => (T = "list" ∧ ∃ xs, SqL K H p xs) ∨ (T = "tuple" ∧ ∃ o, K.lookup p = some o ∧ o.cls = .type "tuple" ∧ o.dict = none) ∨
      (T = "dict" ∧ ((∃ kvs, H p = some (.dK kvs)) ∨ ∃ kvs, H p = some (.dT kvs))) ∨ (T = "set" ∧ ∃ S n, H p = some (.set S n))
  | _ => False
theorem tyV_is {pins : List (Addr × Obj)} {σ : St} {H : Hp} {s : Shared} {T : String} {x : V} {v : Value} (I : Inv X pins σ H s) (r : RelV x v) (ty : tyV X.K T x H) :
    s.TypeIs v T ∧ ∀ a, v = .ref a → ∃ ob, s.heap.get? a = some ob ∧ ob.dict = none := by
  cases x with
  | str z =>
    obtain ⟨t, rfl⟩ := r
    cases (show T = "str" from ty)
    exact ⟨typeIs_str s z t, fun _ e => nomatch e⟩
  | int i =>
    obtain ⟨t, rfl⟩ := r
    cases (show T = "int" from ty)
    exact ⟨typeIs_int s i t, fun _ e => nomatch e⟩
  | ref p =>
    cases r
    rcases ty with ⟨rfl, xs, hq⟩ | ⟨rfl, o, hk, hc, hd⟩ | ⟨rfl, hk⟩ | ⟨rfl, S, n, hk⟩
    · obtain ⟨its, _, pl, _⟩ := I.list hq
      refine ⟨pl.isList.typeIs, fun a e => ?_⟩
      cases e
      obtain ⟨o, n, e, c, hd, _⟩ := pl
      exact ⟨o, e, hd⟩
    · refine ⟨⟨o, I.kIn p o hk, hc⟩, fun a e => ?_⟩
      cases e
      exact ⟨o, I.kIn _ o hk, hd⟩
    · have z : ∃ o, s.heap.get? p = some o ∧ o.ExactDict := by
        rcases hk with ⟨kvs, hk⟩ | ⟨kvs, hk⟩
        · obtain ⟨_, _, _, _, o, _, _, e, ex, _⟩ := I.hok p _ hk
          exact ⟨o, e, ex⟩
        · obtain ⟨_, _, _, _, o, _, _, e, ex, _⟩ := I.hok p _ hk
          exact ⟨o, e, ex⟩
      obtain ⟨o, e, ex⟩ := z
      refine ⟨⟨o, e, ex.1⟩, fun a e2 => ?_⟩
      cases e2
      exact ⟨o, e, ex.2.1⟩
    · obtain ⟨o, _, _, _, e, ex, _⟩ := I.hok p _ hk
      refine ⟨⟨o, e, ex.1⟩, fun a e2 => ?_⟩
      cases e2
      exact ⟨o, e, ex.2.1⟩
  | _ => exact False.elim ty
def tBM0 (K : PySem.W.Frag) (T : String) (r : V → List V → Hp → VK → Prop) (to : TE) : TE := fun σ H Q => to σ H fun x H1 => tyV K T x H1 ∧ r x [] H1 Q
def tBM (K : PySem.W.Frag) (T : String) (r : V → List V → Hp → VK → Prop) (to : TE) (t : TA) : TE := fun σ H Q => to σ H fun x H1 => tyV K T x H1 ∧ t σ H1 fun xs H2 => r x xs H2 Q
variable {o e : Expr} {es : List Expr} {to : TE} {t : TA} {name : Str} {apos cpos : Pos} {T id : String} {r : V → List V → Hp → VK → Prop}
theorem pe_bm0 (pa : PlainAttrs T) (slot : Slot T name id) (hty : typeOf (.builtin id) = pure (.type "method_descriptor")) (hm : MtR X id r) (ho : PE X o to)
    (hbase : attributeBase o name X.env (eval o X.env) = eval o X.env := by rfl) (hline : (apos.endLine == cpos.line) = true := by rfl) : PE X (.Call (.Attribute o name apos) [] [] cpos) (tBM0 X.K T r to) := by
  intro pins s σ H Q I h
  refine wpAny_Call_method0_late hbase hline (thn (ho pins s σ H _ I h) fun v s1 ⟨x, H1, I1, r1, ty, q1⟩ => ?_)
  obtain ⟨h1, h2⟩ := tyV_is I1 r1 ty
  exact ⟨T, id, pa, slot, hty, h1, h2, Calls.callWith_builtin rfl (PySem.evalArgs_none (hm pins s1 σ H1 x [] v [] Q I1 r1 .nil q1))⟩
theorem pe_bm (pa : PlainAttrs T) (slot : Slot T name id) (hty : typeOf (.builtin id) = pure (.type "method_descriptor")) (hm : MtR X id r) (ho : PE X o to) (ha : PA X (e :: es) t)
    (hbase : attributeBase o name X.env (eval o X.env) = eval o X.env := by rfl)
    (hfew : ((backTo cpos (starEach (e :: es) X.env)).all (fun x => !x.1) && (backToKw cpos (keywordEach [] X.env)).all (fun x => x.1.isSome)
      && decide ((e :: es).length + ([] : List Keyword).length + (if ([] : List Keyword).isEmpty then 0 else 1) < 30)) = true := by rfl)
    (hline : (apos.endLine == cpos.line) = true := by rfl) (hs : starEach (e :: es) X.env = (false, eval e X.env) :: starEach es X.env := by rfl) (hplain : (backTo cpos (starEach es X.env)).any (·.1) = false := by rfl) :
    PE X (.Call (.Attribute o name apos) (e :: es) [] cpos) (tBM X.K T r to t) := by
  intro pins s σ H Q I h
  refine wpAny_Call_method_late hbase hfew hline rfl (thn (ho pins s σ H _ I h) fun v s1 ⟨x, H1, I1, r1, ty, q1⟩ => ?_)
  obtain ⟨h1, h2⟩ := tyV_is I1 r1 ty
  refine ⟨T, id, pa, slot, hty, h1, h2, ?_⟩
  have hA := ha cpos pins s1 σ H1 _ I1 q1
  rw [hs] at hA ⊢
  refine Calls.callWith_builtin (by show (false || (backTo cpos (starEach es X.env)).any (·.1)) = false; rw [hplain] <;> rfl) (Calls.evalArgs_plain ?_)
  exact thn hA fun us s2 ⟨vs, H2, I2, r2, q2⟩ => hm pins s2 σ H2 x vs v us Q I2 r1 r2 q2
/- xs.append(e), list.index on a module's tuple .. are MtR facts of 06m -/
end
end L2

namespace L2
open PySem PySem.Spec PyProof.Rows

def MtM (X : Cx) (id : String) (r : V → List V → Hp → VK → Prop) : Prop :=
  ∀ (pins : List (Addr × Obj)) (s : Shared) (σ : St) (H : Hp) (x : V) (xs : List V) (v : Value) (us : List Value) (Q : VK), Inv X pins σ H s → RelV x v → Vals xs us → r x xs H Q →
    wpAny (model X.prog X.w) X.A (call (.builtin id) (v :: us)) (EP X pins σ Q) X.xe s

/-! ### lists of values -/
theorem Vals.one : ∀ {x : V} {us : List Value}, Vals [x] us → ∃ u, us = [u] ∧ RelV x u
  | _, _, .cons r .nil => ⟨_, rfl, r⟩
theorem Vals.two : ∀ {x y : V} {us : List Value}, Vals [x, y] us → ∃ u v, us = [u, v] ∧ RelV x u ∧ RelV y v
  | _, _, _, .cons r (.cons q .nil) => ⟨_, _, rfl, r, q⟩
theorem Vals.zero : ∀ {us : List Value}, Vals [] us → us = []
  | _, .nil => rfl
theorem Vals.reverse {xs : List V} {us : List Value} (h : Vals xs us) : Vals xs.reverse us.reverse := by
  induction h with
  | nil => exact .nil
  | cons r t ih => rw [List.reverse_cons, List.reverse_cons]; exact Vals.append ih (.cons r .nil)
theorem Vals.rep {xs : List V} {us : List Value} (h : Vals xs us) : ∀ k : Nat, Vals (List.replicate k xs).flatten (List.replicate k us).flatten
  | 0 => .nil
  | k + 1 => by
    rw [List.replicate_succ, List.replicate_succ, List.flatten_cons, List.flatten_cons]
    exact Vals.append h (Vals.rep h k)
section
variable {X : Cx} {pins : List (Addr × Obj)} {σ : St} {H : Hp} {s : Shared} {l b : Addr} {xs ys zs : List V}

/-! ### the two steps: a tracked list is rewritten, a new list is laid -/
theorem Inv.lset {its its' : List Value} {n : Nat} {f : Array Value → Array Value} {t' : Nat} (I : Inv X pins σ H s) (hH : H l = some (.lst xs))
    (e : s.heap.get? l = some { cls := .type "list", data := .seq its.toArray n }) (hf : f its.toArray = its'.toArray) (hv : Vals ys its') (hz : ys.length ≤ sizeLine) :
    Inv X pins σ (upd H l (.lst ys)) { s with heap := s.heap.update l (Obj.mapSeq f), toks := t' } := by
  have q := PySem.IsL.update e f
  rw [hf] at q
  refine I.write (x := l) (e := l) (by rw [hH]; exact trivial) (.inl rfl) (fun b' u hb hu => (Heap.get?_update_other s.heap (Obj.mapSeq f) (Ne.symm hb)).trans hu) ⟨_, q⟩ ?_
  exact ⟨hz, its', _, hv, q⟩
theorem Inv.lnew {its : List Value} {t' : Nat} (I : Inv X pins σ H s) (hv : Vals ys its) (hz : ys.length ≤ sizeLine) :
    Inv X pins σ (upd H s.heap.objs.size (.lst ys)) { s with heap := s.heap.push { cls := .type "list", data := .seq its.toArray }, toks := t' } :=
  I.laid (fun _ _ q => Heap.get?_push_of_some _ q) (Nat.le_refl _) ⟨hz, its, 0, hv, Heap.get?_push_size _ rfl⟩
theorem Inv.fresh (I : Inv X pins σ H s) : H s.heap.objs.size = none := I.hok.fresh (Nat.le_refl _)
theorem Inv.lstM (I : Inv X pins σ H s) (hH : H l = some (.lst xs)) : xs.length ≤ sizeLine ∧ ∃ (its : List Value) (n : Nat), Vals xs its ∧ xs.length = its.length ∧ s.heap.get? l = some { cls := .type "list", data := .seq its.toArray n } := by
  obtain ⟨z, its, n, r, e⟩ := I.hok l _ hH
  exact ⟨z, its, n, r, r.length, e⟩

end

section
variable {X : Cx}

/-! ### methods -/
def rAppend : V → List V → Hp → VK → Prop := fun x vs H Q => ∃ l xs y, x = .ref l ∧ vs = [y] ∧ H l = some (.lst xs) ∧ xs.length < sizeLine ∧ Q .non (upd H l (.lst (xs ++ [y])))
theorem mt_append : MtM X "list.append" rAppend := by
  intro pins s σ H x vs v us Q I rx rv h
  obtain ⟨l, xs, y, rfl, rfl, hH, hz, q⟩ := h
  cases rx
  obtain ⟨u, rfl, ru⟩ := rv.one
  obtain ⟨z, its, n, r, hl, e⟩ := I.lstM hH
  refine call_meets F.slot_list_append ⟨_, e, rfl⟩ F.entry_list_append (F.args_list_append_2 _ _) (PySem.list_append l its.toArray n u (by rw [List.size_toArray]; omega)) ⟨e, ?_⟩
  refine ⟨.non, _, I.lset (its' := its ++ [u]) hH e (by simp) (r.append (.cons ru .nil)) ?_, rfl, q⟩
  rw [List.length_append, List.length_singleton]
  omega

/-! ### list + list, list += list, list * int -/
def rCat : R2 := fun x y H Q => ∃ l b xs zs, x = .ref l ∧ y = .ref b ∧ H l = some (.lst xs) ∧ H b = some (.lst zs) ∧ xs.length + zs.length ≤ sizeLine ∧ ∀ p, H p = none → Q (.ref p) (upd H p (.lst (xs ++ zs)))
theorem op_cat : OpR X (binaryOp .Add) rCat := by
  intro pins s σ H x y v u Q I rx ry h
  obtain ⟨l, b, xs, zs, rfl, rfl, hH, hB, hz, q⟩ := h
  cases rx
  cases ry
  obtain ⟨z, its, n, r, hl, e⟩ := I.lstM hH
  obtain ⟨z2, its2, n2, r2, hl2, e2⟩ := I.lstM hB
  refine PySem.P.add_list e e2 ?_ (by rw [List.size_toArray, List.size_toArray]; omega)
  have ea : its.toArray ++ its2.toArray = (its ++ its2).toArray := by simp
  rw [ea]
  exact ⟨.ref _, _, I.lnew (t' := s.toks) (r.append r2) (by rw [List.length_append]; omega), rfl, q _ I.fresh⟩
/-! ### del xs[i] -/
end

/-! ### xs[a:b] = ys -/
section
variable {prog : Program} {w : World} {A : Around} {E : Value → Shared → Prop} {s : Shared}
end

section
variable {X : Cx}
end
end L2

namespace Att
open PySem PySem.W PySem.Calls PyProof.Rows

/-! ### the script -/
theorem ints_of_wellAll {P : Params} {h : Heap} : ∀ (ns : List Int) (vs : List Value), WellAll P h vs (ns.map WData.int) → IntsAre vs ns := by
  intro ns
  induction ns with
  | nil =>
    intro vs w
    rw [List.map_nil] at w
    cases w
    exact .nil
  | cons n ns ih =>
    intro vs w
    rw [List.map_cons] at w
    cases w with
    | cons a b =>
      cases a
      exact .cons _ _ (ih _ b)

theorem script_of {l : OpenLaw} {n : Nat} (hn : l.most = some n) {P : Params} {h : Heap} {args : List WData} {vals : List Value}
    (hpre : l.row.toRowW.claim.pre args = true) (hwl : WellAll P h vals args) :
    ∃ a vs ns, vals = [Value.ref a] ∧ args = [WData.list (ns.map WData.int)] ∧ h.get? a = some { cls := .type "list", data := .seq vs.toArray } ∧ IntsAre vs ns ∧ ns.length ≤ n := by
  have hsh : WShape.hasAll [] args [.list .int] = true := (pre_splitW hpre).1
  have hc : l.pre.holds [] { args := args } = true := (pre_splitW hpre).2
  obtain ⟨d, r, rfl, h1, h2⟩ := hasAllW_cons hsh
  obtain rfl := hasAllW_nil h2
  obtain ⟨xs, rfl, h3⟩ := hasW_list h1
  obtain ⟨ns, rfl⟩ := items_int h3
  have hlen : ns.length ≤ n := by
    unfold OpenLaw.pre at hc
    have h4 : (WTm.not (.lt (.lit (.int (n : Int))) (.len (.arg 0)))).holds [] { args := [.list (ns.map .int)] } = true := by
      have h4 := (holds_andW hc).1
      rw [hn] at h4
      exact h4
    have h5 := condW_of h4 (w_not (w_lt w_lit (w_len_list (w_arg rfl))))
    rw [List.length_map] at h5
    refine Nat.le_of_not_lt fun q => ?_
    have q' : (n : Int) < ((ns.length : Nat) : Int) := by omega
    first
      | (rw [decide_eq_true q'] at h5; exact absurd h5 (by decide))
      | (simp at h5; omega)
  cases hwl with
  | cons w1 w2 =>
    cases w2
    cases w1 with
    | list ho hall => exact ⟨_, _, ns, rfl, rfl, ho, ints_of_wellAll ns _ hall, hlen⟩

theorem post_true (l : OpenLaw) (args : List WData) : l.row.toRowW.claim.post args (.bool true) args = true :=
  postW_of (r := l.row.toRowW) (X := (true == true))
    (show WShape.has [] (.bool true) .bool = true by first | rfl | decide | simp [WShape.has, WShape.arms, WShape.armsAll])
    (show (WTm.eq .res (.lit (.bool true))).value [] { args := args, res := some (.bool true), after := args } = some (.bool (true == true)) from w_eq_bool (w_res rfl) w_lit) rfl

/-! ### the attachment: holds_open's last premise (the goal 'hc' behind k_head) from a wpAny of the law's body -/
/-- the same from a codeAny of the CALL (for a layer whose function contracts speak of calls) -/
theorem attach_call {l : OpenLaw} {n : Nat} {q : Program} {loose : List Str} {XP : (Str → Option Value) → Heap → Prop} {YP : World → Heap → Prop} {d : DefRec}
    (hn : l.most = some n) (hdf : d.params.defaults = [])
    (call : ∀ (w : World) (s₀ s₁ : Shared) (mg mb : Str → Option Value) (fa : Addr) (o : Obj) (pm cd doc : Value) (a : Addr) (vs : List Value) (ns : List Int),
      Ground q loose [] XP w s₀ mg mb s₁.heap → YP w s₁.heap →
      s₁.heap.get? fa = some o → o.data = .func (docDef d.name d.params d.body d.scope pm cd doc) → s₁.heap.CodeRec cd d.name → mg d.name = some (.ref fa) →
      s₁.heap.get? a = some { cls := .type "list", data := .seq vs.toArray } → IntsAre vs ns → ns.length ≤ n → s₁.gens = #[] →
      codeAny (model l.prog w) callerA (.call (.ref fa) ⟨[.ref a], []⟩) (fun r s' => r = .ok (.ret (.bool true)) ∧ OldK s₁.heap s'.heap ∧ s'.os = s₁.os ∧ AllBare s'.gens) s₁) :
    WalkO q loose XP YP l.row.toRowW d [] (fun f vs => PySem.call f vs) := by
  intro w s₀ s₁ mg mb G Y fa o pm cd doc dV kV ho hd hcd hD hmg hg args vals as hpre hlay hrd hwl hlo
  obtain rfl : dV = .none := Dflts.none hD hdf
  obtain rfl : kV = .none := Dflts.noKw hD
  obtain ⟨a, vs, ns, rfl, rfl, hobj, hints, hlen⟩ := script_of hn hpre hwl
  refine enter_call (codeAny_mono (call w s₀ s₁ mg mb fa o pm cd doc a vs ns G Y ho (fd_plain hd) hcd hmg hobj hints hlen hg) fun r s' hq => ?_)
  obtain ⟨rfl, h2, h3, h4⟩ := hq
  exact ⟨.inl ⟨.bool true, .bool true, [], rfl, fun _ => rfl, .bool true, post_true l _, fun _ => ⟨List.Pairwise.nil, fun _ hm => (nomatch hm)⟩⟩, h2, h3, h4⟩

/-! ### rules over ANY heap (no ledger) from facts about the written part K: the library's own take a ledger (News) for what they write -/
section
variable {prog : Program} {w : World} {A : Around} {E : Value → Shared → Prop} {s : Shared} {K : Frag}

/-! the whole heap as the ledger: makes every rule that writes through a ledger a rule over any heap -/
def ledger (h : Heap) (L d : Addr) : List (Addr × Obj) := (List.range h.objs.size).filterMap fun a => if a = L ∨ a = d then none else (h.get? a).map fun o => (a, o)
end
end Att

namespace L2
open PySem PySem.Spec PyProof.Rows

theorem vals_ints : ∀ {vs : List Value} {ns : List Int}, IntsAre vs ns → Vals (ns.map V.int) vs
  | _, _, .nil => .nil
  | _, _, .cons n t h => .cons ⟨t, rfl⟩ (vals_ints h)

/-- nothing is tracked but the script, known to the object (or it is an object of the module) -/
def Only (H : Hp) : Prop := ∀ b, H b = none ∨ ∃ o xs, H b = some (.frz o (.lst xs))

/-- THE HEAD: the law's promise, at the heap behind the top. F, the promise of the law's def, may use that base is part of the heap (so K.In base, base.Ns mainGlobals mg stand in Mod) -/
theorem law_call {P : Program} {w : World} {K : PySem.W.Frag} {mg mb : Str → Option Value} {CX : CXT} {k : Nat} {fa a : Addr} {fd : FuncData} {x : Str} {sp : Sp} {s₁ : Shared} {vs : List Value} {ns : List Int}
    (KX : K.In s₁.heap) (hns : s₁.heap.Ns mainGlobals mg) (hb : s₁.heap.Ns builtinsNs mb) (hbb : ∀ x : Str, x ≠ "__name__" → mb x = bootBuiltins x) (hlim : s₁.heap.NoLimit) (hg : s₁.gens = #[])
    (ha : s₁.heap.get? a = some { cls := .type "list", data := .seq vs.toArray }) (hi : IntsAre vs ns) (hl : ns.length ≤ sizeLine) (hr : Room k callerA)
    (F : ∀ base : Heap, K.In base → base.Ns mainGlobals mg → FnOk P w K mg base CX k fa fd [x] sp) (hbind : ∀ (s : Shared) (u : Value), BindsTo s fd ⟨[u], []⟩ [(x, u)])
    (hsp : ∀ H : Hp, Only H → SqL K H a (ns.map V.int) → sp [.ref a] H (fun v _ => v = .bl true) fun _ _ _ => False)
    (hCX : ∀ H e s', CX [] H s₁ (fun _ _ _ => False) e s' → False) :
    codeAny (model P w) callerA (.call (.ref fa) ⟨[.ref a], []⟩) (fun r s' => r = .ok (.ret (.bool true)) ∧ OldK s₁.heap s'.heap ∧ s'.os = s₁.os ∧ AllBare s'.gens) s₁ := by
  have rv := vals_ints hi
  have lenV := hi.length
  -- from an abstract heap in which nothing but the script may be tracked
  have core : ∀ H : Hp, Only H → SqL K H a (ns.map V.int) → HOk P w H s₁.heap → (∀ b, H b ≠ none → b = a) → (H a ≠ none → K.lookup a = none) →
      codeAny (model P w) callerA (.call (.ref fa) ⟨[.ref a], []⟩) (fun r s' => r = .ok (.ret (.bool true)) ∧ OldK s₁.heap s'.heap ∧ s'.os = s₁.os ∧ AllBare s'.gens) s₁ := by
    intro H hO hS hok hA hK
    have base_of : ∀ {b : Addr} {o : Obj}, s₁.heap.get? b = some o → H b = none → (hidT s₁.heap H).get? b = some o := fun e n => hidT_get e n
    have noA : ∀ {b : Addr} {o : Obj} {es : Array DictEntry} {ep : Nat}, s₁.heap.get? b = some o → o.data = .dict es ep → H b = none := fun {b o es ep} e d => by
      cases q : H b with
      | none => rfl
      | some u =>
        have e' : b = a := hA b (by rw [q]; simp)
        subst e'
        rw [ha] at e; cases e
        have d' : Data.seq vs.toArray _ = Data.dict es ep := d
        cases d'
    have nsK : ∀ {b : Addr} {m : Str → Option Value}, s₁.heap.Ns b m → (hidT s₁.heap H).Ns b m := fun {b m} ⟨o, es, ep, e, d, r⟩ => ⟨o, es, ep, base_of e (noA e d), d, r⟩
    have hKb : K.In (hidT s₁.heap H) := fun b o e => base_of (KX b o e) (by
      cases q : H b with
      | none => rfl
      | some u =>
        have e' : b = a := hA b (by rw [q]; simp)
        subst e'
        rw [hK (by rw [q]; simp)] at e; cases e)
    have hM : Mod K mg (hidT s₁.heap H) := ⟨hKb, nsK hns, ⟨mb, nsK hb, hbb⟩, let ⟨mc, h1, h2⟩ := hlim; ⟨mc, nsK h1, h2⟩⟩
    have e0 : Env0 P w K mg (hidT s₁.heap H) callerA [] s₁ H := ⟨rfl, hM, fun b o e => of_hidT e, Nat.le_of_eq (hidT_size _ _), trivial, fun b hb => absurd (show b ∈ ([] : List Addr) from hb) (by simp), hok, .of_eq hg⟩
    refine codeAny_mono ((F _ hKb (nsK hns)).run callerA [] s₁ H ⟨[.ref a], []⟩ [.ref a] [.ref a] _ _ hr e0 (hbind s₁ (.ref a)) (.cons rfl .nil) (hsp H hO hS)) fun r s' h => ?_
    cases r with
    | error e => exact (hCX H e s' h).elim
    | ok fl =>
      cases fl with
      | next => exact False.elim h
      | brk => exact False.elim h
      | cont => exact False.elim h
      | ret u =>
        obtain ⟨v, H', os, bare, un, hok', r', q⟩ := h
        have q' : v = .bl true := q
        subst q'
        obtain rfl : u = Value.bool true := r'
        refine ⟨rfl, OldK.of_keep fun b o e => ?_, os, bare⟩
        cases q : H b with
        | none => exact un.keep b o e q (by intro z; exact absurd (show b ∈ ([] : List Addr) from z) (by simp)) (by simp)
        | some u =>
          rcases hO b with z | ⟨ob, xs, z⟩
          · rw [q] at z; cases z
          · have z2 := un.frzs b ob _ z
            obtain ⟨e1, _⟩ := hok b _ z
            obtain ⟨e2, _⟩ := hok' b _ z2
            rw [e] at e1; cases e1
            exact e2
  cases hk : K.lookup a with
  | some o =>
    -- the script is one of the module's own objects
    have e := KX a o hk
    rw [ha] at e
    cases e
    refine core (fun _ => none) (fun _ => .inl rfl) (.inr ⟨_, vs.toArray, _, hk, rfl, rfl, rfl, by rw [List.size_toArray, lenV]; exact hl, by simpa using rv⟩) (fun b u z => by have z' : (none : Option HO) = some u := z; cases z') (fun b z => absurd rfl z) fun z => absurd rfl z
  | none =>
    refine core (fun b => if b = a then some (.frz { cls := .type "list", data := .seq vs.toArray } (.lst (ns.map V.int))) else none) (fun b => ?_) (.inl (.inr ⟨{ cls := .type "list", data := .seq vs.toArray }, if_pos rfl⟩)) (fun b u z => ?_) (fun b z => ?_) fun _ => hk
    · by_cases hb : b = a
      · exact .inr ⟨_, _, if_pos hb⟩
      · exact .inl (if_neg hb)
    · by_cases hb : b = a
      · have z' := (if_pos hb).symm.trans z
        cases z'
        subst hb
        exact ⟨ha, by rw [List.length_map]; exact hl, vs, _, rv, ha⟩
      · have z' := (if_neg hb).symm.trans z
        cases z'
    · by_cases hb : b = a
      · exact hb
      · exact absurd (if_neg hb) z
end L2

namespace L2
open PySem PySem.Spec PyProof.Rows

abbrev KOf {K : PySem.W.Frag} {h : Heap} (_ : K.In h) : PySem.W.Frag := K

/-- the goal that k_head leaves (case hc), from the law's promise. F gives the function object fd (K's own) once, then the promise over every base -/
theorem walk_of {l : PySem.W.OpenLaw} {n k : Nat} {q : Program} {loose : List Str} {XP : (Str → Option Value) → Heap → Prop} {YP : World → Heap → Prop} {d : DefRec} {K : Params → PySem.W.Frag} {CX : World → CXT} {sp : World → Sp} {x : Str}
    (hn : l.most = some n) (hn2 : n ≤ sizeLine) (hdf : d.params.defaults = []) (hr : Room k callerA)
    (hY : ∀ (w : World) (h : Heap), YP w h → (K w.params).In h)
    (F : ∀ (w : World) (mg : Str → Option Value) (fa : Addr) (h : Heap), (K w.params).In h → h.Ns mainGlobals mg → mg d.name = some (.ref fa) →
      ∃ fd : FuncData, (∀ (s : Shared) (u : Value), BindsTo s fd ⟨[u], []⟩ [(x, u)]) ∧
        ∀ base : Heap, (K w.params).In base → base.Ns mainGlobals mg → FnOk l.prog w (K w.params) mg base (CX w) k fa fd [x] (sp w))
    (hsp : ∀ (w : World) (H : Hp) (a : Addr) (ns : List Int), ns.length ≤ n → Only H → SqL (K w.params) H a (ns.map V.int) → sp w [.ref a] H (fun v _ => v = .bl true) fun _ _ _ => False)
    (hCX : ∀ (w : World) (H : Hp) (s : Shared) (e : Value) (s' : Shared), CX w [] H s (fun _ _ _ => False) e s' → False) :
    PySem.W.WalkO q loose XP YP l.row.toRowW d [] (fun f vs => PySem.call f vs) := by
  refine Att.attach_call hn hdf fun w s₀ s₁ mg mb fa o pm cd doc a vs ns G Y ho hd hcd hmg hobj hints hlen hg => ?_
  have KX := hY w _ Y
  obtain ⟨fd, hb, hF⟩ := F w mg fa _ KX G.T.g hmg
  exact law_call KX G.T.g G.T.b G.T.builtins G.T.nolimit hg hobj hints (Nat.le_trans hlen hn2) hr hF hb (fun H hO hS => hsp w H a ns hlen hO hS) fun H e s' => hCX w H s₁ e s'
/-- the same where the promise hangs on the written part alone: (sp := My.sp_law), no hole under a binder -/
theorem walk_ofK {l : PySem.W.OpenLaw} {n k : Nat} {q : Program} {loose : List Str} {XP : (Str → Option Value) → Heap → Prop} {YP : World → Heap → Prop} {d : DefRec} {K : Params → PySem.W.Frag} {CX : CXT} {sp : PySem.W.Frag → Sp} {x : Str}
    (hn : l.most = some n) (hn2 : n ≤ sizeLine) (hdf : d.params.defaults = []) (hr : Room k callerA)
    (hY : ∀ (w : World) (h : Heap), YP w h → (K w.params).In h)
    (F : ∀ (w : World) (mg : Str → Option Value) (fa : Addr) (h : Heap), (K w.params).In h → h.Ns mainGlobals mg → mg d.name = some (.ref fa) →
      ∃ fd : FuncData, (∀ (s : Shared) (u : Value), BindsTo s fd ⟨[u], []⟩ [(x, u)]) ∧
        ∀ base : Heap, (K w.params).In base → base.Ns mainGlobals mg → FnOk l.prog w (K w.params) mg base CX k fa fd [x] (sp (K w.params)))
    (hsp : ∀ (K : PySem.W.Frag) (H : Hp) (a : Addr) (ns : List Int), ns.length ≤ n → Only H → SqL K H a (ns.map V.int) → sp K [.ref a] H (fun v _ => v = .bl true) fun _ _ _ => False)
    (hCX : ∀ (H : Hp) (s : Shared) (e : Value) (s' : Shared), CX [] H s (fun _ _ _ => False) e s' → False) :
    PySem.W.WalkO q loose XP YP l.row.toRowW d [] (fun f vs => PySem.call f vs) :=
  walk_of (K := K) (CX := fun _ => CX) (sp := fun w => sp (K w.params)) hn hn2 hdf hr hY F (fun w H a ns h1 h2 h3 => hsp (K w.params) H a ns h1 h2 h3) fun _ H s e s' => hCX H s e s'
end L2

/- THE LAST THEOREM (shape; LID, My.* are yours):
   My.Adr: a structure of the addresses that your layer names (classes, functions); My.Txt K t: a structure (Prop) of the equations over K;
   My.txt_mk : {K} {implicit addresses ..} (e1 : nsIn K mainGlobals "law" = some (some (.ref f))) (e2 : K.lookup f = some ⟨oc, od, .func (fnOf "law" "law" params body scope dV kV doc pm an cdv ct), sl⟩) (e3 : codeIn K cdv "law" = true) .. : ∃ t, My.Txt K t

set_option maxRecDepth 100000 in
set_option maxHeartbeats 0 in
theorem PySem.Challenge.cw_LID_holds : PySem.Challenge.rw_LID.Holds := by
  w_on; o_law; k_head; (case hw => w_witness2)
  k_fill
  refine L2.walk_of (l := PySem.Challenge.rw_LID) (n := 63) (k := 40) (x := "script") (CX := fun w => ..) (sp := fun _ => My.sp_law) rfl (by decide) rfl ⟨rfl, by decide, by decide⟩ (fun w h Y => PySem.W.kIn_of Y) ?F ?S ?C
  case F =>
    intro w mg fa h KX G hmg
    have T : ∃ t, My.Txt (L2.KOf KX) t := by
      dsimp only [L2.KOf]                          -- K must stand as «<heap const> w.params» for k_is
      refine' My.txt_mk ?e1 ?e2 ?e3 ..
      (case e1 => PySem.W.k_is)                    -- in the order: a name -> its address -> its object -> its parts
      (case e2 => PySem.W.k_is)
      ..
    obtain ⟨t, T⟩ := T
    have e0 := hmg.symm.trans (PySem.W.mg_of KX G T.law)
    cases e0                                       -- fa is the law's own address
    exact ⟨_, fun s u => .of_eq rfl, fun base kb nb => My.law_fn T kb nb⟩     -- if «.of_eq rfl» comes too early: refine' ⟨_, ?b, fun base kb nb => My.law_fn T kb nb⟩; exact fun s u => .of_eq rfl
  case S => exact fun w H a ns hl hO hS => ..
  case C => exact ..
(the tactic k_is has no namespace: write k_is) -/

/-! SHORT WORDS over the layer: a def of the text, its body, what a loop and a test want. -/
namespace L2
open PySem PySem.Spec PyProof.Rows

/-! ### the text by places -/
def defArgs (s : Stmt) : Arguments := match s with
  | .FunctionDef _ a _ _ _ _ _ _ _ _ => a
  | _ => { posonlyargs := [], args := [], vararg := none, kwonlyargs := [], kw_defaults := [], kwarg := none, defaults := [] }
def defBody (s : Stmt) : List Stmt := match s with
  | .FunctionDef _ _ b _ _ _ _ _ _ _ => b
  | _ => []
def defScope (s : Stmt) : Scope := match s with
  | .FunctionDef _ _ _ _ _ _ sc _ _ _ => sc
  | _ => { kind := .function, names := [], isGenerator := false, isCoroutine := false }

/-! ### no exception leaves a def -/
abbrev CX0 : CXT := fun _ _ _ _ _ _ => False
abbrev E0 : XK := fun _ _ _ => False
theorem pass0 {X : Cx} : Passes CX0 X E0 := fun _ _ _ _ _ _ _ h => h.elim

/-! ### a def (or method) of the text as it stands behind the top -/
structure Fun (K : PySem.W.Frag) (x qual : Str) (st : Stmt) (f : Addr) (fd : FuncData) : Prop where
  ex : ∃ (oc : Value) (od : Option Addr) (kV doc pm : Value) (an : Option Addr) (cdv ct : Value) (osl : Array (Option Value)),
    fd = PySem.W.fnOf x qual (defArgs st) (defBody st) (defScope st) .none kV doc pm an cdv ct ∧ K.lookup f = some ⟨oc, od, .func fd, osl⟩ ∧ PySem.W.codeIn K cdv qual = true
  kp : PySem.W.keepIn K (.ref f) = true
section
variable {P : Program} {w : World} {K : PySem.W.Frag} {mg : Str → Option Value} {base : Heap}
/-- THE RULE for a def: its body as a term of rules, and the reading of that term -/
theorem Fun.ok {x qual : Str} {st : Stmt} {f : Addr} {fd : FuncData} {N ps : List Str} {k : Nat} {sp : Sp} (F : Fun K x qual st f fd) (S : FnScope N ps (defScope st)) (len : ∀ vs H Q E, sp vs H Q E → vs.length = ps.length)
    (hbody : ∀ (cdv : Value) (A : Around) (outer : List Env) (s : Shared) (H : Hp) (vs : List V) (Q : VK) (E : XK), Room k (A.deeper (envOfC qual (defScope st) s.heap.objs.size f cdv)) → sp vs H Q E →
      ∃ t, PSs (cxOf CX0 P w K mg base N qual (defScope st) f cdv A outer s H E).nox (defBody st) t ∧ t { nx := fun _ H' => Q .non H', rt := Q } (start N vs) H) : FnOk P w K mg base CX0 (k + 1) f fd ps sp := by
  obtain ⟨oc, od, kV, doc, pm, an, cdv, ct, osl, rfl, lk, hcd⟩ := F.ex
  refine fn_of lk hcd S len fun A outer s H vs Q E hr hsp => ?_
  obtain ⟨t, h, q⟩ := hbody cdv A outer s H vs Q E hr hsp
  exact ⟨t, h.nox, q⟩
/-- how its arguments bind (no defaults): h is «fun _ _ _ _ _ _ us hl => match us, hl with | [_, _], _ => rfl», one _ a parameter -/
theorem Fun.binds {x qual : Str} {st : Stmt} {f : Addr} {fd : FuncData} {ps : List Str} (F : Fun K x qual st f fd)
    (h : ∀ (kV doc pm : Value) (an : Option Addr) (cdv ct : Value) (us : List Value), us.length = ps.length → bindArgs (PySem.W.fnOf x qual (defArgs st) (defBody st) (defScope st) .none kV doc pm an cdv ct) ⟨us, []⟩ = pure (ps.zip us)) : Binds K fd ps [] := by
  obtain ⟨oc, od, kV, doc, pm, an, cdv, ct, osl, rfl, lk, hcd⟩ := F.ex
  exact .all (h kV doc pm an cdv ct)
theorem fun_mk {x qual : Str} {st : Stmt} {f : Addr} {oc : Value} {od an : Option Addr} {osl : Array (Option Value)} {kV doc pm cdv ct : Value} (l : K.lookup f = some ⟨oc, od, .func (PySem.W.fnOf x qual (defArgs st) (defBody st) (defScope st) .none kV doc pm an cdv ct), osl⟩)
    (c : PySem.W.codeIn K cdv qual = true) (k : PySem.W.keepIn K (.ref f) = true) : Fun K x qual st f (PySem.W.fnOf x qual (defArgs st) (defBody st) (defScope st) .none kV doc pm an cdv ct) := ⟨⟨oc, od, kV, doc, pm, an, cdv, ct, osl, rfl, l, c⟩, k⟩
end
theorem hu_of {A : Around} {k : Nat} (hr : Room k A) : A.units + 1 < cLine := Nat.lt_of_le_of_lt (Nat.add_le_add_left (by decide : 1 ≤ 64) _) hr.units
theorem small1000 {n : Nat} (h : n ≤ 1000) : n < sizeLine := Nat.lt_of_le_of_lt h (by decide)

/-! ### expressions in short: the name that stands in the i-th slot -/
section
variable {X : Cx}
theorem pv (i : Nat) {x : Str} {pos : Pos} (hN : X.N[i]? = some x := by rfl) (hv : Vis X.env.scope x := by first | exact Or.inl rfl | exact Or.inr (Or.inl rfl) | exact Or.inr (Or.inr rfl)) (hd : (x == ("__debug__" : Str)) = false := by decide)
    (hcd : (x == ("__classdict__" : Str)) = false := by decide) : PE X (.Name x pos) (tVar i) := pe_var hN hv hd hcd
end

/-! ### tests -/
theorem iteF {A B : Prop} (h : B) : if false = true then A else B := by
  rw [if_neg Bool.false_ne_true]
  exact h
theorem iteT {A B : Prop} (h : A) : if true = true then A else B := by
  rw [if_pos rfl]
  exact h
theorem ite2 {c A B : Prop} [Decidable c] (h1 : c → A) (h2 : ¬ c → B) : if c then A else B := by
  by_cases h : c
  · rw [if_pos h]
    exact h1 h
  · rw [if_neg h]
    exact h2 h
/-! ### heaps -/
/-- all that was tracked is as it was -/
def Same (H H' : Hp) : Prop := ∀ b o, H b = some o → H' b = some o
theorem Same.refl (H : Hp) : Same H H := fun _ _ h => h
theorem Same.trans {H H1 H2 : Hp} (a : Same H H1) (b : Same H1 H2) : Same H H2 := fun c o h => b c o (a c o h)
theorem Same.free {H H' : Hp} (e : Same H H') {l : Addr} (h : H' l = Option.none) : H l = Option.none := by
  cases q : H l with
  | none => rfl
  | some o =>
    rw [e l o q] at h
    cases h
theorem Same.seq {K : PySem.W.Frag} {H H' : Hp} {a : Addr} {xs : List V} (e : Same H H') (h : SqL K H a xs) : SqL K H' a xs := by
  rcases h with (h | ⟨o, h⟩) | h
  · exact .inl (.inl (e _ _ h))
  · exact .inl (.inr ⟨o, e _ _ h⟩)
  · exact .inr h

/-! ### a dict's pairs: keys that differ -/
section
variable {κ : Type} [DecidableEq κ]
end
end L2

namespace Tc
/-- the divisor with the sign of the bottom -/
def dv (t b : Int) : Int := if b < 0 then -(Int.gcd t b : Int) else (Int.gcd t b : Int)

theorem fmod_pos {t b : Int} (h : 0 < b) : 0 ≤ t.fmod b ∧ t.fmod b < b := by
  rw [Int.fmod_eq_emod_of_nonneg _ (Int.le_of_lt h)]
  exact ⟨Int.emod_nonneg _ (by omega), Int.emod_lt_of_pos _ h⟩
theorem fmod_neg {t b : Int} (h : b < 0) : b < t.fmod b ∧ t.fmod b ≤ 0 := by
  have e : t.fmod b = -((-t).fmod (-b)) := by
    have h1 := Int.mul_fdiv_add_fmod t b
    have h2 := Int.mul_fdiv_add_fmod (-t) (-b)
    rw [Int.neg_fdiv_neg] at h2
    have h3 : -b * t.fdiv b = -(b * t.fdiv b) := Int.neg_mul _ _
    rw [h3] at h2
    omega
  have p := fmod_pos (t := -t) (b := -b) (by omega)
  omega
theorem gcd_fmod (t b : Int) : Int.gcd b (t.fmod b) = Int.gcd t b := by
  have h1 := Int.mul_fdiv_add_fmod t b
  have e : t.fmod b = t + b * (-(t.fdiv b)) := by
    rw [Int.mul_neg]; omega
  rw [e, Int.gcd_comm, Int.gcd_add_mul_left_left]
/-- between two turns of the loop: g is the gcd, the sign is that of the first bottom -/
structure Dv (t₀ b₀ t b : Int) : Prop where
  g : Int.gcd t b = Int.gcd t₀ b₀
  p : 0 < b₀ → 0 ≤ b ∧ (b = 0 → 0 < t)
  n : b₀ < 0 → b ≤ 0 ∧ (b = 0 → t < 0)
theorem Dv.start {t b : Int} (h : b ≠ 0) : Dv t b t b := ⟨rfl, fun p => ⟨Int.le_of_lt p, fun e => absurd e h⟩, fun p => ⟨Int.le_of_lt p, fun e => absurd e h⟩⟩
theorem Dv.turn {t₀ b₀ t b : Int} (d : Dv t₀ b₀ t b) (h : b ≠ 0) : Dv t₀ b₀ b (t.fmod b) := by
  refine ⟨(gcd_fmod t b).trans d.g, fun p => ?_, fun p => ?_⟩
  · have q := d.p p
    have r := fmod_pos (t := t) (b := b) (by omega)
    exact ⟨r.1, fun _ => by omega⟩
  · have q := d.n p
    have r := fmod_neg (t := t) (b := b) (by omega)
    exact ⟨r.2, fun _ => by omega⟩
theorem Dv.less {t b : Int} (h : b ≠ 0) : (t.fmod b).natAbs < b.natAbs := by
  rcases Int.lt_or_gt_of_ne h with q | q
  · have r := fmod_neg (t := t) q; omega
  · have r := fmod_pos (t := t) q; omega
theorem Dv.done {t₀ b₀ t b : Int} (d : Dv t₀ b₀ t b) (h : b = 0) (h0 : b₀ ≠ 0) : t = dv t₀ b₀ := by
  subst h
  have g := d.g
  rw [Int.gcd_zero_right] at g
  unfold dv
  rw [← g]
  split
  · rename_i q; have := (d.n q).2 rfl; omega
  · have := (d.p (by omega)).2 rfl; omega
theorem gcd_pos {t b : Int} (h : b ≠ 0) : 0 < Int.gcd t b := Nat.pos_of_ne_zero fun e => h (Int.gcd_eq_zero_iff.mp e).2
theorem dv_ne {t b : Int} (h : b ≠ 0) : dv t b ≠ 0 := by
  have := gcd_pos (t := t) h
  unfold dv; split <;> omega
theorem dv_dvd_left (t b : Int) : dv t b ∣ t := by
  have := Int.gcd_dvd_left t b
  unfold dv; split
  · exact Int.neg_dvd.mpr this
  · exact this
theorem dv_dvd_right (t b : Int) : dv t b ∣ b := by
  have := Int.gcd_dvd_right t b
  unfold dv; split
  · exact Int.neg_dvd.mpr this
  · exact this
theorem dv_abs (t b : Int) : (dv t b).natAbs = Int.gcd t b := by
  unfold dv; split <;> omega
theorem dv_le {t b : Int} (h : b ≠ 0) : (dv t b).natAbs ≤ b.natAbs := by
  rw [dv_abs]
  have := Int.gcd_dvd_right t b
  exact Nat.le_of_dvd (by omega) (Int.natAbs_dvd_natAbs.mpr this |> (by simpa using ·))
/-- lowest terms are those of the rational number -/
theorem dv_num {t b : Int} (h : b ≠ 0) : t.fdiv (dv t b) = (Rat.divInt t b).num := by
  rw [Int.fdiv_eq_ediv_of_dvd (dv_dvd_left t b), Rat.num_divInt, Int.gcd_comm]
  unfold dv
  rcases Int.lt_or_gt_of_ne h with q | q
  · rw [if_pos q, Int.sign_eq_neg_one_of_neg q, Int.ediv_neg, Int.neg_one_mul, Int.neg_ediv_of_dvd (Int.gcd_dvd_left t b)]
  · rw [if_neg (by omega), Int.sign_eq_one_of_pos q, Int.one_mul]
theorem dv_den {t b : Int} (h : b ≠ 0) : b.fdiv (dv t b) = ((Rat.divInt t b).den : Int) := by
  rw [Int.fdiv_eq_ediv_of_dvd (dv_dvd_right t b), Rat.den_divInt, if_neg h, Int.gcd_comm]
  unfold dv
  rw [Int.natCast_ediv]
  rcases Int.lt_or_gt_of_ne h with q | q
  · rw [if_pos q, Int.ediv_neg, ← Int.neg_ediv_of_dvd (Int.gcd_dvd_right t b)]
    congr 1; omega
  · rw [if_neg (by omega)]
    congr 1; omega
end Tc
namespace Tc
theorem dv_pos {t b : Int} (h : 0 < b) : dv t b = (Int.gcd t b : Int) := by unfold dv; rw [if_neg (by omega)]
/-- what is in lowest terms is the rational number's -/
theorem low {n d : Int} (hd : 0 < d) (hg : Int.gcd n d = 1) : (Rat.divInt n d).num = n ∧ ((Rat.divInt n d).den : Int) = d := by
  have h1 := dv_num (t := n) (b := d) (by omega)
  have h2 := dv_den (t := n) (b := d) (by omega)
  rw [dv_pos hd, hg] at h1 h2
  constructor
  · rw [← h1]; simp
  · rw [← h2]; simp
theorem rat_den_pos (r : Rat) : (0 : Int) < r.den := by have := r.den_pos; omega
theorem rat_gcd (r : Rat) : Int.gcd r.num r.den = 1 := by
  have := r.reduced
  unfold Nat.Coprime at this
  unfold Int.gcd
  simpa using this
theorem plus_ok (r q : Rat) {s rest top d : Int} (hs : s = dv r.den q.den) (hr : rest = (r.den : Int).fdiv s) (ht : top = r.num * ((q.den : Int).fdiv s) + q.num * rest) (hd : d = dv top s) :
    top.fdiv d = (r + q).num ∧ rest * ((q.den : Int).fdiv d) = ((r + q).den : Int) := by
  have p1 := r.den_pos
  have p2 := q.den_pos
  have gp : 0 < Nat.gcd r.den q.den := Nat.gcd_pos_of_pos_left _ p1
  have es : s = ((Nat.gcd r.den q.den : Nat) : Int) := by
    rw [hs, dv_pos (by omega)]; unfold Int.gcd; simp
  have e1 : (r.den : Int).fdiv s = ((r.den / Nat.gcd r.den q.den : Nat) : Int) := by
    rw [es, Int.fdiv_eq_ediv_of_nonneg _ (by omega), Int.natCast_ediv]
  have e2 : (q.den : Int).fdiv s = ((q.den / Nat.gcd r.den q.den : Nat) : Int) := by
    rw [es, Int.fdiv_eq_ediv_of_nonneg _ (by omega), Int.natCast_ediv]
  have er : rest = ((r.den / Nat.gcd r.den q.den : Nat) : Int) := hr.trans e1
  have et : top = r.num * ((q.den / Nat.gcd r.den q.den : Nat) : Int) + q.num * ((r.den / Nat.gcd r.den q.den : Nat) : Int) := by rw [ht, e2, er]
  have key : top.natAbs.gcd (Nat.gcd r.den q.den) = top.natAbs.gcd ((r.den / Nat.gcd r.den q.den) * q.den) := by
    rw [et]
    exact Rat.add.aux r q rfl rfl rfl
  have ed : d = ((top.natAbs.gcd (Nat.gcd r.den q.den) : Nat) : Int) := by
    rw [hd, es, dv_pos (by omega)]; unfold Int.gcd; simp
  have hrd : Nat.gcd r.den q.den ∣ r.den := Nat.gcd_dvd_left _ _
  have hqd : Nat.gcd r.den q.den ∣ q.den := Nat.gcd_dvd_right _ _
  have rp : 0 < r.den / Nat.gcd r.den q.den := Nat.div_pos (Nat.le_of_dvd p1 hrd) gp
  have sum : r + q = Rat.divInt top (((r.den / Nat.gcd r.den q.den) * q.den : Nat) : Int) := by
    have h := Rat.divInt_add_divInt r.num q.num (d₁ := r.den) (d₂ := q.den) (by omega) (by omega)
    rw [Rat.num_divInt_den, Rat.num_divInt_den] at h
    rw [h]
    rw [Rat.divInt_eq_divInt_iff (Int.mul_ne_zero (by omega) (by omega)) (by have := Nat.mul_pos rp p2; omega)]
    rw [et]
    obtain ⟨a, ha⟩ := hrd
    obtain ⟨b, hb⟩ := hqd
    generalize Nat.gcd r.den q.den = g at *
    have a1 : r.den / g = a := by rw [ha]; exact Nat.mul_div_cancel_left _ gp
    have b1 : q.den / g = b := by rw [hb]; exact Nat.mul_div_cancel_left _ gp
    rw [a1, b1]
    rw [ha, hb]
    push_cast
    grind
  have dp : (0 : Int) < (((r.den / Nat.gcd r.den q.den) * q.den : Nat) : Int) := by have := Nat.mul_pos rp p2; omega
  have n1 := dv_num (t := top) (b := (((r.den / Nat.gcd r.den q.den) * q.den : Nat) : Int)) (by omega)
  have n2 := dv_den (t := top) (b := (((r.den / Nat.gcd r.den q.den) * q.den : Nat) : Int)) (by omega)
  have edd : dv top (((r.den / Nat.gcd r.den q.den) * q.den : Nat) : Int) = d := by
    rw [ed, dv_pos dp, key]; unfold Int.gcd; rw [Int.natAbs_natCast]
  rw [← sum, edd] at n1 n2
  refine ⟨n1, ?_⟩
  rw [← n2, er]
  have dq : d ∣ (q.den : Int) := by
    rw [ed]
    exact Int.natCast_dvd_natCast.mpr (Nat.dvd_trans (Nat.gcd_dvd_right _ _) hqd)
  have dpos : 0 < d := by
    rw [ed]; have := Nat.gcd_pos_of_pos_right top.natAbs gp; omega
  rw [Int.fdiv_eq_ediv_of_nonneg _ (by omega), Int.fdiv_eq_ediv_of_nonneg _ (by omega)]
  push_cast
  exact (Int.mul_ediv_assoc _ dq).symm
theorem cop_dvd {a d t b : Int} (h : Int.gcd t b = 1) (ha : a ∣ t) (hd : d ∣ b) : Int.gcd a d = 1 :=
  Nat.Coprime.coprime_dvd_left (Int.natAbs_dvd_natAbs.mpr ha) (Nat.Coprime.coprime_dvd_right (Int.natAbs_dvd_natAbs.mpr hd) h)
theorem cop_mul {a b c d : Int} (h1 : Int.gcd a d = 1) (h2 : Int.gcd a b = 1) (h3 : Int.gcd c d = 1) (h4 : Int.gcd c b = 1) : Int.gcd (a * c) (d * b) = 1 := by
  show Nat.Coprime (a * c).natAbs (d * b).natAbs
  rw [Int.natAbs_mul, Int.natAbs_mul]
  exact Nat.coprime_mul_iff_left.mpr ⟨Nat.coprime_mul_iff_right.mpr ⟨h1, h2⟩, Nat.coprime_mul_iff_right.mpr ⟨h3, h4⟩⟩
/-- the product, crosswise cut: (t2, b2) need not be with b2 > 0 -/
theorem times_ok {t1 b1 t2 b2 : Int} (h1 : 0 < b1) (h2 : b2 ≠ 0) (c1 : Int.gcd t1 b1 = 1) (c2 : Int.gcd t2 b2 = 1) {l r : Int} (hl : l = dv t1 b2) (hr : r = dv t2 b1) :
    (t1.fdiv l) * (t2.fdiv r) = (Rat.divInt (t1 * t2) (b1 * b2)).num ∧ (b1.fdiv r) * (b2.fdiv l) = ((Rat.divInt (t1 * t2) (b1 * b2)).den : Int) := by
  have l0 : l ≠ 0 := by rw [hl]; exact dv_ne h2
  have r0 : 0 < r := by rw [hr, dv_pos h1]; have := gcd_pos (t := t2) (b := b1) (by omega); omega
  obtain ⟨a, ha⟩ : l ∣ t1 := by rw [hl]; exact dv_dvd_left _ _
  obtain ⟨b, hb⟩ : l ∣ b2 := by rw [hl]; exact dv_dvd_right _ _
  obtain ⟨c, hc⟩ : r ∣ t2 := by rw [hr]; exact dv_dvd_left _ _
  obtain ⟨d, hd⟩ : r ∣ b1 := by rw [hr]; exact dv_dvd_right _ _
  have e1 : t1.fdiv l = a := by rw [ha, Int.mul_fdiv_cancel_left _ l0]
  have e2 : b2.fdiv l = b := by rw [hb, Int.mul_fdiv_cancel_left _ l0]
  have e3 : t2.fdiv r = c := by rw [hc, Int.mul_fdiv_cancel_left _ (by omega)]
  have e4 : b1.fdiv r = d := by rw [hd, Int.mul_fdiv_cancel_left _ (by omega)]
  have gl : Int.gcd t1 b2 = l.natAbs := by rw [hl, dv_abs]
  have gr : Int.gcd t2 b1 = r.natAbs := by rw [hr, dv_abs]
  have la : 0 < l.natAbs := by omega
  have ra : 0 < r.natAbs := by omega
  have cab : Int.gcd a b = 1 := by
    rw [ha, hb, Int.gcd_mul_left] at gl
    exact Nat.eq_of_mul_eq_mul_left la (by omega)
  have ccd : Int.gcd c d = 1 := by
    rw [hc, hd, Int.gcd_mul_left] at gr
    exact Nat.eq_of_mul_eq_mul_left ra (by omega)
  have cad : Int.gcd a d = 1 := cop_dvd c1 ⟨l, by rw [ha, Int.mul_comm]⟩ ⟨r, by rw [hd, Int.mul_comm]⟩
  have cbc : Int.gcd c b = 1 := cop_dvd c2 ⟨r, by rw [hc, Int.mul_comm]⟩ ⟨l, by rw [hb, Int.mul_comm]⟩
  have dp : 0 < d := by
    rcases Int.lt_trichotomy d 0 with z | z | z
    · have := Int.mul_neg_of_pos_of_neg r0 z; omega
    · subst z; omega
    · exact z
  have bp : 0 < b := by
    rcases Int.lt_or_gt_of_ne h2 with z | z
    · have ln : l < 0 := by
        rw [hl]; unfold dv; rw [if_pos z]; have := gcd_pos (t := t1) h2; omega
      rcases Int.lt_trichotomy b 0 with y | y | y
      · have := Int.mul_pos_of_neg_of_neg ln y; omega
      · subst y; omega
      · exact y
    · have lp : 0 < l := by
        rw [hl, dv_pos z]; have := gcd_pos (t := t1) h2; omega
      rcases Int.lt_trichotomy b 0 with y | y | y
      · have := Int.mul_neg_of_pos_of_neg lp y; omega
      · subst y; omega
      · exact y
  have lw := low (n := a * c) (d := d * b) (Int.mul_pos dp bp) ?_
  · have ee : Rat.divInt (t1 * t2) (b1 * b2) = Rat.divInt (a * c) (d * b) := by
      rw [Rat.divInt_eq_divInt_iff (Int.mul_ne_zero (by omega) h2) (Int.mul_ne_zero (by omega) (by omega))]
      rw [ha, hb, hc, hd]; grind
    rw [e1, e2, e3, e4, ee]
    exact ⟨lw.1.symm, lw.2.symm⟩
  · exact cop_mul cad cab ccd cbc
theorem mul_eq (r q : Rat) : Rat.divInt (r.num * q.num) (r.den * q.den) = r * q := by
  rw [← Rat.divInt_mul_divInt, Rat.num_divInt_den, Rat.num_divInt_den]
theorem div_eq (r q : Rat) (h : q.num ≠ 0) : Rat.divInt (r.num * q.den) (r.den * q.num) = r / q := by
  rw [← Rat.divInt_mul_divInt, Rat.num_divInt_den, Rat.div_def]
  congr 1
  rw [Rat.inv_def]
theorem gcd_swap (r : Rat) : Int.gcd (r.den : Int) r.num = 1 := by rw [Int.gcd_comm]; exact rat_gcd r
theorem neg_ok (r : Rat) : (0 - r.num) = (-r).num ∧ (r.den : Int) = ((-r).den : Int) := by
  constructor
  · rw [Rat.neg_num]; omega
  · rw [Rat.neg_den]
theorem sub_eq (r q : Rat) : r + -q = r - q := (Rat.sub_eq_add_neg r q).symm
theorem lt_ok (r q : Rat) : decide (r.num * q.den < q.num * r.den) = decide (r < q) := by
  rw [decide_eq_decide, Rat.lt_iff]
theorem fq_inj {r q : Rat} (h1 : r.num = q.num) (h2 : (r.den : Int) = q.den) : r = q := Rat.ext h1 (by omega)
end Tc
namespace L2
open PySem PySem.Spec PyProof.Rows
/-! ### own rules: large ints, isinstance, steps of a range, calls by a bundled fact -/
theorem bt_abs : bootBuiltins "abs" = some (.builtin "abs") := by decide +kernel
theorem bt_isinstance : bootBuiltins "isinstance" = some (.builtin "isinstance") := by decide +kernel
theorem bt_min : bootBuiltins "min" = some (.builtin "min") := by decide +kernel
theorem bt_max : bootBuiltins "max" = some (.builtin "max") := by decide +kernel
theorem bt_sum : bootBuiltins "sum" = some (.builtin "sum") := by decide +kernel
theorem bt_int : bootBuiltins "int" = some (.type "int") := by decide +kernel
theorem bt_bool : bootBuiltins "bool" = some (.type "bool") := by decide +kernel
theorem bt_list : bootBuiltins "list" = some (.type "list") := by decide +kernel
section
variable {X : Cx}
/-- a product: the bits of both are few -/
theorem op_mulB : OpR X (binaryOp .Mult) (rI IntMulOk fun i j => .int (i * j)) := opI fun _ _ _ _ _ _ _ hc q => mul_int q hc
def CDivB (_ j : Int) : Prop := j ≠ 0 ∧ j.natAbs.log2 < 9000
theorem op_fdivB : OpR X (binaryOp .FloorDiv) (rI CDivB fun i j => .int (i.fdiv j)) := opI fun _ _ _ _ _ _ _ hc q => floordiv_int hc.1 q (.inl (PyProof.noPylong_of_log2 hc.2))
theorem log2_lt {n k : Nat} (h : n < 2 ^ k) (hk : 0 < k) : n.log2 < k := by
  rcases Nat.eq_zero_or_pos n with h0 | hp
  · subst h0
    have : Nat.log2 0 = 0 := by decide
    omega
  · exact (Nat.log2_lt (Nat.ne_of_gt hp)).mpr h
theorem mulOk_of {a b : Int} (k : Nat) (ha : a.natAbs < 2 ^ k) (hb : b.natAbs < 2 ^ k) (h : k ≤ 67108864) : IntMulOk a b := by
  have bits : ∀ x : Int, x.natAbs < 2 ^ k → Builtin.Int.intBits x ≤ k := fun x hx => by
    unfold Builtin.Int.intBits
    split
    · exact Nat.zero_le _
    · rename_i hx0
      rcases Nat.eq_zero_or_pos k with h0 | hp
      · subst h0
        have : x = 0 := by
          have : x.natAbs < 1 := hx
          omega
        simp [this] at hx0
      · have := log2_lt hx hp
        omega
  exact IntMulOk.of_le (bits a ha) (bits b hb) (by omega)
theorem divB_of {i j : Int} (h : j ≠ 0) (hb : j.natAbs < 2 ^ 9000) : CDivB i j := ⟨h, log2_lt hb (by decide)⟩

/-- isinstance(x, T), T a built-in type -/
theorem call_isi : CallR X (.builtin "isinstance") (fun xs H Q => ∃ x n t b, xs = [x, .ty n] ∧ TyOf X.K H x t ∧ PySem.W.kitOne X.K t (.type n) = some b ∧ Q (.bl b) H) := by
  intro pins s σ H xs us Q I r h
  obtain ⟨x, n, t, b, rfl, ty, e, q⟩ := h
  obtain ⟨u, u', rfl, ru, ru'⟩ := vals2 r
  cases ru'
  exact isinst_ok I ru ty e fun tk => ⟨.bl b, H, I.tok tk, rfl, q⟩
/-! ### a range with a step -/
def ItrS (lo c : Int) (n : Nat) : It := ⟨fun i _ => i < n, fun i H x H' => H' = H ∧ x = .int (lo + (i : Int) * c), fun i _ => n ≤ i⟩
theorem turn_rangeS {P : Program} {w : World} {K : PySem.W.Frag} {tg : Expr} (it : Addr) (lo c : Int) (n : Nat) : Turn P w K tg (ItrS lo c n) [it] it (fun i h => IsRangeIter h it (lo + (i : Nat) * c) ((n : Int) - (i : Nat)) c) where
  mem := by simp
  obj := fun i h st b hb => by
    have e : b = it := by simpa using hb
    subst e
    exact ⟨_, st, fun v z => by
      have z' : Data.fields _ = Data.cell v := z
      cases z'⟩
  keep := fun i h h' st k => k it (by simp) _ st
  item := by
    intro X hP hw hK hc i pins s σ H E I hf st hg
    subst hP hw hK
    obtain ⟨f0, f1, f2, f3, f4, f5⟩ := hf it (by simp)
    have W := Walks.range (prog := X.prog) (w := X.w) (I.ok.hd hc) it lo c n
    refine W.item i s _ _ hg st fun v h' tk hv st' kk => ?_
    obtain ⟨t, rfl⟩ := hv
    have I1 : Inv X pins σ H { s with heap := h', toks := tk } := I.turned (fun b o hb e => kk b o (by simpa using hb) e) f0 f1 f3 f4 f5
    exact ⟨_, rfl, go_of (s := { s with heap := h', toks := tk }) (n := "range_iterator") st' rfl rfl (by decide) ⟨.int (lo + (i : Int) * c), H, I1, ⟨t, rfl⟩, ⟨rfl, rfl⟩, st', fun b hb => (hf b hb).1⟩⟩
  done := by
    intro X hP hw hK hc i pins s σ H E I hf st hg
    subst hP hw hK
    obtain ⟨f0, f1, f2, f3, f4, f5⟩ := hf it (by simp)
    exact wpAny_pyNext_range_end (I.ok.hd hc) st (by have : n ≤ i := hg; omega) fun h' eb => ⟨rfl, I.turned (t' := s.toks) (fun b o hb e => eb b o hb e) f0 f1 f3 f4 f5⟩
  self := fun _ _ _ _ _ st h => wpAny_pyIter_rangeiter st h
def rngN (lo hi c : Int) : Nat := if lo < hi then ((hi - lo - 1) / c + 1).toNat else 0
theorem rngN_eq {lo hi c : Int} (h : 0 < c) : ((rngN lo hi c : Nat) : Int) = Builtin.Range.rangeSize lo hi c := by
  unfold rngN Builtin.Range.rangeSize
  rw [if_pos h]
  split
  · have := Int.ediv_nonneg (a := hi - lo - 1) (b := c) (by omega) (by omega)
    omega
  · rfl
theorem small_step {a b c : Int} (ha : -(2 ^ 60) ≤ a) (ha' : a < 2 ^ 60) (hb : -(2 ^ 60) ≤ b) (hb' : b < 2 ^ 60) (hc : 0 < c) (hc' : c < 2 ^ 60) : Builtin.Range.small a b c = true := by
  have hs : 0 ≤ Builtin.Range.rangeSize a b c ∧ Builtin.Range.rangeSize a b c < 2 ^ 62 := by
    unfold Builtin.Range.rangeSize
    rw [if_pos hc]
    split
    · have h1 := Int.ediv_nonneg (a := b - a - 1) (b := c) (by omega) (by omega)
      have h2 : (b - a - 1) / c ≤ b - a - 1 := Int.ediv_le_self _ (by omega)
      omega
    · omega
  unfold Builtin.Range.small
  simp only [Builtin.Range.rangeFitsLong, Bool.and_eq_true, Bool.or_eq_true, decide_eq_true_eq, beq_iff_eq, if_pos (show c > 0 from hc)]
  omega
theorem range_itS {tg : Expr} {pins : List (Addr × Obj)} {σ : St} {H : Hp} {s : Shared} {R : It → Hp → Prop} {E : Value → Shared → Prop} {lo hi c : Int} {t u v : Tok} {tk : Nat} (I : Inv X pins σ H s) (h1 : -(2 ^ 60) ≤ lo) (h2 : lo < 2 ^ 60) (h3 : -(2 ^ 60) ≤ hi) (h4 : hi < 2 ^ 60) (hc : 0 < c) (hc' : c < 2 ^ 60)
    (q : R (ItrS lo c (rngN lo hi c)) H) : wpAny (model X.prog X.w) X.A (pyIter (.ref s.heap.objs.size)) (PIE X pins σ tg R) E { s with heap := s.heap.push { cls := .type "range", data := .fields #[.int lo t, .int hi u, .int c v] }, toks := tk } := by
  refine wpAny_pyIter_range (IsRange.new ..) (small_step h1 h2 h3 h4 hc hc') ?_
  have I1 : Inv X pins σ H { s with heap := s.heap.push { cls := .type "range", data := .fields #[.int lo t, .int hi u, .int c v] }, toks := tk } := I.kept fun b o e => Heap.get?_push_of_some _ e
  refine ⟨(s.heap.push { cls := .type "range", data := .fields #[.int lo t, .int hi u, .int c v] }).objs.size, [(s.heap.push { cls := .type "range", data := .fields #[.int lo t, .int hi u, .int c v] }).objs.size], _, _, H, rfl,
    I1.kept (t' := tk) fun b o e => Heap.get?_push_of_some _ e, turn_rangeS _ lo c (rngN lo hi c), ?_, fun b hb => ?_, q⟩
  · have e1 : lo + ((0 : Nat) : Int) * c = lo := by simp
    have e2 : ((rngN lo hi c : Nat) : Int) - ((0 : Nat) : Int) = Builtin.Range.rangeSize lo hi c := by rw [rngN_eq hc]; simp
    show IsRangeIter _ _ (lo + ((0 : Nat) : Int) * c) (((rngN lo hi c : Nat) : Int) - ((0 : Nat) : Int)) c
    rw [e1, e2]
    exact Heap.get?_push_size _ rfl
  · have e : b = (s.heap.push { cls := .type "range", data := .fields #[.int lo t, .int hi u, .int c v] }).objs.size := by simpa using hb
    subst e
    exact I1.fpOk (Nat.le_refl _) (I1.hok.fresh (Nat.le_refl _))
def iRng3 (ta : TA) : TI := fun σ H R => ta σ H fun vs H1 => ∃ i j c : Int, vs = [.int i, .int j, .int c] ∧ (-(2 ^ 60) ≤ i ∧ i < 2 ^ 60 ∧ -(2 ^ 60) ≤ j ∧ j < 2 ^ 60 ∧ 0 < c ∧ c < 1073741824) ∧ R (ItrS i c (rngN i j c)) H1
theorem pi_range3 {tg a b c : Expr} {ta : TA} {p pos : Pos} (hg : Gl X "range") (hm : X.mg "range" = none) (ha : PA X [a, b, c] ta) (hs : starEach [a, b, c] X.env = [(false, eval a X.env), (false, eval b X.env), (false, eval c X.env)] := by rfl)
    (hs2 : starEach [b, c] X.env = [(false, eval b X.env), (false, eval c X.env)] := by rfl) : PI X tg (.Call (.Name "range" p) [a, b, c] [] pos) (iRng3 ta) := by
  intro pins s σ H R I h
  refine Call_ (ld_blt I hg hm boot_range (PyProof.Rows.callWith_type1 (thn (ha pos pins s σ H _ I h) fun us s1 ⟨vs, H1, I1, r1, q1⟩ => ?_) (by rw [hs, hs2]) (by rw [hs2]; rfl)))
  obtain ⟨i, j, k, e, ⟨q1, q2, q3, q4, q5, q6⟩, q⟩ := q1
  subst e
  cases r1 with
  | cons r rr =>
    cases rr with
    | cons r' rr =>
      cases rr with
      | cons r'' rr =>
        cases rr
        obtain ⟨t, rfl⟩ := r
        obtain ⟨t', rfl⟩ := r'
        obtain ⟨t'', rfl⟩ := r''
        exact call_range_3 (by omega) (range_itS I1 q1 q2 q3 q4 q5 (by omega) q) (.inl (PyProof.noPylong_small (by omega)))
theorem for_rangeS {lo c : Int} {n : Nat} {g : TG} {tb : TS} {D : Ends} {σ : St} {H : Hp} (Pv : Nat → St → Hp → Prop) (h0 : Pv 0 σ H)
    (hs : ∀ i σ H, i < n → Pv i σ H → g (.int (lo + (i : Int) * c)) σ H fun σ2 H2 => tb { D with nx := Pv (i + 1), ct := Pv (i + 1), bk := D.nx } σ2 H2) (hd : ∀ σ H, Pv n σ H → D.nx σ H) :
    ∃ W : Nat → Nat → St → Hp → Prop, (∃ m, W 0 m σ H) ∧ ∀ i m σ H, W i m σ H →
      ((ItrS lo c n).stop i H ∧ D.nx σ H) ∨ ((ItrS lo c n).go i H ∧ ∃ N : St → Hp → Prop, (∀ σ' H', N σ' H' → ∃ m', m' < m ∧ W (i + 1) m' σ' H') ∧ ∀ x H', (ItrS lo c n).yld i H x H' → g x σ H' fun σ2 H2 => tb { D with nx := N, ct := N, bk := D.nx } σ2 H2) := by
  refine ⟨fun i m σ H => m = n - i ∧ i ≤ n ∧ Pv i σ H, ⟨n, by simp, Nat.zero_le _, h0⟩, ?_⟩
  rintro i m σ H ⟨rfl, hi, p⟩
  by_cases hlt : i < n
  · refine .inr ⟨hlt, Pv (i + 1), fun σ' H' p' => ⟨n - (i + 1), by omega, rfl, hlt, p'⟩, fun x H' y => ?_⟩
    obtain ⟨e, y⟩ := y
    subst e y
    exact hs i σ _ hlt p
  · have e : i = n := by omega
    subst e
    exact .inl ⟨Nat.le_refl _, hd σ H p⟩
end

/-! ### a def of the top, as a caller wants it -/
/-- the def called x keeps the promise sp, at k frames -/
structure FnAt (P : Program) (w : World) (K : PySem.W.Frag) (mg : Str → Option Value) (base : Heap) (CX : CXT) (k : Nat) (x : Str) (ps : List Str) (sp : Sp) : Prop where
  ex : ∃ (f : Addr) (fd : FuncData), FnOk P w K mg base CX k f fd ps sp ∧ mg x = some (.ref f) ∧ PySem.W.keepIn K (.ref f) = true ∧ Binds K fd ps []
/-- the def called x stands in the text as st -/
structure DefAt (K : PySem.W.Frag) (mg : Str → Option Value) (x : Str) (st : Stmt) : Prop where
  ex : ∃ (f : Addr) (fd : FuncData), Fun K x x st f fd ∧ mg x = some (.ref f)
theorem DefAt.mk' {K : PySem.W.Frag} {h : Heap} {mg : Str → Option Value} {x : Str} {st : Stmt} {f : Addr} {oc : Value} {od an : Option Addr} {osl : Array (Option Value)} {kV doc pm cdv ct : Value} (X : K.In h) (G : h.Ns mainGlobals mg)
    (a : PySem.W.nsIn K mainGlobals x = some (some (.ref f))) (l : K.lookup f = some ⟨oc, od, .func (PySem.W.fnOf x x (defArgs st) (defBody st) (defScope st) .none kV doc pm an cdv ct), osl⟩)
    (c : PySem.W.codeIn K cdv x = true) (k : PySem.W.keepIn K (.ref f) = true) : DefAt K mg x st := ⟨f, _, fun_mk (st := st) l c k, PySem.W.mg_of X G a⟩
section
variable {P : Program} {w : World} {K : PySem.W.Frag} {mg : Str → Option Value} {base : Heap}
/-- THE RULE for a def of the top -/
theorem DefAt.ok {x : Str} {st : Stmt} {N ps : List Str} {k : Nat} {sp : Sp} (D : DefAt K mg x st) (S : FnScope N ps (defScope st)) (len : ∀ vs H Q E, sp vs H Q E → vs.length = ps.length)
    (hb : ∀ (kV doc pm : Value) (an : Option Addr) (cdv ct : Value) (us : List Value), us.length = ps.length → bindArgs (PySem.W.fnOf x x (defArgs st) (defBody st) (defScope st) .none kV doc pm an cdv ct) ⟨us, []⟩ = pure (ps.zip us))
    (hbody : ∀ (f : Addr) (cdv : Value) (A : Around) (outer : List Env) (s : Shared) (H : Hp) (vs : List V) (Q : VK) (E : XK), Room k (A.deeper (envOfC x (defScope st) s.heap.objs.size f cdv)) → sp vs H Q E →
      ∃ t, PSs (cxOf CX0 P w K mg base N x (defScope st) f cdv A outer s H E).nox (defBody st) t ∧ t { nx := fun _ H' => Q .non H', rt := Q } (start N vs) H) : FnAt P w K mg base CX0 (k + 1) x ps sp := by
  obtain ⟨f, fd, F, m⟩ := D.ex
  exact ⟨f, fd, F.ok S len fun cdv A outer s H vs Q E hr h => hbody f cdv A outer s H vs Q E hr h, m, F.kp, F.binds hb⟩
end
section
variable {X : Cx} {CX : CXT} {k j : Nat} {ps : List Str} {sp : Sp} {E : XK} {x : Str} {p pos : Pos} {e : Expr} {es : List Expr} {t : TA}
theorem pe_fn (F : FnAt X.prog X.w X.K X.mg X.base CX j x ps sp) (hr : Room k X.A) (hg : Gl X x) (hx : Passes CX X E) (ha : PA X (e :: es) t) (hj : j ≤ k := by decide)
    (hdb : (x == ("__debug__" : Str)) = false := by decide) (he : starEach (e :: es) X.env = (false, eval e X.env) :: starEach es X.env := by rfl) (hpl : (backTo pos (starEach es X.env)).any (·.1) = false := by rfl) :
    PE X (.Call (.Name x p) (e :: es) [] pos) (tCall sp [] E t) := by
  obtain ⟨f, fd, G, m, kp, b⟩ := F.ex
  exact pe_call G (hr.mono hj) hg m kp b .nil hx ha hdb he hpl
end
end L2
namespace L2
open PySem PySem.Spec PyProof.Rows
/-! ### kinds of values, for isinstance -/
/-- the name of a tracked thing's type -/
def tyH : Option HO → Option String
  | some (.lst _) => some "list"
  | some (.frz _ (.lst _)) => some "list"
  | some (.tup _) => some "tuple"
  | some (.dK _) => some "dict"
  | some (.dT _) => some "dict"
  | _ => none
/-- the name of a value's type, as far as the abstract heap knows it -/
def tyS (H : Hp) : V → Option String
  | .non => some "NoneType"
  | .bl _ => some "bool"
  | .int _ => some "int"
  | .str _ => some "str"
  | .ref a => tyH (H a)
  | _ => none
theorem tyH_cases {o : Option HO} {n : String} (h : tyH o = some n) :
    (n = "list" ∧ ((∃ xs, o = some (.lst xs)) ∨ ∃ ob xs, o = some (.frz ob (.lst xs)))) ∨ (n = "tuple" ∧ ∃ xs, o = some (.tup xs)) ∨ (n = "dict" ∧ ((∃ kvs, o = some (.dK kvs)) ∨ ∃ kvs, o = some (.dT kvs))) := by
  cases o with
  | none => cases h
  | some u =>
    cases u with
    | lst xs => cases h; exact .inl ⟨rfl, .inl ⟨xs, rfl⟩⟩
    | tup xs => cases h; exact .inr (.inl ⟨rfl, xs, rfl⟩)
    | dK kvs => cases h; exact .inr (.inr ⟨rfl, .inl ⟨kvs, rfl⟩⟩)
    | dT kvs => cases h; exact .inr (.inr ⟨rfl, .inr ⟨kvs, rfl⟩⟩)
    | frz ob v =>
      cases v with
      | lst xs => cases h; exact .inl ⟨rfl, .inr ⟨ob, xs, rfl⟩⟩
      | _ => cases h
    | _ => cases h
theorem tyOf_of {K : PySem.W.Frag} {H : Hp} {v : V} {n : String} (h : tyS H v = some n) : TyOf K H v (.type n) := by
  cases v with
  | non => cases h; exact .non
  | bl b => cases h; exact .bl b
  | int i => cases h; exact .int i
  | str x => cases h; exact .str x
  | byt b => cases h
  | flt b => cases h
  | ty b => cases h
  | ref a =>
    rcases tyH_cases (show tyH (H a) = some n from h) with ⟨rfl, ⟨xs, e⟩ | ⟨ob, xs, e⟩⟩ | ⟨rfl, xs, e⟩ | ⟨rfl, ⟨kvs, e⟩ | ⟨kvs, e⟩⟩
    · exact .lst e
    · exact .frz e
    · exact .tup e
    · exact .dK e
    · exact .dT e
def subS (n m : String) : Bool := n == m || (n == "bool" && m == "int")
theorem kit_tt {K : PySem.W.Frag} {n m : String} (hn : n ∈ ["NoneType", "bool", "int", "str", "list", "tuple", "dict"]) (hm : m ∈ ["int", "bool", "str", "list", "tuple", "dict"]) :
    PySem.W.kitOne K (.type n) (.type m) = some (subS n m) := by
  simp only [List.mem_cons, List.not_mem_nil, or_false] at hn hm
  rcases hn with rfl | rfl | rfl | rfl | rfl | rfl | rfl <;> rcases hm with rfl | rfl | rfl | rfl | rfl | rfl <;> first | rfl | (with_unfolding_all rfl) | decide +kernel
theorem Same.upd {H : Hp} {p : Addr} {o : HO} (h : H p = none) : Same H (upd H p o) := fun b u e => by
  rw [upd_ne (ne_of_none e h)]; exact e
end L2
namespace L2
open PySem PySem.Spec PyProof.Rows
/-! ### exceptions: what lies behind a call that raises -/
section
variable {P : Program} {w : World} {H H' : Hp} {h h' : Heap} {a : Addr} {o : HO}
theorem ObjOk.there (x : ObjOk P w H h a o) : ∃ ob, h.get? a = some ob := by
  cases o with
  | lst xs => obtain ⟨_, _, _, _, e⟩ := x; exact ⟨_, e⟩
  | tup xs => obtain ⟨_, _, _, ob, e, _⟩ := x; exact ⟨ob, e⟩
  | dK kvs => obtain ⟨_, _, _, _, ob, _, _, e, _⟩ := x; exact ⟨ob, e⟩
  | dT kvs => obtain ⟨_, _, _, _, ob, _, _, e, _⟩ := x; exact ⟨ob, e⟩
  | set S n => obtain ⟨ob, _, _, _, e, _⟩ := x; exact ⟨ob, e⟩
  | ins C dx fs => obtain ⟨_, _, _, e, _⟩ := x; exact ⟨_, e⟩
  | own y => obtain ⟨ob, e⟩ := x; exact ⟨ob, e⟩
  | xd fs => obtain ⟨_, ⟨ob, _, _, e, _⟩, _⟩ := x; exact ⟨ob, e⟩
  | rng lo hi => obtain ⟨_, _, _, e⟩ := x; exact ⟨_, e⟩
  | frz ob u => obtain ⟨e, _⟩ := x; exact ⟨_, e⟩
  | tbl ps => exact ⟨_, (show h.get? a = some _ from x)⟩
  | met f y => exact ⟨_, (show h.get? a = some _ from x)⟩
  | ext φ => obtain ⟨_, ⟨ob, e⟩, _⟩ := x; exact ⟨ob, e⟩
theorem HOk.via (x : HOk P w H h) (k : ∀ b u ob, H b = some u → h.get? b = some ob → h'.get? b = some ob) : HOk P w H h' := fun b u e =>
  (x b u e).stay (fun c ob hc q => by
    rcases hc with z | z
    · subst z; exact k c u ob e q
    · exact k c _ ob z q) (fun _ q => q) fun _ _ q => q
end
/-- all but the exception's own records is as it was; B holds it all -/
structure Kp (P : Program) (w : World) (outer : List Env) (H : Hp) (h : Heap) (H' : Hp) (h' : Heap) (B : Heap) : Prop where
  hok : HOk P w H' h'
  un : Un (frs outer) [] H H' h h'
  old : ∀ b o, h.get? b = some o → H b = none → b ∉ frs outer → B.get? b = some o
  has : ∀ b o, h.get? b = some o → b ∉ frs outer → ∃ o', B.get? b = some o'
  trk : ∀ b u, H' b = some u → ∃ o, h'.get? b = some o ∧ B.get? b = some o
section
variable {X : Cx} {pins : List (Addr × Obj)} {σ : St} {H1 H2 : Hp} {s1 : Shared} {h2 h3 B : Heap} {a : Addr} {C a0 : Value} {vs : List Value}
/-- made and thrown here -/
theorem Kp.raise (I : Inv X pins σ H1 s1) (hx : Heap.MadeExcOf s1.heap h2 a C vs) : Kp X.prog X.w X.stack H1 s1.heap H1 h2 (PySem.W.hideAll s1.heap (frs X.stack)) where
  hok := I.hok.kept hx.keeps
  un := Un.kept hx.keeps
  old := fun b o e _ hb => PySem.W.hideAll_get _ e hb
  has := fun b o e hb => ⟨o, PySem.W.hideAll_get _ e hb⟩
  trk := fun b u e => by
    obtain ⟨o, q⟩ := (I.hok b u e).there
    refine ⟨o, hx.keeps b o q, PySem.W.hideAll_get _ q fun hb => ?_⟩
    rw [I.stkFree b hb] at e; cases e
/-- up to slots, and B kept: the same state for the frame at hand -/
theorem Kp.slots (I : Inv X pins σ H1 s1) (K : Kp X.prog X.w X.stack H1 s1.heap H2 h2 B) (st : B.StaysIn h3) (sl : h2.UpToSlots h3) : Kp X.prog X.w X.stack H1 s1.heap H2 h3 B := by
  have trk3 : ∀ b u, H2 b = some u → ∃ o, h3.get? b = some o ∧ B.get? b = some o := fun b u e => by
    obtain ⟨o, _, q⟩ := K.trk b u e
    exact ⟨o, st b o q, q⟩
  have fr : ∀ b o, s1.heap.get? b = some o → H1 b = none → b ∈ frs X.stack → ∃ sl, h3.get? b = some { o with slots := sl } := fun b o e n hb => by
    obtain ⟨sl1, e1⟩ := K.un.slot b o e n hb (by simp)
    obtain ⟨_, o', e', d⟩ := I.stack.mem hb
    rw [e] at e'
    cases e'
    obtain ⟨sl2, e2⟩ := sl b _ e1 d
    exact ⟨sl2, e2⟩
  refine ⟨K.hok.via fun b u ob e q => ?_, ⟨fun b o e n hb _ => st b o (K.old b o e n hb), fun b o e n hb _ => fr b o e n hb, K.un.free, fun b o e hx => ?_, K.un.tups, K.un.frzs, K.un.tbls⟩, K.old, K.has, trk3⟩
  · obtain ⟨o, q1, q2⟩ := K.trk b u e
    rw [q] at q1
    cases q1
    exact st b ob q2
  · by_cases hb : b ∈ frs X.stack
    · obtain ⟨sl1, e1⟩ := fr b o e (I.stkFree b hb) hb
      exact ⟨_, e1⟩
    · obtain ⟨o', e'⟩ := K.has b o e hb
      exact ⟨o', st b o' e'⟩
end
/-- an exception of class C flies behind a call; E says what is wanted of it -/
def CXE (P : Program) (w : World) : CXT := fun outer H s E e s' => ∃ (a : Addr) (C : Value) (H' : Hp) (B : Heap) (a0 : Value),
  e = .ref a ∧ s'.os = s.os ∧ AllBare s'.gens ∧ Kp P w outer H s.heap H' s'.heap B ∧ Heap.FlyingW B outer a C a0 s'.heap ∧ E C none H'
section
variable {P : Program} {w : World} {K : PySem.W.Frag} {mg : Str → Option Value} {base : Heap} {N : List Str} {qual : Str} {scope : Scope} {f : Addr} {cd : Value} {A : Around} {outer : List Env} {s : Shared} {H : Hp} {E : XK}
end
/-! ### raise C(..), C a class of the text under a built-in error, without an __init__ -/
section
variable {X : Cx} {E : XK} {C : Addr} {B newId initId : String} {bmB : List Value} {x : Str} {np cpos pos : Pos} {e₀ : Expr} {rest : List Expr} {t : TA}
end
end L2
namespace L2
open PySem PySem.Spec PyProof.Rows
/-! ### try: .. except C as n: .. -/
section
variable {X : Cx} {pins : List (Addr × Obj)} {σ : St} {H H1 H2 : Hp} {s s1 s2 : Shared} {B : Heap}
theorem Kp.inv (I : Inv X pins σ H1 s1) (K : Kp X.prog X.w X.stack H1 s1.heap H2 s2.heap B) (os : s2.os = s1.os) (bare : AllBare s2.gens) : Inv X pins σ H2 s2 :=
  I.call' os K.un K.hok bare fun b z => absurd z (by simp)
/-- the context of an except suite -/
abbrev Cx.hand (X : Cx) (a : Addr) : Cx := { X with A := X.A.mark (some (.ref a)), calm := false, xe := fun _ _ => False }
theorem Inv.hand (I : Inv X pins σ H s) (a : Addr) : Inv (X.hand a) pins σ H s :=
  ⟨⟨I.ok.mod, I.ok.kind, I.ok.glob, I.ok.blt, I.ok.above, I.ok.inj, I.ok.has, I.ok.cab, fun z => (Bool.false_ne_true z).elim, I.ok.frames, I.ok.stk, I.ok.exf, I.ok.bs, I.ok.bsz, I.ok.noex, I.ok.exfs, I.ok.funs, I.ok.frf⟩,
    I.os, I.bare, I.base, I.loc, I.cell, I.free, I.freeC, I.pin, I.hok, I.len⟩
end
section
variable {X : Cx} {k j : Nat} {ps : List Str} {sp : Sp} {x : Str} {p pos : Pos} {e : Expr} {es : List Expr} {t : TA}
theorem PA.nox {es : List Expr} {t : TA} (h : PA X.nox es t) : PA X es t := fun pos pins s σ H Q I hw =>
  wpAny_mono (h pos pins s σ H Q (I.wish _) hw) (fun us s' ⟨vs, H', I', r, q⟩ => ⟨vs, H', I'.unwish, r, q⟩) fun _ _ z => z.elim
end
section
variable {X : Cx} {pins : List (Addr × Obj)} {σ : St} {H : Hp} {s : Shared} {a : Addr} {o : HO}
/-- a thing that lies in the heap, younger than the entry, is tracked from here on -/
theorem Inv.track (I : Inv X pins σ H s) (hn : H a = none) (hnew : X.s₀.heap.get? a = none) (hL : a ≠ X.env.locals) (hC : ∀ x c, X.env.cells.lookup x = some c → c ≠ a) (hP : ∀ p ∈ X.pn ++ pins, p.1 ≠ a)
    (ho : ObjOk X.prog X.w (upd H a o) s.heap a o) : Inv X pins σ (upd H a o) s := by
  have ne : ∀ b u, H b = some u → b ≠ a := fun b u e z => by rw [z, hn] at e; cases e
  refine ⟨I.ok, I.os, I.bare, ⟨I.base.keep, I.base.slot, fun b ob e n hx => ?_, I.base.there, fun b xs e => ?_, fun b ob u e => ?_, fun b ps e => ?_⟩, I.loc, I.cell, ?_, fun x c e => ?_, fun p hp => ?_, fun b u e => ?_, I.len⟩
  · rw [upd_ne (fun z => by rw [z, hnew] at e; cases e)]
    exact I.base.free b ob e n hx
  · have q := I.base.tups b xs e
    rw [upd_ne (ne b _ q)]; exact q
  · have q := I.base.frzs b ob u e
    rw [upd_ne (ne b _ q)]; exact q
  · obtain ⟨m, q⟩ := I.base.tbls b ps e
    exact ⟨m, by rw [upd_ne (ne b _ q)]; exact q⟩
  · rw [upd_ne (Ne.symm hL)]; exact I.free
  · rw [upd_ne (hC x c e)]; exact I.freeC x c e
  · obtain ⟨e1, e2, e3⟩ := I.pin p hp
    exact ⟨e1, by rw [upd_ne (hP p hp)]; exact e2, e3⟩
  · by_cases z : b = a
    · subst z; rw [upd_same] at e; cases e; exact ho
    · rw [upd_ne z] at e
      exact (I.hok b u e).stay (fun _ _ _ q => q) (fun c q => by rw [upd_ne (ne c _ q)]; exact q) fun c xs q => by rw [upd_ne (ne c _ q)]; exact q
end
section
variable {X : Cx} {x n : Str} {C' : Addr} {i : Nat} {np pos : Pos} {b₀ : Stmt} {suite : List Stmt} {rest : List ExceptHandler} {ts : TS} {tr : Value → TS}
end
end L2
namespace L2
open PySem PySem.Spec PyProof.Rows PySem.W PySem.Builtin PySem.Builtin.ObjectAttr PySem.Builtin.Getset_descriptor
/-! ### isinstance of a caught exception -/
section
variable {prog : Program} {w : World} {A : Around} {E : Value → Shared → Prop}
/-- what isinstance asks of the class of a caught exception -/
structure ExcK (K : Frag) (C : Addr) : Prop where
  ga : findIn K (.ref C) "__getattribute__" = some (some (.builtin "BaseException.__getattribute__"))
  g2 : findIn K (.ref C) "__getattr__" = some none
  cl : findIn K (.ref C) "__class__" = some (some (.builtin "object.__class__"))
  mB : mroIn K C (.type "BaseException") = some true
  mO : mroIn K C (.type "object") = some true
theorem ExcK.cls {K : Frag} {C : Addr} (k : ExcK K C) : ∃ c d cd sl, K.lookup C = some ⟨c, d, .cls cd, sl⟩ := by
  have h := k.mO
  unfold mroIn clsIn at h
  split at h
  · rename_i c d cd sl e; exact ⟨c, d, cd, sl, e⟩
  · cases h
end
section
variable {X : Cx}
theorem refs_of : ∀ {Ds : List Addr} {its : List Value}, Vals (Ds.map V.ref) its → its = Ds.map Value.ref
  | [], _, .nil => rfl
  | D :: Ds, _, .cons z zs => by cases z; rw [List.map_cons, refs_of zs]
end
end L2
namespace L2
open PySem PySem.Spec PyProof.Rows
/-! ### a list comprehension of one for, with at most one if: its block is a context of its own within the def's -/
/-- the cells that a block takes from around it -/
def closOf (cells : List (Str × Addr)) : List (Str × NameKind) → List (Str × Addr) → List (Str × Addr)
  | [], cs => cs
  | x :: r, cs => closOf cells r (if x.2 == .free then (match cells.lookup x.1 with | some a => (x.1, a) :: cs | none => cs) else cs)
theorem closureFor_eq {scope : Scope} {env : Env} (h : ∀ x ∈ scope.names, x.2 = .free → ∃ a, env.cells.lookup x.1 = some a) : closureFor scope env = pure (closOf env.cells scope.names []) := by
  have aux : ∀ (names : List (Str × NameKind)) (cs : List (Str × Addr)), (∀ x ∈ names, x.2 = .free → ∃ a, env.cells.lookup x.1 = some a) →
      (forIn (m := Sem) names cs fun x r => do
        if (x.2 == NameKind.free) = true then do
          let a ← cellOf env x.1
          pure (ForInStep.yield ((x.1, a) :: r))
        else pure (ForInStep.yield r)) = pure (closOf env.cells names cs) := by
    intro names
    induction names with
    | nil => intro cs _; rfl
    | cons x r ih =>
      intro cs hx
      rw [List.forIn_cons]
      cases hk : (x.2 == NameKind.free) with
      | false =>
        simp only [Bool.false_eq_true, if_false, pure_bind]
        rw [ih cs fun y hy => hx y (List.mem_cons_of_mem _ hy)]
        show _ = pure (closOf env.cells r (if x.2 == .free then _ else cs))
        rw [hk]; rfl
      | true =>
        obtain ⟨a, ha⟩ := hx x List.mem_cons_self (by simpa using hk)
        have e : cellOf env x.1 = pure a := by unfold cellOf; rw [ha]
        simp only [if_true, e, pure_bind]
        rw [ih _ fun y hy => hx y (List.mem_cons_of_mem _ hy)]
        show _ = pure (closOf env.cells r (if x.2 == .free then (match env.cells.lookup x.1 with | some a => (x.1, a) :: cs | none => cs) else cs))
        rw [hk, ha]; rfl
  have h1 := aux scope.names [] h
  unfold closureFor
  simp only [bind_pure]
  exact h1
theorem closOf_sub {cells : List (Str × Addr)} : ∀ {names : List (Str × NameKind)} {cs : List (Str × Addr)}, (∀ p ∈ cs, cells.lookup p.1 = some p.2) → ∀ p ∈ closOf cells names cs, cells.lookup p.1 = some p.2
  | [], _, h => h
  | x :: r, cs, h => closOf_sub (names := r) fun p hp => by
    split at hp
    · split at hp
      · rename_i a ha
        rcases List.mem_cons.mp hp with rfl | hp
        · exact ha
        · exact h p hp
      · exact h p hp
    · exact h p hp
theorem closOf_mono {cells : List (Str × Addr)} : ∀ {names : List (Str × NameKind)} {cs : List (Str × Addr)} {p : Str × Addr}, p ∈ cs → p ∈ closOf cells names cs
  | [], _, _, h => h
  | x :: r, cs, p, h => closOf_mono (names := r) (by
    split
    · split
      · exact List.mem_cons_of_mem _ h
      · exact h
    · exact h)
theorem closOf_has {cells : List (Str × Addr)} {x : Str} {a : Addr} (ha : cells.lookup x = some a) : ∀ {names : List (Str × NameKind)} {cs : List (Str × Addr)}, (x, NameKind.free) ∈ names → (x, a) ∈ closOf cells names cs
  | y :: r, cs, h => by
    rcases List.mem_cons.mp h with rfl | h
    · refine closOf_mono (names := r) ?_
      simp [ha]
    · exact closOf_has ha (names := r) h
theorem lookup_mem {α : Type} {x : Str} {v : α} : ∀ {l : List (Str × α)}, l.lookup x = some v → (x, v) ∈ l
  | [], h => by simp at h
  | (y, u) :: r, h => by
    rw [List.lookup_cons] at h
    cases e : x == y with
    | true => rw [e] at h; cases h; rw [beq_iff_eq.mp e]; exact List.mem_cons_self
    | false => rw [e] at h; exact List.mem_cons_of_mem _ (lookup_mem h)
theorem mem_lookup {α : Type} {x : Str} {v : α} : ∀ {l : List (Str × α)}, (x, v) ∈ l → ∃ u, l.lookup x = some u
  | (y, u) :: r, h => by
    rw [List.lookup_cons]
    cases e : x == y with
    | true => exact ⟨u, rfl⟩
    | false =>
      rcases List.mem_cons.mp h with z | z
      · cases z; simp at e
      · exact mem_lookup z
/-- a block's scope within the scope osc of names N: Tn its own names, Fn those that it takes, which stand at js -/
def compOk (osc scope : Scope) (N Tn Fn : List Str) (js : List Nat) : Bool :=
  (scope.kind == .function) && (osc.kind == .function) && (scope.names.all fun y => match y.2 with
    | .cell => false
    | .local => scope.names.lookup y.1 == some .local
    | .free => osc.names.lookup y.1 == some .cell && scope.names.lookup y.1 == some .free
    | _ => true) && (js.map (fun j => N[j]?) == Fn.map some) && (Fn.all fun x => scope.names.lookup x == some .free) && (Tn.all fun x => scope.names.lookup x == some .local) && decide (Tn ++ Fn).Nodup
structure CompScope (osc scope : Scope) (N Tn Fn : List Str) (js : List Nat) : Prop where
  kind : scope.kind = .function
  okind : osc.kind = .function
  nocell : ∀ y ∈ scope.names, y.2 ≠ .cell
  loc : ∀ y ∈ scope.names, y.2 = .local → scope.names.lookup y.1 = some .local
  fre : ∀ y ∈ scope.names, y.2 = .free → osc.names.lookup y.1 = some .cell
  idx : js.map (fun j => N[j]?) = Fn.map some
  fn : ∀ x ∈ Fn, scope.names.lookup x = some .free
  tn : ∀ x ∈ Tn, scope.names.lookup x = some .local
  nd : (Tn ++ Fn).Nodup
theorem CompScope.of {osc scope : Scope} {N Tn Fn : List Str} {js : List Nat} (h : compOk osc scope N Tn Fn js = true) : CompScope osc scope N Tn Fn js := by
  unfold compOk at h
  simp only [Bool.and_eq_true, beq_iff_eq, decide_eq_true_eq, List.all_eq_true] at h
  obtain ⟨⟨⟨⟨⟨⟨h1, h1'⟩, h2⟩, h3⟩, h4⟩, h5⟩, h6⟩ := h
  refine ⟨h1, h1', fun y hy e => ?_, fun y hy e => ?_, fun y hy e => ?_, h3, h4, h5, h6⟩
  · have := h2 y hy; rw [e] at this; cases this
  · have := h2 y hy; rw [e] at this; simpa using this
  · have := h2 y hy; rw [e] at this; simp only [Bool.and_eq_true, beq_iff_eq] at this; exact this.1
def cxIn (X : Cx) (N : List Str) (scope : Scope) (cl : List (Str × Addr)) (C : Addr) (s : Shared) (H : Hp) (fp : List Addr) : Cx :=
  { X with N := N, s₀ := s, H₀ := H, env := compEnvC scope cl C X.env, outer := X.stack, ex := fp, fn := fun _ => false, pn := [], xe := fun _ _ => False }
def innS (k : Nat) (js : List Nat) (σ : St) : St := List.replicate k none ++ js.map fun j => (σ[j]?).join
/-- the names of the block as they come to be within the def -/
theorem lookup_relabel {env : Env} (hk : env.scope.kind = .function) : ∀ {names : List (Str × NameKind)} {x : Str} {k : NameKind}, (∀ y ∈ names, y.2 = .free → env.kindOf y.1 = some .cell) → names.lookup x = some k →
    (names.map fun (n, k) => if (k == NameKind.free && env.scope.kind == .function && env.kindOf n == some .cell) then (n, NameKind.cell) else (n, k)).lookup x = some (if k = .free then .cell else k)
  | [], _, _, _, h => by simp at h
  | (n, k') :: r, x, k, hf, h => by
    have ih := @lookup_relabel env hk r x k fun y hy => hf y (List.mem_cons_of_mem _ hy)
    have h0 := hf (n, k') List.mem_cons_self
    rw [List.map_cons]
    show List.lookup x ((if (k' == NameKind.free && env.scope.kind == .function && env.kindOf n == some .cell) = true then (n, NameKind.cell) else (n, k')) :: _) = _
    rw [List.lookup_cons] at h
    by_cases hk' : k' = .free
    · subst hk'
      have e : (NameKind.free == NameKind.free && env.scope.kind == .function && env.kindOf n == some .cell) = true := by rw [h0 rfl, hk]; decide
      rw [if_pos e, List.lookup_cons]
      cases hx : x == n with
      | true => rw [hx] at h; cases h; rfl
      | false => rw [hx] at h; exact ih h
    · have e : ¬ (k' == NameKind.free && env.scope.kind == .function && env.kindOf n == some .cell) = true := by
        intro z; simp only [Bool.and_eq_true, beq_iff_eq] at z; exact hk' z.1.1
      rw [if_neg e, List.lookup_cons]
      cases hx : x == n with
      | true => rw [hx] at h; cases h; simp [hk']
      | false => rw [hx] at h; exact ih h
theorem relabel_of {env : Env} : ∀ {names : List (Str × NameKind)} {x : Str} {k : NameKind}, (names.map fun (n, k) => if (k == NameKind.free && env.scope.kind == .function && env.kindOf n == some .cell) then (n, NameKind.cell) else (n, k)).lookup x = some k →
    ∃ k', (x, k') ∈ names ∧ (k' = k ∨ (k' = .free ∧ k = .cell))
  | [], _, _, h => by simp at h
  | (n, k') :: r, x, k, h => by
    have ih := @relabel_of env r x k
    rw [List.map_cons] at h
    have h : List.lookup x ((if (k' == NameKind.free && env.scope.kind == .function && env.kindOf n == some .cell) = true then (n, NameKind.cell) else (n, k')) :: _) = some k := h
    by_cases e : (k' == NameKind.free && env.scope.kind == .function && env.kindOf n == some .cell) = true
    · rw [if_pos e, List.lookup_cons] at h
      cases hx : x == n with
      | true =>
        rw [hx] at h; cases h
        simp only [Bool.and_eq_true, beq_iff_eq] at e
        refine ⟨.free, ?_, .inr ⟨rfl, rfl⟩⟩
        rw [beq_iff_eq.mp hx, ← e.1.1]; exact List.mem_cons_self
      | false => rw [hx] at h; obtain ⟨q, m, z⟩ := ih h; exact ⟨q, List.mem_cons_of_mem _ m, z⟩
    · rw [if_neg e, List.lookup_cons] at h
      cases hx : x == n with
      | true => rw [hx] at h; cases h; refine ⟨k', ?_, .inl rfl⟩; rw [beq_iff_eq.mp hx]; exact List.mem_cons_self
      | false => rw [hx] at h; obtain ⟨q, m, z⟩ := ih h; exact ⟨q, List.mem_cons_of_mem _ m, z⟩
section
variable {X : Cx} {pins : List (Addr × Obj)} {σ : St} {H : Hp} {s : Shared} {scope : Scope} {Tn Fn : List Str} {js : List Nat} {fp : List Addr}
theorem inv_in {C : Addr} {h1 : Heap} {tk : Nat} {mC : Str → Option Value} (cs : CompScope X.env.scope scope X.N Tn Fn js) (I : Inv X pins σ H s) (hC : C = s.heap.objs.size) (hn : h1.Ns C mC) (k1 : ∀ b o, s.heap.get? b = some o → h1.get? b = some o)
    (hf : ∀ b ∈ fp, FpOk X pins H b) (ho : ∀ b ∈ fp, ∃ o, s.heap.get? b = some o) :
    Inv (cxIn X (Tn ++ Fn) scope (closOf X.env.cells scope.names []) C s H fp) (X.pn ++ pins) (innS Tn.length js σ) H { s with heap := h1, toks := tk } := by
  have hcl : ∀ x c, (closOf X.env.cells scope.names []).lookup x = some c → X.env.cells.lookup x = some c := fun x c e => closOf_sub (names := scope.names) (cs := []) (fun _ z => nomatch z) _ (lookup_mem e)
  have hlen : (js.map fun j => X.N[j]?).length = (Fn.map some).length := congrArg List.length cs.idx
  rw [List.length_map, List.length_map] at hlen
  have hfr : ∀ y ∈ scope.names, y.2 = .free → X.env.kindOf y.1 = some .cell := cs.fre
  subst hC
  refine ⟨⟨I.ok.mod, cs.kind, I.ok.glob, I.ok.blt, Nat.le_refl _, fun x y c e1 e2 => I.ok.inj x y c (hcl x c e1) (hcl y c e2), fun x hx => ?_, fun x c z => absurd z Bool.false_ne_true, I.ok.hd, I.ok.frames, .inl rfl, fun b hb => ⟨?_, fun x c e => (hf b hb).2.2.2.2.1 x c (hcl x c e)⟩, I.bs,
    Nat.le_trans I.ok.bsz I.sz, fun b o e hb => ?_, fun b hb z => ?_, I.stack, I.stkFree⟩, rfl, I.bare, Un.kept k1, ⟨mC, hn, fun i x v e1 e2 e3 => ?_⟩, fun x c e => ?_, I.fresh, fun x c e => I.freeC x c (hcl x c e), fun p hp => ?_, I.hok.kept k1, ?_⟩
  · -- has
    have hx : (relabel scope X.env).names.lookup x = some .cell ∨ (relabel scope X.env).names.lookup x = some .free := hx
    have key : (x, NameKind.free) ∈ scope.names := by
      rcases hx with hx | hx
      · obtain ⟨k', m, z⟩ := relabel_of hx
        rcases z with z | ⟨z, _⟩
        · subst z; exact absurd rfl (cs.nocell _ m)
        · subst z; exact m
      · obtain ⟨k', m, z⟩ := relabel_of hx
        rcases z with z | ⟨_, z⟩
        · subst z; exact m
        · cases z
    obtain ⟨a, ha⟩ := I.ok.has x (.inl (hfr _ key rfl))
    exact mem_lookup (closOf_has ha key)
  · obtain ⟨o, e⟩ := ho b hb
    exact Nat.ne_of_lt (Heap.lt_size e)
  · rcases (hf b hb).2.2.2.1 with z | z
    · exact I.ok.noex b o e z
    · exact absurd (Nat.lt_of_lt_of_le (Heap.lt_size (I.ok.bs b o e).1) z) (Nat.lt_irrefl _)
  · rcases List.mem_cons.mp (I.stkSub b z) with q | q
    · exact (hf b hb).2.1 q
    · exact (hf b hb).2.2.1 q
  · -- names
    have e1 : (Tn ++ Fn)[i]? = some x := e1
    have e2 : (List.replicate Tn.length none ++ js.map fun j => (σ[j]?).join)[i]? = some (some v) := e2
    by_cases hi : i < Tn.length
    · rw [List.getElem?_append_left (by simpa using hi), List.getElem?_replicate] at e2
      split at e2 <;> cases e2
    · rw [List.getElem?_append_right (by simpa using hi)] at e2
      rw [List.getElem?_append_right (by simpa using hi)] at e1
      rw [List.length_replicate, List.getElem?_map] at e2
      cases ej : js[i - Tn.length]? with
      | none => rw [ej] at e2; cases e2
      | some j =>
        rw [ej] at e2
        have e2 : (σ[j]?).join = some v := by simpa using e2
        have e2' : σ[j]? = some (some v) := by
          cases q : σ[j]? with
          | none => rw [q] at e2; cases e2
          | some o => rw [q] at e2; cases o with
            | none => cases e2
            | some v' => cases e2; rfl
        have ej' : X.N[j]? = some x := by
          have h0 : (js.map fun j => X.N[j]?)[i - Tn.length]? = (Fn.map some)[i - Tn.length]? := by rw [cs.idx]
          rw [List.getElem?_map, ej, List.getElem?_map, e1] at h0
          simpa using h0
        have hx : scope.names.lookup x = some .free := cs.fn x (List.mem_of_getElem? e1)
        have hox : X.env.kindOf x = some .cell := hfr _ (lookup_mem hx) rfl
        obtain ⟨m, hm, hl⟩ := I.loc
        obtain ⟨u, r, l⟩ := hl j x v ej' e2' (.inr (.inl hox))
        refine ⟨u, r, .inr ⟨.inl ?_, ?_⟩⟩
        · show (relabel scope X.env).names.lookup x = some .cell
          have z := lookup_relabel (env := X.env) cs.okind (names := scope.names) hfr hx
          rw [if_pos rfl] at z
          exact z
        · rcases l with ⟨k, _⟩ | ⟨_, c, ec, z⟩
          · rw [hox] at k; cases k
          · obtain ⟨c', e'⟩ := mem_lookup (closOf_has (cs := []) ec (lookup_mem hx))
            have : c' = c := Option.some.inj ((hcl x c' e').symm.trans ec)
            subst this
            obtain ⟨o, q1, q2⟩ := z
            exact ⟨c', e', o, k1 _ _ q1, q2⟩
  · obtain ⟨v, o, q1, q2⟩ := I.cell x c (hcl x c e)
    exact ⟨v, o, k1 _ _ q1, q2⟩
  · have hp : p ∈ ([] : List (Addr × Obj)) ++ (X.pn ++ pins) := hp
    rw [List.nil_append] at hp
    obtain ⟨e, n, ne, nf, d⟩ := I.pin p hp
    refine ⟨k1 _ _ e, n, Nat.ne_of_lt (Heap.lt_size e), fun z => ?_, d⟩
    rcases List.mem_cons.mp (I.stkSub p.1 z) with q | q
    · exact ne q
    · exact nf q
  · show (List.replicate Tn.length none ++ js.map fun j => (σ[j]?).join).length = (Tn ++ Fn).length
    rw [List.length_append, List.length_append, List.length_replicate, List.length_map, hlen]
/-- the block's own names may be let go -/
structure CFree (X : Cx) (pins : List (Addr × Obj)) (C : Addr) : Prop where
  nl : C ≠ X.env.locals
  yg : X.s₀.heap.objs.size ≤ C
  nc : ∀ x c, X.env.cells.lookup x = some c → c ≠ C
  np : ∀ p ∈ X.pn ++ pins, p.1 ≠ C
theorem Inv.letgo {C : Addr} {h2 : Heap} (I : Inv X pins σ H s) (hn : H C = none) (c : CFree X pins C) (sb : Heap.SameBut C s.heap h2) : Inv X pins σ H { s with heap := h2 } :=
  I.turned (t' := s.toks) (it := C) (fun b o hb e => (sb.2 b hb).trans e) hn c.nl (.inr c.yg) c.nc c.np
theorem Inv.cfree {C : Addr} (I : Inv X pins σ H s) (hC : C = s.heap.objs.size) : CFree X pins C := by
  refine ⟨by rw [hC]; exact Nat.ne_of_gt I.lt, by rw [hC]; exact I.sz, fun x c e z => ?_, fun p hp z => ?_⟩
  · obtain ⟨v, q⟩ := I.cell x c e
    have := q.lt
    rw [z, hC] at this; exact absurd this (Nat.lt_irrefl _)
  · have := Heap.lt_size (I.pin p hp).1
    rw [z, hC] at this; exact absurd this (Nat.lt_irrefl _)
/-- out of the block again -/
theorem inv_out {C : Addr} {cl : List (Str × Addr)} {N : List Str} {σ' : St} {H' : Hp} {pins' : List (Addr × Obj)} {s' : Shared} (I : Inv X pins σ H s) (hf : ∀ b ∈ fp, FpOk X pins H b) (J : Inv (cxIn X N scope cl C s H fp) pins' σ' H' s') : Inv X pins σ H' s' :=
  I.call' (ch := fp) J.os J.base J.hok J.bare fun b hb => ⟨(hf b hb).2.2.2.1, (hf b hb).2.1, (hf b hb).2.2.2.2.1, (hf b hb).2.2.2.2.2⟩
end
/-! the loop of the block -/
section
variable {prog : Program} {w : World} {A : Around} {s : Shared}
theorem compLoop_go {elt target iter : Expr} {ifs : List Expr} {scope : Scope} {pos : Pos} {it acc : Value} {env : Env} {R : Result → Shared → Prop} (I : Nat → Shared → Prop)
    (turn : ∀ n s, I n s → wpAny (model prog w) A (pyNext it) (fun r s₁ => match r with
      | none => R (.ok .next) s₁
      | some v => wpAny (model prog w) A (letOwnedTupleGo target it v) (fun _ s₀ => wpAny (model prog w) A (assign target env v) (fun _ s₂ =>
          wpAny (model prog w) A (forIn ifs true fun c r => if r = true then do let ok ← isTrue c env (eval c env); pure (ForInStep.yield ok) else pure (ForInStep.yield r)) (fun ok s₃ =>
            if ok = true then wpAny (model prog w) A (eval elt env) (fun x s₄ =>
              wpAny (model prog w) A (call (.builtin "list.append") [acc, x]) (fun _ s₅ => ∃ m, m < n ∧ I m s₅) (fun _ _ => False) s₄) (fun _ _ => False) s₃
            else ∃ m, m < n ∧ I m s₃) (fun _ _ => False) s₂) (fun _ _ => False) s₀) (fun _ _ => False) s₁) (fun _ _ => False) s)
    (n : Nat) (h : I n s) : codeAny (model prog w) A (.compLoop (.ListComp elt [⟨target, iter, ifs, 0⟩] scope pos) 0 it acc env) R s := by
  refine codeAny_loop rfl I (fun n s hI => ?_) n h
  show wpAny _ A ((compTurn (.ListComp elt [⟨target, iter, ifs, 0⟩] scope pos) 0 it acc env).onRaise (fun x => do noteFrame x env; theTreesLotGoes x)) _ _ s
  refine wpAny_noted ?_
  rw [compTurn_list]
  refine wpAny_bind (wpAny_standAt (wpAny_bind (wpAny_mono (turn n s hI) (fun r s₁ h₁ => ?_) fun _ _ h' => h'.elim)))
  cases r with
  | none => exact wpAny_pure h₁
  | some v =>
    refine wpAny_bind (wpAny_mono h₁ (fun _ s₀ h₀' => ?_) fun _ _ h' => h'.elim)
    refine wpAny_bind (wpAny_mono h₀' (fun _ s₂ h₂ => wpAny_bind (wpAny_mono h₂ (fun ok s₃ h₃ => ?_) fun _ _ h' => h'.elim)) fun _ _ h' => h'.elim)
    cases ok with
    | false => exact wpAny_pure ⟨rfl, h₃⟩
    | true =>
      exact wpAny_bind (wpAny_bind (wpAny_mono h₃ (fun x s₄ h₄ => wpAny_bind (wpAny_mono h₄ (fun _ s₅ h₅ => wpAny_pure (wpAny_pure ⟨rfl, h₅⟩)) fun _ _ h' => h'.elim)) fun _ _ h' => h'.elim))
end
/-- the tests of a block: none, or one -/
def PIfs (X : Cx) (ifs : List Expr) (t : TT) : Prop :=
  ∀ (pins : List (Addr × Obj)) (s : Shared) (σ : St) (H : Hp) (Q : Bool → Hp → Prop), Inv X pins σ H s → t σ H Q →
    wpAny (model X.prog X.w) X.A (forIn ifs true fun c r => if r = true then do let ok ← isTrue c X.env (eval c X.env); pure (ForInStep.yield ok) else pure (ForInStep.yield r)) (TP X pins σ Q) X.xe s
abbrev tTrue : TT := fun _ H Q => Q true H
theorem pif_none {X : Cx} : PIfs X [] tTrue := fun _ _ _ H _ I h => wpAny_tests_nil ⟨H, I, h⟩
/-- what a block does: the iterator's turns, the list at D grows -/
def tBlock (J : It) (g : TG) (tc : TT) (te : TE) (D : Addr) (Z : Hp → Prop) (σ : St) (H : Hp) : Prop :=
  ∃ W : Nat → Nat → St → Hp → Prop, (∃ m, W 0 m σ H) ∧ ∀ i m σ H, W i m σ H →
    (J.stop i H ∧ Z H) ∨ (J.go i H ∧ ∃ N : St → Hp → Prop, (∀ σ' H', N σ' H' → ∃ m', m' < m ∧ W (i + 1) m' σ' H') ∧
      ∀ x H', J.yld i H x H' → g x σ H' fun σ2 H2 => tc σ2 H2 fun b H3 => if b = true then te σ2 H3 fun y H4 => ∃ ys, H4 D = some (.lst ys) ∧ ys.length < sizeLine ∧ N σ2 (upd H4 D (.lst (ys ++ [y]))) else N σ2 H3)
section
variable {X : Cx} {scope : Scope} {Tn Fn : List Str} {js : List Nat} {tg iter elt : Expr} {ifs : List Expr} {wi : TI} {g : TG} {tc : TT} {te : TE} {pos : Pos}
theorem block_run {pins : List (Addr × Obj)} {σ : St} {H2 : Hp} {s2 : Shared} {it : Addr} {fp : List Addr} {tn : Nat → Heap → Prop} {J : It} {Z : Addr → Hp → Prop} {RR : Value → Addr → Result → Shared → Prop} {E : Value → Shared → Prop} (hc : X.calm = true)
    (cs : CompScope X.env.scope scope X.N Tn Fn js)
    (hg : ∀ C s H fp, PG (cxIn X (Tn ++ Fn) scope (closOf X.env.cells scope.names []) C s H fp) tg g) (ht : ∀ C s H fp, PIfs (cxIn X (Tn ++ Fn) scope (closOf X.env.cells scope.names []) C s H fp) ifs tc)
    (he : ∀ C s H fp, PE (cxIn X (Tn ++ Fn) scope (closOf X.env.cells scope.names []) C s H fp) elt te)
    (I2 : Inv X pins σ H2 s2) (T : Turn X.prog X.w X.K tg J fp it tn) (st2 : tn 0 s2.heap) (f2 : ∀ b ∈ fp, FpOk X pins H2 b)
    (hb : ∀ D, H2 D = none → tBlock J g tc te D (Z D) (innS Tn.length js σ) (upd H2 D (.lst [])))
    (fin : ∀ D C s' H' m, s'.heap.Ns C m → Inv X pins σ H' s' → H' C = none → CFree X pins C → Z D H' → RR (.ref D) C (.ok .next) s') :
    wpAny (model X.prog X.w) X.A (newList []) (fun acc s₃ => wpAny (model X.prog X.w) X.A (newFunctionEnv scope X.env.globals (closOf X.env.cells scope.names []) [] X.env.qual none .none (some X.env)) (fun cenv s₄ =>
      codeAny (model X.prog X.w) X.A (.compStart (.ListComp elt [⟨tg, iter, ifs, 0⟩] scope pos) 0 (.ref it) acc { cenv with scope := relabel scope X.env }) (RR acc cenv.locals) s₄) E s₃) E s2 := by
  refine wpAny_newObj_type (wpAny_newFunctionEnv cs.nocell (by intro y hy; simp at hy) (fun h₁ hns₁ hsb₁ => ?_) cs.kind)
  dsimp only at hns₁ hsb₁ ⊢
  have I3 := I2.lnew (its := []) (ys := []) (t' := s2.toks) .nil (Nat.zero_le _)
  have fD : H2 s2.heap.objs.size = none := I2.fresh
  obtain ⟨W, ⟨m0, w0⟩, turn⟩ := hb _ fD
  generalize hH2 : s2.heap.push { cls := .type "list", dict := none, data := .seq ([] : List Value).toArray } = g2 at hns₁ hsb₁ I3 ⊢
  have up2 : ∀ b o, s2.heap.get? b = some o → g2.get? b = some o := fun b o e => hH2 ▸ Heap.get?_push_of_some _ e
  generalize hD : s2.heap.objs.size = D at *
  have up3 : ∀ b o, g2.get? b = some o → h₁.get? b = some o := fun b o e => hsb₁.extBut b o (Nat.ne_of_lt (Heap.lt_size e)) (Heap.get?_push_of_some _ e)
  have hob : ∀ b ∈ fp, ∃ o, s2.heap.get? b = some o := fun b hb => let ⟨o, e, _⟩ := T.obj 0 _ st2 b hb; ⟨o, e⟩
  have neD : ∀ b ∈ fp, b ≠ D := fun b hb => by
    obtain ⟨o, e⟩ := hob b hb
    rw [← hD]; exact Nat.ne_of_lt (Heap.lt_size e)
  have f3 : ∀ b ∈ fp, FpOk X pins (upd H2 D (.lst [])) b := fun b hb => ⟨by rw [upd_ne (neD b hb)]; exact (f2 b hb).1, (f2 b hb).2⟩
  have J0 := inv_in (fp := fp) (tk := s2.toks + ([] : List (Str × Value)).length) cs I3 rfl hns₁ up3 f3 fun b hb => let ⟨o, e⟩ := hob b hb; ⟨o, up2 b o e⟩
  have tn0 : tn 0 h₁ := T.keep _ _ _ st2 fun b hb o e => up3 b o (up2 b o e)
  have cf : CFree X pins g2.objs.size := I3.cfree rfl
  generalize hX' : cxIn X (Tn ++ Fn) scope (closOf X.env.cells scope.names []) g2.objs.size { s2 with heap := g2, toks := s2.toks } (upd H2 D (.lst [])) fp = X' at J0
  have eP : X'.prog = X.prog := by rw [← hX']; rfl
  have ew : X'.w = X.w := by rw [← hX']; rfl
  have eK : X'.K = X.K := by rw [← hX']; rfl
  have eA : X'.A = X.A := by rw [← hX']; rfl
  have ec : X'.calm = true := by rw [← hX']; exact hc
  have ee : X'.env = compEnvC scope (closOf X.env.cells scope.names []) g2.objs.size X.env := by rw [← hX']; rfl
  have ex : X'.xe = fun _ _ => False := by rw [← hX']; rfl
  have Hg : PG X' tg g := by rw [← hX']; exact hg _ _ _ _
  have Ht : PIfs X' ifs tc := by rw [← hX']; exact ht _ _ _ _
  have He : PE X' elt te := by rw [← hX']; exact he _ _ _ _
  have out : ∀ {pins' σ' H' s'}, Inv X' pins' σ' H' s' → Inv X pins σ H' s' := by
    intro pins' σ' H' s' J
    rw [← hX'] at J
    exact inv_out I3 f3 J
  have fsX : ∀ b ∈ fp, b ∉ X'.fs := by
    intro b hb z
    rw [← hX'] at z
    rcases List.mem_cons.mp (I3.stkSub b z) with q | q
    · exact (f3 b hb).2.1 q
    · exact (f3 b hb).2.2.1 q
  have stat : ∀ {H' : Hp}, (∀ b ∈ fp, H' b = none) → ∀ b ∈ fp, FpOk X' (X.pn ++ pins) H' b := fun {H'} hn b hb => by
    refine ⟨hn b hb, ?_, fsX b hb, .inl (by rw [← hX']; exact hb), ?_, ?_⟩
    · rw [ee]
      obtain ⟨o, e⟩ := hob b hb
      exact Nat.ne_of_lt (Heap.lt_size (up2 b o e))
    · intro x c e
      rw [ee] at e
      exact (f3 b hb).2.2.2.2.1 x c (closOf_sub (names := scope.names) (cs := []) (fun _ z => nomatch z) _ (lookup_mem e))
    · intro p hp
      have hp : p ∈ X.pn ++ pins := by rw [← hX'] at hp; simpa [cxIn] using hp
      exact (f3 b hb).2.2.2.2.2 p hp
  have loop : ∀ s4 : Shared, s4 = { s2 with heap := h₁, toks := s2.toks + ([] : List (Str × Value)).length } →
      codeAny (model X.prog X.w) X.A (.compLoop (.ListComp elt [⟨tg, iter, ifs, 0⟩] scope pos) 0 (.ref it) (.ref D) (compEnvC scope (closOf X.env.cells scope.names []) g2.objs.size X.env)) (RR (.ref D) g2.objs.size) s4 := by
    rintro s4 rfl
    refine compLoop_go (fun n s' => ∃ i σ' H', Inv X' (X.pn ++ pins) σ' H' s' ∧ tn i s'.heap ∧ (∀ b ∈ fp, H' b = none) ∧ W i n σ' H') ?_ m0 ⟨0, _, _, J0, tn0, fun b hb => (f3 b hb).1, w0⟩
    rintro n s5 ⟨i, σ5, H5, I5, st5, fr5, w5⟩
    rw [← ee, ← eA, ← eP, ← ew, ← ex]
    rcases turn i n σ5 H5 w5 with ⟨stop, qz⟩ | ⟨go, N, hN, step⟩
    · have td := T.done X' eP ew eK ec i (X.pn ++ pins) s5 σ5 H5 X'.xe I5 (stat fr5) st5 stop
      rw [← eP, ← ew] at td
      refine thn td fun r s6 ⟨hr, I6⟩ => ?_
      subst hr
      obtain ⟨m, hm, _⟩ := id I6.loc
      rw [ee] at hm
      have hfr := I6.free
      rw [ee] at hfr
      exact fin D _ s6 H5 m hm (out I6) hfr cf qz
    · have ti := T.item X' eP ew eK ec i (X.pn ++ pins) s5 σ5 H5 X'.xe I5 (stat fr5) st5 go
      rw [← eP, ← ew] at ti
      refine thn ti fun r s6 ⟨u, hr, h6⟩ => ?_
      subst hr
      refine thn h6 fun _ s7 ⟨x, H7, I7, r7, y7, st7, fr7⟩ => ?_
      have I7' := I7.pinned (stat fr7) (T.obj _ _ st7)
      refine thn (Hg _ s7 σ5 H7 x u _ I7' r7 (step x H7 y7)) fun _ s8 ⟨σ8, H8, I8, q8⟩ => ?_
      refine thn (Ht _ s8 σ8 H8 _ I8 q8) fun ok s9 ⟨H9, I9, q9⟩ => ?_
      have again : ∀ {σa : St} {Ha : Hp} {sa : Shared}, Inv X' ((X.pn ++ pins) ++ pinsAt fp s7.heap) σa Ha sa → N σa Ha → ∃ m, m < n ∧ ∃ i σ' H', Inv X' (X.pn ++ pins) σ' H' sa ∧ tn i sa.heap ∧ (∀ b ∈ fp, H' b = none) ∧ W i m σ' H' := fun {σa Ha sa} Ia na => by
        obtain ⟨m', hm, wa⟩ := hN σa Ha na
        refine ⟨m', hm, i + 1, σa, Ha, Ia.unpinned, T.keep _ _ _ st7 fun b hb o e => (Ia.pin (b, o) (List.mem_append_right _ (List.mem_append_right _ (mem_pinsAt hb e)))).1, fun b hb => ?_, wa⟩
        obtain ⟨o, e, d⟩ := T.obj _ _ st7 b hb
        exact (Ia.pin (b, o) (List.mem_append_right _ (List.mem_append_right _ (mem_pinsAt hb e)))).2.1
      cases ok with
      | false => exact again I9 q9
      | true =>
        refine thn (He _ s9 σ8 H9 _ I9 q9) fun y s10 ⟨yv, H10, I10, r10, ys, e10, l10, n10⟩ => ?_
        exact thn (mt_append (X := X') _ s10 σ8 H10 (.ref D) [yv] (.ref D) [y] (fun _ H' => N σ8 H') I10 rfl (.cons r10 .nil) ⟨D, ys, yv, rfl, rfl, e10, l10, n10⟩) fun _ s11 ⟨_, H11, I11, _, n11⟩ => again I11 n11
  exact codeAny_compStart_list (loop _ rfl) (T.self _ 0 _ _ _ tn0 (loop _ rfl))
def tComp (wi : TI) (g : TG) (tc : TT) (te : TE) (k : Nat) (js : List Nat) : TE := fun σ H Q => wi σ H fun J H1 => ∀ D, H1 D = none → tBlock J g tc te D (Q (.ref D)) (innS k js σ) (upd H1 D (.lst []))
/-- [elt for tg in iter if c] as a value -/
theorem pe_comp (Tn Fn : List Str) (js : List Nat) (hc : X.calm = true) (h : compOk X.env.scope scope X.N Tn Fn js = true) (hi : PI X tg iter wi)
    (hg : ∀ C s H fp, PG (cxIn X (Tn ++ Fn) scope (closOf X.env.cells scope.names []) C s H fp) tg g) (ht : ∀ C s H fp, PIfs (cxIn X (Tn ++ Fn) scope (closOf X.env.cells scope.names []) C s H fp) ifs tc)
    (he : ∀ C s H fp, PE (cxIn X (Tn ++ Fn) scope (closOf X.env.cells scope.names []) C s H fp) elt te) (hs : ∀ x, foldedSetIterable iter X.env x = pure x := by intro _; rfl) :
    PE X (.ListComp elt [⟨tg, iter, ifs, 0⟩] scope pos) (tComp wi g tc te Tn.length js) := by
  intro pins s σ H Q I hq
  have cs := CompScope.of h
  rw [eval_ListComp]
  refine wpAny_comprehension_free (use := none) rfl hs (closureFor_eq ?_) cs.kind cs.loc (thn (hi pins s σ H _ I hq) fun xv s1 h1 => thn h1 fun itv s2 h2 => ?_)
  · intro x hx e; exact I.ok.has x.1 (.inl (cs.fre x hx e))
  obtain ⟨it, fp, tn, J, H2, rfl, I2, T, st2, f2, hb⟩ := h2
  refine block_run (Z := fun D H' => Q (.ref D) H') (RR := fun acc C => compPost (model X.prog X.w) X.A X.xe none (EP X pins σ Q) acc C) hc cs hg ht he I2 T st2 f2 hb ?_
  intro D C s' H' m hm I' hn cf z
  exact ⟨m, hm, fun h' sb => ⟨.ref D, H', I'.letgo hn cf sb, rfl, z⟩⟩
end
/-! the forms one uses -/
/-- over a list that the block leaves as it is -/
theorem block_list {K : PySem.W.Frag} {a : Addr} {xs : List V} {g : TG} {tc : TT} {te : TE} {D : Addr} {Z : Hp → Prop} {σ : St} {H : Hp} (Pv : Nat → St → Hp → Prop) (h0 : Pv 0 σ H) (hl : ∀ i σ H, i ≤ xs.length → Pv i σ H → SqL K H a xs)
    (hs : ∀ i x σ H, xs[i]? = some x → Pv i σ H → g x σ H fun σ2 H2 => tc σ2 H2 fun b H3 => if b = true then te σ2 H3 fun y H4 => ∃ ys, H4 D = some (.lst ys) ∧ ys.length < sizeLine ∧ Pv (i + 1) σ2 (upd H4 D (.lst (ys ++ [y]))) else Pv (i + 1) σ2 H3)
    (hd : ∀ σ H, Pv xs.length σ H → Z H) : tBlock (Itl K a) g tc te D Z σ H := by
  refine ⟨fun i m σ H => m = xs.length - i ∧ i ≤ xs.length ∧ Pv i σ H, ⟨xs.length, by simp, Nat.zero_le _, h0⟩, ?_⟩
  rintro i m σ H ⟨rfl, hi, p⟩
  have q := hl i σ H hi p
  by_cases hlt : i < xs.length
  · refine .inr ⟨⟨xs, xs[i], q, by simp [hlt]⟩, Pv (i + 1), fun σ' H' p' => ⟨xs.length - (i + 1), by omega, rfl, hlt, p'⟩, fun x H' y => ?_⟩
    obtain ⟨e, y⟩ := y
    subst e
    exact hs i x σ _ (y xs q) p
  · have e : i = xs.length := by omega
    subst e
    exact .inl ⟨⟨xs, q, Nat.le_refl _⟩, hd σ H p⟩
theorem block_range {lo : Int} {n : Nat} {g : TG} {tc : TT} {te : TE} {D : Addr} {Z : Hp → Prop} {σ : St} {H : Hp} (Pv : Nat → St → Hp → Prop) (h0 : Pv 0 σ H)
    (hs : ∀ i σ H, i < n → Pv i σ H → g (.int (lo + i)) σ H fun σ2 H2 => tc σ2 H2 fun b H3 => if b = true then te σ2 H3 fun y H4 => ∃ ys, H4 D = some (.lst ys) ∧ ys.length < sizeLine ∧ Pv (i + 1) σ2 (upd H4 D (.lst (ys ++ [y]))) else Pv (i + 1) σ2 H3)
    (hd : ∀ σ H, Pv n σ H → Z H) : tBlock (Itr lo n) g tc te D Z σ H := by
  refine ⟨fun i m σ H => m = n - i ∧ i ≤ n ∧ Pv i σ H, ⟨n, by simp, Nat.zero_le _, h0⟩, ?_⟩
  rintro i m σ H ⟨rfl, hi, p⟩
  by_cases hlt : i < n
  · refine .inr ⟨hlt, Pv (i + 1), fun σ' H' p' => ⟨n - (i + 1), by omega, rfl, hlt, p'⟩, fun x H' y => ?_⟩
    obtain ⟨e, y⟩ := y
    subst e y
    exact hs i σ _ hlt p
  · have e : i = n := by omega
    subst e
    exact .inl ⟨Nat.le_refl _, hd σ H p⟩
end L2
namespace L2
open PySem PySem.Spec PyProof.Rows
/-! ### ==, != of texts, numbers, truths, the gap, and of tuples and lists of these, as deep as they are -/
mutual
def RepD (K : PySem.W.Frag) (H : Hp) : PyData → V → Prop
  | .none, v => v = .non
  | .bool b, v => v = .bl b
  | .int i, v => v = .int i
  | .str x, v => v = .str x ∧ (PyData.str x).canLay0 = true
  | .tuple xs, v => ∃ a vs, v = .ref a ∧ SqT K H a vs ∧ RepDs K H xs vs
  | .list xs, v => ∃ a vs, v = .ref a ∧ SqL K H a vs ∧ RepDs K H xs vs
  | .dict _, _ => False
def RepDs (K : PySem.W.Frag) (H : Hp) : List PyData → List V → Prop
  | [], vs => vs = []
  | d :: ds, vs => ∃ v r, vs = v :: r ∧ RepD K H d v ∧ RepDs K H ds r
end
section
variable {X : Cx} {pins : List (Addr × Obj)} {σ : St} {H : Hp} {s : Shared}
mutual
theorem RepD.reads (I : Inv X pins σ H s) : ∀ {d : PyData} {v : V} {u : Value}, RepD X.K H d v → RelV v u → ∃ as, Reads s.heap u d as
  | .none, v, u, h, r => by
    have h : v = .non := by simpa [RepD] using h
    subst h; cases r; exact ⟨_, .none⟩
  | .bool b, v, u, h, r => by
    have h : v = .bl b := by simpa [RepD] using h
    subst h; cases r; exact ⟨_, .bool b⟩
  | .int i, v, u, h, r => by
    have h : v = .int i := by simpa [RepD] using h
    subst h; obtain ⟨t, rfl⟩ := r; exact ⟨_, .int i t⟩
  | .str x, v, u, h, r => by
    simp only [RepD] at h
    obtain ⟨rfl, _⟩ := h
    obtain ⟨t, rfl⟩ := r; exact ⟨_, .str x t⟩
  | .tuple xs, v, u, h, r => by
    have h : ∃ a vs, v = .ref a ∧ SqT X.K H a vs ∧ RepDs X.K H xs vs := by simpa [RepD] using h
    obtain ⟨a, vs, rfl, q, rs⟩ := h
    cases r
    obtain ⟨its, rv, p, _⟩ := I.tuple q
    obtain ⟨o, e, c, n, d⟩ := (show s.heap.IsTuple a its.toArray from p)
    obtain ⟨as, ra⟩ := RepDs.reads I rs rv
    exact ⟨_, .tuple e c d (by simpa using ra)⟩
  | .list xs, v, u, h, r => by
    have h : ∃ a vs, v = .ref a ∧ SqL X.K H a vs ∧ RepDs X.K H xs vs := by simpa [RepD] using h
    obtain ⟨a, vs, rfl, q, rs⟩ := h
    cases r
    obtain ⟨its, rv, p, _⟩ := I.list q
    obtain ⟨o, e, c, n, d⟩ := p.isList
    obtain ⟨as, ra⟩ := RepDs.reads I rs rv
    exact ⟨_, .list e c d (by simpa using ra)⟩
  | .dict _, v, u, h, r => by
    have h : False := by simpa [RepD] using h
    exact h.elim
theorem RepDs.reads (I : Inv X pins σ H s) : ∀ {ds : List PyData} {vs : List V} {us : List Value}, RepDs X.K H ds vs → Vals vs us → ∃ as, ReadsAll s.heap us ds as
  | [], vs, us, h, r => by
    have h : vs = [] := by simpa [RepDs] using h
    subst h; cases r; exact ⟨_, .nil⟩
  | d :: ds, vs, us, h, r => by
    have h : ∃ v r, vs = v :: r ∧ RepD X.K H d v ∧ RepDs X.K H ds r := by simpa [RepDs] using h
    obtain ⟨v, rs, rfl, h1, h2⟩ := h
    cases r with
    | cons a b =>
      obtain ⟨as, r1⟩ := RepD.reads I h1 a
      obtain ⟨bs, r2⟩ := RepDs.reads I h2 b
      exact ⟨_, .cons r1 r2⟩
end
mutual
theorem RepD.lay {K : PySem.W.Frag} : ∀ {d : PyData} {v : V}, RepD K H d v → d.canLay0 = true
  | .none, _, _ => rfl
  | .bool _, _, _ => rfl
  | .int _, _, _ => rfl
  | .str x, v, h => by
    simp only [RepD] at h
    exact h.2
  | .tuple xs, v, h => by
    have h : ∃ a vs, v = .ref a ∧ SqT K H a vs ∧ RepDs K H xs vs := by simpa [RepD] using h
    obtain ⟨a, vs, rfl, q, rs⟩ := h
    have := RepDs.lay rs
    simpa [PyData.canLay0] using this
  | .list xs, v, h => by
    have h : ∃ a vs, v = .ref a ∧ SqL K H a vs ∧ RepDs K H xs vs := by simpa [RepD] using h
    obtain ⟨a, vs, rfl, q, rs⟩ := h
    have := RepDs.lay rs
    simpa [PyData.canLay0] using this
  | .dict _, v, h => by
    have h : False := by simpa [RepD] using h
    exact h.elim
theorem RepDs.lay {K : PySem.W.Frag} : ∀ {ds : List PyData} {vs : List V}, RepDs K H ds vs → PyData.canLayAll0 ds = true
  | [], _, _ => rfl
  | d :: ds, vs, h => by
    have h : ∃ v r, vs = v :: r ∧ RepD K H d v ∧ RepDs K H ds r := by simpa [RepDs] using h
    obtain ⟨v, rs, rfl, h1, h2⟩ := h
    have a := RepD.lay h1
    have b := RepDs.lay h2
    simp [PyData.canLayAll0, a, b]
end
end
section
variable {X : Cx} {k : Nat}
def rEqD (K : PySem.W.Frag) : R2 := fun x y H Q => ∃ d d', RepD K H d x ∧ RepD K H d' y ∧ d.depth ≤ 64 ∧ Q (.bl (PyData.eqv d d')) H
def rNeD (K : PySem.W.Frag) : R2 := fun x y H Q => ∃ d d', RepD K H d x ∧ RepD K H d' y ∧ d.depth ≤ 64 ∧ Q (.bl (!PyData.eqv d d')) H
theorem op_eqD (hr : Room k X.A) : OpR X (compareOp .Eq) (rEqD X.K) := by
  intro pins s σ H x y v u Q I rx ry h
  obtain ⟨d, d', h1, h2, hd, q⟩ := h
  obtain ⟨as, r1⟩ := h1.reads I rx
  obtain ⟨bs, r2⟩ := h2.reads I ry
  exact SeqAt.compareEq_reads r1 r2 h1.lay h2.lay (by have := hr.units; have : min d.depth d'.depth ≤ d.depth := Nat.min_le_left _ _; omega) ⟨.bl _, H, I, rfl, q⟩
theorem op_neD (hr : Room k X.A) : OpR X (compareOp .NotEq) (rNeD X.K) := by
  intro pins s σ H x y v u Q I rx ry h
  obtain ⟨d, d', h1, h2, hd, q⟩ := h
  obtain ⟨as, r1⟩ := h1.reads I rx
  obtain ⟨bs, r2⟩ := h2.reads I ry
  exact SeqAt.compareNe_reads r1 r2 h1.lay h2.lay (by have := hr.units; have : min d.depth d'.depth ≤ d.depth := Nat.min_le_left _ _; omega) ⟨.bl _, H, I, rfl, q⟩
end
/-- a tuple of two numbers -/
def pq (t b : Int) : PyData := .tuple [.int t, .int b]
theorem rep_pq {K : PySem.W.Frag} {H : Hp} {a : Addr} {t b : Int} (h : SqT K H a [.int t, .int b]) : RepD K H (pq t b) (.ref a) := by
  simp only [pq, RepD, RepDs]
  exact ⟨a, _, rfl, h, _, _, rfl, rfl, _, _, rfl, rfl, rfl⟩
theorem eqv_pq (t b t' b' : Int) : PyData.eqv (pq t b) (pq t' b') = decide (t = t' ∧ b = b') := by
  simp [pq, PyData.eqv, PyData.eqvAll, Bool.beq_eq_decide_eq]
theorem pq_depth (t b : Int) : (pq t b).depth ≤ 64 := by
  simp [pq, PyData.depth, PyData.depthAll]
/-! ### defs that may raise -/
section
variable {P : Program} {w : World} {K : PySem.W.Frag} {mg : Str → Option Value} {base : Heap}
theorem DefAt.okE {x : Str} {st : Stmt} {N ps : List Str} {k : Nat} {sp : Sp} (D : DefAt K mg x st) (S : FnScope N ps (defScope st)) (len : ∀ vs H Q E, sp vs H Q E → vs.length = ps.length)
    (hb : ∀ (kV doc pm : Value) (an : Option Addr) (cdv ct : Value) (us : List Value), us.length = ps.length → bindArgs (PySem.W.fnOf x x (defArgs st) (defBody st) (defScope st) .none kV doc pm an cdv ct) ⟨us, []⟩ = pure (ps.zip us))
    (hbody : ∀ (f : Addr) (cdv : Value) (A : Around) (outer : List Env) (s : Shared) (H : Hp) (vs : List V) (Q : VK) (E : XK), Room k (A.deeper (envOfC x (defScope st) s.heap.objs.size f cdv)) → sp vs H Q E →
      ∃ t, PSs (cxOf (CXE P w) P w K mg base N x (defScope st) f cdv A outer s H E) (defBody st) t ∧ t { nx := fun _ H' => Q .non H', rt := Q } (start N vs) H) : FnAt P w K mg base (CXE P w) (k + 1) x ps sp := by
  obtain ⟨f, fd, F, m⟩ := D.ex
  have hF := F
  obtain ⟨oc, od, kV, doc, pm, an, cdv, ct, osl, rfl, lk, hcd⟩ := F.ex
  exact ⟨f, _, fn_of lk hcd S len fun A outer s H vs Q E hr hsp => hbody f cdv A outer s H vs Q E hr hsp, m, hF.kp, hF.binds hb⟩
end
end L2
namespace Tc
open PySem L2
/-! ### promises of the defs that many laws share -/
/-- the two numbers of a rational number -/
abbrev fq (r : Rat) : List V := [.int r.num, .int (r.den : Nat)]
/-- a fraction as it stands -/
def FrV (H : Hp) (v : V) (r : Rat) : Prop := ∃ a, v = .ref a ∧ H a = some (.tup (fq r))
theorem FrV.same {H H' : Hp} {v : V} {r : Rat} (h : FrV H v r) (s : Same H H') : FrV H' v r := let ⟨a, e, h⟩ := h; ⟨a, e, s _ _ h⟩
theorem FrV.upd {H : Hp} {v : V} {r : Rat} {p : Addr} {o : HO} (h : FrV H v r) (n : H p = none) : FrV (upd H p o) v r := h.same (Same.upd n)
theorem FrV.new {H : Hp} {r : Rat} {p : Addr} : FrV (L2.upd H p (.tup (fq r))) (.ref p) r := ⟨p, rfl, upd_same⟩
theorem FrV.newOf {H : Hp} {r : Rat} {p : Addr} {t b : Int} (h1 : t = r.num) (h2 : b = (r.den : Int)) : FrV (L2.upd H p (.tup [.int t, .int b])) (.ref p) r := by
  subst h1 h2; exact FrV.new
theorem FrV.ty {H : Hp} {v : V} {r : Rat} (h : FrV H v r) : tyS H v = some "tuple" := by
  obtain ⟨a, rfl, h⟩ := h
  show tyH (H a) = _
  rw [h]; rfl
theorem FrV.rep {K : PySem.W.Frag} {H : Hp} {v : V} {r : Rat} (h : FrV H v r) : RepD K H (pq r.num r.den) v := by
  obtain ⟨a, rfl, h⟩ := h
  exact rep_pq (SqT.of h)
theorem fq_dec (r q : Rat) : decide (r.num = q.num ∧ (r.den : Int) = q.den) = decide (r = q) := by
  rw [decide_eq_decide]
  constructor
  · rintro ⟨h1, h2⟩; exact fq_inj h1 h2
  · rintro rfl; exact ⟨rfl, rfl⟩
/-- how great its numbers may be -/
structure Bd (n : Nat) (r : Rat) : Prop where
  num : r.num.natAbs < 2 ^ n
  den : r.den < 2 ^ n
theorem pow_le {m n : Nat} (h : m ≤ n) : (2 : Nat) ^ m ≤ 2 ^ n := Nat.pow_le_pow_right (by decide) h
theorem Bd.mono {m n : Nat} {r : Rat} (b : Bd m r) (h : m ≤ n) : Bd n r := ⟨Nat.lt_of_lt_of_le b.num (pow_le h), Nat.lt_of_lt_of_le b.den (pow_le h)⟩
theorem Bd.neg {n : Nat} {r : Rat} (b : Bd n r) : Bd n (-r) := ⟨by rw [Rat.neg_num, Int.natAbs_neg]; exact b.num, by rw [Rat.neg_den]; exact b.den⟩
theorem Bd.inv {n : Nat} {r : Rat} (b : Bd n r) (h : r ≠ 0) : Bd n r⁻¹ := by
  have hn : r.num ≠ 0 := fun z => h (Rat.num_eq_zero.mp z)
  have e : r⁻¹ = Rat.divInt r.den r.num := Rat.inv_def r
  have e1 := dv_num (t := (r.den : Int)) (b := r.num) hn
  have e2 := dv_den (t := (r.den : Int)) (b := r.num) hn
  have g : Int.gcd (r.den : Int) r.num = 1 := gcd_swap r
  refine ⟨?_, ?_⟩
  · rw [e, ← e1]
    have : ((r.den : Int).fdiv (dv r.den r.num)).natAbs ≤ r.den := by
      unfold dv; rw [g]
      split
      · have e : ((r.den : Int)).fdiv (-((1 : Nat) : Int)) = -(r.den : Int) := by
          show ((r.den : Int)).fdiv (-1) = _
          rw [Int.fdiv_neg (by simp)]; simp
        rw [e]; omega
      · have e : ((r.den : Int)).fdiv (((1 : Nat) : Int)) = (r.den : Int) := by
          show ((r.den : Int)).fdiv 1 = _
          simp
        rw [e]; omega
    exact Nat.lt_of_le_of_lt this b.den
  · rw [e]
    have : ((r.num).fdiv (dv r.den r.num)).natAbs ≤ r.num.natAbs := by
      unfold dv; rw [g]
      split
      · have e : (r.num).fdiv (-((1 : Nat) : Int)) = -r.num := by
          show (r.num).fdiv (-1) = _
          rw [Int.fdiv_neg (by simp)]; simp
        rw [e]; omega
      · have e : (r.num).fdiv (((1 : Nat) : Int)) = r.num := by
          show (r.num).fdiv 1 = _
          simp
        rw [e]; omega
    rw [e2] at this
    have q := b.num
    omega
theorem natAbs_mul_lt {a b : Int} {m n : Nat} (ha : a.natAbs < 2 ^ m) (hb : b.natAbs < 2 ^ n) : (a * b).natAbs < 2 ^ (m + n) := by
  rw [Int.natAbs_mul, Nat.pow_add]
  exact Nat.mul_lt_mul'' ha hb
theorem natAbs_add_lt {a b : Int} {n : Nat} (ha : a.natAbs < 2 ^ n) (hb : b.natAbs < 2 ^ n) : (a + b).natAbs < 2 ^ (n + 1) := by
  rw [Nat.pow_succ]; omega
theorem fq_num_le (t b : Int) (hb : b ≠ 0) : (Rat.divInt t b).num.natAbs ≤ t.natAbs := by
  rw [← dv_num hb]
  have h := Int.fdiv_mul_cancel (dv_dvd_left t b)
  have h2 : ((t.fdiv (dv t b)) * dv t b).natAbs = t.natAbs := by rw [h]
  rw [Int.natAbs_mul] at h2
  have h3 : 0 < (dv t b).natAbs := by have := dv_ne (t := t) hb; omega
  rw [← h2]
  exact Nat.le_mul_of_pos_right _ h3
theorem fq_den_le (t b : Int) (hb : b ≠ 0) : (Rat.divInt t b).den ≤ b.natAbs := by
  have e := dv_den (t := t) hb
  have h := Int.fdiv_mul_cancel (dv_dvd_right t b)
  have h2 : ((b.fdiv (dv t b)) * dv t b).natAbs = b.natAbs := by rw [h]
  rw [Int.natAbs_mul, e] at h2
  have h3 : 0 < (dv t b).natAbs := by have := dv_ne (t := t) hb; omega
  have : (((Rat.divInt t b).den : Int)).natAbs ≤ b.natAbs := by rw [← h2]; exact Nat.le_mul_of_pos_right _ h3
  omega
theorem Bd.divInt {n : Nat} {t b : Int} (hb : b ≠ 0) (h1 : t.natAbs < 2 ^ n) (h2 : b.natAbs < 2 ^ n) : Bd n (Rat.divInt t b) := ⟨Nat.lt_of_le_of_lt (fq_num_le t b hb) h1, Nat.lt_of_le_of_lt (fq_den_le t b hb) h2⟩
theorem add_eq (r q : Rat) : r + q = Rat.divInt (r.num * q.den + q.num * r.den) (r.den * q.den) := by
  have h := Rat.divInt_add_divInt r.num q.num (d₁ := r.den) (d₂ := q.den) (by have := rat_den_pos r; omega) (by have := rat_den_pos q; omega)
  rw [Rat.num_divInt_den, Rat.num_divInt_den] at h
  exact h
theorem Bd.add {m n : Nat} {r q : Rat} (b1 : Bd m r) (b2 : Bd n q) : Bd (m + n + 1) (r + q) := by
  rw [add_eq]
  have d1 := rat_den_pos r
  have d2 := rat_den_pos q
  have n1 : ((r.den : Int)).natAbs < 2 ^ m := b1.den
  have n2 : ((q.den : Int)).natAbs < 2 ^ n := b2.den
  refine Bd.divInt (Int.mul_ne_zero (by omega) (by omega)) ?_ ?_
  · refine natAbs_add_lt (natAbs_mul_lt b1.num n2) ?_
    have := natAbs_mul_lt b2.num n1
    rw [Nat.add_comm]; exact this
  · exact Nat.lt_of_lt_of_le (natAbs_mul_lt n1 n2) (pow_le (by omega))
theorem Bd.mul {m n : Nat} {r q : Rat} (b1 : Bd m r) (b2 : Bd n q) : Bd (m + n) (r * q) := by
  rw [← mul_eq]
  have d1 := rat_den_pos r
  have d2 := rat_den_pos q
  have n1 : ((r.den : Int)).natAbs < 2 ^ m := b1.den
  have n2 : ((q.den : Int)).natAbs < 2 ^ n := b2.den
  exact Bd.divInt (Int.mul_ne_zero (by omega) (by omega)) (natAbs_mul_lt b1.num b2.num) (natAbs_mul_lt n1 n2)
theorem Bd.divR {n : Nat} {r : Rat} (b : Bd n r) (h : n ≤ 8999) {i d : Int} (hd : d ≠ 0) (hl : d.natAbs ≤ r.den) : CDivB i d :=
  divB_of hd (Nat.lt_of_le_of_lt hl (Nat.lt_of_lt_of_le b.den (pow_le (by omega))))
theorem paired_get {α β : Type} {F : α → β → Prop} : ∀ {xs : List α} {ys : List β} {i : Nat} {x : α}, Paired F xs ys → xs[i]? = some x → ∃ y, ys[i]? = some y ∧ F x y
  | _, _, _, _, .nil, e => by simp at e
  | _, _, 0, _, .cons r _, e => by simp at e; subst e; exact ⟨_, rfl, r⟩
  | _, _, i + 1, x, .cons _ t, e => by
    obtain ⟨u, h1, h2⟩ := paired_get (i := i) (x := x) t (by simpa using e)
    exact ⟨u, by simpa using h1, h2⟩
/-! promises -/
def spCd : Sp := fun vs H Q _ => ∃ t b : Int, vs = [.int t, .int b] ∧ b ≠ 0 ∧ Q (.int (dv t b)) H
def sp2 (n : Nat) (f : Rat → Rat → Rat) : Sp := fun vs H Q _ => ∃ x y r q, vs = [x, y] ∧ FrV H x r ∧ FrV H y q ∧ Bd n r ∧ Bd n q ∧ ∀ v H', Same H H' → FrV H' v (f r q) → Q v H'
abbrev spPlus : Sp := sp2 8000 (· + ·)
abbrev spMinus : Sp := sp2 8000 (· - ·)
abbrev spTimes : Sp := fun vs H Q _ => ∃ x y a b t1 b1 t2 b2, vs = [x, y] ∧ x = .ref a ∧ H a = some (.tup [.int t1, .int b1]) ∧ y = .ref b ∧ H b = some (.tup [.int t2, .int b2]) ∧ 0 < b1 ∧ b2 ≠ 0 ∧ Int.gcd t1 b1 = 1 ∧ Int.gcd t2 b2 = 1 ∧
  (t1.natAbs < 2 ^ 8000 ∧ b1.natAbs < 2 ^ 8000 ∧ t2.natAbs < 2 ^ 8000 ∧ b2.natAbs < 2 ^ 8000) ∧ ∀ v H', Same H H' → FrV H' v (Rat.divInt (t1 * t2) (b1 * b2)) → Q v H'
theorem spTimes.of {vs : List V} {H : Hp} {Q : VK} {E : XK} {x y : V} {r q : Rat} (e : vs = [x, y]) (h1 : FrV H x r) (h2 : FrV H y q) (b1 : Bd 8000 r) (b2 : Bd 8000 q) (k : ∀ v H', Same H H' → FrV H' v (r * q) → Q v H') : spTimes vs H Q E := by
  obtain ⟨a, rfl, ha⟩ := h1
  obtain ⟨b, rfl, hb⟩ := h2
  have d1 := rat_den_pos r
  have d2 := rat_den_pos q
  exact ⟨_, _, a, b, r.num, r.den, q.num, q.den, e, rfl, ha, rfl, hb, d1, by omega, rat_gcd r, rat_gcd q, ⟨b1.num, b1.den, b2.num, b2.den⟩, fun v H' s h => k v H' s (by rw [← mul_eq]; exact h)⟩
def spUnder : Sp := fun vs H Q _ => ∃ x y r q, vs = [x, y] ∧ FrV H x r ∧ FrV H y q ∧ Bd 8000 r ∧ Bd 8000 q ∧ Q (.bl (decide (r < q))) H
/-- the sum from the left -/
def sumQ (rs : List Rat) : Rat := rs.foldl (· + ·) 0
theorem sumQ_take {rs : List Rat} {i : Nat} {r : Rat} (h : rs[i]? = some r) : sumQ (rs.take (i + 1)) = sumQ (rs.take i) + r := by
  unfold sumQ
  rw [List.take_add_one, h, List.foldl_append]; rfl
def spSumOf (K : PySem.W.Frag) : Sp := fun vs H Q _ => ∃ (a : Addr) (xs : List V) (rs : List Rat), vs = [.ref a] ∧ SqL K H a xs ∧ Paired (FrV H) xs rs ∧ (∀ r ∈ rs, Bd 8000 r) ∧ (∀ k, k ≤ rs.length → Bd 8000 (sumQ (rs.take k))) ∧ ∀ v H', Same H H' → FrV H' v (sumQ rs) → Q v H'
def spCell (K : PySem.W.Frag) : Sp := fun vs H Q _ => ∃ (a : Addr) (ns : List Int) (k : Int), vs = [.ref a, .int k] ∧ SqL K H a (ns.map V.int) ∧ 0 ≤ k ∧ ∀ c : Int, Q (.int c) H
def spDivisor : Sp := fun vs H Q _ => ∃ a b : Int, vs = [.int a, .int b] ∧ Q (.int (Int.gcd a b : Nat)) H
def spLaw (K : PySem.W.Frag) : Sp := fun vs H Q _ => ∃ (a : Addr) (ns : List Int), vs = [.ref a] ∧ SqL K H a (ns.map V.int) ∧ ns.length ≤ 63 ∧ ∀ H', Q (.bl true) H'
/-! small lemmas -/
theorem sz {n : Nat} (h : n ≤ 1000) : n ≤ sizeLine := Nat.le_of_lt (small1000 h)
theorem map_at {ns : List Int} {k : Int} (h0 : 0 ≤ k) (h1 : k < (ns.map V.int).length) : ∃ c : Int, atI (ns.map V.int) k = some (V.int c) := by
  obtain ⟨j, rfl⟩ := Int.eq_ofNat_of_zero_le h0
  have hj : j < ns.length := by rw [List.length_map] at h1; omega
  refine ⟨ns[j], atI_nat ?_⟩
  rw [List.getElem?_map, List.getElem?_eq_getElem hj]
  rfl
theorem fmod_lt {c m : Int} (h : 0 < m) : 0 ≤ c.fmod m ∧ c.fmod m < m := fmod_pos h
theorem sub_int (n : String) : subS n "int" = (n == "int" || n == "bool") := by simp [subS]
theorem atI_in {xs : List V} {j : Int} (h0 : 0 ≤ j) (h1 : j < xs.length) : ∃ v, v ∈ xs ∧ atI xs j = some v := by
  obtain ⟨k, rfl⟩ := Int.eq_ofNat_of_zero_le h0
  have hk : k < xs.length := by omega
  exact ⟨xs[k], List.getElem_mem hk, atI_nat (List.getElem?_eq_getElem hk)⟩
theorem dec_true {p : Prop} [Decidable p] {A B : Prop} (hp : p) (h : A) : if decide p = true then A else B := by
  rw [decide_eq_true hp]; exact iteT h
theorem dec_false {p : Prop} [Decidable p] {A B : Prop} (hp : ¬ p) (h : B) : if decide p = true then A else B := by
  rw [decide_eq_false hp]; exact iteF h
theorem paired_same {H H' : Hp} {xs : List V} {rs : List Rat} (s : Same H H') (h : Paired (FrV H) xs rs) : Paired (FrV H') xs rs := Paired.mapP h fun _ _ f => f.same s
theorem FrV.updL {H : Hp} {v : V} {r : Rat} {p : Addr} {xs : List V} {o : HO} (h : FrV H v r) (hp : H p = some (.lst xs)) : FrV (L2.upd H p o) v r := by
  obtain ⟨a, rfl, ha⟩ := h
  exact ⟨a, rfl, by rw [L2.upd_ne (ne_of ha hp (by intro z; cases z))]; exact ha⟩
theorem paired_snoc {H : Hp} {xs : List V} {rs : List Rat} {v : V} {r : Rat} (h : Paired (FrV H) xs rs) (f : FrV H v r) : Paired (FrV H) (xs ++ [v]) (rs ++ [r]) := h.snoc f
theorem paired_mem {α β : Type} {F : α → β → Prop} {xs : List α} {ys : List β} (h : Paired F xs ys) {x : α} (hx : x ∈ xs) : ∃ y, y ∈ ys ∧ F x y := by
  obtain ⟨i, hi, e⟩ := List.getElem_of_mem hx
  obtain ⟨y, hy, f⟩ := paired_get h (i := i) (x := x) (by rw [List.getElem?_eq_getElem hi, e])
  exact ⟨y, List.mem_of_getElem? hy, f⟩
def dq (r : Rat) : PyData := pq r.num r.den
end Tc
namespace L2
open PySem PySem.Spec PyProof.Rows
theorem bt_all : bootBuiltins "all" = some (.builtin "all") := by decide +kernel
theorem ints_of_vals : ∀ {ns : List Int} {vs : List Value}, Vals (ns.map V.int) vs → IntsAre vs ns
  | [], _, .nil => .nil
  | n :: ns, _, .cons r t => by obtain ⟨tk, rfl⟩ := r; exact .cons n tk (ints_of_vals t)
theorem bools_of_vals : ∀ {bs : List Bool} {vs : List Value}, Vals (bs.map V.bl) vs → LSm.BoolsAre vs bs
  | [], _, .nil => .nil
  | b :: bs, _, .cons r t => by cases r; exact .cons b (bools_of_vals t)
section
variable {X : Cx}
/-- behind a rule of the library that speaks of all that is new: nothing has changed but what is newer still -/
theorem Inv.newsAll {pins : List (Addr × Obj)} {σ : St} {H : Hp} {s : Shared} {h' : Heap} {tk : Nat} {m : Str → Option Value} (I : Inv X pins σ H s) (hm : s.heap.Ns X.env.locals m) (F : Fr X.base X.env.locals h' m)
    (N : News X.base X.env.locals h' (allNews X.base s.heap X.env.locals)) : Inv X pins σ H { s with heap := h', toks := tk } := by
  have kk : ∀ b o, b ≠ X.env.locals → s.heap.get? b = some o → h'.get? b = some o := fun b o hb e => by
    cases q : X.base.get? b with
    | none => exact (N (b, o) (mem_allNews hb q e)).1
    | some u =>
      have z := I.bk b u q
      rw [e] at z; cases z
      exact F.keep b _ q
  have hL : ∃ o', h'.get? X.env.locals = some o' := let ⟨o, _, _, e, _⟩ := F.ns; ⟨o, e⟩
  refine I.step (g' := s.gens) (d' := s.drawn) (ch := []) (fun _ z => nomatch z) (fun b o hb _ _ e _ => kk b o hb e) (fun b o hb _ _ e _ => ⟨o.slots, kk b o hb e⟩) (fun _ _ _ _ n => n) (fun b o _ e => ?_)
    (fun _ _ e => e) (fun _ _ _ e => e) (fun b ps e => ⟨#[], by rw [e]; simp⟩) (fun m' hm' => ?_) (fun b u e => ?_) I.bare
  · by_cases hb : b = X.env.locals
    · rw [hb]; exact hL
    · exact ⟨o, kk b o hb e⟩
  · have em : m' = m := by
      obtain ⟨o1, es1, ep1, g1, d1, _, f1⟩ := hm
      obtain ⟨o2, es2, ep2, g2, d2, _, f2⟩ := hm'
      rw [g1] at g2; cases g2
      rw [d1] at d2; cases d2
      funext z
      exact (f2 z).symm.trans (f1 z)
    rw [em]; exact F.ns
  · refine (I.hok b u e).stay (fun c v hc q => kk c v ?_ q) (fun _ q => q) fun _ _ q => q
    intro z
    subst z
    rcases hc with z | z
    · rw [← z, I.free] at e; cases e
    · rw [I.free] at z; cases z
theorem call_sum (hc : X.calm = true) : CallR X (.builtin "sum") (fun xs H Q => ∃ (a : Addr) (ns : List Int), xs = [V.ref a] ∧ SqL X.K H a (ns.map V.int) ∧ Q (.int ns.sum) H) := by
  intro pins s σ H xs us Q I r h
  obtain ⟨l, ns, rfl, hq, q⟩ := h
  obtain ⟨u, rfl, ru⟩ := vals1 r
  cases ru
  obtain ⟨vs, rv, p, _⟩ := I.list hq
  obtain ⟨m, hm, _⟩ := id I.loc
  have F0 : Fr X.base X.env.locals s.heap m := ⟨hm, I.bk, Nat.le_trans I.ok.bsz I.ok.above⟩
  exact LSm.sum_ints F0 news_all (I.ok.hd hc) p.isList (ints_of_vals rv) fun h' tk t' F' N' => ⟨.int ns.sum, H, I.newsAll hm F' N', ⟨t', rfl⟩, q⟩
theorem call_all (hc : X.calm = true) : CallR X (.builtin "all") (fun xs H Q => ∃ (a : Addr) (bs : List Bool), xs = [V.ref a] ∧ SqL X.K H a (bs.map V.bl) ∧ Q (.bl (bs.all id)) H) := by
  intro pins s σ H xs us Q I r h
  obtain ⟨l, bs, rfl, hq, q⟩ := h
  obtain ⟨u, rfl, ru⟩ := vals1 r
  cases ru
  obtain ⟨vs, rv, p, _⟩ := I.list hq
  obtain ⟨m, hm, _⟩ := id I.loc
  have F0 : Fr X.base X.env.locals s.heap m := ⟨hm, I.bk, Nat.le_trans I.ok.bsz I.ok.above⟩
  exact LSm.all_bools F0 news_all (I.ok.hd hc) p.isList (bools_of_vals rv) fun h' tk F' N' => ⟨.bl _, H, I.newsAll hm F' N', rfl, q⟩
end
/-! ### the rules that name the module's part, for a part that is named -/
section
variable {X : Cx} {K : PySem.W.Frag}
theorem ix_tup' (h : X.K = K) : IxR X (rIxT K) := by subst h; exact ix_tup
theorem ix_list' (h : X.K = K) : IxR X (rIxL K) := by subst h; exact ix_list
theorem sl_list' (h : X.K = K) : SlR X (rSlL K) := by subst h; exact sl_list
theorem op_eqD' {k : Nat} (h : X.K = K) (hr : Room k X.A) : OpR X (compareOp .Eq) (rEqD K) := by subst h; exact op_eqD hr
theorem op_neD' {k : Nat} (h : X.K = K) (hr : Room k X.A) : OpR X (compareOp .NotEq) (rNeD K) := by subst h; exact op_neD hr
theorem call_len' (h : X.K = K) : CallR X (.builtin "len") (fun xs H Q => ∃ x n, xs = [x] ∧ LenV K x H n ∧ Q (.int n) H) := by subst h; exact call_len
theorem call_isi' (h : X.K = K) : CallR X (.builtin "isinstance") (fun xs H Q => ∃ x n t b, xs = [x, .ty n] ∧ TyOf K H x t ∧ PySem.W.kitOne K t (.type n) = some b ∧ Q (.bl b) H) := by subst h; exact call_isi
theorem call_list_of' (h : X.K = K) : CallR X (.type "list") (fun xs H Q => ∃ p ys, xs = [.ref p] ∧ (SqL K H p ys ∨ SqT K H p ys) ∧ ∀ l, H l = none → Q (.ref l) (upd H l (.lst ys))) := by subst h; exact call_list_of
theorem call_sum' (h : X.K = K) (hc : X.calm = true) : CallR X (.builtin "sum") (fun xs H Q => ∃ (a : Addr) (ns : List Int), xs = [V.ref a] ∧ SqL K H a (ns.map V.int) ∧ Q (.int ns.sum) H) := by subst h; exact call_sum hc
theorem call_all' (h : X.K = K) (hc : X.calm = true) : CallR X (.builtin "all") (fun xs H Q => ∃ (a : Addr) (bs : List Bool), xs = [V.ref a] ∧ SqL K H a (bs.map V.bl) ∧ Q (.bl (bs.all id)) H) := by subst h; exact call_all hc
theorem pi_list' {tg l : Expr} {tl : TE} (h : X.K = K) (hl : PE X l tl) : PI X tg l (iList K tl) := by subst h; exact pi_list hl
end
theorem Same.updD {H H' : Hp} {D : Addr} {o : HO} (s : Same H H') (h : H D = none) : Same H (L2.upd H' D o) := fun b u e => by
  rw [L2.upd_ne (ne_of_none e h)]; exact s b u e
end L2
namespace L2
open PySem PySem.Spec PyProof.Rows
/-! ### texts -/
theorem strs_of_vals : ∀ {ys : List Str} {vs : List Value}, Vals (ys.map V.str) vs → StrsAre vs ys
  | [], _, .nil => .nil
  | y :: ys, _, .cons r t => by obtain ⟨tk, rfl⟩ := r; exact .cons y tk (strs_of_vals t)
section
variable {X : Cx} {K : PySem.W.Frag}
def rJoin (K : PySem.W.Frag) : V → List V → Hp → VK → Prop := fun x vs H Q => ∃ (z : Str) (a : Addr) (ys : List Str), x = .str z ∧ vs = [.ref a] ∧ SqL K H a (ys.map V.str) ∧ (ys.map (·.length)).sum + ys.length * z.length ≤ 16777216 ∧ Q (.str (Txt.join z ys)) H
theorem mt_join' (h : X.K = K) : MtR X "str.join" (rJoin K) := by
  subst h
  intro pins s σ H x xs v us Q I rx rv h
  obtain ⟨z, a, ys, rfl, rfl, hq, hz, q⟩ := h
  obtain ⟨t, rfl⟩ := rx
  obtain ⟨u, rfl, ru⟩ := Vals.one rv
  cases ru
  obtain ⟨its, r, p, _⟩ := I.list hq
  exact join_list p.isList (by simpa using strs_of_vals r) hz fun t' k => ⟨.str _, H, I.tok k, ⟨t', rfl⟩, q⟩
/-- a method of a built-in value, the module's part named -/
theorem pe_bm' {o e : Expr} {es : List Expr} {to : TE} {t : TA} {name : Str} {apos cpos : Pos} {T id : String} {r : V → List V → Hp → VK → Prop} (h : X.K = K) (pa : PlainAttrs T) (slot : Slot T name id) (hty : typeOf (.builtin id) = pure (.type "method_descriptor"))
    (hm : MtR X id r) (ho : PE X o to) (ha : PA X (e :: es) t) (hbase : attributeBase o name X.env (eval o X.env) = eval o X.env := by rfl)
    (hfew : ((backTo cpos (starEach (e :: es) X.env)).all (fun x => !x.1) && (backToKw cpos (keywordEach [] X.env)).all (fun x => x.1.isSome) && decide ((e :: es).length + ([] : List Keyword).length + (if ([] : List Keyword).isEmpty then 0 else 1) < 30)) = true := by rfl)
    (hline : (apos.endLine == cpos.line) = true := by rfl) (hs : starEach (e :: es) X.env = (false, eval e X.env) :: starEach es X.env := by rfl) (hplain : (backTo cpos (starEach es X.env)).any (·.1) = false := by rfl) :
    PE X (.Call (.Attribute o name apos) (e :: es) [] cpos) (tBM K T r to t) := by subst h; exact pe_bm pa slot hty hm ho ha hbase hfew hline hs hplain
theorem pg_tup' {es : List Expr} {k : Nat} {t : TGs} {n : Nat} {pos : Pos} (h : X.K = K) (hc : X.calm = true) (hp : PGs X es t) (hn : (assignEach es X.env).length = n := by rfl) (hst : (assignEach es X.env).findIdx? (·.1) = none := by rfl) :
    PG X (.Tuple es k pos) (gTup K n t) := by subst h; exact pg_tup hc hp hn hst
end
end L2
namespace L2
open PySem PySem.Spec PyProof.Rows
section
variable {X : Cx} {K : PySem.W.Frag} {k : Nat}
end
end L2
namespace Tc
open PySem L2
abbrev LT : Str := "abcdefghijklmnopqrstuvwxyz"
theorem lt_len : LT.cps.toList.length = 26 := by decide +kernel
theorem at_mem {α : Type} {xs : List α} {j : Int} (h0 : 0 ≤ j) (h1 : j < xs.length) : ∃ v, v ∈ xs ∧ atI xs j = some v := by
  obtain ⟨k, rfl⟩ := Int.eq_ofNat_of_zero_le h0
  have hk : k < xs.length := by omega
  exact ⟨xs[k], List.getElem_mem hk, atI_nat (List.getElem?_eq_getElem hk)⟩
theorem letter_at {i : Int} (h : 0 ≤ i ∧ i < 26) : ∃ ch, ch ∈ LT.cps.toList ∧ atI LT.cps.toList i = some ch := at_mem h.1 (by rw [lt_len]; exact h.2)
theorem str_at {zs : List Str} {k : Int} (h0 : 0 ≤ k) (h1 : k < zs.length) : ∃ z, z ∈ zs ∧ atI (zs.map V.str) k = some (V.str z) := by
  obtain ⟨j, rfl⟩ := Int.eq_ofNat_of_zero_le h0
  have hj : j < zs.length := by omega
  refine ⟨zs[j], List.getElem_mem hj, atI_nat ?_⟩
  rw [List.getElem?_map, List.getElem?_eq_getElem hj]; rfl
def cl (i : Int) : Int := if (if i < 9999 then i else 9999) > 0 then (if i < 9999 then i else 9999) else 0
theorem clamp (i : Int) : 0 ≤ cl i ∧ cl i ≤ 9999 := by
  unfold cl
  constructor <;> (split <;> split <;> omega)
end Tc
namespace L2
open PySem PySem.Spec PyProof.Rows
/-! ### a dict as it lies in the heap: its entries, whatever its keys are -/
def RawD (h : Heap) (d : Addr) (es : Array DictEntry) (ep : Nat) : Prop := ∃ o, h.get? d = some o ∧ o.ExactDict ∧ o.data = .dict es ep
theorem RawD.at {h h' : Heap} {d : Addr} {es : Array DictEntry} {ep : Nat} (x : RawD h d es ep) (e : ∀ o, h.get? d = some o → h'.get? d = some o) : RawD h' d es ep := let ⟨o, q, r⟩ := x; ⟨o, e o q, r⟩
theorem RawD.ty {s : Shared} {d : Addr} {es : Array DictEntry} {ep : Nat} (x : RawD s.heap d es ep) : s.TypeIs (.ref d) "dict" := let ⟨o, q, c, _⟩ := x; ⟨o, q, c.1⟩
theorem RawD.no {h : Heap} {d : Addr} {es : Array DictEntry} {ep : Nat} (x : RawD h d es ep) : ∀ b, Value.ref d = .ref b → ∃ ob, h.get? b = some ob ∧ ob.dict = none := let ⟨o, q, c, _⟩ := x; fun b e => by cases e; exact ⟨o, q, c.2.1⟩
section
variable {prog : Program} {w : World} {A : Around} {E : Value → Shared → Prop} {s : Shared} {it d vw : Addr} {i ep : Nat} {es : Array DictEntry} {ok ov : Value}
/-- d.items() -/
theorem raw_items (hd : (d == sysModules) = false) : MeetsIn prog w (Builtin.«dict.items» ⟨[.ref d], []⟩) (fun _ R s => (∃ es ep, RawD s.heap d es ep) ∧ R (.ok (.ret (.ref s.heap.objs.size))) { s with heap := s.heap.push { cls := .type "dict_items", data := .fields #[.ref d] } }) :=
  .of_wp fun A R s ⟨⟨es, ep, hm⟩, h⟩ => by
    unfold Builtin.«dict.items» Builtin.Dict.noArgs
    refine wpAny_bind (wpAny_bind (wpAny_notOrdered_dict hm.ty ?_)); show wpAny _ _ (pure d) _ _ s
    refine wpAny_pure ?_; show wpAny _ _ (Builtin.Dict.showsAll d >>= _) _ _ s
    unfold Builtin.Dict.showsAll
    rw [if_neg (show ¬ ((d == sysModules) = true) by rw [hd]; simp)]
    exact wpAny_bind (wpAny_pure (wpAny_bind (wpAny_newObj_type (wpAny_pure ⟨_, rfl, h⟩))))
/-- iter(d.items()) -/
theorem raw_iter {Q : Value → Shared → Prop} (hv : s.heap.IsItemsView vw d) (hm : RawD s.heap d es ep)
    (q : Q (.ref s.heap.objs.size) { s with heap := s.heap.push { cls := .type "dict_itemiterator", data := .fields #[.none, .bool false, .ref d, .int 0 0, .int es.size 0, .int ep 0, .none, .none] } }) : wpAny (model prog w) A (pyIter (.ref vw)) Q E s := by
  obtain ⟨o1, g1, c1, f1⟩ := id hv
  obtain ⟨o2, g2, c2, f2⟩ := id hm
  refine wpAny_pyIter_slot hv.typeIs F.slot_dict_items_iter (wpAny_call_entry F.slot_dict_items_iter hv.typeIs F.entry_dict_items_iter (?_) (F.args_dict_items_iter_1 (_)))
  unfold Builtin.«dict_items.__iter__» Builtin.Dict_items.dictOf Builtin.Dict_items.newIterator
  refine wpAny_bind (wpAny_pure (wpAny_bind (wpAny_bind (wpAny_field g1 f1 (x := .ref d) rfl (wpAny_pure (wpAny_bind (wpAny_bind (wpAny_dictEntries g2 f2 (wpAny_bind (wpAny_dictEpoch g2 f2 ?_))))))))))
  have hown : (Builtin.Dict_items.ownsTuple "dict_itemiterator") = true := by decide
  simp only [hown, if_true]
  refine wpAny_newObj_type (wpAny_pure ⟨_, rfl, "dict_itemiterator", _, ⟨_, Heap.get?_push_size (_) rfl, rfl⟩, F.slot_dict_itemiterator_next.lookup, (?_)⟩) (by
    simp only [sizeOk, Builtin.Dict_items.ownedTupleFields, List.size_toArray, List.length_append, List.length_cons, List.length_nil, sizeLine_eq]
    omega)
  simpa [rawInt, Builtin.Dict_items.ownedTupleFields] using q
/-- next(..) where there is one more -/
theorem raw_next {Q : Option Value → Shared → Prop} (hit : IsItemIter s.heap it d i es.size ep ok ov) (hm : RawD s.heap d es ep) (hi : i < es.size)
    (q : ∀ h', IsItemIterOut h' it d (i + 1) es.size ep es[i].key es[i].val s.heap.objs.size → h'.get? s.heap.objs.size = some { cls := .type "tuple", data := .seq #[es[i].key, es[i].val] } →
      (∀ b o, b ≠ it → s.heap.get? b = some o → h'.get? b = some o) → Q (some (.ref s.heap.objs.size)) { s with heap := h' }) : wpAny (model prog w) A (pyNext (.ref it)) Q E s := by
  obtain ⟨h0, g, dr, tk, os⟩ := s
  obtain ⟨o2, g2, c2, f2⟩ := id hm
  have ty : Shared.TypeIs ⟨h0, g, dr, tk, os⟩ (.ref it) "dict_itemiterator" := ⟨_, hit, rfl⟩
  have hown : (Builtin.Dict_items.ownsTuple "dict_itemiterator") = true := by decide
  unfold pyNext
  refine wpAny_bind (wpAny_attempt (wpAny_callSpecial?_slot (name := Str.ofString "__next__") ty F.slot_dict_itemiterator_next (wpAny_call_entry F.slot_dict_itemiterator_next ty F.entry_dict_itemiterator_next ?_ (F.args_dict_itemiterator_next_1 _))))
  refine wpAny_bind (wpAny_pure (wpAny_bind (wpAny_bind ?_)))
  first | refine wpAny_bind (wpAny_typeNameOfWhole_itemiter ty (wpAny_pure (wpAny_bind (wpAny_fieldsOf hit rfl ?_)))) | refine wpAny_bind (wpAny_typeNameOf_itemiter ty (wpAny_pure (wpAny_bind (wpAny_fieldsOf hit rfl ?_))))
  simp only [hown, if_true]
  show wpAny _ _ (if (Value.ref d == .none) = true then _ else _) _ _ _
  rw [if_neg (show ¬ ((Value.ref d == .none) = true) from Bool.false_ne_true)]
  refine wpAny_bind (wpAny_pure (wpAny_bind (wpAny_dictEntries g2 f2 ?_)))
  rw [if_neg (show ¬ _ by simp)]
  refine wpAny_bind (wpAny_pure (wpAny_bind (wpAny_dictEpoch g2 f2 ?_)))
  rw [if_neg (show ¬ _ by simp)]
  refine wpAny_pure ?_
  simp only [show ¬ ((i : Int) < 0) by omega, if_false, Int.toNat_natCast, Array.getElem?_eq_getElem hi]
  refine wpAny_bind ?_
  first | refine wpAny_bind (wpAny_typeNameOfWhole_itemiter ty (wpAny_pure (wpAny_bind (wpAny_isOneOf_itemiter ty ?_)))) | refine wpAny_bind (wpAny_typeNameOf_itemiter ty (wpAny_pure (wpAny_bind (wpAny_isOneOf_itemiter ty ?_))))
  show wpAny _ _ (setField (.ref it) 3 (rawInt ((i : Int) + 1)) >>= _) _ _ (⟨h0, g, dr, tk, os⟩ : Shared)
  refine wpAny_bind (wpAny_setField_rec hit (by simp) fun ha ia sa => ?_)
  have sa : Heap.SameBut it h0 ha := sa
  have ia : IsItemIter ha it d (i + 1) es.size ep ok ov := by
    have e : ((i + 1 : Nat) : Int) = (i : Int) + 1 := rfl
    unfold IsItemIter; rw [e]; simpa [rawInt] using ia
  have tya : Shared.TypeIs ⟨ha, g, dr, tk, os⟩ (.ref it) "dict_itemiterator" := ⟨_, ia, rfl⟩
  refine wpAny_bind (wpAny_holding (wpAny_bind (wpAny_isOneOf_itemiter tya (wpAny_bind (wpAny_isOneOf_itemiter tya ?_)))))
  show wpAny _ _ (Builtin.Dict_items.pairFromOwner (.ref it) 6 es[i].key es[i].val) _ _ (⟨ha, g, dr, tk, os⟩ : Shared)
  unfold Builtin.Dict_items.pairFromOwner
  refine wpAny_bind (wpAny_newTuple ?_)
  have za : ha.objs.size = h0.objs.size := sa.1
  have lt : it < h0.objs.size := Heap.lt_size hit
  have ne : h0.objs.size ≠ it := Nat.ne_of_gt lt
  obtain ⟨hb, ehb⟩ : ∃ hb, hb = ha.push { cls := .type "tuple", data := .seq #[es[i].key, es[i].val] } := ⟨_, rfl⟩
  have ib : IsItemIter hb it d (i + 1) es.size ep ok ov := by rw [ehb]; exact Heap.get?_push_of_some _ ia
  have tb : hb.get? h0.objs.size = some { cls := .type "tuple", data := .seq #[es[i].key, es[i].val] } := by rw [ehb, ← za]; exact Heap.get?_push_size _ rfl
  have kb : ∀ b o, b ≠ it → h0.get? b = some o → hb.get? b = some o := fun b o n e => by rw [ehb]; exact Heap.get?_push_of_some _ (sa.extBut b o n e)
  rw [← ehb]
  show wpAny _ _ (Builtin.Dict_items.ownedTupleIsFree (.ref it) >>= _) _ _ (⟨hb, g, dr, tk, os⟩ : Shared)
  rw [za]
  unfold Builtin.Dict_items.ownedTupleIsFree
  refine wpAny_bind (wpAny_bind (wpAny_field ib rfl (x := .none) rfl (wpAny_pure ?_)))
  simp only [if_true]
  refine wpAny_bind (wpAny_field ib rfl (x := ok) rfl (wpAny_bind (wpAny_field ib rfl (x := ov) rfl (wpAny_bind (wpAny_setField_rec ib (by simp) fun hc ic sc => ?_)))))
  have sc : Heap.SameBut it hb hc := sc
  have ic : IsItemIter hc it d (i + 1) es.size ep es[i].key ov := ic
  refine wpAny_bind (wpAny_setField_rec ic (by simp) fun hd' id' sd => ?_)
  have sd : Heap.SameBut it hc hd' := sd
  have id' : IsItemIter hd' it d (i + 1) es.size ep es[i].key es[i].val := id'
  refine wpAny_bind (wpAny_setField_rec id' (by simp) fun he ie se => ?_)
  have se : Heap.SameBut it hd' he := se
  have ie : IsItemIterOut he it d (i + 1) es.size ep es[i].key es[i].val h0.objs.size := ie
  refine wpAny_bind (wpAny_setField_rec ie (by simp) fun hf jf sf => ?_)
  have sf : Heap.SameBut it he hf := sf
  have jf : IsItemIterOut hf it d (i + 1) es.size ep es[i].key es[i].val h0.objs.size := jf
  have up : ∀ b o, b ≠ it → hb.get? b = some o → hf.get? b = some o := fun b o n e => sf.extBut b o n (se.extBut b o n (sd.extBut b o n (sc.extBut b o n e)))
  exact wpAny_bind (wpAny_letGo (wpAny_pure (wpAny_pure ⟨_, rfl, wpAny_pure (q hf jf (up _ _ ne tb) fun b o n e => up b o n (kb b o n e))⟩)))
/-- next(..) where there is none left -/
theorem raw_end {Q : Option Value → Shared → Prop} (hh : A.handled = none) (hit : IsItemIter s.heap it d i es.size ep ok ov) (hm : RawD s.heap d es ep) (hi : es.size ≤ i)
    (q : ∀ h', Heap.ExtBut it s.heap h' → Q none { s with heap := h' }) : wpAny (model prog w) A (pyNext (.ref it)) Q E s := by
  obtain ⟨o2, g2, c2, f2⟩ := id hm
  have ty : s.TypeIs (.ref it) "dict_itemiterator" := ⟨_, hit, rfl⟩
  have hown : (Builtin.Dict_items.ownsTuple "dict_itemiterator") = true := by decide
  unfold pyNext
  refine wpAny_bind (wpAny_attempt (wpAny_callSpecial?_slot (name := Str.ofString "__next__") ty F.slot_dict_itemiterator_next (wpAny_call_entry F.slot_dict_itemiterator_next ty F.entry_dict_itemiterator_next ?_ (F.args_dict_itemiterator_next_1 _))))
  refine wpAny_bind (wpAny_pure (wpAny_bind (wpAny_bind ?_)))
  first | refine wpAny_bind (wpAny_typeNameOfWhole_itemiter ty (wpAny_pure (wpAny_bind (wpAny_fieldsOf hit rfl ?_)))) | refine wpAny_bind (wpAny_typeNameOf_itemiter ty (wpAny_pure (wpAny_bind (wpAny_fieldsOf hit rfl ?_))))
  simp only [hown, if_true]
  show wpAny _ _ (if (Value.ref d == .none) = true then _ else _) _ _ _
  rw [if_neg (show ¬ ((Value.ref d == .none) = true) from Bool.false_ne_true)]
  refine wpAny_bind (wpAny_pure (wpAny_bind (wpAny_dictEntries g2 f2 ?_)))
  rw [if_neg (show ¬ _ by simp)]
  refine wpAny_bind (wpAny_pure (wpAny_bind (wpAny_dictEpoch g2 f2 ?_)))
  rw [if_neg (show ¬ _ by simp)]
  refine wpAny_pure ?_
  simp only [show ¬ ((i : Int) < 0) by omega, if_false, Int.toNat_natCast, Array.getElem?_eq_none hi]
  refine wpAny_bind ?_
  first | refine wpAny_bind (wpAny_typeNameOfWhole_itemiter ty (wpAny_pure ?_)) | refine wpAny_bind (wpAny_typeNameOf_itemiter ty (wpAny_pure ?_))
  show wpAny _ _ (setField (.ref it) 2 .none >>= _) _ _ (s)
  refine wpAny_bind (wpAny_setField hit rfl (by simp) (show wpAny _ _ (newExc (.type "StopIteration") [] >>= _) _ _ _ from wpAny_bind ?_))
  simp only [newExc, newTuple]
  refine wpAny_bind (wpAny_newObj_type (wpAny_bind (m := firstArgMember _ _) (wpAny_of_eq (a := Value.none) (by first | rfl | (simp only [firstArgMember]; rfl)) (wpAny_newObj_type ?_ (by size_fits)))) (by size_fits))
  simp only [raiseNew]
  refine wpAny_bind (wpAny_handled ?_)
  rw [show (Around.in1 A).handled = none from hh]
  refine wpAny_bind (wpAny_pure (wpAny_throw (?_)))
  refine wpAny_bind (wpAny_isInstance (b := true) (T := "StopIteration") ⟨_, Heap.get?_push_size _ rfl, rfl⟩ isSubtype_stop (?_))
  exact wpAny_pure (q _ (((Heap.SameBut.update ..).extBut.push _).push _))
end
end L2
namespace L2
open PySem PySem.Spec PyProof.Rows
/-! ### a dict that is walked stands still -/
def isDk : HO → Bool
  | .dK _ => true
  | .dT _ => true
  | _ => false
section
variable {X : Cx} {pins : List (Addr × Obj)} {σ : St} {H : Hp} {s : Shared} {d : Addr} {u : HO} {o : Obj}
theorem ne_dk (hd : H d = some u) (hu : isDk u = true) : ∀ c v, H c = some v → isDk v = false → c ≠ d := fun c v e f z => by
  subst z; rw [hd] at e; cases e; rw [hu] at f; cases f
theorem Inv.freeze (I : Inv X pins σ H s) (hd : H d = some u) (hu : isDk u = true) (ho : s.heap.get? d = some o) : Inv X pins σ (upd H d (.frz o u)) s := by
  have mu : Mut (H d) := by rw [hd]; cases u <;> first | trivial | (simp [isDk] at hu)
  refine I.write (x := d) (e := d) (o := .frz o u) (h' := s.heap) (t' := s.toks) mu (.inl rfl) (fun _ _ _ q => q) ⟨o, ho⟩ ⟨ho, ?_⟩
  exact (I.hok d u hd).stay (fun _ _ _ q => q) (fun c q => by rw [upd_ne (ne_dk hd hu c _ q rfl)]; exact q) fun c xs q => by rw [upd_ne (ne_dk hd hu c _ q rfl)]; exact q
theorem Inv.unfrozen (I : Inv X pins σ H s) (hd : H d = some u) (hu : isDk u = true) (ob : Obj) (v : HO) : X.H₀ d ≠ some (.frz ob v) := fun e => by
  have z := I.base.frzs d ob v e
  rw [hd] at z; cases z; cases hu
theorem Inv.thaw (I : Inv X pins σ H s) (hd : H d = some (.frz o u)) (h0 : ∀ ob v, X.H₀ d ≠ some (.frz ob v)) : Inv X pins σ (upd H d u) s := by
  have ne : ∀ c v, H c = some v → (∀ ob w, v ≠ .frz ob w) → c ≠ d := fun c v e f z => by
    subst z; rw [hd] at e; cases e; exact f _ _ rfl
  have nn : ∀ c, H c = none → c ≠ d := fun c e z => by subst z; rw [hd] at e; cases e
  refine ⟨I.ok, I.os, I.bare, ⟨I.base.keep, I.base.slot, fun b ob e n hx => ?_, I.base.there, fun b xs e => ?_, fun b ob w e => ?_, fun b ps e => ?_⟩, I.loc, I.cell, ?_, fun x c e => ?_, fun p hp => ?_, fun b w e => ?_, I.len⟩
  · have q := I.base.free b ob e n hx
    rw [upd_ne (nn b q)]; exact q
  · have q := I.base.tups b xs e
    rw [upd_ne (ne b _ q fun _ _ z => by cases z)]; exact q
  · have q := I.base.frzs b ob w e
    rw [upd_ne (fun z => h0 ob w (by rw [← z]; exact e))]; exact q
  · obtain ⟨m, q⟩ := I.base.tbls b ps e
    exact ⟨m, by rw [upd_ne (ne b _ q fun _ _ z => by cases z)]; exact q⟩
  · rw [upd_ne (nn _ I.free)]; exact I.free
  · rw [upd_ne (nn _ (I.freeC x c e))]; exact I.freeC x c e
  · obtain ⟨e1, e2, e3⟩ := I.pin p hp
    exact ⟨e1, by rw [upd_ne (nn _ e2)]; exact e2, e3⟩
  · have go : ∀ {a : Addr} {v : HO}, ObjOk X.prog X.w H s.heap a v → ObjOk X.prog X.w (upd H d u) s.heap a v := fun q =>
      q.stay (fun _ _ _ q => q) (fun c q => by rw [upd_ne (ne c _ q fun _ _ z => by cases z)]; exact q) fun c xs q => by rw [upd_ne (ne c _ q fun _ _ z => by cases z)]; exact q
    by_cases z : b = d
    · subst z; rw [upd_same] at e; cases e
      exact go (I.hok b _ hd).2
    · rw [upd_ne z] at e
      exact go (I.hok b w e)
/-- the ends of a walk, behind which the dict at d may be changed again -/
def thawE (d : Addr) (D : Ends) : Ends where
  nx := fun σ H => ∃ o u, H d = some (.frz o u) ∧ D.nx σ (upd H d u)
  rt := fun v H => ∃ o u, H d = some (.frz o u) ∧ D.rt v (upd H d u)
  bk := fun σ H => ∃ o u, H d = some (.frz o u) ∧ D.bk σ (upd H d u)
  ct := fun σ H => ∃ o u, H d = some (.frz o u) ∧ D.ct σ (upd H d u)
def tThaw (t : TS) : TS := fun D σ H => ∃ d u, H d = some u ∧ isDk u = true ∧ t (thawE d D) σ H
theorem ps_thaw {st : Stmt} {t : TS} (h : PS X st t) : PS X st (tThaw t) := by
  intro pins s σ H D I hq
  obtain ⟨d, u, hd, hu, ht⟩ := hq
  have h0 := I.unfrozen hd hu
  refine thn (h pins s σ H _ I ht) fun f s1 q => ?_
  cases f with
  | next => obtain ⟨σ', H', I', o, v, e, q⟩ := q; exact ⟨σ', _, I'.thaw e h0, q⟩
  | brk => obtain ⟨σ', H', I', o, v, e, q⟩ := q; exact ⟨σ', _, I'.thaw e h0, q⟩
  | cont => obtain ⟨σ', H', I', o, v, e, q⟩ := q; exact ⟨σ', _, I'.thaw e h0, q⟩
  | ret w => obtain ⟨x, σ', H', I', r, o, v, e, q⟩ := q; exact ⟨x, σ', _, I'.thaw e h0, r, q⟩
/-- likewise of a value that is made by a walk -/
def tThawE (t : TE) : TE := fun σ H Q => ∃ d u, H d = some u ∧ isDk u = true ∧ t σ H fun v H1 => ∃ o w, H1 d = some (.frz o w) ∧ Q v (upd H1 d w)
theorem pe_thaw {e : Expr} {t : TE} (h : PE X e t) : PE X e (tThawE t) := by
  intro pins s σ H Q I hq
  obtain ⟨d, u, hd, hu, ht⟩ := hq
  have h0 := I.unfrozen hd hu
  refine thn (h pins s σ H _ I ht) fun v s1 q => ?_
  obtain ⟨x, H', I', r, o, w, e, q⟩ := q
  exact ⟨x, _, I'.thaw e h0, r, q⟩
/-! ### its entries -/
abbrev PsRel (ps : List (V × V)) (es : List DictEntry) : Prop := Paired (fun p e => RelV p.1 e.key ∧ RelV p.2 e.val) ps es
/-- the pairs of the dict u: its keys as they are -/
def Pss (H : Hp) : HO → List (V × V) → Prop
  | .dK kvs, ps => ps = kvs.map fun kv => (kV kv.1, kv.2)
  | .dT kvs, ps => Paired (fun kv p => ∃ b, p = (V.ref b, kv.2) ∧ H b = some (.tup (kv.1.map kV))) kvs ps
  | _, _ => False
theorem ps_of_pairs {P : Program} {w : World} : ∀ {kvs : List (Key × V)} {vs : List (Key × Value)} {es : List DictEntry}, KV kvs vs → Pairs (mixKind P w) es vs → PsRel (kvs.map fun kv => (kV kv.1, kv.2)) es
  | [], [], _, _, p => by cases p; exact .nil
  | [], _ :: _, _, r, _ => nomatch r
  | _ :: _, [], _, r, _ => nomatch r
  | kv :: kvs, v :: vs, es, .cons h r, p => by
    cases p with
    | cons a b c =>
      refine .cons ⟨?_, ?_⟩ (ps_of_pairs r c)
      · have a := a
        rw [← h.1] at a
        rcases keyIs_shape a with ⟨i, t, e1, e2⟩ | ⟨x, t, e1, e2⟩
        · show RelV (kV kv.1) _; rw [e1, e2]; exact ⟨t, rfl⟩
        · show RelV (kV kv.1) _; rw [e1, e2]; exact ⟨t, rfl⟩
      · rw [b]; exact h.2
theorem ps_of_keys {P : Program} {w : World} {H : Hp} : ∀ {kvs : List (List Key × V)} {xs : List (List Key × Addr × Value)}, KT H kvs xs → ∃ ps, Paired (fun kv p => ∃ b, p = (V.ref b, kv.2) ∧ H b = some (.tup (kv.1.map kV))) kvs ps ∧ PsRel ps (xs.map (entryOfKey (tupleKind (mixKind P w))))
  | _, _, .nil => ⟨[], .nil, .nil⟩
  | kv :: _, x :: _, .cons h r => by
    obtain ⟨ps, h1, h2⟩ := ps_of_keys (P := P) (w := w) r
    exact ⟨(.ref x.2.1, kv.2) :: ps, .cons ⟨x.2.1, rfl, h.2.1⟩ h1, .cons ⟨rfl, h.2.2⟩ h2⟩
theorem Inv.raw (I : Inv X pins σ H s) (hd : H d = some u) (hu : isDk u = true) : ∃ o es ep ps, s.heap.get? d = some o ∧ o.ExactDict ∧ o.data = .dict es ep ∧ (d == sysModules) = false ∧ Pss H u ps ∧ PsRel ps es.toList := by
  have ok := I.hok d u hd
  cases u with
  | dK kvs =>
    obtain ⟨_, hs, vs, kv, o, es, ep, g, ex, dat, _, pr, _⟩ := ok
    exact ⟨o, es, ep, _, g, ex, dat, hs, rfl, ps_of_pairs kv pr⟩
  | dT kvs =>
    obtain ⟨_, hs, xs, kt, o, es, ep, g, ex, dat, he, _⟩ := ok
    obtain ⟨ps, h1, h2⟩ := ps_of_keys (P := X.prog) (w := X.w) kt
    exact ⟨o, es, ep, ps, g, ex, dat, hs, h1, by rw [he]; exact h2⟩
  | _ => cases hu
/-- the pairs of a dict that stands still, one by one: each is a new tuple -/
def ItD (d : Addr) (o : Obj) (u : HO) (ps : List (V × V)) : It :=
  ⟨fun i H => i < ps.length ∧ H d = some (.frz o u), fun i H x H' => ∃ k v T, ps[i]? = some (k, v) ∧ x = .ref T ∧ H T = none ∧ H' = upd H T (.tup [k, v]), fun i H => i = ps.length ∧ H d = some (.frz o u)⟩
theorem pair_at {α β : Type} {F : α → β → Prop} : ∀ {xs : List α} {ys : List β} {i : Nat} {x : α}, Paired F xs ys → xs[i]? = some x → ∃ y, ys[i]? = some y ∧ F x y
  | _, _, _, _, .nil, e => by simp at e
  | _, _, 0, _, .cons r _, e => by simp at e; subst e; exact ⟨_, rfl, r⟩
  | _, _, i + 1, x, .cons _ t, e => by
    obtain ⟨u, h1, h2⟩ := pair_at (i := i) (x := x) t (by simpa using e)
    exact ⟨u, by simpa using h1, h2⟩
theorem turn_items {P : Program} {w : World} {K : PySem.W.Frag} {elts : List Expr} {kk : Nat} {pos : Pos} {d it : Addr} {o : Obj} {u : HO} {ps : List (V × V)} {es : Array DictEntry} {ep : Nat} (hx : o.ExactDict) (dat : o.data = .dict es ep) (rel : PsRel ps es.toList) :
    Turn P w K (.Tuple elts kk pos) (ItD d o u ps) [it] it (fun i h => ∃ ok ov, IsItemIter h it d i es.size ep ok ov) where
  mem := by simp
  obj := fun i h st b hb => by
    have e : b = it := by simpa using hb
    subst e
    obtain ⟨ok, ov, st⟩ := st
    exact ⟨_, st, fun v z => by cases z⟩
  keep := fun i h h' st k => let ⟨ok, ov, st⟩ := st; ⟨ok, ov, k it (by simp) _ st⟩
  item := by
    intro X hP hw hK hc i pins s σ H E I hf st hg
    subst hP hw hK
    obtain ⟨f0, f1, _, f3, f4, f5⟩ := hf it (by simp)
    obtain ⟨ok, ov, st⟩ := st
    obtain ⟨hi, hd⟩ := hg
    have hlen : ps.length = es.size := by rw [rel.length]; simp
    have hi' : i < es.size := by omega
    refine raw_next st ⟨o, (I.hok d _ hd).1, hx, dat⟩ hi' fun h' jo ht kk => ?_
    refine ⟨_, rfl, wpAny_letOwnedTupleGo_items jo fun h2 he2 sb => ?_⟩
    obtain ⟨p, hp⟩ : ∃ p, ps[i]? = some p := ⟨ps[i], by simp [hi]⟩
    obtain ⟨e', he', rk, rv⟩ := pair_at rel hp
    have ee : e' = es[i] := by
      have : es.toList[i]? = some es[i] := by simp [hi']
      rw [this] at he'; exact (Option.some.inj he').symm
    subst ee
    have nT : s.heap.objs.size ≠ it := Nat.ne_of_gt (Heap.lt_size st)
    have I1 : Inv X pins σ H { s with heap := h2, toks := s.toks } := I.turned (fun b ob hb e => sb.extBut b ob hb (kk b ob hb e)) f0 f1 f3 f4 f5
    have hT2 : h2.get? s.heap.objs.size = some { cls := .type "tuple", data := .seq #[es[i].key, es[i].val] } := sb.extBut _ _ nT ht
    obtain ⟨g0, g1, _, _, g4, g5⟩ := I.fpOk (Nat.le_refl _) I.fresh
    have I2 := I1.track (a := s.heap.objs.size) (o := .tup [p.1, p.2]) g0 (by
      cases q : X.s₀.heap.get? s.heap.objs.size with
      | none => rfl
      | some ob => exact absurd (Nat.lt_of_lt_of_le (Heap.lt_size q) I.sz) (Nat.lt_irrefl _)) g1 g4 g5 ⟨small1000 (by simp) |> Nat.le_of_lt, [es[i].key, es[i].val], .cons rk (.cons rv .nil), ⟨_, hT2, rfl, _, rfl⟩⟩
    refine ⟨.ref _, _, I2, rfl, ⟨p.1, p.2, _, hp, rfl, g0, rfl⟩, ⟨_, _, he2⟩, fun b hb => ?_⟩
    have e : b = it := by simpa using hb
    subst e
    rw [upd_ne (Ne.symm nT)]; exact f0
  done := by
    intro X hP hw hK hc i pins s σ H E I hf st hg
    subst hP hw hK
    obtain ⟨f0, f1, _, f3, f4, f5⟩ := hf it (by simp)
    obtain ⟨ok, ov, st⟩ := st
    obtain ⟨hi, hd⟩ := hg
    have hlen : ps.length = es.size := by rw [rel.length]; simp
    exact raw_end (I.ok.hd hc) st ⟨o, (I.hok d _ hd).1, hx, dat⟩ (by rw [hi, hlen]; exact Nat.le_refl _) fun h' eb => ⟨rfl, I.turned (t' := s.toks) (fun b ob hb e => eb b ob hb e) f0 f1 f3 f4 f5⟩
  self := fun A i s Q E st h => let ⟨_, _, st⟩ := st; PySem.W.kcp_self st h
/-- what d.items() tells -/
def viewO (v d : Addr) : HO := .ext fun h => h.IsItemsView v d
def rItems : V → List V → Hp → VK → Prop := fun x vs H Q => ∃ d u, x = .ref d ∧ vs = [] ∧ H d = some u ∧ isDk u = true ∧ ∀ p, H p = none → Q (.ref p) (upd H p (viewO p d))
theorem mt_items : MtR X "dict.items" rItems := by
  intro pins s σ H x xs v us Q I rx rv h
  obtain ⟨d, u, rfl, rfl, hd, hu, q⟩ := h
  cases rx
  cases rv
  obtain ⟨o, es, ep, ps, g, ex, dat, hs, _, _⟩ := I.raw hd hu
  have rw0 : RawD s.heap d es ep := ⟨o, g, ex, dat⟩
  refine call_meetsIn PySem.F.slot_dict_items rw0.ty PySem.F.entry_dict_items (PySem.F.args_dict_items_1 (_)) (raw_items hs) ⟨⟨es, ep, rw0⟩, ?_⟩
  refine ⟨.ref _, _, I.laid (t' := s.toks) (o := viewO s.heap.objs.size d) (fun b ob e => Heap.get?_push_of_some _ e) (Nat.le_refl _) ?_, rfl, q _ I.fresh⟩
  exact ⟨⟨_, Heap.get?_push_size _ rfl, rfl, rfl⟩, ⟨_, Heap.get?_push_size _ rfl⟩, fun h1 h2 ⟨ob, e, c⟩ k => ⟨ob, k ob e, c⟩⟩
def iItems (tl : TE) : TI := fun σ H R => tl σ H fun x H1 => ∃ v d u, x = .ref v ∧ H1 v = some (viewO v d) ∧ H1 d = some u ∧ isDk u = true ∧ ∀ o ps, Pss H1 u ps → R (ItD d o u ps) (upd H1 d (.frz o u))
theorem pi_items {elts : List Expr} {kk : Nat} {pos : Pos} {l : Expr} {tl : TE} (hl : PE X l tl) : PI X (.Tuple elts kk pos) l (iItems tl) := by
  intro pins s σ H R I h
  refine thn (hl pins s σ H _ I h) fun v s1 ⟨x, H1, I1, r1, q1⟩ => ?_
  obtain ⟨vw, d, u, rfl, hv, hd, hu, q⟩ := q1
  cases r1
  obtain ⟨o, es, ep, ps, g, ex, dat, hs, hps, rel⟩ := I1.raw hd hu
  have hv' : s1.heap.IsItemsView vw d := (I1.hok vw _ hv).1
  refine raw_iter hv' ⟨o, g, ex, dat⟩ ?_
  have I2 : Inv X pins σ H1 _ := I1.kept (t' := s1.toks) (h' := s1.heap.push { cls := .type "dict_itemiterator", data := .fields #[.none, .bool false, .ref d, .int 0 0, .int es.size 0, .int ep 0, .none, .none] }) fun b ob e => Heap.get?_push_of_some _ e
  refine ⟨s1.heap.objs.size, [s1.heap.objs.size], _, _, _, rfl, I2.freeze hd hu (Heap.get?_push_of_some _ g), turn_items ex dat rel, ⟨_, _, Heap.get?_push_size _ rfl⟩, fun b hb => ?_, q o ps hps⟩
  have e : b = s1.heap.objs.size := by simpa using hb
  subst e
  exact I1.fpOk (Nat.le_refl _) (by rw [upd_ne (ne_of_none hd I1.fresh).symm]; exact I1.fresh)
end
end L2
namespace L2
open PySem PySem.Spec PyProof.Rows
/-! ### d.values(), whatever the keys are -/
section
variable {prog : Program} {w : World} {A : Around} {E : Value → Shared → Prop} {s : Shared} {it d vw : Addr} {i ep : Nat} {es : Array DictEntry}
theorem raw_values (hd : (d == sysModules) = false) : MeetsIn prog w (Builtin.«dict.values» ⟨[.ref d], []⟩) (fun _ R s => (∃ es ep, RawD s.heap d es ep) ∧ R (.ok (.ret (.ref s.heap.objs.size))) { s with heap := s.heap.push { cls := .type "dict_values", data := .fields #[.ref d] } }) :=
  .of_wp fun A R s ⟨⟨es, ep, hm⟩, h⟩ => by
    refine wpAny_bind (?_); unfold Builtin.Dict.noArgs
    refine wpAny_bind (wpAny_notOrdered_dict hm.ty ?_); show wpAny _ _ (pure d) _ _ s
    refine wpAny_pure ?_; show wpAny _ _ (Builtin.Dict.showsAll d >>= _) _ _ s
    unfold Builtin.Dict.showsAll
    rw [if_neg (show ¬ ((d == sysModules) = true) by rw [hd]; simp)]
    exact wpAny_bind (wpAny_pure (wpAny_bind (wpAny_newObj_type (wpAny_pure ⟨_, rfl, h⟩))))
theorem raw_viter {Q : Value → Shared → Prop} (hv : s.heap.IsValuesView vw d) (hm : RawD s.heap d es ep)
    (q : Q (.ref s.heap.objs.size) { s with heap := s.heap.push { cls := .type "dict_valueiterator", data := .fields #[.ref d, .int 0 0, .int es.size 0, .int ep 0] } }) : wpAny (model prog w) A (pyIter (.ref vw)) Q E s := by
  obtain ⟨o1, g1, c1, f1⟩ := id hv
  obtain ⟨o2, g2, c2, f2⟩ := id hm
  refine wpAny_pyIter_slot hv.typeIs F.slot_dict_values_iter (wpAny_call_entry F.slot_dict_values_iter hv.typeIs F.entry_dict_values_iter (?_) (F.args_dict_values_iter_1 (_)))
  unfold Builtin.«dict_values.__iter__» Builtin.Dict_items.dictOf Builtin.Dict_items.newIterator
  refine wpAny_bind (wpAny_pure (wpAny_bind (wpAny_bind (wpAny_field g1 f1 (x := .ref d) rfl (wpAny_pure (wpAny_bind (wpAny_bind (wpAny_dictEntries g2 f2 (wpAny_bind (wpAny_dictEpoch g2 f2 ?_))))))))))
  have hown : (Builtin.Dict_items.ownsTuple "dict_valueiterator") = false := by decide
  simp only [hown, Bool.false_eq_true, if_false]
  refine wpAny_newObj_type (wpAny_pure ⟨_, rfl, "dict_valueiterator", _, ⟨_, Heap.get?_push_size (_) rfl, rfl⟩, F.slot_dict_valueiterator_next.lookup, (?_)⟩)
  simpa [rawInt] using q
theorem raw_vnext {Q : Option Value → Shared → Prop} (hit : s.heap.IsValIter it d i es.size ep) (hm : RawD s.heap d es ep) (hi : i < es.size)
    (q : ∀ h', h'.IsValIter it d (i + 1) es.size ep → Heap.SameBut it s.heap h' → Q (some es[i].val) { s with heap := h' }) : wpAny (model prog w) A (pyNext (.ref it)) Q E s := by
  obtain ⟨o, ho, hc, hd⟩ := id hit
  obtain ⟨o2, g2, c2, f2⟩ := id hm
  have hown : (Builtin.Dict_items.ownsTuple "dict_valueiterator") = false := by decide
  unfold pyNext
  refine wpAny_bind (wpAny_attempt (wpAny_callSpecial?_slot (name := Str.ofString "__next__") hit.typeIs F.slot_dict_valueiterator_next (wpAny_call_entry F.slot_dict_valueiterator_next hit.typeIs F.entry_dict_valueiterator_next ?_ (F.args_dict_valueiterator_next_1 _))))
  refine wpAny_bind (wpAny_pure (wpAny_bind (wpAny_bind ?_)))
  first | refine wpAny_bind (wpAny_typeNameOfWhole_valiter hit.typeIs (wpAny_pure (wpAny_bind (wpAny_fieldsOf ho hd ?_)))) | refine wpAny_bind (wpAny_typeNameOf_valiter hit.typeIs (wpAny_pure (wpAny_bind (wpAny_fieldsOf ho hd ?_))))
  simp only [hown, Bool.false_eq_true, if_false]
  show wpAny _ _ (if (Value.ref d == .none) = true then _ else _) _ _ _
  rw [if_neg (show ¬ ((Value.ref d == .none) = true) from Bool.false_ne_true)]
  refine wpAny_bind (wpAny_pure (wpAny_bind (wpAny_dictEntries g2 f2 ?_)))
  rw [if_neg (show ¬ _ by simp)]
  refine wpAny_bind (wpAny_pure (wpAny_bind (wpAny_dictEpoch g2 f2 ?_)))
  rw [if_neg (show ¬ _ by simp)]
  refine wpAny_pure ?_
  simp only [show ¬ ((i : Int) < 0) by omega, if_false, Int.toNat_natCast, Array.getElem?_eq_getElem hi]
  refine wpAny_bind ?_
  first | refine wpAny_bind (wpAny_typeNameOfWhole_valiter hit.typeIs (wpAny_pure (wpAny_bind (wpAny_isOneOf_valiter hit.typeIs ?_)))) | refine wpAny_bind (wpAny_typeNameOf_valiter hit.typeIs (wpAny_pure (wpAny_bind (wpAny_isOneOf_valiter hit.typeIs ?_))))
  show wpAny _ _ (setField (.ref it) 1 (rawInt ((i : Int) + 1)) >>= _) _ _ (s)
  have st : (s.heap.update it (Obj.mapFields (·.setIfInBounds 1 (rawInt ((i : Int) + 1))))).IsValIter it d (i + 1) es.size ep := ⟨_, Heap.get?_update_self _ ho (Obj.isFreed_of_fields (Obj.data_mapFields hd _)), (Obj.cls_mapFields ..).trans hc, by rw [Obj.data_mapFields hd]; simp [rawInt]⟩
  refine wpAny_bind (wpAny_setField ho hd (by simp) (wpAny_bind (wpAny_holding (wpAny_bind (wpAny_isOneOf_valiter (s := { s with heap := s.heap.update it (Obj.mapFields (·.setIfInBounds 1 (rawInt ((i : Int) + 1)))) }) st.typeIs (wpAny_bind (wpAny_isOneOf_valiter (s := { s with heap := s.heap.update it (Obj.mapFields (·.setIfInBounds 1 (rawInt ((i : Int) + 1)))) }) st.typeIs ?_)))))))
  show wpAny _ _ (pure es[i].val) _ _ (_)
  exact wpAny_pure (wpAny_pure ⟨_, rfl, wpAny_pure (q _ st (Heap.SameBut.update ..))⟩)
theorem raw_vend {Q : Option Value → Shared → Prop} (hh : A.handled = none) (hit : s.heap.IsValIter it d i es.size ep) (hm : RawD s.heap d es ep) (hi : es.size ≤ i)
    (q : ∀ h', Heap.ExtBut it s.heap h' → Q none { s with heap := h' }) : wpAny (model prog w) A (pyNext (.ref it)) Q E s := by
  obtain ⟨o, ho, hc, hd⟩ := id hit
  obtain ⟨o2, g2, c2, f2⟩ := id hm
  have hown : (Builtin.Dict_items.ownsTuple "dict_valueiterator") = false := by decide
  unfold pyNext
  refine wpAny_bind (wpAny_attempt (wpAny_callSpecial?_slot (name := Str.ofString "__next__") hit.typeIs F.slot_dict_valueiterator_next (wpAny_call_entry F.slot_dict_valueiterator_next hit.typeIs F.entry_dict_valueiterator_next ?_ (F.args_dict_valueiterator_next_1 _))))
  refine wpAny_bind (wpAny_pure (wpAny_bind (wpAny_bind ?_)))
  first | refine wpAny_bind (wpAny_typeNameOfWhole_valiter hit.typeIs (wpAny_pure (wpAny_bind (wpAny_fieldsOf ho hd ?_)))) | refine wpAny_bind (wpAny_typeNameOf_valiter hit.typeIs (wpAny_pure (wpAny_bind (wpAny_fieldsOf ho hd ?_))))
  simp only [hown, Bool.false_eq_true, if_false]
  show wpAny _ _ (if (Value.ref d == .none) = true then _ else _) _ _ _
  rw [if_neg (show ¬ ((Value.ref d == .none) = true) from Bool.false_ne_true)]
  refine wpAny_bind (wpAny_pure (wpAny_bind (wpAny_dictEntries g2 f2 ?_)))
  rw [if_neg (show ¬ _ by simp)]
  refine wpAny_bind (wpAny_pure (wpAny_bind (wpAny_dictEpoch g2 f2 ?_)))
  rw [if_neg (show ¬ _ by simp)]
  refine wpAny_pure ?_
  simp only [show ¬ ((i : Int) < 0) by omega, if_false, Int.toNat_natCast, Array.getElem?_eq_none hi]
  refine wpAny_bind ?_
  first | refine wpAny_bind (wpAny_typeNameOfWhole_valiter hit.typeIs (wpAny_pure (?_))) | refine wpAny_bind (wpAny_typeNameOf_valiter hit.typeIs (wpAny_pure (?_)))
  show wpAny _ _ (setField (.ref it) 0 .none >>= _) _ _ (s)
  refine wpAny_bind (wpAny_setField ho hd (by simp) (show wpAny _ _ (newExc (.type "StopIteration") [] >>= _) _ _ _ from wpAny_bind ?_))
  simp only [newExc, newTuple]
  refine wpAny_bind (wpAny_newObj_type (wpAny_bind (m := firstArgMember _ _) (wpAny_of_eq (a := Value.none) (by first | rfl | (simp only [firstArgMember]; rfl)) (wpAny_newObj_type ?_ (by size_fits)))) (by size_fits))
  simp only [raiseNew]
  refine wpAny_bind (wpAny_handled ?_)
  rw [show (Around.in1 A).handled = none from hh]
  refine wpAny_bind (wpAny_pure (wpAny_throw (?_)))
  refine wpAny_bind (wpAny_isInstance (b := true) (T := "StopIteration") ⟨_, Heap.get?_push_size _ rfl, rfl⟩ isSubtype_stop (?_))
  exact wpAny_pure (q _ (((Heap.SameBut.update ..).extBut.push _).push _))
theorem walks_vals (hh : A.handled = none) (I d : Addr) (hne : d ≠ I) (es : Array DictEntry) (ep : Nat) : Walks prog w A I [I, d] [I] es.size (fun i v => ∃ e, es[i]? = some e ∧ v = e.val) (fun i h => h.IsValIter I d i es.size ep ∧ RawD h d es ep) where
  sub := fun b hb => by simp at hb; simp [hb]
  frame := fun _ _ _ st k => ⟨st.1.at fun o e => k I (by simp) o e, st.2.at fun o e => k d (by simp) o e⟩
  item := fun i s Q E hi st q => raw_vnext st.1 st.2 hi fun h' st' sb => q _ h' s.toks ⟨es[i], by simp [hi], rfl⟩ ⟨st', st.2.at fun o e => sb.extBut d o hne e⟩ fun b o hb e => sb.extBut b o (fun z => hb (by simp [z])) e
  done := fun s Q E st q => raw_vend hh st.1 st.2 (Nat.le_refl _) fun h' eb => q h' s.toks fun b o hb e => eb b o (fun z => hb (by simp [z])) e
  self := fun _ _ _ _ st q => wpAny_pyIter_valiter st.1 q
theorem src_vals : PySem.W.KdlSrc prog w "dict_values" vw d es.size (fun i v => ∃ e, es[i]? = some e ∧ v = e.val) (fun h => h.IsValuesView vw d ∧ RawD h d es ep) where
  type := fun _ hm => hm.1.typeIs
  there := fun _ hm => ⟨let ⟨_, ho, _⟩ := hm.1; Heap.lt_size ho, let ⟨_, ho, _⟩ := hm.2; Heap.lt_size ho⟩
  keep := fun _ _ hm k => ⟨let ⟨o, ho, x⟩ := hm.1; ⟨o, k vw (.inl rfl) o ho, x⟩, hm.2.at fun o e => k d (.inr rfl) o e⟩
  notList := by decide
  notTuple := by decide
  hint := fun _ _ _ _ hm q => PySem.W.kdl_hint_values hm.1.typeIs q
  iter := fun _ _ hh hm => ⟨_, _, (fun _ _ q => raw_viter hm.1 hm.2 q), walks_vals hh _ d (Nat.ne_of_lt (let ⟨_, ho, _⟩ := hm.2; Heap.lt_size ho)) es ep, ⟨⟨_, Heap.get?_push_size _ rfl, rfl, rfl⟩, hm.2.at fun o e => Heap.get?_push_of_some _ e⟩⟩
end
section
variable {X : Cx} {K : PySem.W.Frag}
def valsO (v d : Addr) : HO := .ext fun h => h.IsValuesView v d
def rVals : V → List V → Hp → VK → Prop := fun x vs H Q => ∃ d u, x = .ref d ∧ vs = [] ∧ H d = some u ∧ isDk u = true ∧ ∀ p, H p = none → Q (.ref p) (upd H p (valsO p d))
theorem mt_vals : MtR X "dict.values" rVals := by
  intro pins s σ H x xs v us Q I rx rv h
  obtain ⟨d, u, rfl, rfl, hd, hu, q⟩ := h
  cases rx
  cases rv
  obtain ⟨o, es, ep, ps, g, ex, dat, hs, _, _⟩ := I.raw hd hu
  have rw0 : RawD s.heap d es ep := ⟨o, g, ex, dat⟩
  refine call_meetsIn PySem.F.slot_dict_values rw0.ty PySem.F.entry_dict_values (PySem.F.args_dict_values_1 (_)) (raw_values hs) ⟨⟨es, ep, rw0⟩, ?_⟩
  refine ⟨.ref _, _, I.laid (t' := s.toks) (o := valsO s.heap.objs.size d) (fun b ob e => Heap.get?_push_of_some _ e) (Nat.le_refl _) ?_, rfl, q _ I.fresh⟩
  exact ⟨⟨_, Heap.get?_push_size _ rfl, rfl, rfl⟩, ⟨_, Heap.get?_push_size _ rfl⟩, fun h1 h2 ⟨ob, e, c⟩ k => ⟨ob, k ob e, c⟩⟩
theorem dk_len {H : Hp} {u : HO} {ps : List (V × V)} (h : Pss H u ps) : isDk u = true → ∀ {X : Cx} {pins : List (Addr × Obj)} {σ : St} {s : Shared} {d : Addr}, Inv X pins σ H s → H d = some u → ps.length ≤ sizeLine := by
  intro hu X pins σ s d I hd
  have ok := I.hok d u hd
  cases u with
  | dK kvs => obtain ⟨z, _⟩ := ok; have h : ps = _ := h; rw [h, List.length_map]; exact z
  | dT kvs => obtain ⟨z, _⟩ := ok; have h : Paired _ kvs ps := h; rw [← h.length]; exact z
  | _ => cases hu
/-- list(d.values()) -/
theorem call_list_vals (hc : X.calm = true) : CallR X (.type "list") (fun xs H Q => ∃ v d u, xs = [V.ref v] ∧ H v = some (valsO v d) ∧ H d = some u ∧ isDk u = true ∧ ∀ ps, Pss H u ps → ∀ l, H l = none → Q (.ref l) (upd H l (.lst (ps.map (·.2))))) := by
  intro pins s σ H xs us Q I r h
  obtain ⟨v, d, u, rfl, hv, hd, hu, q⟩ := h
  obtain ⟨w0, rfl, rw0⟩ := vals1 r
  cases rw0
  obtain ⟨o, es, ep, ps, g, ex, dat, hs, hps, rel⟩ := I.raw hd hu
  have hl := dk_len hps hu I hd
  have hlen : ps.length = es.size := by rw [rel.length]; simp
  refine PySem.W.kdl_call (src_vals (es := es) (ep := ep)) (I.ok.hd hc) ⟨(I.hok v _ hv).1, ⟨o, g, ex, dat⟩⟩ (by omega) fun h' tk acc c kk hD hacc => ?_
  have vr : Vals (ps.map (·.2)) acc.toList := by
    have e1 : acc.toList = es.toList.map (·.val) := by
      apply List.ext_getElem?
      intro j
      rw [List.getElem?_map]
      by_cases hj : j < es.size
      · have hj2 : j < acc.size := by rw [hacc.1]; exact hj
        obtain ⟨e, he, hv⟩ := hacc.2 j acc[j] (by simp [hj2])
        have e2 : es.toList[j]? = some e := by simpa using he
        rw [e2]
        simp [hj2, hv]
      · have hj2 : ¬ j < acc.size := by rw [hacc.1]; exact hj
        rw [List.getElem?_eq_none (by simp; omega), List.getElem?_eq_none (by simp; omega)]; rfl
    rw [e1]
    clear hlen hl hps e1 hacc
    generalize es.toList = el at rel
    induction rel with
    | nil => exact .nil
    | cons h t ih => exact .cons h.2 ih
  refine ⟨.ref _, _, I.laid (a := s.heap.objs.size) (o := .lst (ps.map (·.2))) (t' := tk) kk (Nat.le_refl _) ⟨by rw [List.length_map]; exact hl, acc.toList, c, vr, by simpa using hD⟩, rfl, q ps hps _ I.fresh⟩
end
end L2
namespace L2
open PySem PySem.Spec PyProof.Rows
/-! ### d.clear(), dict(d), for k in d -/
section
variable {prog : Program} {w : World} {A : Around} {E : Value → Shared → Prop} {s : Shared} {it d vw : Addr} {i ep : Nat} {es : Array DictEntry}
end
section
variable {X : Cx}
end
theorem pe_bm0' {X : Cx} {K : PySem.W.Frag} {o : Expr} {to : TE} {name : Str} {apos cpos : Pos} {T id : String} {r : V → List V → Hp → VK → Prop} (h : X.K = K) (pa : PlainAttrs T) (slot : Slot T name id) (hty : typeOf (.builtin id) = pure (.type "method_descriptor")) (hm : MtR X id r) (ho : PE X o to)
    (hbase : attributeBase o name X.env (eval o X.env) = eval o X.env := by rfl) (hline : (apos.endLine == cpos.line) = true := by rfl) : PE X (.Call (.Attribute o name apos) [] [] cpos) (tBM0 K T r to) := by subst h; exact pe_bm0 pa slot hty hm ho hbase hline
/-! the forms one uses -/
theorem for_items {d : Addr} {o : Obj} {u : HO} {ps : List (V × V)} {g : TG} {tb : TS} {D : Ends} {σ : St} {H : Hp} (Pv : Nat → St → Hp → Prop) (h0 : Pv 0 σ H) (hf : ∀ i σ H, Pv i σ H → H d = some (.frz o u))
    (hs : ∀ i k v T σ H, ps[i]? = some (k, v) → Pv i σ H → H T = none → g (.ref T) σ (upd H T (.tup [k, v])) fun σ2 H2 => tb { D with nx := Pv (i + 1), ct := Pv (i + 1), bk := D.nx } σ2 H2) (hd : ∀ σ H, Pv ps.length σ H → D.nx σ H) :
    ∃ W : Nat → Nat → St → Hp → Prop, (∃ m, W 0 m σ H) ∧ ∀ i m σ H, W i m σ H → ((ItD d o u ps).stop i H ∧ D.nx σ H) ∨ ((ItD d o u ps).go i H ∧ ∃ N : St → Hp → Prop, (∀ σ' H', N σ' H' → ∃ m', m' < m ∧ W (i + 1) m' σ' H') ∧
      ∀ x H', (ItD d o u ps).yld i H x H' → g x σ H' fun σ2 H2 => tb { D with nx := N, ct := N, bk := D.nx } σ2 H2) := by
  refine ⟨fun i m σ H => m = ps.length - i ∧ i ≤ ps.length ∧ Pv i σ H, ⟨_, rfl, Nat.zero_le _, h0⟩, ?_⟩
  rintro i m σ H ⟨rfl, hi, p⟩
  by_cases hlt : i < ps.length
  · refine .inr ⟨⟨hlt, hf i σ H p⟩, Pv (i + 1), fun σ' H' p' => ⟨ps.length - (i + 1), by omega, rfl, hlt, p'⟩, fun x H' y => ?_⟩
    obtain ⟨k, v, T, hk, e1, hT, e2⟩ := y
    subst e1 e2
    exact hs i k v T σ H hk p hT
  · have e : i = ps.length := by omega
    subst e
    exact .inl ⟨⟨rfl, hf _ σ H p⟩, hd σ H p⟩
end L2
namespace Tc
/-! tables as functions from places to shares -/
section
variable {α : Type} [DecidableEq α]
def bw (x y : α) (t : Rat) (R : α → α → Rat) : α → α → Rat := fun n => if n = x then fun z => R x z * (1 - t) + R y z * t else R n
/-- r times P is a whole number from 0 to k times P -/
def IsM (P k : Nat) (r : Rat) : Prop := 0 ≤ r ∧ ∃ m : Nat, m ≤ k * P ∧ r * (P : Rat) = (m : Rat)
theorem natne {P : Nat} (h : 0 < P) : (P : Rat) ≠ 0 := by
  intro e
  have : (P : Rat) = ((0 : Nat) : Rat) := e
  have := Rat.natCast_inj.mp this
  omega
theorem IsM.eq {P k : Nat} {r : Rat} (hP : 0 < P) (h : IsM P k r) : ∃ m : Nat, m ≤ k * P ∧ r = Rat.divInt m P := by
  obtain ⟨_, m, hm, e⟩ := h
  refine ⟨m, hm, ?_⟩
  rw [Rat.divInt_eq_div, Rat.intCast_natCast, Rat.intCast_natCast]
  have := natne hP
  grind
theorem IsM.zero (P k : Nat) : IsM P k 0 := ⟨by decide, 0, Nat.zero_le _, by rw [Rat.zero_mul]; rfl⟩
theorem IsM.one (P : Nat) : IsM P 1 1 := ⟨by decide, P, by omega, by rw [Rat.one_mul]⟩
theorem IsM.add {P k j : Nat} {r q : Rat} (h : IsM P k r) (g : IsM P j q) : IsM P (k + j) (r + q) := by
  obtain ⟨h0, m, hm, e⟩ := h
  obtain ⟨g0, n, hn, f⟩ := g
  refine ⟨Rat.add_nonneg h0 g0, m + n, by rw [Nat.add_mul]; omega, ?_⟩
  rw [Rat.add_mul, e, f, Rat.natCast_add]
theorem mul_den (t : Rat) : t * (t.den : Rat) = (t.num : Rat) := by
  have h := Rat.num_divInt_den t
  rw [Rat.divInt_eq_div, Rat.intCast_natCast] at h
  have := natne t.den_pos
  grind
theorem parts {t : Rat} (h0 : 0 ≤ t) (h1 : t ≤ 1) : ∃ u w : Nat, t.den = u + w ∧ t * (t.den : Rat) = (u : Rat) ∧ (1 - t) * (t.den : Rat) = (w : Rat) := by
  have n0 := Rat.num_nonneg.mpr h0
  have n1 := (Rat.le_iff t 1).mp h1
  have n1 : t.num ≤ t.den := by simpa using n1
  obtain ⟨u, hu⟩ := Int.eq_ofNat_of_zero_le n0
  have hw : t.den = u + (t.den - u) := by omega
  have e := mul_den t
  rw [hu, Rat.intCast_natCast] at e
  refine ⟨u, t.den - u, hw, e, ?_⟩
  have e2 : (t.den : Rat) = (u : Rat) + ((t.den - u : Nat) : Rat) := by rw [← Rat.natCast_add, ← hw]
  grind
theorem sub_nonneg {t : Rat} (h1 : t ≤ 1) : 0 ≤ 1 - t := by grind
theorem IsM.mix {P k : Nat} {a b t : Rat} (h : IsM P k a) (g : IsM P k b) (h0 : 0 ≤ t) (h1 : t ≤ 1) : IsM (P * t.den) k (a * (1 - t) + b * t) := by
  obtain ⟨a0, m, hm, e⟩ := h
  obtain ⟨b0, n, hn, f⟩ := g
  obtain ⟨u, w, hd, eu, ew⟩ := parts h0 h1
  refine ⟨Rat.add_nonneg (Rat.mul_nonneg a0 (sub_nonneg h1)) (Rat.mul_nonneg b0 h0), m * w + n * u, ?_, ?_⟩
  · rw [hd, ← Nat.mul_assoc, Nat.mul_add]
    have := Nat.mul_le_mul_right w hm
    have := Nat.mul_le_mul_right u hn
    omega
  · rw [Rat.natCast_add, Rat.natCast_mul, Rat.natCast_mul, Rat.natCast_mul, ← e, ← f, ← eu, ← ew]; grind
theorem IsM.up {P k : Nat} {a : Rat} (h : IsM P k a) (d : Nat) : IsM (P * d) k a := by
  obtain ⟨a0, m, hm, e⟩ := h
  refine ⟨a0, m * d, by rw [← Nat.mul_assoc]; exact Nat.mul_le_mul_right d hm, ?_⟩
  rw [Rat.natCast_mul, Rat.natCast_mul, ← e]; grind
/-- the sum over places -/
def sumL (L : List α) (f : α → Rat) : Rat := (L.map f).foldl (· + ·) 0
theorem foldl_addQ (rs : List Rat) (a : Rat) : rs.foldl (· + ·) a = a + rs.foldl (· + ·) 0 := by
  induction rs generalizing a with
  | nil => simp [Rat.add_zero]
  | cons r rs ih =>
    rw [List.foldl_cons, List.foldl_cons, ih (a + r), ih (0 + r), Rat.zero_add, Rat.add_assoc]
theorem sumL_nil (f : α → Rat) : sumL [] f = 0 := rfl
theorem sumL_cons (z : α) (L : List α) (f : α → Rat) : sumL (z :: L) f = f z + sumL L f := by
  unfold sumL
  rw [List.map_cons, List.foldl_cons, foldl_addQ, Rat.zero_add]
theorem sumL_snoc (z : α) (L : List α) (f : α → Rat) : sumL (L ++ [z]) f = sumL L f + f z := by
  unfold sumL
  rw [List.map_append, List.foldl_append]; rfl
theorem sumL_mix (L : List α) (a b : α → Rat) (t : Rat) : sumL L (fun z => a z * (1 - t) + b z * t) = sumL L a * (1 - t) + sumL L b * t := by
  induction L with
  | nil => simp only [sumL_nil]; grind
  | cons z L ih => rw [sumL_cons, sumL_cons, sumL_cons, ih]; grind
/-- a row, as it stands in a dict: shares of 0 are not told -/
def op (f : α → Rat) : α → Option Rat := fun z => if f z = 0 then none else some (f z)
/-- the tables' rows over the places L -/
structure Good (L : List α) (P : Nat) (R : α → α → Rat) : Prop where
  part : ∀ n ∈ L, ∀ z, IsM P 1 (R n z)
  sup : ∀ n ∈ L, ∀ z, R n z ≠ 0 → z ∈ L
  all : ∀ n ∈ L, sumL L (R n) = 1
theorem Good.bw {L : List α} {P : Nat} {R : α → α → Rat} {x y : α} {t : Rat} (h : Good L P R) (hx : x ∈ L) (hy : y ∈ L) (h0 : 0 ≤ t) (h1 : t ≤ 1) : Good L (P * t.den) (bw x y t R) where
  part := fun n hn z => by
    unfold Tc.bw; split
    · exact (h.part x hx z).mix (h.part y hy z) h0 h1
    · exact (h.part n hn z).up _
  sup := fun n hn z hz => by
    unfold Tc.bw at hz
    split at hz
    · have hz : R x z * (1 - t) + R y z * t ≠ 0 := hz
      by_cases e : R x z = 0
      · by_cases e2 : R y z = 0
        · rw [e, e2, Rat.zero_mul, Rat.zero_mul, Rat.add_zero] at hz; exact absurd rfl hz
        · exact h.sup y hy z e2
      · exact h.sup x hx z e
    · exact h.sup n hn z hz
  all := fun n hn => by
    unfold Tc.bw; split
    · rw [sumL_mix, h.all x hx, h.all y hy]; grind
    · exact h.all n hn
theorem pos_of {a : Rat} (h : 0 ≤ a) (n : a ≠ 0) : 0 < a := by grind
end
end Tc
namespace L2
open PySem PySem.Spec PyProof.Rows
section
variable {X : Cx} {K : PySem.W.Frag}
end
end L2
namespace L2
open PySem PySem.Spec PyProof.Rows
theorem Paired.take {α β : Type} {F : α → β → Prop} {xs : List α} {ys : List β} (h : Paired F xs ys) : ∀ i : Nat, Paired F (xs.take i) (ys.take i) := by
  induction h with
  | nil => intro i; rw [List.take_nil, List.take_nil]; exact .nil
  | cons r t ih =>
    intro i
    cases i with
    | zero => exact .nil
    | succ i => rw [List.take_succ_cons, List.take_succ_cons]; exact .cons r (ih i)
theorem Paired.drop {α β : Type} {F : α → β → Prop} {xs : List α} {ys : List β} (h : Paired F xs ys) : ∀ i : Nat, Paired F (xs.drop i) (ys.drop i) := by
  induction h with
  | nil => intro i; rw [List.drop_nil, List.drop_nil]; exact .nil
  | cons r t ih =>
    intro i
    cases i with
    | zero => exact .cons r t
    | succ i => rw [List.drop_succ_cons, List.drop_succ_cons]; exact ih i
section
variable {X : Cx} {K : PySem.W.Frag} {pos : Pos}
end
end L2
namespace L2
open PySem PySem.Spec PyProof.Rows
end L2
namespace L2
open PySem PySem.Spec PyProof.Rows
section
variable {X : Cx} {pins : List (Addr × Obj)} {σ : St} {H : Hp} {s : Shared} {h' : Heap}
/-- some records of ours have turned -/
theorem Inv.turns {t' : Nat} {ch : List Addr} (I : Inv X pins σ H s) (k : ∀ b o, b ∉ ch → s.heap.get? b = some o → h'.get? b = some o) (hf : ∀ b ∈ ch, FpOk X pins H b) : Inv X pins σ H { s with heap := h', toks := t' } := by
  have nit : ∀ b u, H b = some u → b ∉ ch := fun b u e z => by rw [(hf b z).1] at e; cases e
  refine I.step (g' := s.gens) (d' := s.drawn) (ch := ch) (fun b hb => ?_) (fun b o _ _ hc e _ => k b o hc e) (fun b o _ _ hc e _ => ⟨o.slots, k b o hc e⟩) (fun _ _ _ _ n => n) (fun b o hc e => ⟨o, k b o hc e⟩) (fun _ _ e => e) (fun _ _ _ e => e) (fun b ps e => ⟨#[], by rw [e]; simp⟩) (fun m hm => ?_) (fun b u e => ?_) I.bare
  · obtain ⟨f0, f1, f2, f3, f4, f5⟩ := hf b hb
    exact ⟨f3, f1, f4, f5⟩
  · obtain ⟨o, es, ep, ho, r⟩ := hm
    exact ⟨o, es, ep, k _ o (fun z => (hf _ z).2.1 rfl) ho, r⟩
  · refine (I.hok b u e).stay (fun c v hc q => k c v ?_ q) (fun _ q => q) fun _ _ q => q
    rcases hc with z | z
    · rw [z]; exact nit b u e
    · exact nit c _ z
end
section
variable {X : Cx} {K : PySem.W.Frag}
end
/-! the forms one uses -/
end L2
namespace L2
open PySem PySem.Spec PyProof.Rows
section
variable {X : Cx}
end
end L2
namespace L2
open PySem PySem.Spec PyProof.Rows
theorem bt_zip : bootBuiltins "zip" = some (.type "zip") := by decide +kernel
theorem z_ne {x y : Nat} (h : ¬ x = y) : (x : Addr) ≠ (y : Addr) := h
/-- two lists that stand still, pair by pair -/
def ItZ (K : PySem.W.Frag) (a b : Addr) (xs ys : List V) : It :=
  ⟨fun i H => i < xs.length ∧ i < ys.length ∧ SqL K H a xs ∧ SqL K H b ys, fun i H x H' => ∃ v u T, xs[i]? = some v ∧ ys[i]? = some u ∧ x = .ref T ∧ H T = none ∧ H' = upd H T (.tup [v, u]), fun i H => (i = xs.length ∨ i = ys.length) ∧ SqL K H a xs ∧ SqL K H b ys⟩
theorem list_ne {h : Heap} {l c : Addr} {its : Array Value} {o : Obj} (hl : h.IsList l its) (hc : h.get? c = some o) (n : o.cls ≠ .type "list") : l ≠ c := by
  intro e
  subst e
  obtain ⟨o', e1, e2, _⟩ := hl
  rw [hc] at e1
  cases e1
  exact n e2
theorem turn_zip {P : Program} {w : World} {K : PySem.W.Frag} {elts : List Expr} {kk : Nat} {pos : Pos} (a b : Addr) (n : Nat) (xs ys : List V) :
    Turn P w K (.Tuple elts kk pos) (ItZ K a b xs ys) [n + 4, n + 2, n + 3, n, n + 1] (n + 4) (fun i h => IsZip h (n + 4) (n + 2) (n + 3) .none ∧ IsPair h (n + 2) (.ref n) (.ref (n + 1)) ∧ (∃ u v, IsPair h (n + 3) u v) ∧ h.IsListIter n a i ∧ h.IsListIter (n + 1) b i) where
  mem := by simp
  obj := fun i h st c hb => by
    obtain ⟨hz, hTI, ⟨u, v, hTO⟩, ⟨o1, e1, _, d1⟩, ⟨o2, e2, _, d2⟩⟩ := st
    simp only [List.mem_cons, List.not_mem_nil, or_false] at hb
    rcases hb with rfl | rfl | rfl | rfl | rfl
    · exact ⟨_, hz, fun v z => by cases z⟩
    · exact ⟨_, hTI, fun v z => by cases z⟩
    · exact ⟨_, hTO, fun v z => by cases z⟩
    · exact ⟨_, e1, fun v z => by rw [d1] at z; cases z⟩
    · exact ⟨_, e2, fun v z => by rw [d2] at z; cases z⟩
  keep := fun i h h' st k => by
    obtain ⟨hz, hTI, ⟨u, v, hTO⟩, h1, h2⟩ := st
    exact ⟨k _ (by simp) _ hz, k _ (by simp) _ hTI, ⟨u, v, k _ (by simp) _ hTO⟩, h1.at fun o e => k _ (by simp) o e, h2.at fun o e => k _ (by simp) o e⟩
  item := by
    intro X hP hw hK hc i pins s σ H E I hf st hg
    subst hP hw hK
    obtain ⟨hz, hTI, ⟨u0, v0, hTO⟩, h1, h2⟩ := st
    obtain ⟨hi, hj, hq1, hq2⟩ := hg
    obtain ⟨its1, rv1, p1, _⟩ := I.list hq1
    obtain ⟨its2, rv2, p2, _⟩ := I.list hq2
    obtain ⟨u, hu, ru⟩ := rv1.get (show xs[i]? = some xs[i] by simp [hi])
    obtain ⟨u', hu', ru'⟩ := rv2.get (show ys[i]? = some ys[i] by simp [hj])
    obtain ⟨o1, e1, c1, d1⟩ := id h1
    obtain ⟨o2, e2, c2, d2⟩ := id h2
    have D : ZipApart (n + 4) (n + 2) (n + 3) n (n + 1) a b := ⟨z_ne (by omega), z_ne (by omega), z_ne (by omega), z_ne (by omega), z_ne (by omega), z_ne (by omega), z_ne (by omega), z_ne (by omega), z_ne (by omega), z_ne (by omega), list_ne p1.isList hz (show (Value.type "zip" : Value) ≠ .type "list" by decide), list_ne p1.isList hTO (show (Value.type "tuple" : Value) ≠ .type "list" by decide), list_ne p1.isList e1 (by rw [c1]; decide), list_ne p1.isList e2 (by rw [c2]; decide), list_ne p2.isList hz (show (Value.type "zip" : Value) ≠ .type "list" by decide), list_ne p2.isList hTO (show (Value.type "tuple" : Value) ≠ .type "list" by decide), list_ne p2.isList e1 (by rw [c1]; decide), list_ne p2.isList e2 (by rw [c2]; decide)⟩
    refine wpAny_pyNext_zip_item D hz hTI hTO h1 h2 p1.isList p2.isList (x := u) (y := u') (by simpa using hu) (by simpa using hu') fun h' jz jo j1 j2 ht hsz kp => ?_
    refine ⟨_, rfl, wpAny_letOwnedTupleGo_zip jz fun h2' he2 sb => ?_⟩
    have sb : Heap.SameBut (n + 4) h' h2' := sb
    have lt : ∀ {c o}, s.heap.get? c = some o → s.heap.objs.size ≠ c := fun e => Nat.ne_of_gt (Heap.lt_size e)
    have I1 : Inv X pins σ H { s with heap := h2', toks := s.toks } := I.turns (ch := [n + 4, n + 2, n + 3, n, n + 1]) (fun c o hb eo => sb.extBut c o (fun z => hb (by simp [z])) (kp c o (fun z => hb (by simp [z])) (fun z => hb (by simp [z])) (fun z => hb (by simp [z])) (fun z => hb (by simp [z])) eo)) hf
    have hT2 : h2'.get? s.heap.objs.size = some { cls := .type "tuple", data := .seq #[u, u'] } := sb.extBut _ _ (lt hz) ht
    obtain ⟨g0, g1, _, _, g4, g5⟩ := I.fpOk (Nat.le_refl _) I.fresh
    have I2 := I1.track (a := s.heap.objs.size) (o := .tup [xs[i], ys[i]]) g0 (by
      cases q : X.s₀.heap.get? s.heap.objs.size with
      | none => rfl
      | some ob => exact absurd (Nat.lt_of_lt_of_le (Heap.lt_size q) I.sz) (Nat.lt_irrefl _)) g1 g4 g5 ⟨small1000 (by simp) |> Nat.le_of_lt, [u, u'], .cons ru (.cons ru' .nil), ⟨_, hT2, rfl, _, rfl⟩⟩
    refine ⟨.ref _, _, I2, rfl, ⟨xs[i], ys[i], _, (by simp [hi]), (by simp [hj]), rfl, g0, rfl⟩, ⟨he2, sb.extBut _ _ D.TIz (kp _ _ D.TIz D.TITO D.TIi1 D.TIi2 hTI), ⟨_, _, sb.extBut _ _ D.TOz jo⟩, j1.extBut sb.extBut D.i1z, j2.extBut sb.extBut D.i2z⟩, fun c hb => ?_⟩
    have nb : c ≠ s.heap.objs.size := by
      simp only [List.mem_cons, List.not_mem_nil, or_false] at hb
      rcases hb with rfl | rfl | rfl | rfl | rfl
      · exact (lt hz).symm
      · exact (lt hTI).symm
      · exact (lt hTO).symm
      · exact (lt e1).symm
      · exact (lt e2).symm
    rw [upd_ne nb]; exact (hf c hb).1
  done := by
    intro X hP hw hK hc i pins s σ H E I hf st hg
    subst hP hw hK
    obtain ⟨hz, hTI, ⟨u0, v0, hTO⟩, h1, h2⟩ := st
    obtain ⟨hi, hq1, hq2⟩ := hg
    obtain ⟨its1, rv1, p1, _⟩ := I.list hq1
    obtain ⟨its2, rv2, p2, _⟩ := I.list hq2
    obtain ⟨o1, e1, c1, d1⟩ := id h1
    obtain ⟨o2, e2, c2, d2⟩ := id h2
    have D : ZipApart (n + 4) (n + 2) (n + 3) n (n + 1) a b := ⟨z_ne (by omega), z_ne (by omega), z_ne (by omega), z_ne (by omega), z_ne (by omega), z_ne (by omega), z_ne (by omega), z_ne (by omega), z_ne (by omega), z_ne (by omega), list_ne p1.isList hz (show (Value.type "zip" : Value) ≠ .type "list" by decide), list_ne p1.isList hTO (show (Value.type "tuple" : Value) ≠ .type "list" by decide), list_ne p1.isList e1 (by rw [c1]; decide), list_ne p1.isList e2 (by rw [c2]; decide), list_ne p2.isList hz (show (Value.type "zip" : Value) ≠ .type "list" by decide), list_ne p2.isList hTO (show (Value.type "tuple" : Value) ≠ .type "list" by decide), list_ne p2.isList e1 (by rw [c1]; decide), list_ne p2.isList e2 (by rw [c2]; decide)⟩
    have l1 := rv1.length
    have l2 := rv2.length
    refine wpAny_pyNext_zip_end (I.ok.hd hc) D hz hTI hTO h1 h2 p1.isList p2.isList ?_ fun h' kp => ⟨rfl, I.turns (t' := s.toks) (ch := [n + 4, n + 2, n + 3, n, n + 1]) (fun c o hb eo => kp c o (fun z => hb (by simp [z])) (fun z => hb (by simp [z])) (fun z => hb (by simp [z])) (fun z => hb (by simp [z])) eo) hf⟩
    rcases hi with e | e
    · exact .inl (by simp; omega)
    · exact .inr (by simp; omega)
  self := fun A i s Q E st h => wpAny_pyIter_zip st.1 h
section
variable {X : Cx} {K : PySem.W.Frag}
def iZip (K : PySem.W.Frag) (ta : TA) : TI := fun σ H R => ta σ H fun vs H1 => ∃ a b xs ys, vs = [V.ref a, V.ref b] ∧ SqL K H1 a xs ∧ SqL K H1 b ys ∧ R (ItZ K a b xs ys) H1
theorem pi_zip {elts : List Expr} {kk : Nat} {tpos : Pos} {a b : Expr} {ta : TA} {p pos : Pos} (hK : X.K = K) (hg : Gl X "zip") (hm : X.mg "zip" = none) (ha : PA X [a, b] ta) (hs : starEach [a, b] X.env = (false, eval a X.env) :: starEach [b] X.env := by rfl) (hs2 : starEach [b] X.env = [(false, eval b X.env)] := by rfl) : PI X (.Tuple elts kk tpos) (.Call (.Name "zip" p) [a, b] [] pos) (iZip K ta) := by
  subst hK
  intro pins s σ H R I h
  refine Call_ (ld_blt I hg hm bt_zip (PyProof.Rows.callWith_type1 (thn (ha pos pins s σ H _ I h) fun us s1 ⟨vs, H1, I1, r1, q1⟩ => ?_) hs (by rw [hs2]; rfl)))
  obtain ⟨b1, b2, xs, ys, rfl, hq1, hq2, q⟩ := q1
  obtain ⟨u, u', rfl, ru, ru'⟩ := vals2 r1
  cases ru
  cases ru'
  obtain ⟨its1, rv1, p1, hz1⟩ := I1.list hq1
  obtain ⟨its2, rv2, p2, hz2⟩ := I1.list hq2
  refine call_zip_2 p1.isList p2.isList fun h' jz jt jo j1 j2 hsz kp => wpAny_pyIter_zip jz ?_
  refine ⟨s1.heap.objs.size + 4, [s1.heap.objs.size + 4, s1.heap.objs.size + 2, s1.heap.objs.size + 3, s1.heap.objs.size, s1.heap.objs.size + 1], _, _, H1, rfl, I1.kept (t' := s1.toks) kp, turn_zip b1 b2 s1.heap.objs.size xs ys, ⟨jz, jt, ⟨_, _, jo⟩, j1, j2⟩, fun c hc => ?_, q⟩
  simp only [List.mem_cons, List.not_mem_nil, or_false] at hc
  rcases hc with rfl | rfl | rfl | rfl | rfl <;> exact I1.fpOk (by omega) (I1.hok.fresh (by omega))
end
theorem for_zip {K : PySem.W.Frag} {a b : Addr} {xs ys : List V} {g : TG} {tb : TS} {D : Ends} {σ : St} {H : Hp} (Pv : Nat → St → Hp → Prop) (hlen : xs.length = ys.length) (h0 : Pv 0 σ H) (hl : ∀ i σ H, i ≤ xs.length → Pv i σ H → SqL K H a xs ∧ SqL K H b ys)
    (hs : ∀ i v u T σ H, xs[i]? = some v → ys[i]? = some u → Pv i σ H → H T = none → g (.ref T) σ (upd H T (.tup [v, u])) fun σ2 H2 => tb { D with nx := Pv (i + 1), ct := Pv (i + 1), bk := D.nx } σ2 H2) (hd : ∀ σ H, Pv xs.length σ H → D.nx σ H) :
    ∃ W : Nat → Nat → St → Hp → Prop, (∃ m, W 0 m σ H) ∧ ∀ i m σ H, W i m σ H → ((ItZ K a b xs ys).stop i H ∧ D.nx σ H) ∨ ((ItZ K a b xs ys).go i H ∧ ∃ N : St → Hp → Prop, (∀ σ' H', N σ' H' → ∃ m', m' < m ∧ W (i + 1) m' σ' H') ∧
      ∀ x H', (ItZ K a b xs ys).yld i H x H' → g x σ H' fun σ2 H2 => tb { D with nx := N, ct := N, bk := D.nx } σ2 H2) := by
  refine ⟨fun i m σ H => m = xs.length - i ∧ i ≤ xs.length ∧ Pv i σ H, ⟨_, rfl, Nat.zero_le _, h0⟩, ?_⟩
  rintro i m σ H ⟨rfl, hi, p⟩
  obtain ⟨q1, q2⟩ := hl i σ H hi p
  by_cases hlt : i < xs.length
  · refine .inr ⟨⟨hlt, by omega, q1, q2⟩, Pv (i + 1), fun σ' H' p' => ⟨xs.length - (i + 1), by omega, rfl, hlt, p'⟩, fun x H' y => ?_⟩
    obtain ⟨v, u, T, hv, hu, e1, hT, e2⟩ := y
    subst e1 e2
    exact hs i v u T σ H hv hu p hT
  · have e : i = xs.length := by omega
    subst e
    exact .inl ⟨⟨.inl rfl, q1, q2⟩, hd σ H p⟩
end L2
namespace L2
open PySem PySem.Spec PyProof.Rows
section
variable {X : Cx} {K : PySem.W.Frag}
end
end L2
namespace L2
open PySem PySem.Spec PyProof.Rows
end L2
namespace L2
open PySem PySem.Spec PyProof.Rows
section
variable {X : Cx}
end
end L2
namespace L2
open PySem PySem.Spec PyProof.Rows
/-- v == y holds, in this world -/
def EqW (prog : Program) (w : World) (A : Around) (s : Shared) (v y : Value) : Prop := ∀ (E : Value → Shared → Prop) (Q : Bool → Shared → Prop), Q true s → wpAny (model prog w) A (eqBool v y) Q E s
section
variable {prog : Program} {w : World} {A : Around} {E : Value → Shared → Prop} {s : Shared}
theorem EqW.of {v y : Value} (h : SeqAt.EqAt A s v y true) : EqW prog w A s v y := fun E Q q => h prog w E Q q
variable {Kt : Type} [DecidableEq Kt] {knd : KeyKind prog w Kt}
open SeqAt in
open SeqAt in
theorem loopN (l b : Addr) (xs ys : Array Value) (n n2 : Nat) (dd dd2 : Option Addr) (sl sl2 : Array (Option Value)) (sz : xs.size = ys.size) (k : Nat) :
    ∀ i : Nat, xs.size - i = k → MeetsIn prog w (Builtin.«list.__eq__.loop» ⟨[.ref l, .ref b, rawInt i, rawInt 3], []⟩) (fun A R s => s.heap.get? l = some { cls := .type "list", dict := dd, data := .seq xs n, slots := sl } ∧ s.heap.get? b = some { cls := .type "list", dict := dd2, data := .seq ys n2, slots := sl2 } ∧
        (∀ j (h1 : j < xs.size) (h2 : j < ys.size), EqW prog w A.in1 s xs[j] ys[j]) ∧ R (.ok (.ret (.bool false))) s) := by
  induction k with
  | zero =>
    intro i hk A R s h
    obtain ⟨hp, g, d, tk, os⟩ := s
    obtain ⟨hl, hb, he, h⟩ := h
    have i1 : xs[((i : Nat) : Int).toNat]? = none := by simp; omega
    have i2 : ys[((i : Nat) : Int).toNat]? = none := by simp; omega
    wp_walk using AutoSeq1.wpAny_loadPart' hl, AutoSeq1.wpAny_loadPart' hb
    rw [i1, i2]
    wp_walk using AutoSeq1.wpAny_loadPart' hl, AutoSeq1.wpAny_loadPart' hb
    show R (.ok (.ret (.bool (xs.size != ys.size)))) _
    rw [sz]
    simpa using h
  | succ k ih =>
    intro i hk A R s h
    obtain ⟨hp, g, d, tk, os⟩ := s
    obtain ⟨hl, hb, he, h⟩ := h
    have l1 : i < xs.size := by omega
    have l2 : i < ys.size := by omega
    have i1 : xs[((i : Nat) : Int).toNat]? = some xs[i] := by simp [l1]
    have i2 : ys[((i : Nat) : Int).toNat]? = some ys[i] := by simp [l2]
    have hc : ((i : Int) + 1) = ((i + 1 : Nat) : Int) := by push_cast; rfl
    wp_walk using AutoSeq1.wpAny_loadPart' hl, AutoSeq1.wpAny_loadPart' hb
    rw [i1, i2]
    refine wpAny_bind (he i l1 l2 _ _ ?_)
    wp_walk
    rw [hc]
    exact ⟨plainId_quiet MeetsSeq3.plain_eq_loop _, codeAny_builtin MeetsSeq3.entry_eq_loop (by
      rw [Around.under_plainId MeetsSeq3.plain_eq_loop _]
      exact ih (i + 1) (by omega) A R _ ⟨hl, hb, he, h⟩)⟩
theorem listN (l b : Addr) (xs ys : Array Value) (n n2 : Nat) (dd dd2 : Option Addr) (sl sl2 : Array (Option Value)) (sz : xs.size = ys.size) :
    MeetsIn prog w (Builtin.«list.__ne__» ⟨[.ref l, .ref b], []⟩) (fun A R s => s.heap.get? l = some { cls := .type "list", dict := dd, data := .seq xs n, slots := sl } ∧ s.heap.get? b = some { cls := .type "list", dict := dd2, data := .seq ys n2, slots := sl2 } ∧
        (∀ j (h1 : j < xs.size) (h2 : j < ys.size), EqW prog w A.in1 s xs[j] ys[j]) ∧ R (.ok (.ret (.bool false))) s) := by
  intro A R s h
  obtain ⟨hp, g, d, tk, os⟩ := s
  obtain ⟨hl, hb, he, h⟩ := h
  have f3 := AutoSeq1.sub_list_list
  have hne : ¬ (xs.size != ys.size) = true := by simp [sz]
  wp_walk using AutoSeq1.wpAny_loadPart' hl, AutoSeq1.wpAny_loadPart' hb
  exact ⟨plainId_quiet MeetsSeq3.plain_eq_loop _, codeAny_builtin MeetsSeq3.entry_eq_loop (by
    rw [Around.under_plainId MeetsSeq3.plain_eq_loop _]
    exact loopN l b xs ys n n2 dd dd2 sl sl2 sz _ 0 rfl A R _ ⟨hl, hb, he, h⟩)⟩
theorem richN {l b : Addr} {xs ys : Array Value} {Q : Value → Shared → Prop} (hl : s.heap.IsList l xs) (hb : s.heap.IsList b ys) (sz : xs.size = ys.size) (hu : A.units < cLine) (he : ∀ j (h1 : j < xs.size) (h2 : j < ys.size), EqW prog w A.in1 s xs[j] ys[j]) (q : Q (.bool false) s) :
    wpAny (model prog w) A (richCompare .NotEq (.ref l) (.ref b)) Q E s := by
  obtain ⟨⟨cls, dd, data, sl⟩, ho, hc, n, hd⟩ := id hl
  obtain ⟨⟨cls2, dd2, data2, sl2⟩, ho2, hc2, n2, hd2⟩ := id hb
  simp only at hc hd hc2 hd2
  subst hc hd hc2 hd2
  exact wpAny_richCompare_same_room (op := .NotEq) ⟨_, ho, rfl⟩ ⟨_, ho2, rfl⟩ F.slot_list_ne (call_meetsIn F.slot_list_ne ⟨_, ho, rfl⟩ F.entry_list_ne (F.args_list_ne_2 _ _) (listN l b xs ys n n2 dd dd2 sl sl2 sz) ⟨ho, ho2, he, show Value.bool false ≠ Value.notImplemented ∧ Q (.bool false) s from ⟨(fun x => nomatch x), q⟩⟩) hu
end
end L2
namespace L2
open PySem PySem.Spec PyProof.Rows
section
variable {X : Cx} {K : PySem.W.Frag}
end
end L2
namespace L2
open PySem PySem.Spec PyProof.Rows
section
variable {prog : Program} {w : World} {A : Around} {E : Value → Shared → Prop} {s : Shared} {d : Addr} {es : Array DictEntry} {ep : Nat}
end
section
variable {X : Cx} {K : PySem.W.Frag}
end
end L2
namespace L2
open PySem PySem.Spec PyProof.Rows
section
variable {X : Cx}
end
end L2
namespace L2
open PySem PySem.Spec PyProof.Rows
theorem block_items {d : Addr} {o : Obj} {u : HO} {ps : List (V × V)} {g : TG} {tc : TT} {te : TE} {D : Addr} {Z : Hp → Prop} {σ : St} {H : Hp} (Pv : Nat → St → Hp → Prop) (h0 : Pv 0 σ H) (hf : ∀ i σ H, Pv i σ H → H d = some (.frz o u))
    (hs : ∀ i k v T σ H, ps[i]? = some (k, v) → Pv i σ H → H T = none → g (.ref T) σ (upd H T (.tup [k, v])) fun σ2 H2 => tc σ2 H2 fun b H3 => if b = true then te σ2 H3 fun y H4 => ∃ ys, H4 D = some (.lst ys) ∧ ys.length < sizeLine ∧ Pv (i + 1) σ2 (upd H4 D (.lst (ys ++ [y]))) else Pv (i + 1) σ2 H3)
    (hd : ∀ σ H, Pv ps.length σ H → Z H) : tBlock (ItD d o u ps) g tc te D Z σ H := by
  refine ⟨fun i m σ H => m = ps.length - i ∧ i ≤ ps.length ∧ Pv i σ H, ⟨ps.length, by simp, Nat.zero_le _, h0⟩, ?_⟩
  rintro i m σ H ⟨rfl, hi, p⟩
  by_cases hlt : i < ps.length
  · refine .inr ⟨⟨hlt, hf i σ H p⟩, Pv (i + 1), fun σ' H' p' => ⟨ps.length - (i + 1), by omega, rfl, hlt, p'⟩, fun x H' y => ?_⟩
    obtain ⟨k, v, T, hk, e1, hT, e2⟩ := y
    subst e1 e2
    exact hs i k v T σ _ hk p hT
  · have e : i = ps.length := by omega
    subst e
    exact .inl ⟨⟨rfl, hf _ σ H p⟩, hd σ H p⟩
theorem block_zip {K : PySem.W.Frag} {a b : Addr} {xs ys : List V} {g : TG} {tc : TT} {te : TE} {D : Addr} {Z : Hp → Prop} {σ : St} {H : Hp} (Pv : Nat → St → Hp → Prop) (hlen : xs.length = ys.length) (h0 : Pv 0 σ H) (hl : ∀ i σ H, i ≤ xs.length → Pv i σ H → SqL K H a xs ∧ SqL K H b ys)
    (hs : ∀ i v u T σ H, xs[i]? = some v → ys[i]? = some u → Pv i σ H → H T = none → g (.ref T) σ (upd H T (.tup [v, u])) fun σ2 H2 => tc σ2 H2 fun b H3 => if b = true then te σ2 H3 fun y H4 => ∃ ys, H4 D = some (.lst ys) ∧ ys.length < sizeLine ∧ Pv (i + 1) σ2 (upd H4 D (.lst (ys ++ [y]))) else Pv (i + 1) σ2 H3)
    (hd : ∀ σ H, Pv xs.length σ H → Z H) : tBlock (ItZ K a b xs ys) g tc te D Z σ H := by
  refine ⟨fun i m σ H => m = xs.length - i ∧ i ≤ xs.length ∧ Pv i σ H, ⟨xs.length, by simp, Nat.zero_le _, h0⟩, ?_⟩
  rintro i m σ H ⟨rfl, hi, p⟩
  obtain ⟨q1, q2⟩ := hl i σ H hi p
  by_cases hlt : i < xs.length
  · refine .inr ⟨⟨hlt, by omega, q1, q2⟩, Pv (i + 1), fun σ' H' p' => ⟨xs.length - (i + 1), by omega, rfl, hlt, p'⟩, fun x H' y => ?_⟩
    obtain ⟨v, u, T, hv, hu, e1, hT, e2⟩ := y
    subst e1 e2
    exact hs i v u T σ H hv hu p hT
  · have e : i = xs.length := by omega
    subst e
    exact .inl ⟨⟨.inl rfl, q1, q2⟩, hd σ H p⟩
/-- lists and tuples of the same things, n deep -/
def AlS (K : PySem.W.Frag) (H : Hp) : Nat → V → V → Prop
  | 0, x, y => ∃ a, x = .ref a ∧ y = .ref a
  | n + 1, x, y => (∃ a, x = .ref a ∧ y = .ref a) ∨ ∃ a b xs ys, x = .ref a ∧ y = .ref b ∧ ((SqL K H a xs ∧ SqL K H b ys) ∨ (SqT K H a xs ∧ SqT K H b ys)) ∧ Paired (AlS K H n) xs ys
theorem AlS.refl {K : PySem.W.Frag} {H : Hp} {a : Addr} : ∀ n : Nat, AlS K H n (.ref a) (.ref a)
  | 0 => ⟨a, rfl, rfl⟩
  | _ + 1 => Or.inl ⟨a, rfl, rfl⟩
theorem AlS.refls {K : PySem.W.Frag} {H : Hp} (n : Nat) : ∀ {xs : List V}, (∀ x ∈ xs, ∃ a, x = .ref a) → Paired (AlS K H n) xs xs
  | [], _ => .nil
  | x :: xs, h => by
    obtain ⟨a, rfl⟩ := h x List.mem_cons_self
    exact .cons (AlS.refl n) (AlS.refls n fun y hy => h y (List.mem_cons_of_mem _ hy))
section
variable {X : Cx} {K : PySem.W.Frag}
theorem eqS {pins : List (Addr × Obj)} {σ : St} {H : Hp} {s : Shared} (I : Inv X pins σ H s) : ∀ (n : Nat) {A : Around} {x y : V} {v u : Value}, AlS X.K H n x y → RelV x v → RelV y u → A.units + n < cLine → SeqAt.EqAt A s v u true
  | 0, A, x, y, v, u, h, rx, ry, hu => by
    obtain ⟨a, rfl, rfl⟩ := h
    cases rx; cases ry
    exact SeqAt.EqAt.same _
  | n + 1, A, x, y, v, u, h, rx, ry, hu => by
    rcases h with ⟨a, rfl, rfl⟩ | ⟨a, b, xs, ys, rfl, rfl, h, hp⟩
    · cases rx; cases ry
      exact SeqAt.EqAt.same _
    · cases rx; cases ry
      by_cases e : a = b
      · subst e; exact SeqAt.EqAt.same _
      have hl := hp.length
      have key : ∀ {us ws : List Value}, Vals xs us → Vals ys ws → ∀ j (h1 : j < us.toArray.size) (h2 : j < ws.toArray.size), SeqAt.EqAt A.in1 s us.toArray[j] ws.toArray[j] ((fun _ => true) j) := by
        intro us ws r r' j h1 h2
        have e1 := r.length
        have e2 := r'.length
        have j1 : j < us.length := by simpa using h1
        have j2 : j < xs.length := by omega
        have j3 : j < ws.length := by simpa using h2
        obtain ⟨u1, hu1, ru⟩ := r.get (List.getElem?_eq_getElem j2)
        obtain ⟨y1, hy, al⟩ := pair_at hp (List.getElem?_eq_getElem j2)
        obtain ⟨u2, hu2, ru'⟩ := r'.get hy
        have e4 : us.toArray[j] = u1 := by
          have : us[j]? = some us[j] := List.getElem?_eq_getElem j1
          rw [hu1] at this
          simpa using (Option.some.inj this).symm
        have e5 : ws.toArray[j] = u2 := by
          have : ws[j]? = some ws[j] := List.getElem?_eq_getElem j3
          rw [hu2] at this
          simpa using (Option.some.inj this).symm
        rw [e4, e5]
        exact eqS I n al ru ru' (by show A.units + 1 + n < cLine; omega)
      rcases h with ⟨ha, hb⟩ | ⟨ha, hb⟩
      · obtain ⟨us, r1, p1, _⟩ := I.list ha
        obtain ⟨ws, r2, p2, _⟩ := I.list hb
        have sz : us.toArray.size = ws.toArray.size := by
          have e1 := r1.length
          have e2 := r2.length
          simp; omega
        have h := SeqAt.RcAt.lists (A := A) (e := fun _ => true) p1.isList p2.isList sz (by omega) (key r1 r2)
        have et : ((List.range us.toArray.size).all fun _ => true) = true := by simp
        rw [et] at h
        exact SeqAt.EqAt.of_refs e h
      · obtain ⟨us, r1, p1, _⟩ := I.tuple ha
        obtain ⟨ws, r2, p2, _⟩ := I.tuple hb
        have sz : us.toArray.size = ws.toArray.size := by
          have e1 := r1.length
          have e2 := r2.length
          simp; omega
        have h := SeqAt.RcAt.tuples (A := A) (e := fun _ => true) p1 p2 (by omega) (key r1 r2)
        have et : ((List.range (min us.toArray.size ws.toArray.size)).all (fun _ => true) && us.toArray.size == ws.toArray.size) = true := by simp [sz]
        rw [et] at h
        exact SeqAt.EqAt.of_refs e h
theorem op_neS {k : Nat} (hK : X.K = K) (hr : Room k X.A) : OpR X (compareOp .NotEq) (fun x y H Q => (∃ a b xs ys, x = .ref a ∧ y = .ref b ∧ SqL K H a xs ∧ SqL K H b ys ∧ Paired (AlS K H 3) xs ys) ∧ Q (.bl false) H) := by
  subst hK
  intro pins s σ H x y v u Q I rx ry h
  obtain ⟨⟨a, b, xs, ys, rfl, rfl, ha, hb, hp⟩, q⟩ := h
  cases rx; cases ry
  obtain ⟨us, r1, p1, _⟩ := I.list ha
  obtain ⟨ws, r2, p2, _⟩ := I.list hb
  have hu := hr.un
  have hl := hp.length
  have sz : us.toArray.size = ws.toArray.size := by
    have e1 := r1.length
    have e2 := r2.length
    simp; omega
  refine richN p1.isList p2.isList sz (by omega) (fun j h1 h2 => ?_) ⟨.bl false, H, I, rfl, q⟩
  have e1 := r1.length
  have e2 := r2.length
  have j1 : j < us.length := by simpa using h1
  have j2 : j < xs.length := by omega
  have j3 : j < ws.length := by simpa using h2
  obtain ⟨u1, hu1, ru⟩ := r1.get (List.getElem?_eq_getElem j2)
  obtain ⟨y1, hy, al⟩ := pair_at hp (List.getElem?_eq_getElem j2)
  obtain ⟨u2, hu2, ru'⟩ := r2.get hy
  have e4 : us.toArray[j] = u1 := by
    have : us[j]? = some us[j] := List.getElem?_eq_getElem j1
    rw [hu1] at this
    simpa using (Option.some.inj this).symm
  have e5 : ws.toArray[j] = u2 := by
    have : ws[j]? = some ws[j] := List.getElem?_eq_getElem j3
    rw [hu2] at this
    simpa using (Option.some.inj this).symm
  rw [e4, e5]
  exact EqW.of (eqS I 3 al ru ru' (by show X.A.units + 1 + 3 < cLine; omega))
end
end L2
namespace L2
theorem by_key2 {α β : Type} {P C : α → β → Prop} {G : Prop} (go : (∀ x y, C x y → P x y) → G) (body : ∀ x y, C x y → P x y) : G := go body
end L2
namespace T40
open PySem L2 Tc
def top (i : Nat) : Stmt := PySem.Challenge.pw_tiercask_k40_what_is_a_blend.main.body.getD i (.Pass ⟨0, 0, 0, 0⟩)
structure Txt (K : PySem.W.Frag) (mg : Str → Option Value) : Prop where
  z_abs : mg "abs" = none
  z_all : mg "all" = none
  z_bool : mg "bool" = none
  z_int : mg "int" = none
  z_isinstance : mg "isinstance" = none
  z_len : mg "len" = none
  z_list : mg "list" = none
  z_max : mg "max" = none
  z_min : mg "min" = none
  z_range : mg "range" = none
  z_sum : mg "sum" = none
  z_zip : mg "zip" = none
/-- a condition on lots -/
inductive Pick where
  | name (z : Str) | years (i j : Int) | old (i : Int) | both (p q : Pick) | one (p q : Pick) | nay (p : Pick)
def RepP (H : Hp) : Pick → V → Prop
  | .name z, v => ∃ a, v = .ref a ∧ H a = some (.tup [.str "name", .str z])
  | .years i j, v => ∃ a, v = .ref a ∧ H a = some (.tup [.str "years", .int i, .int j])
  | .old i, v => ∃ a, v = .ref a ∧ H a = some (.tup [.str "old", .int i])
  | .both p q, v => ∃ a x y, v = .ref a ∧ H a = some (.tup [.str "both", x, y]) ∧ RepP H p x ∧ RepP H q y
  | .one p q, v => ∃ a x y, v = .ref a ∧ H a = some (.tup [.str "one", x, y]) ∧ RepP H p x ∧ RepP H q y
  | .nay p, v => ∃ a x, v = .ref a ∧ H a = some (.tup [.str "not", x]) ∧ RepP H p x
theorem RepP.mono {H H' : Hp} (s : ∀ a xs, H a = some (.tup xs) → H' a = some (.tup xs)) : ∀ {p : Pick} {v : V}, RepP H p v → RepP H' p v
  | .name _, _, ⟨a, e, h⟩ => ⟨a, e, s _ _ h⟩
  | .years _ _, _, ⟨a, e, h⟩ => ⟨a, e, s _ _ h⟩
  | .old _, _, ⟨a, e, h⟩ => ⟨a, e, s _ _ h⟩
  | .both _ _, _, ⟨a, x, y, e, h, h1, h2⟩ => ⟨a, x, y, e, s _ _ h, RepP.mono s h1, RepP.mono s h2⟩
  | .one _ _, _, ⟨a, x, y, e, h, h1, h2⟩ => ⟨a, x, y, e, s _ _ h, RepP.mono s h1, RepP.mono s h2⟩
  | .nay _, _, ⟨a, x, e, h, h1⟩ => ⟨a, x, e, s _ _ h, RepP.mono s h1⟩
theorem RepP.same {H H' : Hp} {p : Pick} {v : V} (h : RepP H p v) (s : Same H H') : RepP H' p v := h.mono fun _ _ e => s _ _ e
theorem RepP.updL {H : Hp} {p : Pick} {v : V} {D : Addr} {xs : List V} {o : HO} (h : RepP H p v) (hD : H D = some (.lst xs)) : RepP (upd H D o) p v := h.mono fun a ys e => by
  rw [upd_ne (ne_of e hD (by intro z; cases z))]; exact e
def dp : Pick → Nat
  | .name _ => 1 | .years _ _ => 1 | .old _ => 1
  | .both p q => max (dp p) (dp q) + 1 | .one p q => max (dp p) (dp q) + 1 | .nay p => dp p + 1
theorem dp_pos (p : Pick) : 1 ≤ dp p := by cases p <;> simp [dp]
/-- whether the lot (z, y) is meant, in the year now -/
def mean (z : Str) (y now : Int) : Pick → Bool
  | .name n => decide (V.str z = V.str n)
  | .years i j => decide (i ≤ y) && decide (y ≤ j)
  | .old i => decide (i ≤ now - y)
  | .both p q => mean z y now p && mean z y now q
  | .one p q => mean z y now p || mean z y now q
  | .nay p => !mean z y now p
def spMeans (d : Nat) : Sp := fun vs H Q _ => ∃ (v : V) (l : Addr) (z : Str) (y now : Int) (p : Pick), vs = [v, .ref l, .int now] ∧ H l = some (.tup [.str z, .int y]) ∧ RepP H p v ∧ dp p ≤ d ∧ Q (.bl (mean z y now p)) H
/-- a pick that is no deeper than d -/
def PkV (H : Hp) (d : Nat) (v : V) : Prop := ∃ p, RepP H p v ∧ dp p ≤ d
theorem PkV.same {H H' : Hp} {d : Nat} {v : V} (h : PkV H d v) (s : Same H H') : PkV H' d v := let ⟨p, h, l⟩ := h; ⟨p, h.same s, l⟩
theorem PkV.updL {H : Hp} {d : Nat} {v : V} {D : Addr} {xs : List V} {o : HO} (h : PkV H d v) (hD : H D = some (.lst xs)) : PkV (upd H D o) d v := let ⟨p, h, l⟩ := h; ⟨p, h.updL hD, l⟩
theorem PkV.le {H : Hp} {d e : Nat} {v : V} (h : PkV H d v) (l : d ≤ e) : PkV H e v := let ⟨p, h, l'⟩ := h; ⟨p, h, Nat.le_trans l' l⟩
def spMixed2 : Sp := fun vs H Q _ => ∃ c j : Int, vs = [.int c, .int j] ∧ (0 ≤ j ∧ j < 4) ∧ ∀ (m : Int) H', 0 ≤ m → m < 65551 → Same H H' → Q (.int m) H'
def spLowest2 : Sp := fun vs H Q _ => ∃ t b : Int, vs = [.int t, .int b] ∧ 0 < b ∧ b.natAbs < 2 ^ 9000 ∧ ∀ v H', Same H H' → FrV H' v (Rat.divInt t b) → Q v H'
def spNames : Sp := fun vs H Q _ => ∃ c : Int, vs = [.int c] ∧ ∀ (a : Addr) H' (zs : List Str), Same H H' → H' a = some (.lst (zs.map V.str)) → zs.length = 3 → Q (.ref a) H'
def spPick : Sp := fun vs H Q _ => ∃ (n now : Int) (a : Addr) (zs : List Str), vs = [.int n, .ref a, .int now] ∧ H a = some (.lst (zs.map V.str)) ∧ zs.length = 3 ∧ ∀ v H', Same H H' → PkV H' 4 v → Q v H'
/-- a condition of a label -/
inductive Cond where
  | mean (r : Rat) | least (r : Rat) (p : Pick) | most (r : Rat) (p : Pick)
def Cond.rat : Cond → Rat | .mean r => r | .least r _ => r | .most r _ => r
def RepC (H : Hp) : Cond → V → Prop
  | .mean r, v => ∃ a x, v = .ref a ∧ H a = some (.tup [.str "mean", x]) ∧ FrV H x r
  | .least r p, v => ∃ a x y, v = .ref a ∧ H a = some (.tup [.str "least", x, y]) ∧ FrV H x r ∧ RepP H p y ∧ dp p ≤ 4
  | .most r p, v => ∃ a x y, v = .ref a ∧ H a = some (.tup [.str "most", x, y]) ∧ FrV H x r ∧ RepP H p y ∧ dp p ≤ 4
theorem RepC.same {H H' : Hp} (s : Same H H') : ∀ {c : Cond} {v : V}, RepC H c v → RepC H' c v
  | .mean _, _, ⟨a, x, e, h, f⟩ => ⟨a, x, e, s _ _ h, f.same s⟩
  | .least _ _, _, ⟨a, x, y, e, h, f, g, l⟩ => ⟨a, x, y, e, s _ _ h, f.same s, g.same s, l⟩
  | .most _ _, _, ⟨a, x, y, e, h, f, g, l⟩ => ⟨a, x, y, e, s _ _ h, f.same s, g.same s, l⟩
def spCond : Sp := fun vs H Q _ => ∃ (n now : Int) (a : Addr) (zs : List Str), vs = [.int n, .ref a, .int now] ∧ H a = some (.lst (zs.map V.str)) ∧ zs.length = 3 ∧ ∀ v H' c, Same H H' → RepC H' c v → Bd 200 c.rat → Q v H'
/-- one where it is meant, else nothing -/
def one01 (b : Bool) : Int := if b then 1 else 0
/-- what a lot weighs -/
def wt (z : Str) (y now : Int) : Cond → Rat
  | .mean r => ((now - y : Int) : Rat) - r
  | .least r p => ((one01 (mean z y now p) : Int) : Rat) - r
  | .most r p => r - ((one01 (mean z y now p) : Int) : Rat)
def fac (z : Str) (y now : Int) : Cond → Int
  | .mean r => (now - y) * r.den - r.num
  | .least r p => if mean z y now p = true then r.den - r.num else 0 - r.num
  | .most r p => 0 - (if mean z y now p = true then r.den - r.num else 0 - r.num)
theorem sub_rat (n : Int) (r : Rat) : (n : Rat) - r = Rat.divInt (n * r.den - r.num) r.den := by
  have d := rat_den_pos r
  have h := Rat.divInt_sub_divInt n r.num (d₁ := 1) (d₂ := r.den) (by decide) (by omega)
  rw [Rat.num_divInt_den, Int.one_mul, Int.mul_one] at h
  rw [← h]
  have e : (n : Rat) = Rat.divInt n 1 := (Rat.num_divInt_den (n : Rat)).symm
  rw [e]
theorem num_of {w : Rat} {f d : Int} (hd : d ≠ 0) (h : w = Rat.divInt f d) : w.num * d = f * w.den := by
  have e : Rat.divInt w.num w.den = Rat.divInt f d := by rw [Rat.num_divInt_den]; exact h
  exact (Rat.divInt_eq_divInt_iff (by have := rat_den_pos w; omega) hd).mp e
theorem fac_ok (z : Str) (y now : Int) (c : Cond) : (wt z y now c).num * c.rat.den = fac z y now c * (wt z y now c).den := by
  have d := rat_den_pos c.rat
  refine num_of (by omega) ?_
  cases c with
  | mean r => exact sub_rat _ _
  | least r p =>
    have h := sub_rat (one01 (mean z y now p)) r
    show ((one01 (mean z y now p) : Int) : Rat) - r = Rat.divInt (if mean z y now p = true then r.den - r.num else 0 - r.num) r.den
    rw [h]
    cases mean z y now p <;> simp [one01]
  | most r p =>
    have h := sub_rat (one01 (mean z y now p)) r
    have e : r - ((one01 (mean z y now p) : Int) : Rat) = -(((one01 (mean z y now p) : Int) : Rat) - r) := by grind
    show r - ((one01 (mean z y now p) : Int) : Rat) = Rat.divInt (0 - (if mean z y now p = true then r.den - r.num else 0 - r.num)) r.den
    rw [e, h, Rat.neg_divInt]
    cases mean z y now p <;> simp [one01]
def spWeight : Sp := fun vs H Q _ => ∃ (v : V) (l : Addr) (z : Str) (y now : Int) (c : Cond), vs = [v, .ref l, .int now] ∧ H l = some (.tup [.str z, .int y]) ∧ RepC H c v ∧ Bd 200 c.rat ∧ (now - y).natAbs < 2 ^ 100 ∧ ∀ u H', Same H H' → FrV H' u (wt z y now c) → Q u H'
def spFactor : Sp := fun vs H Q _ => ∃ (v : V) (l : Addr) (z : Str) (y now : Int) (c : Cond), vs = [v, .ref l, .int now] ∧ H l = some (.tup [.str z, .int y]) ∧ RepC H c v ∧ Bd 200 c.rat ∧ (now - y).natAbs < 2 ^ 100 ∧ Q (.int (fac z y now c)) H
theorem pow1012 : (10 : Int) ^ (12 : Int).toNat = 1000000000000 := by decide
theorem letter_at {i : Int} (h : 0 ≤ i ∧ i < 26) : ∃ ch, atI ("abcdefghijklmnopqrstuvwxyz" : Str).cps.toList i = some ch := by
  obtain ⟨j, rfl⟩ := Int.eq_ofNat_of_zero_le h.1
  have e : ("abcdefghijklmnopqrstuvwxyz" : Str).cps.toList.length = 26 := by decide +kernel
  have hj : j < ("abcdefghijklmnopqrstuvwxyz" : Str).cps.toList.length := by omega
  exact ⟨_, atI_nat (List.getElem?_eq_getElem hj)⟩
theorem str_at {zs : List Str} {k : Int} (h0 : 0 ≤ k) (h1 : k < zs.length) : ∃ z, atI (zs.map V.str) k = some (V.str z) := by
  obtain ⟨j, rfl⟩ := Int.eq_ofNat_of_zero_le h0
  have hj : j < zs.length := by omega
  refine ⟨zs[j], atI_nat ?_⟩
  rw [List.getElem?_map, List.getElem?_eq_getElem hj]; rfl
theorem PkV.nay {H : Hp} {q : Addr} {x : V} {d : Nat} (h : H q = some (.tup [.str "not", x])) (hx : PkV H d x) : PkV H (d + 1) (.ref q) :=
  let ⟨p, r, l⟩ := hx; ⟨.nay p, ⟨q, x, rfl, h, r⟩, by simp only [dp]; omega⟩
theorem PkV.both {H : Hp} {q : Addr} {x y : V} {d : Nat} (h : H q = some (.tup [.str "both", x, y])) (hx : PkV H d x) (hy : PkV H d y) : PkV H (d + 1) (.ref q) :=
  let ⟨p, r, l⟩ := hx; let ⟨p', r', l'⟩ := hy; ⟨.both p p', ⟨q, x, y, rfl, h, r, r'⟩, by simp only [dp]; omega⟩
theorem PkV.one {H : Hp} {q : Addr} {x y : V} {d : Nat} (h : H q = some (.tup [.str "one", x, y])) (hx : PkV H d x) (hy : PkV H d y) : PkV H (d + 1) (.ref q) :=
  let ⟨p, r, l⟩ := hx; let ⟨p', r', l'⟩ := hy; ⟨.one p p', ⟨q, x, y, rfl, h, r, r'⟩, by simp only [dp]; omega⟩
theorem PkV.years {H : Hp} {q : Addr} {i j : Int} (h : H q = some (.tup [.str "years", .int i, .int j])) : PkV H 1 (.ref q) := ⟨.years i j, ⟨q, rfl, h⟩, Nat.le_refl _⟩
theorem PkV.old {H : Hp} {q : Addr} {i : Int} (h : H q = some (.tup [.str "old", .int i])) : PkV H 1 (.ref q) := ⟨.old i, ⟨q, rfl, h⟩, Nat.le_refl _⟩
theorem PkV.name {H : Hp} {q : Addr} {z : Str} (h : H q = some (.tup [.str "name", .str z])) : PkV H 1 (.ref q) := ⟨.name z, ⟨q, rfl, h⟩, Nat.le_refl _⟩
/-- a list of picks, all of it new -/
structure PL (H H1 : Hp) (p : Addr) (xs : List V) (m d : Nat) : Prop where
  same : Same H H1
  here : H1 p = some (.lst xs)
  len : xs.length = m
  all : ∀ v ∈ xs, PkV H1 d v
theorem PL.snoc {H H1 : Hp} {p q : Addr} {xs : List V} {m d e : Nat} {o : HO} (h : PL H H1 p xs m d) (hp : H p = none) (hq : H1 q = none) (hde : d ≤ e)
    (new : ∀ H', H' q = some o → (∀ v ∈ xs, PkV H' d v) → PkV H' e (.ref q)) : PL H (upd (upd H1 q o) p (.lst (xs ++ [.ref q]))) p (xs ++ [.ref q]) (m + 1) e := by
  have hs := Same.upd (o := o) hq
  have hpq := hs _ _ h.here
  have al : ∀ v ∈ xs, PkV (upd (upd H1 q o) p (.lst (xs ++ [.ref q]))) d v := fun v hv => ((h.all v hv).same hs).updL hpq
  refine ⟨(h.same.trans hs).updD hp, upd_same, by rw [List.length_append, h.len]; rfl, fun v hv => ?_⟩
  rcases List.mem_append.mp hv with z | z
  · exact (al v z).le hde
  · have z := List.mem_singleton.mp z
    subst z
    refine new _ ?_ al
    rw [upd_ne (ne_of_none h.here hq).symm]; exact upd_same
theorem PL.get {H H1 : Hp} {p : Addr} {xs : List V} {m d : Nat} (h : PL H H1 p xs m d) {k : Int} (h0 : 0 ≤ k) (h1 : k < m) : ∃ v, v ∈ xs ∧ atI xs k = some v := atI_in h0 (by rw [h.len]; exact h1)
theorem bd_int {n : Int} {m : Nat} (h : n.natAbs < 2 ^ m) (hm : 1 ≤ m) : Bd m (n : Rat) := ⟨h, by show 1 < 2 ^ m; exact Nat.one_lt_two_pow (by omega)⟩
theorem bd_sub {m n : Nat} {r q : Rat} (h1 : Bd m r) (h2 : Bd n q) : Bd (m + n + 1) (r - q) := by
  rw [Rat.sub_eq_add_neg]; exact h1.add h2.neg
theorem one01_bd (b : Bool) : Bd 100 ((one01 b : Int) : Rat) := bd_int (by cases b <;> decide) (by decide)
theorem wt_bd {z : Str} {y now : Int} {c : Cond} (hB : Bd 200 c.rat) (hn : (now - y).natAbs < 2 ^ 100) : Bd 400 (wt z y now c) := by
  cases c with
  | mean r => exact (bd_sub (bd_int hn (by decide)) hB).mono (by decide)
  | least r p => exact (bd_sub (one01_bd _) hB).mono (by decide)
  | most r p => exact (bd_sub hB (one01_bd _)).mono (by decide)
theorem fac_bd {z : Str} {y now : Int} {c : Cond} (hB : Bd 200 c.rat) (hn : (now - y).natAbs < 2 ^ 100) : (fac z y now c).natAbs < 2 ^ 400 := by
  have h1 : c.rat.num.natAbs < 2 ^ 300 := Nat.lt_of_lt_of_le hB.num (pow_le (by decide))
  have h2 : ((c.rat.den : Int)).natAbs < 2 ^ 300 := Nat.lt_of_lt_of_le hB.den (pow_le (by decide))
  have h3 : ((now - y) * (c.rat.den : Int)).natAbs < 2 ^ 300 := natAbs_mul_lt (m := 100) (n := 200) hn hB.den
  have h4 : (4 : Nat) * 2 ^ 300 ≤ 2 ^ 400 := by
    have : (2 : Nat) ^ 302 ≤ 2 ^ 400 := pow_le (by decide)
    have e : (2 : Nat) ^ 302 = 4 * 2 ^ 300 := by rw [show (302 : Nat) = 2 + 300 from rfl, Nat.pow_add]
    omega
  generalize (2 : Nat) ^ 300 = A at *
  generalize (2 : Nat) ^ 400 = B at *
  cases c with
  | mean r =>
    show ((now - y) * (r.den : Int) - r.num).natAbs < B
    have h1 : r.num.natAbs < A := h1
    have h3 : ((now - y) * (r.den : Int)).natAbs < A := h3
    omega
  | least r p =>
    show (if mean z y now p = true then (r.den : Int) - r.num else 0 - r.num).natAbs < B
    have h1 : r.num.natAbs < A := h1
    have h2 : ((r.den : Int)).natAbs < A := h2
    split <;> omega
  | most r p =>
    show (0 - (if mean z y now p = true then (r.den : Int) - r.num else 0 - r.num)).natAbs < B
    have h1 : r.num.natAbs < A := h1
    have h2 : ((r.den : Int)).natAbs < A := h2
    split <;> omega
def cl (i : Int) : Int := if (if i < 9999 then i else 9999) > 0 then (if i < 9999 then i else 9999) else 0
theorem clamp (i : Int) : 0 ≤ cl i ∧ cl i ≤ 9999 := by
  unfold cl
  constructor <;> (split <;> split <;> omega)
theorem _root_.Tc.FrV.tup {H H' : Hp} {v : V} {r : Rat} (h : FrV H v r) (s : ∀ a xs, H a = some (.tup xs) → H' a = some (.tup xs)) : FrV H' v r := let ⟨a, e, h⟩ := h; ⟨a, e, s _ _ h⟩
theorem tup_of {H : Hp} {p : Addr} {u o : HO} (hp : H p = some u) (hu : ∀ xs, u ≠ .tup xs) : ∀ a ys, H a = some (.tup ys) → upd H p o a = some (.tup ys) := fun a ys e => by
  rw [upd_ne (ne_of e hp (fun z => hu ys z.symm))]; exact e
theorem RepC.tup {H H' : Hp} (s : ∀ a xs, H a = some (.tup xs) → H' a = some (.tup xs)) : ∀ {c : Cond} {v : V}, RepC H c v → RepC H' c v
  | .mean _, _, ⟨a, x, e, h, f⟩ => ⟨a, x, e, s _ _ h, f.tup s⟩
  | .least _ _, _, ⟨a, x, y, e, h, f, g, l⟩ => ⟨a, x, y, e, s _ _ h, f.tup s, g.mono s, l⟩
  | .most _ _, _, ⟨a, x, y, e, h, f, g, l⟩ => ⟨a, x, y, e, s _ _ h, f.tup s, g.mono s, l⟩
abbrev Lot := Str × Int
abbrev Ent := Lot × Rat
def kyL (l : Lot) : List Key := [.inr l.1, .inl l.2]
def EnV (H : Hp) (kv : List Key × V) (e : Ent) : Prop := kv.1 = kyL e.1 ∧ FrV H kv.2 e.2
structure OkE (now : Int) (e : Ent) : Prop where
  pos : 0 < e.2
  den : e.2.den ∣ 27720
  bd : Bd 100 e.2
  yr : (now - e.1.2).natAbs < 2 ^ 100
structure OkW (now : Int) (W : List Ent) : Prop where
  all : ∀ e ∈ W, OkE now e
  ne : W ≠ []
  len : W.length ≤ 3
def WnV (H : Hp) (v : V) (W : List Ent) : Prop := ∃ d kvs, v = .ref d ∧ H d = some (.dT kvs) ∧ Paired (EnV H) kvs W
theorem WnV.same {H H' : Hp} {v : V} {W : List Ent} (h : WnV H v W) (s : Same H H') : WnV H' v W :=
  let ⟨d, kvs, e, h1, h2⟩ := h; ⟨d, kvs, e, s _ _ h1, Paired.mapP h2 fun _ _ f => ⟨f.1, f.2.same s⟩⟩
def OfV (H : Hp) (v : V) (W : List Ent) : Prop := ∃ a w pr, v = .ref a ∧ H a = some (.tup [w, pr]) ∧ WnV H w W
theorem OfV.same {H H' : Hp} {v : V} {W : List Ent} (h : OfV H v W) (s : Same H H') : OfV H' v W :=
  let ⟨a, w, pr, e, h1, h2⟩ := h; ⟨a, w, pr, e, s _ _ h1, h2.same s⟩
def totQ (W : List Ent) : Rat := sumL W (·.2)
def balQ (now : Int) (c : Cond) (W : List Ent) : Rat := sumL W fun e => e.2 * wt e.1.1 e.1.2 now c
def unZ (r : Rat) : Int := r.num * (27720 : Int).fdiv r.den
def totZ (W : List Ent) : Int := (W.map fun e => unZ e.2).sum
def wghZ (now : Int) (c : Cond) (W : List Ent) : Int := (W.map fun e => unZ e.2 * fac e.1.1 e.1.2 now c).sum
theorem unZ_eq {r : Rat} (h : r.den ∣ 27720) : ((unZ r : Int) : Rat) = 27720 * r := by
  obtain ⟨k, hk⟩ := h
  have d := rat_den_pos r
  have e1 : (27720 : Int).fdiv r.den = (k : Nat) := by
    rw [Int.fdiv_eq_ediv_of_nonneg _ (by omega)]
    have : (27720 : Int) = (r.den : Int) * (k : Int) := by exact_mod_cast hk
    rw [this]
    exact Int.mul_ediv_cancel_left _ (by omega)
  unfold unZ
  rw [e1, Rat.intCast_mul, Rat.intCast_natCast]
  have e2 := mul_den r
  have e3 : (27720 : Rat) = (r.den : Rat) * (k : Rat) := by
    rw [← Rat.natCast_mul, ← hk]; rfl
  rw [e3, ← e2]
  grind
theorem fac_eq (z : Str) (y now : Int) (c : Cond) : ((fac z y now c : Int) : Rat) = wt z y now c * (c.rat.den : Rat) := by
  have h := fac_ok z y now c
  have h2 : (((wt z y now c).num * c.rat.den : Int) : Rat) = ((fac z y now c * (wt z y now c).den : Int) : Rat) := by rw [h]
  rw [Rat.intCast_mul, Rat.intCast_mul, Rat.intCast_natCast, Rat.intCast_natCast] at h2
  have e := mul_den (wt z y now c)
  have n := natne (wt z y now c).den_pos
  rw [← e] at h2
  grind
theorem tot_eq {now : Int} : ∀ {W : List Ent}, (∀ e ∈ W, OkE now e) → ((totZ W : Int) : Rat) = 27720 * totQ W
  | [], _ => by show ((0 : Int) : Rat) = 27720 * 0; grind
  | e :: W, h => by
    have ih := tot_eq (W := W) fun e he => h e (List.mem_cons_of_mem _ he)
    have e1 := unZ_eq (h e List.mem_cons_self).den
    show ((unZ e.2 + totZ W : Int) : Rat) = 27720 * sumL (e :: W) (·.2)
    rw [sumL_cons, Rat.intCast_add, ih, e1]
    show _ = 27720 * (e.2 + totQ W)
    grind
theorem wgh_eq {now : Int} (c : Cond) : ∀ {W : List Ent}, (∀ e ∈ W, OkE now e) → ((wghZ now c W : Int) : Rat) = 27720 * (c.rat.den : Rat) * balQ now c W
  | [], _ => by show ((0 : Int) : Rat) = 27720 * (c.rat.den : Rat) * 0; grind
  | e :: W, h => by
    have ih := wgh_eq c (W := W) fun e he => h e (List.mem_cons_of_mem _ he)
    have e1 := unZ_eq (h e List.mem_cons_self).den
    have e2 := fac_eq e.1.1 e.1.2 now c
    show ((unZ e.2 * fac e.1.1 e.1.2 now c + wghZ now c W : Int) : Rat) = 27720 * (c.rat.den : Rat) * sumL (e :: W) fun e => e.2 * wt e.1.1 e.1.2 now c
    rw [sumL_cons, Rat.intCast_add, Rat.intCast_mul, ih, e1, e2]
    show _ = 27720 * (c.rat.den : Rat) * (e.2 * wt e.1.1 e.1.2 now c + balQ now c W)
    grind
theorem unZ_pos {r : Rat} (h : r.den ∣ 27720) (h0 : 0 < r) : 0 < unZ r := by
  have e := unZ_eq h
  have h1 : (0 : Rat) < ((unZ r : Int) : Rat) := by rw [e]; grind
  exact_mod_cast h1
theorem totZ_pos {now : Int} {W : List Ent} (h : OkW now W) : 0 < totZ W := by
  have key : ∀ {W : List Ent}, (∀ e ∈ W, OkE now e) → 0 ≤ totZ W := by
    intro W
    induction W with
    | nil => intro _; exact Int.le_refl 0
    | cons e W ih =>
      intro h
      have := unZ_pos (h e List.mem_cons_self).den (h e List.mem_cons_self).pos
      have := ih fun e he => h e (List.mem_cons_of_mem _ he)
      show 0 ≤ unZ e.2 + totZ W
      omega
  match W, h with
  | [], h => exact absurd rfl h.ne
  | e :: W, h =>
    have := unZ_pos (h.all e List.mem_cons_self).den (h.all e List.mem_cons_self).pos
    have := key (W := W) fun e he => h.all e (List.mem_cons_of_mem _ he)
    show 0 < unZ e.2 + totZ W
    omega
theorem tot_ne {now : Int} {W : List Ent} (h : OkW now W) : totQ W ≠ 0 := fun e => by
  have h1 := tot_eq h.all
  rw [e, Rat.mul_zero] at h1
  have h2 : totZ W = 0 := by exact_mod_cast h1
  have := totZ_pos h
  omega
theorem unZ_bd {r : Rat} (h : Bd 100 r) : (unZ r).natAbs < 2 ^ 120 := by
  unfold unZ
  have d := rat_den_pos r
  have h1 : ((27720 : Int).fdiv r.den).natAbs < 2 ^ 20 := by
    have := natAbs_fdiv_le (27720 : Int) r.den
    have e : (2 : Nat) ^ 20 = 1048576 := by decide
    rw [e]
    have e2 : (27720 : Int).natAbs = 27720 := rfl
    omega
  exact natAbs_mul_lt (m := 100) (n := 20) h.num h1
theorem sum_bd {α : Type} {f : α → Int} {n : Nat} : ∀ {W : List α}, (∀ e ∈ W, (f e).natAbs < 2 ^ n) → ((W.map f).sum).natAbs ≤ W.length * 2 ^ n
  | [], _ => by simp
  | e :: W, h => by
    have h1 := h e List.mem_cons_self
    have h2 := sum_bd (W := W) fun e he => h e (List.mem_cons_of_mem _ he)
    rw [List.map_cons, List.sum_cons, List.length_cons, Nat.add_mul]
    have := Int.natAbs_add_le (f e) (W.map f).sum
    omega
theorem mul4 {n k : Nat} (h : k ≤ 4) : k * 2 ^ n ≤ 2 ^ (n + 2) := by
  rw [Nat.pow_add, Nat.mul_comm]
  exact Nat.mul_le_mul_left _ h
theorem totZ_bd {now : Int} {W : List Ent} (h : OkW now W) : (totZ W).natAbs ≤ 2 ^ 122 := by
  have h1 := sum_bd (f := fun e : Ent => unZ e.2) (n := 120) fun e he => unZ_bd (h.all e he).bd
  exact Nat.le_trans h1 (mul4 (by have := h.len; omega))
theorem wghZ_bd {now : Int} {c : Cond} {W : List Ent} (h : OkW now W) (hc : Bd 200 c.rat) : (wghZ now c W).natAbs ≤ 2 ^ 522 := by
  have h1 := sum_bd (f := fun e : Ent => unZ e.2 * fac e.1.1 e.1.2 now c) (n := 520) fun e he => natAbs_mul_lt (m := 120) (n := 400) (unZ_bd (h.all e he).bd) (fac_bd hc (h.all e he).yr)
  exact Nat.le_trans h1 (mul4 (by have := h.len; omega))
/-- numbers of D-th parts, not above M of them -/
def FixD (D M : Nat) (r : Rat) : Prop := ∃ m : Int, r = Rat.divInt m D ∧ m.natAbs ≤ M
theorem FixD.bd {D M n : Nat} {r : Rat} (h : FixD D M r) (hD : 0 < D) (h1 : D < 2 ^ n) (h2 : M < 2 ^ n) : Bd n r := by
  obtain ⟨m, rfl, hm⟩ := h
  exact Bd.divInt (by omega) (by omega) (by simpa using h1)
theorem FixD.add {D M N : Nat} {r q : Rat} (hD : 0 < D) (h : FixD D M r) (g : FixD D N q) : FixD D (M + N) (r + q) := by
  obtain ⟨m, rfl, hm⟩ := h
  obtain ⟨n, rfl, hn⟩ := g
  refine ⟨m + n, ?_, ?_⟩
  · rw [Rat.divInt_eq_div, Rat.divInt_eq_div, Rat.divInt_eq_div, Rat.intCast_add, Rat.intCast_natCast]
    have := natne hD
    grind
  · have := Int.natAbs_add_le m n
    omega
theorem FixD.zero (D M : Nat) : FixD D M 0 := ⟨0, by rw [Rat.divInt_eq_div]; show (0 : Rat) = 0 / _; rw [Rat.div_def, Rat.zero_mul], Nat.zero_le _⟩
theorem FixD.sum {α : Type} [DecidableEq α] {D M : Nat} (hD : 0 < D) {f : α → Rat} : ∀ {l : List α}, (∀ z ∈ l, FixD D M (f z)) → FixD D (l.length * M) (sumL l f)
  | [], _ => FixD.zero D _
  | z :: l, h => by
    rw [sumL_cons, Rat.add_comm, List.length_cons, Nat.add_mul, Nat.one_mul]
    exact FixD.add hD (FixD.sum hD fun y hy => h y (List.mem_cons_of_mem _ hy)) (h z List.mem_cons_self)
theorem FixD.mono {D M N : Nat} {r : Rat} (h : FixD D M r) (hn : M ≤ N) : FixD D N r := let ⟨m, e, hm⟩ := h; ⟨m, e, Nat.le_trans hm hn⟩
abbrev Zz := List Ent × Rat
structure OkZ (now : Int) (z : Zz) : Prop where
  w : OkW now z.1
  am : ∃ t : Int, t.natAbs ≤ 20 ∧ z.2 = Rat.divInt (totZ z.1 * t) 332640
theorem OkZ.fix {now : Int} {z : Zz} (h : OkZ now z) : FixD 332640 (2 ^ 128) z.2 := by
  obtain ⟨t, ht, e⟩ := h.am
  refine ⟨totZ z.1 * t, e, ?_⟩
  rw [Int.natAbs_mul]
  have h1 := totZ_bd h.w
  have h2 : t.natAbs ≤ 2 ^ 6 := Nat.le_trans ht (by decide)
  have := Nat.mul_le_mul h1 h2
  rwa [← Nat.pow_add] at this
theorem OkZ.bd {now : Int} {z : Zz} (h : OkZ now z) : Bd 200 z.2 := h.fix.bd (by decide) (by decide) (by decide)
def proQ (now : Int) (c : Cond) (z : Zz) : Rat := balQ now c z.1 / totQ z.1 * z.2
/-- a part of the law's sum -/
def parQ (now : Int) (c : Cond) (z : Zz) : Rat := Rat.divInt (z.2.num * wghZ now c z.1) (z.2.den * totZ z.1)
theorem par_eq {now : Int} {c : Cond} {z : Zz} (h : OkZ now z) : parQ now c z = (c.rat.den : Rat) * proQ now c z := by
  have e1 := tot_eq h.w.all
  have e2 := wgh_eq c h.w.all
  have n1 := tot_ne h.w
  have e3 := mul_den z.2
  have n3 := natne z.2.den_pos
  unfold parQ proQ
  rw [Rat.divInt_eq_div, Rat.intCast_mul, Rat.intCast_mul, Rat.intCast_natCast, e1, e2, ← e3]
  grind
theorem par_fix {now : Int} {c : Cond} {z : Zz} (h : OkZ now z) (hc : Bd 200 c.rat) : FixD 332640 (2 ^ 528) (parQ now c z) := by
  obtain ⟨t, ht, e⟩ := h.am
  refine ⟨wghZ now c z.1 * t, ?_, ?_⟩
  · have e1 := tot_eq h.w.all
    have n1 := tot_ne h.w
    have e3 := mul_den z.2
    have n3 := natne z.2.den_pos
    have e5 : z.2 = ((totZ z.1 : Int) : Rat) * ((t : Int) : Rat) / 332640 := by
      rw [e, Rat.divInt_eq_div, Rat.intCast_mul]; rfl
    unfold parQ
    rw [Rat.divInt_eq_div, Rat.divInt_eq_div, Rat.intCast_mul, Rat.intCast_mul, Rat.intCast_mul, Rat.intCast_natCast, ← e3]
    have e6 : (((332640 : Nat) : Int) : Rat) = 332640 := rfl
    rw [e6, e1]
    rw [e1] at e5
    generalize totQ z.1 = T at *
    generalize ((wghZ now c z.1 : Int) : Rat) = B at *
    generalize ((t : Int) : Rat) = u at *
    generalize (z.2.den : Rat) = dd at *
    rw [e5]
    grind
  · rw [Int.natAbs_mul]
    have h1 := wghZ_bd h.w hc
    have h2 : t.natAbs ≤ 2 ^ 6 := Nat.le_trans ht (by decide)
    have := Nat.mul_le_mul h1 h2
    rwa [← Nat.pow_add] at this
theorem pro_fix {now : Int} {c : Cond} {z : Zz} (h : OkZ now z) (hc : Bd 200 c.rat) : FixD (332640 * c.rat.den) (2 ^ 528) (proQ now c z) := by
  obtain ⟨m, e, hm⟩ := par_fix h hc
  refine ⟨m, ?_, hm⟩
  have e2 := par_eq (c := c) h
  rw [e] at e2
  have n3 := natne c.rat.den_pos
  rw [Rat.divInt_eq_div] at e2 ⊢
  have e6 : (((332640 : Nat) : Int) : Rat) = 332640 := rfl
  have e7 : (((332640 * c.rat.den : Nat) : Int) : Rat) = 332640 * (c.rat.den : Rat) := by
    rw [Rat.intCast_natCast, Rat.natCast_mul]; rfl
  rw [e6] at e2
  rw [e7]
  grind
theorem wt_den_bd {c : Cond} (hc : Bd 200 c.rat) : 332640 * c.rat.den < 2 ^ 600 := by
  have h1 : c.rat.den < 2 ^ 200 := hc.den
  have : 332640 * c.rat.den < 2 ^ 20 * 2 ^ 200 := Nat.mul_lt_mul_of_lt_of_le (by decide) (Nat.le_of_lt h1) (by have := c.rat.den_pos; omega)
  rw [← Nat.pow_add] at this
  exact Nat.lt_of_lt_of_le this (pow_le (by decide))
theorem len8 {n : Nat} {k : Nat} (h : k ≤ 8) : k * 2 ^ n < 2 ^ (n + 4) := by
  rw [Nat.pow_add, Nat.mul_comm]
  exact Nat.mul_lt_mul_of_pos_left (by omega) (Nat.two_pow_pos _)
theorem am_sum {now : Int} {zs : List Zz} (h : ∀ z ∈ zs, OkZ now z) (h8 : zs.length ≤ 8) : Bd 700 (sumL zs (·.2)) :=
  (FixD.sum (by decide) fun z hz => (h z hz).fix).bd (by decide) (by decide) (Nat.lt_of_lt_of_le (len8 h8) (pow_le (by decide)))
theorem par_sum {now : Int} {c : Cond} {zs : List Zz} (h : ∀ z ∈ zs, OkZ now z) (h8 : zs.length ≤ 8) (hc : Bd 200 c.rat) : Bd 700 (sumL zs (parQ now c)) :=
  (FixD.sum (by decide) fun z hz => par_fix (h z hz) hc).bd (by decide) (by decide) (Nat.lt_of_lt_of_le (len8 h8) (pow_le (by decide)))
theorem pro_sum {now : Int} {c : Cond} {zs : List Zz} (h : ∀ z ∈ zs, OkZ now z) (h8 : zs.length ≤ 8) (hc : Bd 200 c.rat) : Bd 700 (sumL zs (proQ now c)) :=
  (FixD.sum (Nat.mul_pos (by decide) c.rat.den_pos) fun z hz => pro_fix (h z hz) hc).bd (Nat.mul_pos (by decide) c.rat.den_pos) (Nat.lt_of_lt_of_le (wt_den_bd hc) (pow_le (by decide))) (Nat.lt_of_lt_of_le (len8 h8) (pow_le (by decide)))
theorem par_pro {now : Int} {c : Cond} : ∀ {zs : List Zz}, (∀ z ∈ zs, OkZ now z) → sumL zs (parQ now c) = (c.rat.den : Rat) * sumL zs (proQ now c)
  | [], _ => by show (0 : Rat) = _ * 0; grind
  | z :: zs, h => by
    rw [sumL_cons, sumL_cons, par_eq (h z List.mem_cons_self), par_pro fun y hy => h y (List.mem_cons_of_mem _ hy)]
    grind
def okB (z : Zz) : Bool := decide (0 ≤ z.2) && decide (z.2 ≤ totQ z.1)
def blendB (now : Int) (cs : List Cond) (zs : List Zz) (w : Rat) : Bool := zs.all okB && (decide (sumL zs (·.2) = w) && cs.all fun c => decide (0 ≤ sumL zs (proQ now c)))
theorem tot_bd {now : Int} {W : List Ent} (h : OkW now W) : Bd 200 (totQ W) := by
  have h1 := tot_eq h.all
  have e : totQ W = Rat.divInt (totZ W) 27720 := by
    rw [Rat.divInt_eq_div, h1]
    have : ((27720 : Int) : Rat) = 27720 := rfl
    rw [this]
    grind
  rw [e]
  refine Bd.divInt (by decide) (Nat.lt_of_le_of_lt (totZ_bd h) (by decide)) (by decide)
theorem bal_fix {now : Int} {c : Cond} {W : List Ent} (h : ∀ e ∈ W, OkE now e) (hl : W.length ≤ 3) (hc : Bd 200 c.rat) : Bd 700 (balQ now c W) := by
  have h1 := wgh_eq c h
  have hz : (wghZ now c W).natAbs ≤ 2 ^ 522 := by
    have h1 := sum_bd (f := fun e : Ent => unZ e.2 * fac e.1.1 e.1.2 now c) (n := 520) fun e he => natAbs_mul_lt (m := 120) (n := 400) (unZ_bd (h e he).bd) (fac_bd hc (h e he).yr)
    exact Nat.le_trans h1 (mul4 (by omega))
  have n3 := natne c.rat.den_pos
  have e : balQ now c W = Rat.divInt (wghZ now c W) (27720 * c.rat.den : Nat) := by
    rw [Rat.divInt_eq_div, h1, Rat.intCast_natCast, Rat.natCast_mul]
    have : ((27720 : Nat) : Rat) = 27720 := rfl
    rw [this]
    grind
  rw [e]
  have d := c.rat.den_pos
  refine Bd.divInt (by omega) (Nat.lt_of_le_of_lt hz (by decide)) ?_
  have h2 : c.rat.den < 2 ^ 200 := hc.den
  have : 27720 * c.rat.den < 2 ^ 15 * 2 ^ 200 := Nat.mul_lt_mul_of_lt_of_le (by decide) (Nat.le_of_lt h2) (by omega)
  rw [← Nat.pow_add] at this
  exact Nat.lt_of_lt_of_le (show 27720 * c.rat.den < 2 ^ 215 from this) (pow_le (by decide))
theorem rat_bd {now : Int} {c : Cond} {W : List Ent} (h : OkW now W) (hc : Bd 200 c.rat) : Bd 1000 (balQ now c W / totQ W) := by
  rw [Rat.div_def]
  exact ((bal_fix h.all h.len hc).mul ((tot_bd h).inv (tot_ne h))).mono (by decide)
def spOver0 : Sp := fun vs H Q _ => ∃ x y r q, vs = [x, y] ∧ FrV H x r ∧ FrV H y q ∧ Bd 8000 r ∧ Bd 8000 q ∧ q ≠ 0 ∧ ∀ v H', Same H H' → FrV H' v (r / q) → Q v H'
def spTotal : Sp := fun vs H Q _ => ∃ (v : V) (W : List Ent) (now : Int), vs = [v] ∧ WnV H v W ∧ OkW now W ∧ ∀ u H', Same H H' → FrV H' u (totQ W) → Q u H'
def spBal : Sp := fun vs H Q _ => ∃ (v w : V) (now : Int) (c : Cond) (W : List Ent), vs = [v, w, .int now] ∧ RepC H c v ∧ Bd 200 c.rat ∧ WnV H w W ∧ OkW now W ∧ ∀ u H', Same H H' → FrV H' u (balQ now c W) → Q u H'
def CdV (H : Hp) (v : V) (c : Cond) : Prop := RepC H c v ∧ Bd 200 c.rat
def RwV (H : Hp) (now : Int) (Ws : List (List Ent)) (v : V) (c : Cond) : Prop := ∃ a xs, v = .ref a ∧ H a = some (.lst xs) ∧ Paired (FrV H) xs (Ws.map fun W => balQ now c W / totQ W)
def spWin (K : PySem.W.Frag) : Sp := fun vs H Q _ => ∃ (ao al : Addr) (now : Int) (os ls : List V) (Ws : List (List Ent)) (cs : List Cond), vs = [.ref ao, .ref al, .int now] ∧ SqL K H ao os ∧ Paired (OfV H) os Ws ∧ (∀ W ∈ Ws, OkW now W) ∧ Ws.length ≤ 8 ∧ SqL K H al ls ∧ Paired (CdV H) ls cs ∧ cs.length ≤ 8 ∧
  ∀ p H' rs, H p = none → Same H H' → H' p = some (.lst rs) → Paired (RwV H' now Ws) rs cs → Q (.ref p) H'
def spProd (K : PySem.W.Frag) : Sp := fun vs H Q _ => ∃ (a b : Addr) (xs ys : List V) (now : Int) (c : Cond) (zs : List Zz), vs = [.ref a, .ref b] ∧ SqL K H a xs ∧ SqL K H b ys ∧ Paired (fun v (z : Zz) => FrV H v (balQ now c z.1 / totQ z.1)) xs zs ∧ Paired (fun v (z : Zz) => FrV H v z.2) ys zs ∧ (∀ z ∈ zs, OkZ now z) ∧ zs.length ≤ 8 ∧ Bd 200 c.rat ∧
  ∀ u H', Same H H' → FrV H' u (sumL zs (proQ now c)) → Q u H'
def spBlend (K : PySem.W.Frag) : Sp := fun vs H Q _ => ∃ (ao aw al aa : Addr) (now : Int) (os ls as : List V) (zs : List Zz) (cs : List Cond) (wv : V) (w : Rat), vs = [.ref ao, .ref aw, .int now, .ref aa] ∧ SqL K H ao os ∧ Paired (fun v (z : Zz) => OfV H v z.1) os zs ∧ SqL K H aa as ∧ Paired (fun v (z : Zz) => FrV H v z.2) as zs ∧ (∀ z ∈ zs, OkZ now z) ∧ zs.length ≤ 8 ∧
  H aw = some (.tup [wv, .ref al]) ∧ FrV H wv w ∧ SqL K H al ls ∧ Paired (CdV H) ls cs ∧ cs.length ≤ 8 ∧ ∀ H', Same H H' → Q (.bl (blendB now cs zs w)) H'
theorem sumL_map {α β : Type} (g : α → β) (f : β → Rat) (l : List α) : sumL (l.map g) f = sumL l fun z => f (g z) := by
  unfold sumL
  rw [List.map_map]; rfl
theorem paired_map {α β γ : Type} {F : α → γ → Prop} {g : β → γ} : ∀ {xs : List α} {ys : List β}, Paired (fun x y => F x (g y)) xs ys → Paired F xs (ys.map g)
  | _, _, .nil => .nil
  | _, _, .cons h t => .cons h (paired_map t)
theorem paired_unmap {α β γ : Type} {F : α → γ → Prop} {g : β → γ} : ∀ {xs : List α} {ys : List β}, Paired F xs (ys.map g) → Paired (fun x y => F x (g y)) xs ys
  | _, [], h => by cases h; exact .nil
  | _, y :: ys, h => by
    rw [List.map_cons] at h
    cases h with
    | cons h t => exact .cons h (paired_unmap t)
theorem pss_at {H : Hp} {kvs : List (List Key × V)} {ps : List (V × V)} (hps : Paired (fun kv p => ∃ b, p = (V.ref b, kv.2) ∧ H b = some (.tup (kv.1.map kV))) kvs ps) {W : List Ent} {H0 : Hp} (hE : Paired (EnV H0) kvs W) {i : Nat} {k v : V} (h : ps[i]? = some (k, v)) :
    ∃ b e, k = .ref b ∧ H b = some (.tup [.str e.1.1, .int e.1.2]) ∧ W[i]? = some e ∧ FrV H0 v e.2 := by
  have hi : i < ps.length := (List.getElem?_eq_some_iff.mp h).1
  have hl := hps.length
  have hk : i < kvs.length := by omega
  obtain ⟨p, hp, b, e1, hb⟩ := pair_at hps (List.getElem?_eq_getElem hk)
  rw [h] at hp
  cases hp
  obtain ⟨e, he, h1, h2⟩ := pair_at hE (List.getElem?_eq_getElem hk)
  obtain ⟨e3, e4⟩ := Prod.mk.inj e1
  refine ⟨b, e, e3, ?_, he, by rw [e4]; exact h2⟩
  rw [h1] at hb
  exact hb
def spUnits : Sp := fun vs H Q _ => ∃ (v : V) (r : Rat), vs = [v] ∧ FrV H v r ∧ Bd 100 r ∧ Q (.int (unZ r)) H
def spWghd : Sp := fun vs H Q _ => ∃ (v w : V) (now : Int) (c : Cond) (W : List Ent), vs = [v, w, .int now] ∧ RepC H c v ∧ Bd 200 c.rat ∧ WnV H w W ∧ OkW now W ∧ ∀ H', Same H H' → Q (.int (wghZ now c W)) H'
def spLTot : Sp := fun vs H Q _ => ∃ (w : V) (now : Int) (W : List Ent), vs = [w] ∧ WnV H w W ∧ OkW now W ∧ ∀ H', Same H H' → Q (.int (totZ W)) H'
abbrev I2 := Int × Int
def PrI (H : Hp) (v : V) (p : I2) : Prop := ∃ c, v = .ref c ∧ H c = some (.tup [.int p.1, .int p.2])
def quI (p : I2) : Rat := Rat.divInt p.1 p.2
def spLSum (K : PySem.W.Frag) : Sp := fun vs H Q _ => ∃ (a : Addr) (xs : List V) (ps : List I2), vs = [.ref a] ∧ SqL K H a xs ∧ Paired (PrI H) xs ps ∧ (∀ p ∈ ps, 0 < p.2 ∧ p.1.natAbs < 2 ^ 1000 ∧ p.2.natAbs < 2 ^ 1000) ∧ (∀ k, k ≤ ps.length → Bd 1000 (sumL (ps.take k) quI)) ∧ ∀ v H', Same H H' → FrV H' v (sumL ps quI) → Q v H'
def spLKept (K : PySem.W.Frag) : Sp := fun vs H Q _ => ∃ (ao al aa : Addr) (now : Int) (os ls as : List V) (zs : List Zz) (cs : List Cond), vs = [.ref ao, .ref al, .int now, .ref aa] ∧ SqL K H ao os ∧ Paired (fun v (z : Zz) => OfV H v z.1) os zs ∧ SqL K H aa as ∧ Paired (fun v (z : Zz) => FrV H v z.2) as zs ∧ (∀ z ∈ zs, OkZ now z) ∧ zs.length ≤ 8 ∧
  SqL K H al ls ∧ Paired (CdV H) ls cs ∧ cs.length ≤ 8 ∧ ∀ H', Same H H' → Q (.bl (cs.all fun c => decide (0 ≤ sumL zs (proQ now c)))) H'
theorem add_qu (S : Rat) (p : I2) (h : 0 < p.2) : Rat.divInt (S.num * p.2 + p.1 * S.den) (S.den * p.2) = S + quI p := by
  have d := rat_den_pos S
  have h1 := Rat.divInt_add_divInt S.num p.1 (d₁ := S.den) (d₂ := p.2) (by omega) (by omega)
  rw [Rat.num_divInt_den] at h1
  unfold quI
  rw [h1]
theorem sign_pro {now : Int} {c : Cond} {zs : List Zz} (h : ∀ z ∈ zs, OkZ now z) : ((sumL zs (parQ now c)).num < 0) ↔ ¬ 0 ≤ sumL zs (proQ now c) := by
  have e := par_pro (c := c) h
  have d : (0 : Rat) < (c.rat.den : Rat) := by
    have := c.rat.den_pos
    exact_mod_cast this
  have h1 : 0 ≤ sumL zs (parQ now c) ↔ 0 ≤ sumL zs (proQ now c) := by
    rw [e]
    constructor
    · intro hx
      by_cases q : 0 ≤ sumL zs (proQ now c)
      · exact q
      · exfalso
        have q1 : 0 < -(sumL zs (proQ now c)) := by grind
        have q2 := Rat.mul_pos d q1
        grind
    · intro hx
      exact Rat.mul_nonneg (by grind) hx
  rw [← h1, ← Rat.num_nonneg]
  omega
theorem fr_pr {H : Hp} {xs : List V} {zs : List Zz} (h : Paired (fun v (z : Zz) => FrV H v z.2) xs zs) : Paired (PrI H) xs (zs.map fun z => (z.2.num, (z.2.den : Int))) :=
  paired_map (F := PrI H) (g := fun z : Zz => (z.2.num, (z.2.den : Int))) (Paired.mapP h fun _ _ f => f)
theorem qu_am (z : Zz) : quI (z.2.num, (z.2.den : Int)) = z.2 := Rat.num_divInt_den _
theorem sum_am (l : List Zz) : sumL (l.map fun z => (z.2.num, (z.2.den : Int))) quI = sumL l (·.2) := by
  rw [sumL_map]
  unfold sumL
  congr 1
  exact List.map_congr_left fun z _ => qu_am z
theorem over_tot {now : Int} {z : Zz} (h : OkZ now z) : (totZ z.1 * (z.2.den : Int) < 27720 * z.2.num) ↔ totQ z.1 < z.2 := by
  have e1 := tot_eq h.w.all
  have e3 := mul_den z.2
  have d : (0 : Rat) < (z.2.den : Rat) := by
    have := z.2.den_pos
    exact_mod_cast this
  have key : ((totZ z.1 * (z.2.den : Int) : Int) : Rat) < ((27720 * z.2.num : Int) : Rat) ↔ totQ z.1 < z.2 := by
    rw [Rat.intCast_mul, Rat.intCast_mul, Rat.intCast_natCast, e1, ← e3]
    have e6 : ((27720 : Int) : Rat) = 27720 := rfl
    rw [e6]
    have e7 : 27720 * (z.2 * (z.2.den : Rat)) - 27720 * totQ z.1 * (z.2.den : Rat) = 27720 * ((z.2.den : Rat) * (z.2 - totQ z.1)) := by grind
    constructor
    · intro hx
      by_cases q : totQ z.1 < z.2
      · exact q
      · exfalso
        have q1 : 0 ≤ totQ z.1 - z.2 := by grind
        have q2 := Rat.mul_nonneg (by grind : (0 : Rat) ≤ (z.2.den : Rat)) q1
        grind
    · intro hx
      have q2 := Rat.mul_pos d (by grind : 0 < z.2 - totQ z.1)
      grind
  rw [← key]
  exact Rat.intCast_lt_intCast.symm
def spWine : Sp := fun vs H Q _ => ∃ (c o : Int) (an : Addr) (zs : List Str) (now : Int), vs = [.int c, .int o, .ref an, .int now] ∧ H an = some (.lst (zs.map V.str)) ∧ zs.length = 3 ∧ (0 ≤ now ∧ now < 20001) ∧ 1 ≤ c.fmod 4 ∧ (0 ≤ o ∧ o < 1000) ∧ ∀ d H' W, H d = none → Same H H' → WnV H' (.ref d) W → OkW now W → Q (.ref d) H'
def spOffer (K : PySem.W.Frag) : Sp := fun vs H Q _ => ∃ (a : Addr) (ns : List Int) (at' : Int) (an : Addr) (zs : List Str) (now : Int), vs = [.ref a, .int at', .ref an, .int now] ∧ SqL K H a (ns.map V.int) ∧ 0 ≤ at' ∧ at' ≤ 100 ∧ H an = some (.lst (zs.map V.str)) ∧ zs.length = 3 ∧ (0 ≤ now ∧ now < 20001) ∧ ∀ p H' os Ws, H p = none → Same H H' → H' p = some (.lst os) → Paired (OfV H') os Ws → (∀ W ∈ Ws, OkW now W) → 1 ≤ Ws.length → Ws.length ≤ 8 → Q (.ref p) H'
def spLabel (K : PySem.W.Frag) : Sp := fun vs H Q _ => ∃ (a : Addr) (ns : List Int) (at' : Int) (an : Addr) (zs : List Str) (now : Int), vs = [.ref a, .int at', .int 5, .ref an, .int now] ∧ SqL K H a (ns.map V.int) ∧ 0 ≤ at' ∧ at' ≤ 100 ∧ H an = some (.lst (zs.map V.str)) ∧ zs.length = 3 ∧ ∀ p H' ls cs, H p = none → Same H H' → H' p = some (.lst ls) → Paired (CdV H') ls cs → cs.length ≤ 8 → Q (.ref p) H'
def spAmounts (K : PySem.W.Frag) : Sp := fun vs H Q _ => ∃ (ao ac : Addr) (os : List V) (Ws : List (List Ent)) (ns : List Int) (now t : Int), vs = [.ref ao, .ref ac, .int t] ∧ SqL K H ao os ∧ Paired (OfV H) os Ws ∧ (∀ W ∈ Ws, OkW now W) ∧ Ws.length ≤ 8 ∧ SqL K H ac (ns.map V.int) ∧ 1 ≤ ns.length ∧ ∀ p H' as zs, H p = none → Same H H' → H' p = some (.lst as) → Paired (fun v (z : Zz) => FrV H' v z.2) as zs → zs.map (·.1) = Ws → (∀ z ∈ zs, OkZ now z) → Q (.ref p) H'
theorem den_dvd {t b : Int} (hb : b ≠ 0) : (Rat.divInt t b).den ∣ b.natAbs := by
  have h := num_of hb (w := Rat.divInt t b) rfl
  have h2 : (Rat.divInt t b).den ∣ ((Rat.divInt t b).num * b).natAbs := by
    rw [h, Int.natAbs_mul]
    exact Nat.dvd_mul_left _ _
  rw [Int.natAbs_mul] at h2
  exact (Nat.Coprime.symm (Rat.divInt t b).reduced).dvd_of_dvd_mul_left h2
theorem dvd12 {b : Int} (h0 : 1 ≤ b) (h1 : b ≤ 12) : b.natAbs ∣ 27720 := by
  have : b = 1 ∨ b = 2 ∨ b = 3 ∨ b = 4 ∨ b = 5 ∨ b = 6 ∨ b = 7 ∨ b = 8 ∨ b = 9 ∨ b = 10 ∨ b = 11 ∨ b = 12 := by omega
  rcases this with rfl | rfl | rfl | rfl | rfl | rfl | rfl | rfl | rfl | rfl | rfl | rfl <;> decide
theorem divInt_posQ {t b : Int} (h0 : 0 < t) (b0 : 0 < b) : 0 < Rat.divInt t b := by
  have h1 : 0 ≤ Rat.divInt t b := Rat.divInt_nonneg (by omega) (by omega)
  have h2 : Rat.divInt t b ≠ 0 := by
    rw [Rat.divInt_eq_div]
    intro e
    have n1 : (b : Rat) ≠ 0 := by
      intro z
      have : b = 0 := by exact_mod_cast z
      omega
    have n2 : (t : Rat) ≠ 0 := by
      intro z
      have : t = 0 := by exact_mod_cast z
      omega
    grind
  exact pos_of h1 h2
theorem put_map {H : Hp} {e : Ent} {v : V} (hv : FrV H v e.2) : ∀ {kvs : List (List Key × V)} {W : List Ent}, Paired (EnV H) kvs W → Paired (EnV H) (kvs.map fun kv => if kv.1 = kyL e.1 then (kv.1, v) else kv) (W.map fun x => if kyL x.1 = kyL e.1 then e else x)
  | _, _, .nil => .nil
  | kv :: kvs, x :: W, .cons h t => by
    refine .cons ?_ (put_map hv t)
    have ek := h.1
    show EnV H (if kv.1 = kyL e.1 then (kv.1, v) else kv) (if kyL x.1 = kyL e.1 then e else x)
    by_cases q : kyL x.1 = kyL e.1
    · rw [if_pos (ek.trans q), if_pos q]
      exact ⟨ek.trans q, hv⟩
    · rw [if_neg (fun z => q (ek.symm.trans z)), if_neg q]
      exact h
theorem put_wine {H : Hp} {kvs : List (List Key × V)} {W : List Ent} (h : Paired (EnV H) kvs W) (e : Ent) {v : V} (hv : FrV H v e.2) : ∃ W', Paired (EnV H) (putK kvs (kyL e.1) v) W' ∧ (∀ x ∈ W', x ∈ W ∨ x = e) ∧ W'.length ≤ W.length + 1 ∧ W' ≠ [] := by
  unfold putK
  split
  · rename_i ha
    refine ⟨_, put_map hv h, fun x hx => ?_, by rw [List.length_map]; omega, ?_⟩
    · obtain ⟨y, hy, e1⟩ := List.mem_map.mp hx
      by_cases q : kyL y.1 = kyL e.1
      · rw [if_pos q] at e1; exact .inr e1.symm
      · rw [if_neg q] at e1; exact .inl (e1 ▸ hy)
    · intro z
      have hl := h.length
      have : W = [] := by
        cases W with
        | nil => rfl
        | cons _ _ => simp at z
      rw [this] at hl
      have : kvs = [] := List.eq_nil_of_length_eq_zero hl
      rw [this] at ha
      cases ha
  · refine ⟨W ++ [e], Paired.snoc h ⟨rfl, hv⟩, fun x hx => ?_, by rw [List.length_append]; exact Nat.le_refl _, by simp⟩
    rcases List.mem_append.mp hx with q | q
    · exact .inl q
    · exact .inr (List.mem_singleton.mp q)
theorem at7 {a b c d e f g : Int} {j : Int} (h0 : 0 ≤ j) (h1 : j < 7) : ∃ t : Int, t ∈ [a, b, c, d, e, f, g] ∧ atI [V.int a, .int b, .int c, .int d, .int e, .int f, .int g] j = some (.int t) := by
  have : j = 0 ∨ j = 1 ∨ j = 2 ∨ j = 3 ∨ j = 4 ∨ j = 5 ∨ j = 6 := by omega
  rcases this with rfl | rfl | rfl | rfl | rfl | rfl | rfl
  · exact ⟨a, by simp, rfl⟩
  · exact ⟨b, by simp, rfl⟩
  · exact ⟨c, by simp, rfl⟩
  · exact ⟨d, by simp, rfl⟩
  · exact ⟨e, by simp, rfl⟩
  · exact ⟨f, by simp, rfl⟩
  · exact ⟨g, by simp, rfl⟩
theorem cut41 (ns : List Int) : ∃ ms : List Int, cutV (ns.map V.int) (some 19) (some 60) = ms.map V.int ∧ ms.length ≤ 60 := by
  have e1 : HT.sIx (ns.map V.int).length 0 (some 19) = min 19 (ns.map V.int).length := HT.sIx_nat _ _ 19
  have e2 : HT.sIx (ns.map V.int).length (ns.map V.int).length (some 60) = min 60 (ns.map V.int).length := HT.sIx_nat _ _ 60
  refine ⟨(ns.drop (HT.sIx (ns.map V.int).length 0 (some 19))).take (HT.sIx (ns.map V.int).length (ns.map V.int).length (some 60) - HT.sIx (ns.map V.int).length 0 (some 19)), ?_, ?_⟩
  · unfold cutV
    rw [List.map_take, List.map_drop]
  · rw [List.length_take, e1, e2]
    omega
theorem rngN_ltS {lo hi c : Int} {i : Nat} (hc : 0 < c) (h : i < rngN lo hi c) : lo + (i : Int) * c < hi := by
  unfold rngN at h
  split at h
  · have h1 : (i : Int) ≤ (hi - lo - 1) / c := by omega
    have h2 := Int.mul_le_of_le_ediv hc h1
    omega
  · omega
theorem refs_of {H : Hp} {xs : List V} {α : Type} {ys : List α} {F : V → α → Prop} (h : Paired F xs ys) (hF : ∀ v y, F v y → ∃ a, v = .ref a) : ∀ x ∈ xs, ∃ a, x = .ref a := by
  intro x hx
  obtain ⟨y, _, f⟩ := paired_mem h hx
  exact hF x y f
theorem repC_ref {H : Hp} : ∀ {c : Cond} {v : V}, RepC H c v → ∃ a, v = .ref a
  | .mean _, _, ⟨a, _, e, _⟩ => ⟨a, e⟩
  | .least _ _, _, ⟨a, _, _, e, _⟩ => ⟨a, e⟩
  | .most _ _, _, ⟨a, _, _, e, _⟩ => ⟨a, e⟩
theorem paired_zip {H : Hp} {os : List V} {Ws : List (List Ent)} {zs : List Zz} (h : Paired (OfV H) os Ws) (e : zs.map (·.1) = Ws) : Paired (fun v (z : Zz) => OfV H v z.1) os zs := by
  rw [← e] at h
  exact paired_unmap h
end T40
namespace T40
open PySem L2 Tc
section
variable {P : Program} {w : World} {K : PySem.W.Frag} {mg : Str → Option Value} {base : Heap}
abbrev s_means : Stmt := top 1
theorem sc_means : FnScope ["pick", "lot", "now"] ["pick", "lot", "now"] (defScope s_means) := ⟨rfl, rfl, rfl, by decide +kernel, rfl, by decide +kernel, by decide +kernel⟩
theorem ok_means (D : DefAt K mg "means" s_means) (T : Txt K mg) : ∀ d, FnAt P w K mg base CX0 (d + 1) "means" ["pick", "lot", "now"] (spMeans d) := by
  intro d
  induction d with
  | zero =>
    refine D.ok sc_means (fun vs H Q E h => ?_) (fun _ _ _ _ _ _ us hl => match us, hl with | [_, _, _], _ => rfl) (fun f cdv A outer s H vs Q E hr h => ?_)
    · exact False.elim (by obtain ⟨_, _, _, _, _, p, _, _, _, hd, _⟩ := h; have := dp_pos p; omega)
    · exact False.elim (by obtain ⟨_, _, _, _, _, p, _, _, _, hd, _⟩ := h; have := dp_pos p; omega)
  | succ d G_means =>
  refine D.ok sc_means (fun vs H Q E h => ?_) (fun _ _ _ _ _ _ us hl => match us, hl with | [_, _, _], _ => rfl) (fun f cdv A outer s H vs Q E hr h => ?_)
  · obtain ⟨v, l, z, y, now, p, rfl, hl, hp, hd, k⟩ := h; rfl
  · obtain ⟨v, l, z, y, now, p, rfl, hl, hp, hd, k⟩ := h
    have nd := sc_means.nd
    refine ⟨_, (@pss_cons _ _ _ _ _ (ps_if (pt_cmpR op_eq (pe_ix (ix_tup' (K := K) rfl) (pv 0) pe_int (fun _ _ => rfl)) pe_str (nomark _)) (@pss_one _ _ _ (ps_ret (pe_cmpR op_eq (pe_ix (ix_tup' (K := K) rfl) (pv 1) pe_int (fun _ _ => rfl)) (pe_ix (ix_tup' (K := K) rfl) (pv 0) pe_int (fun _ _ => rfl)) (nomark _)))) pss_nil)
      (@pss_cons _ _ _ _ _ (ps_if (pt_cmpR op_eq (pe_ix (ix_tup' (K := K) rfl) (pv 0) pe_int (fun _ _ => rfl)) pe_str (nomark _)) (@pss_one _ _ _ (ps_ret (pe_and (pe_cmpR op_le (pe_ix (ix_tup' (K := K) rfl) (pv 0) pe_int (fun _ _ => rfl)) (pe_ix (ix_tup' (K := K) rfl) (pv 1) pe_int (fun _ _ => rfl)) (nomark _)) (pe_one (pe_cmpR op_le (pe_ix (ix_tup' (K := K) rfl) (pv 1) pe_int (fun _ _ => rfl)) (pe_ix (ix_tup' (K := K) rfl) (pv 0) pe_int (fun _ _ => rfl)) (nomark _)))))) pss_nil)
      (@pss_cons _ _ _ _ _ (ps_if (pt_cmpR op_eq (pe_ix (ix_tup' (K := K) rfl) (pv 0) pe_int (fun _ _ => rfl)) pe_str (nomark _)) (@pss_one _ _ _ (ps_ret (pe_cmpR op_ge (@pe_op _ _ _ _ _ _ _ _ op_sub (pv 2) (pe_ix (ix_tup' (K := K) rfl) (pv 1) pe_int (fun _ _ => rfl))) (pe_ix (ix_tup' (K := K) rfl) (pv 0) pe_int (fun _ _ => rfl)) (nomark _)))) pss_nil)
      (@pss_cons _ _ _ _ _ (ps_if (pt_cmpR op_eq (pe_ix (ix_tup' (K := K) rfl) (pv 0) pe_int (fun _ _ => rfl)) pe_str (nomark _)) (@pss_one _ _ _ (ps_ret (pe_and (pe_fn G_means hr (by rfl) pass0 (@pa_cons _ _ _ _ _ (pe_ix (ix_tup' (K := K) rfl) (pv 0) pe_int (fun _ _ => rfl)) (@pa_cons _ _ _ _ _ (pv 1) (@pa_cons _ _ _ _ _ (pv 2) pa_nil (by rfl)) (by rfl)) (by rfl)) (by omega)) (pe_one (pe_fn G_means hr (by rfl) pass0 (@pa_cons _ _ _ _ _ (pe_ix (ix_tup' (K := K) rfl) (pv 0) pe_int (fun _ _ => rfl)) (@pa_cons _ _ _ _ _ (pv 1) (@pa_cons _ _ _ _ _ (pv 2) pa_nil (by rfl)) (by rfl)) (by rfl)) (by omega)))))) pss_nil)
      (@pss_cons _ _ _ _ _ (ps_if (pt_cmpR op_eq (pe_ix (ix_tup' (K := K) rfl) (pv 0) pe_int (fun _ _ => rfl)) pe_str (nomark _)) (@pss_one _ _ _ (ps_ret (pe_or (pe_fn G_means hr (by rfl) pass0 (@pa_cons _ _ _ _ _ (pe_ix (ix_tup' (K := K) rfl) (pv 0) pe_int (fun _ _ => rfl)) (@pa_cons _ _ _ _ _ (pv 1) (@pa_cons _ _ _ _ _ (pv 2) pa_nil (by rfl)) (by rfl)) (by rfl)) (by omega)) (pe_one (pe_fn G_means hr (by rfl) pass0 (@pa_cons _ _ _ _ _ (pe_ix (ix_tup' (K := K) rfl) (pv 0) pe_int (fun _ _ => rfl)) (@pa_cons _ _ _ _ _ (pv 1) (@pa_cons _ _ _ _ _ (pv 2) pa_nil (by rfl)) (by rfl)) (by rfl)) (by omega)))))) pss_nil)
      (@pss_one _ _ _ (ps_ret (pe_not (pe_fn G_means hr (by rfl) pass0 (@pa_cons _ _ _ _ _ (pe_ix (ix_tup' (K := K) rfl) (pv 0) pe_int (fun _ _ => rfl)) (@pa_cons _ _ _ _ _ (pv 1) (@pa_cons _ _ _ _ _ (pv 2) pa_nil (by rfl)) (by rfl)) (by rfl)) (by omega)))))))))), ?_⟩
    cases p with
    | name n =>
      obtain ⟨a, rfl, ha⟩ := hp
      refine ⟨_, rfl, a, _, _, _, rfl, rfl, SqT.of ha, rfl, rfl, _, rfl, ?_⟩
      refine dec_true rfl ?_
      exact ⟨_, rfl, l, _, _, _, rfl, rfl, SqT.of hl, rfl, _, rfl, a, _, _, _, rfl, rfl, SqT.of ha, rfl, rfl, k⟩
    | years i j =>
      obtain ⟨a, rfl, ha⟩ := hp
      refine ⟨_, rfl, a, _, _, _, rfl, rfl, SqT.of ha, rfl, rfl, _, rfl, ?_⟩
      refine dec_false (by decide +kernel) ?_
      refine ⟨_, rfl, a, _, _, _, rfl, rfl, SqT.of ha, rfl, rfl, _, rfl, ?_⟩
      refine dec_true rfl ?_
      refine ⟨_, rfl, a, _, _, _, rfl, rfl, SqT.of ha, rfl, _, rfl, l, _, _, _, rfl, rfl, SqT.of hl, rfl, _, _, rfl, rfl, _, rfl, ?_⟩
      have k : Q (.bl (decide (i ≤ y) && decide (y ≤ j))) H := k
      refine ite2 (fun h1 => ?_) (fun h1 => ?_)
      · have h1 : decide (i ≤ y) = true := h1
        rw [h1, Bool.true_and] at k
        exact ⟨_, rfl, l, _, _, _, rfl, rfl, SqT.of hl, rfl, _, rfl, a, _, _, _, rfl, rfl, SqT.of ha, rfl, _, _, rfl, rfl, k⟩
      · have h1 : ¬ decide (i ≤ y) = true := h1
        rw [Bool.eq_false_iff.mpr h1, Bool.false_and] at k
        exact k
    | old i =>
      obtain ⟨a, rfl, ha⟩ := hp
      refine ⟨_, rfl, a, _, _, _, rfl, rfl, SqT.of ha, rfl, rfl, _, rfl, ?_⟩
      refine dec_false (by decide +kernel) ?_
      refine ⟨_, rfl, a, _, _, _, rfl, rfl, SqT.of ha, rfl, rfl, _, rfl, ?_⟩
      refine dec_false (by decide +kernel) ?_
      refine ⟨_, rfl, a, _, _, _, rfl, rfl, SqT.of ha, rfl, rfl, _, rfl, ?_⟩
      refine dec_true rfl ?_
      exact ⟨_, rfl, _, rfl, l, _, _, _, rfl, rfl, SqT.of hl, rfl, _, _, rfl, rfl, _, rfl, a, _, _, _, rfl, rfl, SqT.of ha, rfl, _, _, rfl, rfl, k⟩
    | both p q =>
      obtain ⟨a, x, w, rfl, ha, h1, h2⟩ := hp
      have hd : max (dp p) (dp q) + 1 ≤ d + 1 := hd
      have k : Q (.bl (mean z y now p && mean z y now q)) H := k
      refine ⟨_, rfl, a, _, _, _, rfl, rfl, SqT.of ha, rfl, rfl, _, rfl, ?_⟩
      refine dec_false (by decide +kernel) ?_
      refine ⟨_, rfl, a, _, _, _, rfl, rfl, SqT.of ha, rfl, rfl, _, rfl, ?_⟩
      refine dec_false (by decide +kernel) ?_
      refine ⟨_, rfl, a, _, _, _, rfl, rfl, SqT.of ha, rfl, rfl, _, rfl, ?_⟩
      refine dec_false (by decide +kernel) ?_
      refine ⟨_, rfl, a, _, _, _, rfl, rfl, SqT.of ha, rfl, rfl, _, rfl, ?_⟩
      refine dec_true rfl ?_
      refine ⟨_, rfl, a, _, _, _, rfl, rfl, SqT.of ha, rfl, _, rfl, _, rfl, x, l, z, y, now, p, rfl, hl, h1, by omega, _, rfl, ?_⟩
      refine ite2 (fun e => ?_) (fun e => ?_)
      · have e : mean z y now p = true := e
        rw [e, Bool.true_and] at k
        exact ⟨_, rfl, a, _, _, _, rfl, rfl, SqT.of ha, rfl, _, rfl, _, rfl, w, l, z, y, now, q, rfl, hl, h2, by omega, k⟩
      · have e : ¬ mean z y now p = true := e
        rw [Bool.eq_false_iff.mpr e, Bool.false_and] at k
        exact k
    | one p q =>
      obtain ⟨a, x, w, rfl, ha, h1, h2⟩ := hp
      have hd : max (dp p) (dp q) + 1 ≤ d + 1 := hd
      have k : Q (.bl (mean z y now p || mean z y now q)) H := k
      refine ⟨_, rfl, a, _, _, _, rfl, rfl, SqT.of ha, rfl, rfl, _, rfl, ?_⟩
      refine dec_false (by decide +kernel) ?_
      refine ⟨_, rfl, a, _, _, _, rfl, rfl, SqT.of ha, rfl, rfl, _, rfl, ?_⟩
      refine dec_false (by decide +kernel) ?_
      refine ⟨_, rfl, a, _, _, _, rfl, rfl, SqT.of ha, rfl, rfl, _, rfl, ?_⟩
      refine dec_false (by decide +kernel) ?_
      refine ⟨_, rfl, a, _, _, _, rfl, rfl, SqT.of ha, rfl, rfl, _, rfl, ?_⟩
      refine dec_false (by decide +kernel) ?_
      refine ⟨_, rfl, a, _, _, _, rfl, rfl, SqT.of ha, rfl, rfl, _, rfl, ?_⟩
      refine dec_true rfl ?_
      refine ⟨_, rfl, a, _, _, _, rfl, rfl, SqT.of ha, rfl, _, rfl, _, rfl, x, l, z, y, now, p, rfl, hl, h1, by omega, _, rfl, ?_⟩
      refine ite2 (fun e => ?_) (fun e => ?_)
      · have e : mean z y now p = true := e
        rw [e, Bool.true_or] at k
        exact k
      · have e : ¬ mean z y now p = true := e
        rw [Bool.eq_false_iff.mpr e, Bool.false_or] at k
        exact ⟨_, rfl, a, _, _, _, rfl, rfl, SqT.of ha, rfl, _, rfl, _, rfl, w, l, z, y, now, q, rfl, hl, h2, by omega, k⟩
    | nay p =>
      obtain ⟨a, x, rfl, ha, h1⟩ := hp
      have hd : dp p + 1 ≤ d + 1 := hd
      refine ⟨_, rfl, a, _, _, _, rfl, rfl, SqT.of ha, rfl, rfl, _, rfl, ?_⟩
      refine dec_false (by decide +kernel) ?_
      refine ⟨_, rfl, a, _, _, _, rfl, rfl, SqT.of ha, rfl, rfl, _, rfl, ?_⟩
      refine dec_false (by decide +kernel) ?_
      refine ⟨_, rfl, a, _, _, _, rfl, rfl, SqT.of ha, rfl, rfl, _, rfl, ?_⟩
      refine dec_false (by decide +kernel) ?_
      refine ⟨_, rfl, a, _, _, _, rfl, rfl, SqT.of ha, rfl, rfl, _, rfl, ?_⟩
      refine dec_false (by decide +kernel) ?_
      refine ⟨_, rfl, a, _, _, _, rfl, rfl, SqT.of ha, rfl, rfl, _, rfl, ?_⟩
      refine dec_false (by decide +kernel) ?_
      exact ⟨_, rfl, a, _, _, _, rfl, rfl, SqT.of ha, rfl, _, rfl, _, rfl, x, l, z, y, now, p, rfl, hl, h1, by omega, _, rfl, k⟩
end
end T40
namespace T40
open PySem L2 Tc
section
variable {P : Program} {w : World} {K : PySem.W.Frag} {mg : Str → Option Value} {base : Heap}
abbrev s_common_divisor : Stmt := top 6
theorem sc_common_divisor : FnScope ["top", "bottom", "rest"] ["top", "bottom"] (defScope s_common_divisor) := ⟨rfl, rfl, rfl, by decide +kernel, rfl, by decide +kernel, by decide +kernel⟩
theorem ok_common_divisor (D : DefAt K mg "common_divisor" s_common_divisor) (T : Txt K mg) : FnAt P w K mg base CX0 1 "common_divisor" ["top", "bottom"] (spCd) := by
  refine D.ok sc_common_divisor (fun vs H Q E h => ?_) (fun _ _ _ _ _ _ us hl => match us, hl with | [_, _], _ => rfl) (fun f cdv A outer s H vs Q E hr h => ?_)
  · obtain ⟨t, b, rfl, hb, k⟩ := h; rfl
  · obtain ⟨t, b, rfl, hb, k⟩ := h
    have nd := sc_common_divisor.nd
    refine ⟨_, (@pss_cons _ _ _ _ _ (ps_while PassesOwn.never (pt_cmpR op_ne (pv 1) pe_int (nomark _)) (@pss_cons _ _ _ _ _ (@ps_set _ _ 2 _ _ _ _ nd rfl (Or.inl rfl) (@pe_op _ _ _ _ _ _ _ _ op_modN (pv 0) (pv 1)) (by rfl) (Or.inl rfl))
      (@pss_cons _ _ _ _ _ (@ps_set _ _ 0 _ _ _ _ nd rfl (Or.inl rfl) (pv 1) (by rfl) (Or.inl rfl))
      (@pss_one _ _ _ (@ps_set _ _ 1 _ _ _ _ nd rfl (Or.inl rfl) (pv 2) (by rfl) (Or.inl rfl))))))
      (@pss_one _ _ _ (ps_ret (pv 0)))), ?_⟩
    refine while_by (fun σ H1 => ∃ (x y : Int) (v : Option V), σ = [some (.int x), some (.int y), v] ∧ H1 = H ∧ Dv t b x y)
      (fun σ _ => match σ with | [_, some (.int y), _] => y.natAbs | _ => 0) ⟨t, b, none, rfl, rfl, Dv.start hb⟩ ?_ ?_
    · rintro σ H1 ⟨x, y, v, rfl, rfl, d⟩
      refine ⟨_, rfl, rfl, _, rfl, ?_⟩
      refine ite2 (fun h1 => ?_) (fun h1 => ?_)
      · have hy : y ≠ 0 := by
          intro e; subst e; simp at h1
        refine ⟨_, rfl, _, rfl, _, _, rfl, rfl, hy, ?_⟩
        refine ⟨_, rfl, _, rfl, ?_⟩
        exact ⟨⟨_, _, _, rfl, rfl, d.turn hy⟩, Dv.less hy⟩
      · have hy : y = 0 := by
          by_cases e : y = 0
          · exact e
          · exact absurd (by simp [e]) h1
        refine ⟨_, rfl, ?_⟩
        rw [d.done hy hb]; exact k
    · intro σ H1 Q1 Q2 hq h1
      obtain ⟨v, e, h2, c, e2, h3⟩ := h1
      exact ⟨v, e, h2, c, e2, hq _ _ h3⟩
end
end T40
namespace T40
open PySem L2 Tc
section
variable {P : Program} {w : World} {K : PySem.W.Frag} {mg : Str → Option Value} {base : Heap}
abbrev s_plus : Stmt := top 7
theorem sc_plus : FnScope ["one", "other", "shared", "rest", "top", "divisor"] ["one", "other"] (defScope s_plus) := ⟨rfl, rfl, rfl, by decide +kernel, rfl, by decide +kernel, by decide +kernel⟩
theorem ok_plus (D : DefAt K mg "plus" s_plus) (T : Txt K mg) (G_common_divisor : FnAt P w K mg base CX0 1 "common_divisor" ["top", "bottom"] (spCd)) : FnAt P w K mg base CX0 2 "plus" ["one", "other"] (spPlus) := by
  refine D.ok sc_plus (fun vs H Q E h => ?_) (fun _ _ _ _ _ _ us hl => match us, hl with | [_, _], _ => rfl) (fun f cdv A outer s H vs Q E hr h => ?_)
  · obtain ⟨_, _, r, q, rfl, ⟨a, rfl, ha⟩, ⟨b, rfl, hb⟩, br, bq, k⟩ := h; rfl
  · obtain ⟨_, _, r, q, rfl, ⟨a, rfl, ha⟩, ⟨b, rfl, hb⟩, br, bq, k⟩ := h
    have nd := sc_plus.nd
    refine ⟨_, (@pss_cons _ _ _ _ _ (@ps_set _ _ 2 _ _ _ _ nd rfl (Or.inl rfl) (pe_fn G_common_divisor hr (by rfl) pass0 (@pa_cons _ _ _ _ _ (pe_ix (ix_tup' (K := K) rfl) (pv 0) pe_int (fun _ _ => rfl)) (@pa_cons _ _ _ _ _ (pe_ix (ix_tup' (K := K) rfl) (pv 1) pe_int (fun _ _ => rfl)) pa_nil (by rfl)) (by rfl))) (by rfl) (Or.inl rfl))
      (@pss_cons _ _ _ _ _ (@ps_set _ _ 3 _ _ _ _ nd rfl (Or.inl rfl) (@pe_op _ _ _ _ _ _ _ _ op_fdivB (pe_ix (ix_tup' (K := K) rfl) (pv 0) pe_int (fun _ _ => rfl)) (pv 2)) (by rfl) (Or.inl rfl))
      (@pss_cons _ _ _ _ _ (@ps_set _ _ 4 _ _ _ _ nd rfl (Or.inl rfl) (@pe_op _ _ _ _ _ _ _ _ op_add (@pe_op _ _ _ _ _ _ _ _ op_mulB (pe_ix (ix_tup' (K := K) rfl) (pv 0) pe_int (fun _ _ => rfl)) (@pe_op _ _ _ _ _ _ _ _ op_fdivB (pe_ix (ix_tup' (K := K) rfl) (pv 1) pe_int (fun _ _ => rfl)) (pv 2))) (@pe_op _ _ _ _ _ _ _ _ op_mulB (pe_ix (ix_tup' (K := K) rfl) (pv 1) pe_int (fun _ _ => rfl)) (pv 3))) (by rfl) (Or.inl rfl))
      (@pss_cons _ _ _ _ _ (@ps_set _ _ 5 _ _ _ _ nd rfl (Or.inl rfl) (pe_fn G_common_divisor hr (by rfl) pass0 (@pa_cons _ _ _ _ _ (pv 4) (@pa_cons _ _ _ _ _ (pv 2) pa_nil (by rfl)) (by rfl))) (by rfl) (Or.inl rfl))
      (@pss_one _ _ _ (ps_ret (@pe_tup _ _ _ _ _ (@pa_cons _ _ _ _ _ (@pe_op _ _ _ _ _ _ _ _ op_fdivB (pv 4) (pv 5)) (@pa_cons _ _ _ _ _ (@pe_op _ _ _ _ _ _ _ _ op_mulB (pv 3) (@pe_op _ _ _ _ _ _ _ _ op_fdivB (pe_ix (ix_tup' (K := K) rfl) (pv 1) pe_int (fun _ _ => rfl)) (pv 5))) pa_nil (by rfl)) (by rfl))))))))), ?_⟩
    have d1 := rat_den_pos r
    have d2 := rat_den_pos q
    have i0 : ∀ (i : Nat), i ≤ 8000 → (2 : Nat) ^ i ≤ 2 ^ 9000 := fun i hi => pow_le (by omega)
    refine ⟨_, rfl, a, _, _, _, rfl, rfl, SqT.of ha, rfl, _, rfl, b, _, _, _, rfl, rfl, SqT.of hb, rfl, _, _, rfl, (by omega), ?_⟩
    have s0 : dv r.den q.den ≠ 0 := dv_ne (by omega)
    have sle : (dv (r.den : Int) q.den).natAbs ≤ ((q.den : Int)).natAbs := dv_le (by omega)
    have sdiv : ∀ i, CDivB i (dv (r.den : Int) q.den) := fun i => bq.divR (by decide) s0 sle
    generalize hs : dv (r.den : Int) q.den = s1 at *
    refine ⟨_, rfl, a, _, _, _, rfl, rfl, SqT.of ha, rfl, _, rfl, _, _, rfl, rfl, sdiv _, ?_⟩
    have le1 : ∀ {x : Int} {m : Nat}, x.natAbs < 2 ^ m → (x.fdiv s1).natAbs < 2 ^ (m + 1) := fun {x m} hx => by
      have := natAbs_fdiv_le x s1
      rw [Nat.pow_succ]; omega
    have hrest : ((r.den : Int).fdiv s1).natAbs < 2 ^ 8001 := le1 br.den
    have hq1 : ((q.den : Int).fdiv s1).natAbs < 2 ^ 8001 := le1 bq.den
    refine ⟨_, rfl, a, _, _, _, rfl, rfl, SqT.of ha, rfl, _, rfl, b, _, _, _, rfl, rfl, SqT.of hb, rfl, _, rfl, _, _, rfl, rfl, sdiv _, _, _, rfl, rfl, mulOk_of 8001 (Nat.lt_of_lt_of_le br.num (pow_le (by decide))) hq1 (by decide), _, rfl, b, _, _, _, rfl, rfl, SqT.of hb, rfl, _, rfl, _, _, rfl, rfl, mulOk_of 8001 (Nat.lt_of_lt_of_le bq.num (pow_le (by decide))) hrest (by decide), _, _, rfl, rfl, ?_⟩
    refine ⟨_, rfl, _, rfl, _, _, rfl, s0, ?_⟩
    have d0 : dv (r.num * (q.den : Int).fdiv s1 + q.num * (r.den : Int).fdiv s1) s1 ≠ 0 := dv_ne s0
    have dle : (dv (r.num * (q.den : Int).fdiv s1 + q.num * (r.den : Int).fdiv s1) s1).natAbs ≤ ((q.den : Int)).natAbs := Nat.le_trans (dv_le s0) sle
    have ddiv : ∀ i, CDivB i (dv (r.num * (q.den : Int).fdiv s1 + q.num * (r.den : Int).fdiv s1) s1) := fun i => bq.divR (by decide) d0 dle
    obtain ⟨e1, e2⟩ := plus_ok r q hs.symm rfl rfl rfl
    have hq2 : ((q.den : Int).fdiv (dv (r.num * (q.den : Int).fdiv s1 + q.num * (r.den : Int).fdiv s1) s1)).natAbs < 2 ^ 8001 := by
      have := natAbs_fdiv_le (q.den : Int) (dv (r.num * (q.den : Int).fdiv s1 + q.num * (r.den : Int).fdiv s1) s1)
      have z : ((q.den : Int)).natAbs < 2 ^ 8000 := bq.den
      rw [Nat.pow_succ]; omega
    refine ⟨_, rfl, _, rfl, _, _, rfl, rfl, ddiv _, _, rfl, _, rfl, b, _, _, _, rfl, rfl, SqT.of hb, rfl, _, rfl, _, _, rfl, rfl, ddiv _, _, _, rfl, rfl, mulOk_of 8001 hrest hq2 (by decide), sz (by simp), fun p hp => ?_⟩
    exact k _ _ (Same.upd hp) (FrV.newOf e1 e2)
end
end T40
namespace T40
open PySem L2 Tc
section
variable {P : Program} {w : World} {K : PySem.W.Frag} {mg : Str → Option Value} {base : Heap}
abbrev s_minus : Stmt := top 8
theorem sc_minus : FnScope ["one", "other"] ["one", "other"] (defScope s_minus) := ⟨rfl, rfl, rfl, by decide +kernel, rfl, by decide +kernel, by decide +kernel⟩
theorem ok_minus (D : DefAt K mg "minus" s_minus) (T : Txt K mg) (G_plus : FnAt P w K mg base CX0 2 "plus" ["one", "other"] (spPlus)) : FnAt P w K mg base CX0 3 "minus" ["one", "other"] (spMinus) := by
  refine D.ok sc_minus (fun vs H Q E h => ?_) (fun _ _ _ _ _ _ us hl => match us, hl with | [_, _], _ => rfl) (fun f cdv A outer s H vs Q E hr h => ?_)
  · obtain ⟨_, _, r, q, rfl, hx, ⟨b, rfl, hb⟩, br, bq, k⟩ := h; rfl
  · obtain ⟨_, _, r, q, rfl, hx, ⟨b, rfl, hb⟩, br, bq, k⟩ := h
    have nd := sc_minus.nd
    refine ⟨_, (@pss_one _ _ _ (ps_ret (pe_fn G_plus hr (by rfl) pass0 (@pa_cons _ _ _ _ _ (pv 0) (@pa_cons _ _ _ _ _ (@pe_tup _ _ _ _ _ (@pa_cons _ _ _ _ _ (@pe_op _ _ _ _ _ _ _ _ op_sub pe_int (pe_ix (ix_tup' (K := K) rfl) (pv 1) pe_int (fun _ _ => rfl))) (@pa_cons _ _ _ _ _ (pe_ix (ix_tup' (K := K) rfl) (pv 1) pe_int (fun _ _ => rfl)) pa_nil (by rfl)) (by rfl))) pa_nil (by rfl)) (by rfl))))), ?_⟩
    refine ⟨_, rfl, _, rfl, b, _, _, _, rfl, rfl, SqT.of hb, rfl, _, _, rfl, rfl, _, rfl, b, _, _, _, rfl, rfl, SqT.of hb, rfl, sz (by simp), fun p hp => ?_⟩
    refine ⟨_, _, r, -q, rfl, hx.upd hp, FrV.newOf (neg_ok q).1 (neg_ok q).2, br, bq.neg, fun v H' s' h => ?_⟩
    have h : FrV H' v (r + -q) := h
    rw [sub_eq] at h
    exact k v H' ((Same.upd hp).trans s') h
end
end T40
namespace T40
open PySem L2 Tc
section
variable {P : Program} {w : World} {K : PySem.W.Frag} {mg : Str → Option Value} {base : Heap}
abbrev s_times : Stmt := top 9
theorem sc_times : FnScope ["one", "other", "left", "right"] ["one", "other"] (defScope s_times) := ⟨rfl, rfl, rfl, by decide +kernel, rfl, by decide +kernel, by decide +kernel⟩
theorem ok_times (D : DefAt K mg "times" s_times) (T : Txt K mg) (G_common_divisor : FnAt P w K mg base CX0 1 "common_divisor" ["top", "bottom"] (spCd)) : FnAt P w K mg base CX0 2 "times" ["one", "other"] (spTimes) := by
  refine D.ok sc_times (fun vs H Q E h => ?_) (fun _ _ _ _ _ _ us hl => match us, hl with | [_, _], _ => rfl) (fun f cdv A outer s H vs Q E hr h => ?_)
  · obtain ⟨_, _, a, b, t1, b1, t2, b2, rfl, rfl, ha, rfl, hb, p1, n2, c1, c2, ⟨z1, z2, z3, z4⟩, k⟩ := h; rfl
  · obtain ⟨_, _, a, b, t1, b1, t2, b2, rfl, rfl, ha, rfl, hb, p1, n2, c1, c2, ⟨z1, z2, z3, z4⟩, k⟩ := h
    have nd := sc_times.nd
    refine ⟨_, (@pss_cons _ _ _ _ _ (@ps_set _ _ 2 _ _ _ _ nd rfl (Or.inl rfl) (pe_fn G_common_divisor hr (by rfl) pass0 (@pa_cons _ _ _ _ _ (pe_ix (ix_tup' (K := K) rfl) (pv 0) pe_int (fun _ _ => rfl)) (@pa_cons _ _ _ _ _ (pe_ix (ix_tup' (K := K) rfl) (pv 1) pe_int (fun _ _ => rfl)) pa_nil (by rfl)) (by rfl))) (by rfl) (Or.inl rfl))
      (@pss_cons _ _ _ _ _ (@ps_set _ _ 3 _ _ _ _ nd rfl (Or.inl rfl) (pe_fn G_common_divisor hr (by rfl) pass0 (@pa_cons _ _ _ _ _ (pe_ix (ix_tup' (K := K) rfl) (pv 1) pe_int (fun _ _ => rfl)) (@pa_cons _ _ _ _ _ (pe_ix (ix_tup' (K := K) rfl) (pv 0) pe_int (fun _ _ => rfl)) pa_nil (by rfl)) (by rfl))) (by rfl) (Or.inl rfl))
      (@pss_one _ _ _ (ps_ret (@pe_tup _ _ _ _ _ (@pa_cons _ _ _ _ _ (@pe_op _ _ _ _ _ _ _ _ op_mulB (@pe_op _ _ _ _ _ _ _ _ op_fdivB (pe_ix (ix_tup' (K := K) rfl) (pv 0) pe_int (fun _ _ => rfl)) (pv 2)) (@pe_op _ _ _ _ _ _ _ _ op_fdivB (pe_ix (ix_tup' (K := K) rfl) (pv 1) pe_int (fun _ _ => rfl)) (pv 3))) (@pa_cons _ _ _ _ _ (@pe_op _ _ _ _ _ _ _ _ op_mulB (@pe_op _ _ _ _ _ _ _ _ op_fdivB (pe_ix (ix_tup' (K := K) rfl) (pv 0) pe_int (fun _ _ => rfl)) (pv 3)) (@pe_op _ _ _ _ _ _ _ _ op_fdivB (pe_ix (ix_tup' (K := K) rfl) (pv 1) pe_int (fun _ _ => rfl)) (pv 2))) pa_nil (by rfl)) (by rfl))))))), ?_⟩
    refine ⟨_, rfl, a, _, _, _, rfl, rfl, SqT.of ha, rfl, _, rfl, b, _, _, _, rfl, rfl, SqT.of hb, rfl, _, _, rfl, n2, ?_⟩
    have l0 : dv t1 b2 ≠ 0 := dv_ne n2
    have lle : (dv t1 b2).natAbs ≤ b2.natAbs := dv_le n2
    have r0 : dv t2 b1 ≠ 0 := dv_ne (by omega)
    have rle : (dv t2 b1).natAbs ≤ b1.natAbs := dv_le (by omega)
    have ldiv : ∀ i, CDivB i (dv t1 b2) := fun i => divB_of l0 (Nat.lt_of_le_of_lt lle (Nat.lt_of_lt_of_le z4 (pow_le (by decide))))
    have rdiv : ∀ i, CDivB i (dv t2 b1) := fun i => divB_of r0 (Nat.lt_of_le_of_lt rle (Nat.lt_of_lt_of_le z2 (pow_le (by decide))))
    refine ⟨_, rfl, b, _, _, _, rfl, rfl, SqT.of hb, rfl, _, rfl, a, _, _, _, rfl, rfl, SqT.of ha, rfl, _, _, rfl, (by omega), ?_⟩
    generalize hl : dv t1 b2 = l at *
    generalize hr : dv t2 b1 = r at *
    obtain ⟨e1, e2⟩ := times_ok p1 n2 c1 c2 hl.symm hr.symm
    have le1 : ∀ {x d : Int}, x.natAbs < 2 ^ 8000 → (x.fdiv d).natAbs < 2 ^ 8001 := fun {x d} hx => by
      have := natAbs_fdiv_le x d
      rw [Nat.pow_succ]; omega
    refine ⟨_, rfl, a, _, _, _, rfl, rfl, SqT.of ha, rfl, _, rfl, _, _, rfl, rfl, ldiv _, _, rfl, b, _, _, _, rfl, rfl, SqT.of hb, rfl, _, rfl, _, _, rfl, rfl, rdiv _, _, _, rfl, rfl, mulOk_of 8001 (le1 z1) (le1 z3) (by decide), _, rfl, a, _, _, _, rfl, rfl, SqT.of ha, rfl, _, rfl, _, _, rfl, rfl, rdiv _, _, rfl, b, _, _, _, rfl, rfl, SqT.of hb, rfl, _, rfl, _, _, rfl, rfl, ldiv _, _, _, rfl, rfl, mulOk_of 8001 (le1 z2) (le1 z4) (by decide), sz (by simp), fun p hp => ?_⟩
    exact k _ _ (Same.upd hp) (FrV.newOf e1 e2)
end
end T40
namespace T40
open PySem L2 Tc
section
variable {P : Program} {w : World} {K : PySem.W.Frag} {mg : Str → Option Value} {base : Heap}
abbrev s_over : Stmt := top 10
theorem sc_over : FnScope ["one", "other"] ["one", "other"] (defScope s_over) := ⟨rfl, rfl, rfl, by decide +kernel, rfl, by decide +kernel, by decide +kernel⟩
theorem ok_over (D : DefAt K mg "over" s_over) (T : Txt K mg) (G_times : FnAt P w K mg base CX0 2 "times" ["one", "other"] (spTimes)) : FnAt P w K mg base CX0 3 "over" ["one", "other"] (spOver0) := by
  refine D.ok sc_over (fun vs H Q E h => ?_) (fun _ _ _ _ _ _ us hl => match us, hl with | [_, _], _ => rfl) (fun f cdv A outer s H vs Q E hr h => ?_)
  · obtain ⟨_, _, r, q, rfl, ⟨a, rfl, ha⟩, ⟨b, rfl, hb⟩, br, bq, hq, k⟩ := h; rfl
  · obtain ⟨_, _, r, q, rfl, ⟨a, rfl, ha⟩, ⟨b, rfl, hb⟩, br, bq, hq, k⟩ := h
    have nd := sc_over.nd
    refine ⟨_, (@pss_cons _ _ _ _ _ (ps_if (pt_cmpR op_eq (pe_ix (ix_tup' (K := K) rfl) (pv 1) pe_int (fun _ _ => rfl)) pe_int (nomark _)) (@pss_one _ _ _ ps_never) pss_nil)
      (@pss_one _ _ _ (ps_ret (pe_fn G_times hr (by rfl) pass0 (@pa_cons _ _ _ _ _ (pv 0) (@pa_cons _ _ _ _ _ (@pe_tup _ _ _ _ _ (@pa_cons _ _ _ _ _ (pe_ix (ix_tup' (K := K) rfl) (pv 1) pe_int (fun _ _ => rfl)) (@pa_cons _ _ _ _ _ (pe_ix (ix_tup' (K := K) rfl) (pv 1) pe_int (fun _ _ => rfl)) pa_nil (by rfl)) (by rfl))) pa_nil (by rfl)) (by rfl)))))), ?_⟩
    have hn : q.num ≠ 0 := fun z => hq (Rat.num_eq_zero.mp z)
    refine ⟨_, rfl, b, _, _, _, rfl, rfl, SqT.of hb, rfl, rfl, _, rfl, ?_⟩
    refine dec_false (fun e => hn (V.int.inj e)) ?_
    refine ⟨_, rfl, _, rfl, b, _, _, _, rfl, rfl, SqT.of hb, rfl, _, rfl, b, _, _, _, rfl, rfl, SqT.of hb, rfl, sz (by simp), fun p hp => ?_⟩
    have ne : a ≠ p := ne_of_none ha hp
    refine ⟨_, _, a, p, r.num, r.den, q.den, q.num, rfl, rfl, (by rw [upd_ne ne]; exact ha), rfl, upd_same, rat_den_pos r, hn, rat_gcd r, gcd_swap q, ⟨br.num, br.den, bq.den, bq.num⟩, fun v H' s' h => ?_⟩
    rw [div_eq r q hn] at h
    exact k v H' ((Same.upd hp).trans s') h
end
end T40
namespace T40
open PySem L2 Tc
section
variable {P : Program} {w : World} {K : PySem.W.Frag} {mg : Str → Option Value} {base : Heap}
abbrev s_under : Stmt := top 11
theorem sc_under : FnScope ["one", "other"] ["one", "other"] (defScope s_under) := ⟨rfl, rfl, rfl, by decide +kernel, rfl, by decide +kernel, by decide +kernel⟩
theorem ok_under (D : DefAt K mg "under" s_under) (T : Txt K mg) : FnAt P w K mg base CX0 1 "under" ["one", "other"] (spUnder) := by
  refine D.ok sc_under (fun vs H Q E h => ?_) (fun _ _ _ _ _ _ us hl => match us, hl with | [_, _], _ => rfl) (fun f cdv A outer s H vs Q E hr h => ?_)
  · obtain ⟨_, _, r, q, rfl, ⟨a, rfl, ha⟩, ⟨b, rfl, hb⟩, br, bq, k⟩ := h; rfl
  · obtain ⟨_, _, r, q, rfl, ⟨a, rfl, ha⟩, ⟨b, rfl, hb⟩, br, bq, k⟩ := h
    have nd := sc_under.nd
    refine ⟨_, (@pss_one _ _ _ (ps_ret (pe_cmpR op_lt (@pe_op _ _ _ _ _ _ _ _ op_mulB (pe_ix (ix_tup' (K := K) rfl) (pv 0) pe_int (fun _ _ => rfl)) (pe_ix (ix_tup' (K := K) rfl) (pv 1) pe_int (fun _ _ => rfl))) (@pe_op _ _ _ _ _ _ _ _ op_mulB (pe_ix (ix_tup' (K := K) rfl) (pv 1) pe_int (fun _ _ => rfl)) (pe_ix (ix_tup' (K := K) rfl) (pv 0) pe_int (fun _ _ => rfl))) (nomark _)))), ?_⟩
    refine ⟨_, rfl, a, _, _, _, rfl, rfl, SqT.of ha, rfl, _, rfl, b, _, _, _, rfl, rfl, SqT.of hb, rfl, _, _, rfl, rfl, mulOk_of 8000 br.num bq.den (by decide), _, rfl, b, _, _, _, rfl, rfl, SqT.of hb, rfl, _, rfl, a, _, _, _, rfl, rfl, SqT.of ha, rfl, _, _, rfl, rfl, mulOk_of 8000 bq.num br.den (by decide), _, _, rfl, rfl, ?_⟩
    rw [← _root_.Tc.lt_ok] at k
    exact k
end
end T40
namespace T40
open PySem L2 Tc
section
variable {P : Program} {w : World} {K : PySem.W.Frag} {mg : Str → Option Value} {base : Heap}
abbrev s_sum_of : Stmt := top 12
theorem sc_sum_of : FnScope ["some", "whole", "share"] ["some"] (defScope s_sum_of) := ⟨rfl, rfl, rfl, by decide +kernel, rfl, by decide +kernel, by decide +kernel⟩
theorem ok_sum_of (D : DefAt K mg "sum_of" s_sum_of) (T : Txt K mg) (G_plus : FnAt P w K mg base CX0 2 "plus" ["one", "other"] (spPlus)) : FnAt P w K mg base CX0 3 "sum_of" ["some"] (spSumOf K) := by
  refine D.ok sc_sum_of (fun vs H Q E h => ?_) (fun _ _ _ _ _ _ us hl => match us, hl with | [_], _ => rfl) (fun f cdv A outer s H vs Q E hr h => ?_)
  · obtain ⟨a, xs, rs, rfl, hS, hP, hB, hT, k⟩ := h; rfl
  · obtain ⟨a, xs, rs, rfl, hS, hP, hB, hT, k⟩ := h
    have nd := sc_sum_of.nd
    refine ⟨_, (@pss_cons _ _ _ _ _ (@ps_set _ _ 1 _ _ _ _ nd rfl (Or.inl rfl) (@pe_tup _ _ _ _ _ (@pa_cons _ _ _ _ _ pe_int (@pa_cons _ _ _ _ _ pe_int pa_nil (by rfl)) (by rfl))) (by rfl) (Or.inl rfl))
      (@pss_cons _ _ _ _ _ (ps_for PassesOwn.never rfl (pi_list' (K := K) rfl (pv 0)) (pg_name (i := 2) nd rfl (Or.inl rfl)) (@pss_one _ _ _ (@ps_set _ _ 1 _ _ _ _ nd rfl (Or.inl rfl) (pe_fn G_plus hr (by rfl) pass0 (@pa_cons _ _ _ _ _ (pv 1) (@pa_cons _ _ _ _ _ (pv 2) pa_nil (by rfl)) (by rfl))) (by rfl) (Or.inl rfl))))
      (@pss_one _ _ _ (ps_ret (pv 1))))), ?_⟩
    refine ⟨sz (by simp), fun p0 hp0 => ?_⟩
    have hl : xs.length = rs.length := hP.length
    refine ⟨_, rfl, a, rfl, ⟨_, (Same.upd hp0).seq hS⟩, ?_⟩
    refine for_list (xs := xs) (fun i σ H1 => ∃ v2 : Option V, ∃ w1 : V, σ = [some (.ref a), some w1, v2] ∧ Same H H1 ∧ FrV H1 w1 (sumQ (rs.take i))) ⟨none, .ref p0, rfl, Same.upd hp0, FrV.newOf rfl rfl⟩ ?_ ?_ ?_
    · rintro i σ H1 hi ⟨v2, w1, rfl, s1, h1⟩
      exact s1.seq hS
    · rintro i x σ H1 hx ⟨v2, w1, rfl, s1, h1⟩
      obtain ⟨r, hr, fr⟩ := paired_get hP hx
      have hi : i < rs.length := (List.getElem?_eq_some_iff.mp hr).1
      refine ⟨_, rfl, _, rfl, _, _, _, _, rfl, h1, fr.same s1, hT i (by omega), hB r (List.mem_of_getElem? hr), fun v H2 s2 h2 => ?_⟩
      refine ⟨_, _, rfl, s1.trans s2, ?_⟩
      rw [sumQ_take hr]; exact h2
    · rintro σ H1 ⟨v2, w1, rfl, s1, h1⟩
      rw [hl, List.take_length] at h1
      exact ⟨_, rfl, k _ _ s1 h1⟩
end
end T40
namespace T40
open PySem L2 Tc
section
variable {P : Program} {w : World} {K : PySem.W.Frag} {mg : Str → Option Value} {base : Heap}
abbrev s_total : Stmt := top 14
theorem sc_total : FnScope ["wine"] ["wine"] (defScope s_total) := ⟨rfl, rfl, rfl, by decide +kernel, rfl, by decide +kernel, by decide +kernel⟩
theorem ok_total (D : DefAt K mg "total" s_total) (T : Txt K mg) (G_sum_of : FnAt P w K mg base CX0 3 "sum_of" ["some"] (spSumOf K)) : FnAt P w K mg base CX0 4 "total" ["wine"] (spTotal) := by
  refine D.ok sc_total (fun vs H Q E h => ?_) (fun _ _ _ _ _ _ us hl => match us, hl with | [_], _ => rfl) (fun f cdv A outer s H vs Q E hr h => ?_)
  · obtain ⟨_, W, now, rfl, ⟨d, kvs, rfl, hd, hE⟩, ok, k⟩ := h; rfl
  · obtain ⟨_, W, now, rfl, ⟨d, kvs, rfl, hd, hE⟩, ok, k⟩ := h
    have nd := sc_total.nd
    refine ⟨_, (@pss_one _ _ _ (ps_ret (pe_fn G_sum_of hr (by rfl) pass0 (@pa_cons _ _ _ _ _ (pe_callTy (call_list_vals rfl) (by rfl) T.z_list bt_list (@pa_cons _ _ _ _ _ (pe_bm0' (K := K) rfl PySem.F.plainAttrs_dict PySem.F.slot_dict_values PySem.F.type_dict_values mt_vals (pv 0)) pa_nil (by rfl))) pa_nil (by rfl))))), ?_⟩
    refine ⟨_, rfl, .inr (.inr (.inl ⟨rfl, .inr ⟨_, hd⟩⟩)), d, _, rfl, rfl, hd, rfl, fun pv hpv => ?_⟩
    have t1 := Same.upd (o := valsO pv d) hpv
    refine ⟨pv, d, _, rfl, upd_same, t1 _ _ hd, rfl, fun ps hps l hl => ?_⟩
    have hps : Paired (fun kv p => ∃ b, p = (V.ref b, kv.2) ∧ upd H pv (valsO pv d) b = some (.tup (kv.1.map kV))) kvs ps := hps
    have t2 := t1.trans (Same.upd (o := .lst (ps.map (·.2))) hl)
    have hP : Paired (FrV (upd (upd H pv (valsO pv d)) l (.lst (ps.map (·.2))))) (ps.map (·.2)) (W.map (·.2)) := by
      have key : ∀ {kvs : List (List Key × V)} {ps : List (V × V)} {W : List Ent}, Paired (fun kv p => ∃ b, p = (V.ref b, kv.2) ∧ upd H pv (valsO pv d) b = some (.tup (kv.1.map kV))) kvs ps → Paired (EnV H) kvs W → Paired (FrV H) (ps.map (·.2)) (W.map (·.2)) := by
        intro kvs ps W h1
        induction h1 generalizing W with
        | nil => intro h2; cases h2; exact .nil
        | cons h t ih =>
          intro h2
          cases h2 with
          | cons g u =>
            obtain ⟨b, e, _⟩ := h
            refine .cons ?_ (ih u)
            rw [e]; exact g.2
      exact paired_same t2 (key hps hE)
    refine ⟨l, ps.map (·.2), (W.map fun e : Ent => e.2 : List Rat), rfl, SqL.of upd_same, hP, fun r hr => ?_, fun j hj => ?_, fun u H' s' f' => k u H' (t2.trans s') (show FrV H' u (totQ W) from f')⟩
    · obtain ⟨e, he, rfl⟩ := List.mem_map.mp hr
      exact (ok.all e he).bd.mono (by decide)
    · have l3 := ok.len
      have key : ∀ (rs : List Rat), (∀ r ∈ rs, Bd 100 r) → rs.length ≤ 3 → Bd 8000 (sumQ rs) := by
        intro rs h hl
        match rs, hl with
        | [], _ => exact ⟨by decide, by decide⟩
        | [a], _ => exact (((show Bd 100 (0 : Rat) from ⟨by decide, by decide⟩).add (h a (by simp))).mono (by decide))
        | [a, b], _ => exact ((((show Bd 100 (0 : Rat) from ⟨by decide, by decide⟩).add (h a (by simp))).add (h b (by simp))).mono (by decide))
        | [a, b, c], _ => exact (((((show Bd 100 (0 : Rat) from ⟨by decide, by decide⟩).add (h a (by simp))).add (h b (by simp))).add (h c (by simp))).mono (by decide))
      refine key _ (fun r hr => ?_) ?_
      · obtain ⟨e, he, rfl⟩ := List.mem_map.mp (List.mem_of_mem_take hr)
        exact (ok.all e he).bd
      · rw [List.length_take, List.length_map]; omega
end
end T40
namespace T40
open PySem L2 Tc
section
variable {P : Program} {w : World} {K : PySem.W.Frag} {mg : Str → Option Value} {base : Heap}
abbrev s_weight : Stmt := top 16
theorem sc_weight : FnScope ["condition", "lot", "now", "meant"] ["condition", "lot", "now"] (defScope s_weight) := ⟨rfl, rfl, rfl, by decide +kernel, rfl, by decide +kernel, by decide +kernel⟩
theorem ok_weight (D : DefAt K mg "weight" s_weight) (T : Txt K mg) (G_minus : FnAt P w K mg base CX0 3 "minus" ["one", "other"] (spMinus)) (G_means : FnAt P w K mg base CX0 5 "means" ["pick", "lot", "now"] (spMeans 4)) : FnAt P w K mg base CX0 6 "weight" ["condition", "lot", "now"] (spWeight) := by
  refine D.ok sc_weight (fun vs H Q E h => ?_) (fun _ _ _ _ _ _ us hl => match us, hl with | [_, _, _], _ => rfl) (fun f cdv A outer s H vs Q E hr h => ?_)
  · obtain ⟨v, l, z, y, now, c, rfl, hl, hc, hB, hn, k⟩ := h; rfl
  · obtain ⟨v, l, z, y, now, c, rfl, hl, hc, hB, hn, k⟩ := h
    have nd := sc_weight.nd
    refine ⟨_, (@pss_cons _ _ _ _ _ (ps_if (pt_cmpR op_eq (pe_ix (ix_tup' (K := K) rfl) (pv 0) pe_int (fun _ _ => rfl)) pe_str (nomark _)) (@pss_one _ _ _ (ps_ret (pe_fn G_minus hr (by rfl) pass0 (@pa_cons _ _ _ _ _ (@pe_tup _ _ _ _ _ (@pa_cons _ _ _ _ _ (@pe_op _ _ _ _ _ _ _ _ op_sub (pv 2) (pe_ix (ix_tup' (K := K) rfl) (pv 1) pe_int (fun _ _ => rfl))) (@pa_cons _ _ _ _ _ pe_int pa_nil (by rfl)) (by rfl))) (@pa_cons _ _ _ _ _ (pe_ix (ix_tup' (K := K) rfl) (pv 0) pe_int (fun _ _ => rfl)) pa_nil (by rfl)) (by rfl))))) pss_nil)
      (@pss_cons _ _ _ _ _ (@ps_set _ _ 3 _ _ _ _ nd rfl (Or.inl rfl) (pe_ifExp (pt_val (pe_fn G_means hr (by rfl) pass0 (@pa_cons _ _ _ _ _ (pe_ix (ix_tup' (K := K) rfl) (pv 0) pe_int (fun _ _ => rfl)) (@pa_cons _ _ _ _ _ (pv 1) (@pa_cons _ _ _ _ _ (pv 2) pa_nil (by rfl)) (by rfl)) (by rfl)))) (@pe_tup _ _ _ _ _ (@pa_cons _ _ _ _ _ pe_int (@pa_cons _ _ _ _ _ pe_int pa_nil (by rfl)) (by rfl))) (@pe_tup _ _ _ _ _ (@pa_cons _ _ _ _ _ pe_int (@pa_cons _ _ _ _ _ pe_int pa_nil (by rfl)) (by rfl)))) (by rfl) (Or.inl rfl))
      (@pss_cons _ _ _ _ _ (ps_if (pt_cmpR op_eq (pe_ix (ix_tup' (K := K) rfl) (pv 0) pe_int (fun _ _ => rfl)) pe_str (nomark _)) (@pss_one _ _ _ (ps_ret (pe_fn G_minus hr (by rfl) pass0 (@pa_cons _ _ _ _ _ (pe_ix (ix_tup' (K := K) rfl) (pv 0) pe_int (fun _ _ => rfl)) (@pa_cons _ _ _ _ _ (pv 3) pa_nil (by rfl)) (by rfl))))) pss_nil)
      (@pss_one _ _ _ (ps_ret (pe_fn G_minus hr (by rfl) pass0 (@pa_cons _ _ _ _ _ (pv 3) (@pa_cons _ _ _ _ _ (pe_ix (ix_tup' (K := K) rfl) (pv 0) pe_int (fun _ _ => rfl)) pa_nil (by rfl)) (by rfl)))))))), ?_⟩
    have bi : ∀ b : Bool, Bd 8000 ((one01 b : Int) : Rat) := fun b => by cases b <;> exact ⟨by decide, by decide⟩
    have fr : ∀ {H1 : Hp} {p : Addr} {i : Int}, FrV (upd H1 p (.tup [.int i, .int 1])) (.ref p) (i : Rat) := fun {H1 p i} => FrV.newOf rfl rfl
    cases c with
    | mean r =>
      obtain ⟨a, x, rfl, ha, hx⟩ := hc
      refine ⟨_, rfl, a, _, _, _, rfl, rfl, SqT.of ha, rfl, rfl, _, rfl, ?_⟩
      refine dec_true rfl ?_
      refine ⟨_, rfl, _, rfl, l, _, _, _, rfl, rfl, SqT.of hl, rfl, _, _, rfl, rfl, sz (by simp), fun p hp => ?_⟩
      refine ⟨_, rfl, a, _, _, _, rfl, rfl, SqT.of ((Same.upd hp) _ _ ha), rfl, ?_⟩
      refine ⟨_, _, _, r, rfl, fr, hx.upd hp, ⟨Nat.lt_of_lt_of_le hn (pow_le (by decide)), by show 1 < 2 ^ 8000; exact Nat.one_lt_two_pow (by decide)⟩, hB.mono (by decide), fun u H' s f => ?_⟩
      exact k u H' ((Same.upd hp).trans s) f
    | least r p =>
      obtain ⟨a, x, w1, rfl, ha, hx, hp, hd⟩ := hc
      refine ⟨_, rfl, a, _, _, _, rfl, rfl, SqT.of ha, rfl, rfl, _, rfl, ?_⟩
      refine dec_false (by decide +kernel) ?_
      have fin : ∀ {σ : St} {H1 : Hp} {u : V} {b : Bool}, Same H H1 → FrV H1 u ((one01 b : Int) : Rat) → b = mean z y now p → σ = [some (.ref a), some (.ref l), some (.int now), some u] →
          (tSeq (tIfS (tTest (tOp rEq (tOp (rIxT K) (tVar 0) (tC (.int 0))) (tC (.str "most")))) (tRet (tCall spMinus [] E0 (tCons (tOp (rIxT K) (tVar 0) (tC (.int 1))) (tCons (tVar 3) tNil)))) tNext)
            (tRet (tCall spMinus [] E0 (tCons (tVar 3) (tCons (tOp (rIxT K) (tVar 0) (tC (.int 1))) tNil))))) { nx := fun _ H' => Q .non H', rt := Q } σ H1 := by
        rintro σ H1 u b s1 f1 rfl rfl
        refine ⟨_, rfl, a, _, _, _, rfl, rfl, SqT.of (s1 _ _ ha), rfl, rfl, _, rfl, ?_⟩
        refine dec_false (by decide +kernel) ?_
        refine ⟨_, rfl, _, rfl, a, _, _, _, rfl, rfl, SqT.of (s1 _ _ ha), rfl, ?_⟩
        exact ⟨_, _, _, r, rfl, f1, hx.same s1, bi _, hB.mono (by decide), fun u H' s f => k u H' (s1.trans s) f⟩
      refine ⟨_, rfl, a, _, _, _, rfl, rfl, SqT.of ha, rfl, _, rfl, _, rfl, w1, l, z, y, now, p, rfl, hl, hp, hd, _, rfl, ?_⟩
      refine ite2 (fun e => ?_) (fun e => ?_)
      · exact ⟨sz (by simp), fun p1 hp1 => fin (b := true) (Same.upd hp1) fr e.symm rfl⟩
      · exact ⟨sz (by simp), fun p1 hp1 => fin (b := false) (Same.upd hp1) fr (Bool.eq_false_iff.mpr e).symm rfl⟩
    | most r p =>
      obtain ⟨a, x, w1, rfl, ha, hx, hp, hd⟩ := hc
      refine ⟨_, rfl, a, _, _, _, rfl, rfl, SqT.of ha, rfl, rfl, _, rfl, ?_⟩
      refine dec_false (by decide +kernel) ?_
      have fin : ∀ {σ : St} {H1 : Hp} {u : V} {b : Bool}, Same H H1 → FrV H1 u ((one01 b : Int) : Rat) → b = mean z y now p → σ = [some (.ref a), some (.ref l), some (.int now), some u] →
          (tSeq (tIfS (tTest (tOp rEq (tOp (rIxT K) (tVar 0) (tC (.int 0))) (tC (.str "most")))) (tRet (tCall spMinus [] E0 (tCons (tOp (rIxT K) (tVar 0) (tC (.int 1))) (tCons (tVar 3) tNil)))) tNext)
            (tRet (tCall spMinus [] E0 (tCons (tVar 3) (tCons (tOp (rIxT K) (tVar 0) (tC (.int 1))) tNil))))) { nx := fun _ H' => Q .non H', rt := Q } σ H1 := by
        rintro σ H1 u b s1 f1 rfl rfl
        refine ⟨_, rfl, a, _, _, _, rfl, rfl, SqT.of (s1 _ _ ha), rfl, rfl, _, rfl, ?_⟩
        refine dec_true rfl ?_
        refine ⟨_, rfl, a, _, _, _, rfl, rfl, SqT.of (s1 _ _ ha), rfl, _, rfl, ?_⟩
        exact ⟨_, _, r, _, rfl, hx.same s1, f1, hB.mono (by decide), bi _, fun u H' s f => k u H' (s1.trans s) f⟩
      refine ⟨_, rfl, a, _, _, _, rfl, rfl, SqT.of ha, rfl, _, rfl, _, rfl, w1, l, z, y, now, p, rfl, hl, hp, hd, _, rfl, ?_⟩
      refine ite2 (fun e => ?_) (fun e => ?_)
      · exact ⟨sz (by simp), fun p1 hp1 => fin (b := true) (Same.upd hp1) fr e.symm rfl⟩
      · exact ⟨sz (by simp), fun p1 hp1 => fin (b := false) (Same.upd hp1) fr (Bool.eq_false_iff.mpr e).symm rfl⟩
end
end T40
namespace T40
open PySem L2 Tc
section
variable {P : Program} {w : World} {K : PySem.W.Frag} {mg : Str → Option Value} {base : Heap}
abbrev s_balance : Stmt := top 17
theorem sc_balance : FnScope ["condition", "wine", "now", "whole", "lot", "amount"] ["condition", "wine", "now"] (defScope s_balance) := ⟨rfl, rfl, rfl, by decide +kernel, rfl, by decide +kernel, by decide +kernel⟩
theorem ok_balance (D : DefAt K mg "balance" s_balance) (T : Txt K mg) (G_plus : FnAt P w K mg base CX0 2 "plus" ["one", "other"] (spPlus)) (G_times : FnAt P w K mg base CX0 2 "times" ["one", "other"] (spTimes)) (G_weight : FnAt P w K mg base CX0 6 "weight" ["condition", "lot", "now"] (spWeight)) : FnAt P w K mg base CX0 7 "balance" ["condition", "wine", "now"] (spBal) := by
  refine D.ok sc_balance (fun vs H Q E h => ?_) (fun _ _ _ _ _ _ us hl => match us, hl with | [_, _, _], _ => rfl) (fun f cdv A outer s H vs Q E hr h => ?_)
  · obtain ⟨v, _, now, c, W, rfl, hc, bc, ⟨d, kvs, rfl, hd, hE⟩, ok, k⟩ := h; rfl
  · obtain ⟨v, _, now, c, W, rfl, hc, bc, ⟨d, kvs, rfl, hd, hE⟩, ok, k⟩ := h
    have nd := sc_balance.nd
    refine ⟨_, (@pss_cons _ _ _ _ _ (@ps_set _ _ 3 _ _ _ _ nd rfl (Or.inl rfl) (@pe_tup _ _ _ _ _ (@pa_cons _ _ _ _ _ pe_int (@pa_cons _ _ _ _ _ pe_int pa_nil (by rfl)) (by rfl))) (by rfl) (Or.inl rfl))
      (@pss_cons _ _ _ _ _ (ps_thaw (ps_for PassesOwn.never rfl (pi_items (pe_bm0' (K := K) rfl PySem.F.plainAttrs_dict PySem.F.slot_dict_items PySem.F.type_dict_items mt_items (pv 1))) (pg_tup rfl (pgs_cons (pg_name (i := 4) nd rfl (Or.inl rfl)) (pgs_cons (pg_name (i := 5) nd rfl (Or.inl rfl)) pgs_nil))) (@pss_one _ _ _ (@ps_set _ _ 3 _ _ _ _ nd rfl (Or.inl rfl) (pe_fn G_plus hr (by rfl) pass0 (@pa_cons _ _ _ _ _ (pv 3) (@pa_cons _ _ _ _ _ (pe_fn G_times hr (by rfl) pass0 (@pa_cons _ _ _ _ _ (pv 5) (@pa_cons _ _ _ _ _ (pe_fn G_weight hr (by rfl) pass0 (@pa_cons _ _ _ _ _ (pv 0) (@pa_cons _ _ _ _ _ (pv 4) (@pa_cons _ _ _ _ _ (pv 2) pa_nil (by rfl)) (by rfl)) (by rfl))) pa_nil (by rfl)) (by rfl))) pa_nil (by rfl)) (by rfl))) (by rfl) (Or.inl rfl)))))
      (@pss_one _ _ _ (ps_ret (pv 3))))), ?_⟩
    refine ⟨sz (by simp), fun q0 hq0 => ?_⟩
    have t0 := Same.upd (o := .tup [.int 0, .int 1]) hq0
    have hd0 := t0 _ _ hd
    have f0 : FrV (upd H q0 (.tup [.int 0, .int 1])) (.ref q0) 0 := FrV.newOf rfl rfl
    have hc0 := RepC.same t0 hc
    have hE0 : Paired (EnV (upd H q0 (.tup [.int 0, .int 1]))) kvs W := Paired.mapP hE fun _ _ f => ⟨f.1, f.2.same t0⟩
    generalize upd H q0 (.tup [.int 0, .int 1]) = H0 at *
    refine ⟨d, _, hd0, rfl, ?_⟩
    refine ⟨_, rfl, .inr (.inr (.inl ⟨rfl, .inr ⟨_, hd0⟩⟩)), d, _, rfl, rfl, hd0, rfl, fun pv hpv => ?_⟩
    have t1 := Same.upd (o := viewO pv d) hpv
    refine ⟨pv, d, _, rfl, upd_same, t1 _ _ hd0, rfl, fun o ps hps => ?_⟩
    have hps : Paired (fun kv p => ∃ b, p = (V.ref b, kv.2) ∧ upd H0 pv (viewO pv d) b = some (.tup (kv.1.map kV))) kvs ps := hps
    have lps : ps.length = W.length := by rw [← hps.length, hE.length]
    have hd1 := t1 _ _ hd0
    have hc1 := RepC.same t1 hc0
    have hE1 : Paired (EnV (upd H0 pv (viewO pv d))) kvs W := Paired.mapP hE0 fun _ _ f => ⟨f.1, f.2.same t1⟩
    have f1 := f0.same t1
    have s01 := t0.trans t1
    generalize upd H0 pv (viewO pv d) = H1 at *
    have notd : ∀ {b : Addr} {zs : List V}, H1 b = some (.tup zs) → b ≠ d := fun e => ne_of e hd1 (by intro z; cases z)
    refine for_items (fun i σ H2 => ∃ (v4 v5 : Option V) (w : V), σ = [some v, some (.ref d), some (.int now), some w, v4, v5] ∧ H2 d = some (.frz o (.dT kvs)) ∧ (∀ b ob, H1 b = some ob → b ≠ d → H2 b = some ob) ∧ FrV H2 w (balQ now c (W.take i))) ?_ ?_ ?_ ?_
    · refine ⟨none, none, _, rfl, upd_same, fun b ob e n => by rw [upd_ne n]; exact e, ?_⟩
      exact f1.tup fun a zs e => by rw [upd_ne (notd e)]; exact e
    · rintro i σ H2 ⟨_, _, _, _, h, _⟩
      exact h
    · rintro i k' a' T σ H2 hk ⟨v4, v5, w, rfl, hfz, kp, fw'⟩ hT
      obtain ⟨b, e, rfl, hb, he, fa⟩ := pss_at hps hE1 hk
      have ti := Same.upd (o := .tup [V.ref b, a']) hT
      have kt : ∀ x zs, H1 x = some (.tup zs) → upd H2 T (.tup [V.ref b, a']) x = some (.tup zs) := fun x zs e => ti _ _ (kp _ _ e (notd e))
      have hem := List.mem_of_getElem? he
      have oke := ok.all e hem
      have rc : RepC (upd H2 T (.tup [V.ref b, a'])) c v := RepC.tup kt hc1
      refine ⟨T, _, rfl, SqT.of upd_same, rfl, _, _, rfl, _, _, rfl, rfl, ?_⟩
      refine ⟨_, rfl, _, rfl, _, rfl, _, rfl, _, rfl, v, b, e.1.1, e.1.2, now, c, rfl, kt _ _ hb, rc, bc, oke.yr, fun u4 H4 s4 f4 => ?_⟩
      have bw := wt_bd (z := e.1.1) (y := e.1.2) (now := now) bc oke.yr
      refine spTimes.of (E := E0) rfl ((fa.tup kt).same s4) f4 (oke.bd.mono (by decide)) (bw.mono (by decide)) fun u5 H5 s5 f5 => ?_
      have s45 := s4.trans s5
      refine ⟨_, _, balQ now c (W.take i), e.2 * wt e.1.1 e.1.2 now c, rfl, (fw'.same ti).same s45, f5, (bal_fix (fun e he => ok.all e (List.mem_of_mem_take he)) (by have := ok.len; rw [List.length_take]; omega) bc).mono (by decide), (oke.bd.mul bw).mono (by decide), fun u6 H6 s6 f6 => ?_⟩
      have s6' := s45.trans s6
      refine ⟨_, _, u6, rfl, s6' _ _ (ti _ _ hfz), fun x ob ex n => s6' _ _ (ti _ _ (kp x ob ex n)), ?_⟩
      have ew : W.take (i + 1) = W.take i ++ [e] := by rw [List.take_add_one, he]; rfl
      unfold balQ
      rw [ew, sumL_snoc]
      exact f6
    · rintro σ H2 ⟨v4, v5, w, rfl, hfz, kp, fw'⟩
      rw [lps, List.take_length] at fw'
      have sH : Same H (upd H2 d (.dT kvs)) := fun x ob ex => by
        by_cases z : x = d
        · subst z; rw [upd_same]; rw [hd] at ex; exact ex
        · rw [upd_ne z]; exact kp _ _ (s01 _ _ ex) z
      refine ⟨o, _, hfz, _, rfl, k w _ sH ?_⟩
      obtain ⟨x, e, hx⟩ := fw'
      exact ⟨x, e, by rw [upd_ne (ne_of hx hfz (by intro z; cases z))]; exact hx⟩
end
end T40
namespace T40
open PySem L2 Tc
section
variable {P : Program} {w : World} {K : PySem.W.Frag} {mg : Str → Option Value} {base : Heap}
abbrev s_weights_in : Stmt := top 19
theorem sc_weights_in : FnScope ["offer", "label", "now", "rows", "condition"] ["offer", "label", "now"] (defScope s_weights_in) := ⟨rfl, rfl, rfl, by decide +kernel, rfl, by decide +kernel, by decide +kernel⟩
theorem ok_weights_in (D : DefAt K mg "weights_in" s_weights_in) (T : Txt K mg) (G_over : FnAt P w K mg base CX0 3 "over" ["one", "other"] (spOver0)) (G_total : FnAt P w K mg base CX0 4 "total" ["wine"] (spTotal)) (G_balance : FnAt P w K mg base CX0 7 "balance" ["condition", "wine", "now"] (spBal)) : FnAt P w K mg base CX0 8 "weights_in" ["offer", "label", "now"] (spWin K) := by
  refine D.ok sc_weights_in (fun vs H Q E h => ?_) (fun _ _ _ _ _ _ us hl => match us, hl with | [_, _, _], _ => rfl) (fun f cdv A outer s H vs Q E hr h => ?_)
  · obtain ⟨ao, al, now, os, ls, Ws, cs, rfl, hO, hPo, okW, h8, hL, hPl, hc8, k⟩ := h; rfl
  · obtain ⟨ao, al, now, os, ls, Ws, cs, rfl, hO, hPo, okW, h8, hL, hPl, hc8, k⟩ := h
    have nd := sc_weights_in.nd
    refine ⟨_, (@pss_cons _ _ _ _ _ (@ps_set _ _ 3 _ _ _ _ nd rfl (Or.inl rfl) (@pe_lst _ _ _ _ pa_nil) (by rfl) (Or.inl rfl))
      (@pss_cons _ _ _ _ _ (ps_for PassesOwn.never rfl (pi_list' (K := K) rfl (pv 1)) (pg_name (i := 4) nd rfl (Or.inr rfl)) (@pss_one _ _ _ (ps_expr (pe_bm PySem.F.plainAttrs_list PySem.F.slot_list_append PySem.F.type_list_append mt_append (pv 3) (@pa_cons _ _ _ _ _ (pe_comp ["wine", "price"] ["condition", "now"] [4, 2] rfl (by rfl) (pi_list' (K := K) rfl (pv 0)) (fun _ _ _ _ => (pg_tup' (K := K) (n := 2) (by rfl) (by rfl) (pgs_cons (pg_name (i := 0) (show List.Nodup (["wine", "price", "condition", "now"] : List Str) from by decide) rfl (Or.inl rfl) (hf := Or.inr (by rfl))) (pgs_cons (pg_name (i := 1) (show List.Nodup (["wine", "price", "condition", "now"] : List Str) from by decide) rfl (Or.inl rfl) (hf := Or.inr (by rfl))) pgs_nil)))) (fun _ _ _ _ => pif_none) (fun _ _ _ _ => (pe_fn G_over hr (by rfl) pass0 (@pa_cons _ _ _ _ _ (pe_fn G_balance hr (by rfl) pass0 (@pa_cons _ _ _ _ _ (pv 2) (@pa_cons _ _ _ _ _ (pv 0) (@pa_cons _ _ _ _ _ (pv 3) pa_nil (by rfl)) (by rfl)) (by rfl))) (@pa_cons _ _ _ _ _ (pe_fn G_total hr (by rfl) pass0 (@pa_cons _ _ _ _ _ (pv 0) pa_nil (by rfl))) pa_nil (by rfl)) (by rfl))))) pa_nil (by rfl))))))
      (@pss_one _ _ _ (ps_ret (pv 3))))), ?_⟩
    have lO : os.length = Ws.length := hPo.length
    have lL : ls.length = cs.length := hPl.length
    refine ⟨sz (by simp), fun p hp => ?_⟩
    have tp := Same.upd (o := .lst []) hp
    refine ⟨_, rfl, al, rfl, ⟨_, tp.seq hL⟩, ?_⟩
    refine for_list (xs := ls) (fun i σ H1 => ∃ (v4 : Option V) (rs : List V), σ = [some (.ref ao), some (.ref al), some (.int now), some (.ref p), v4] ∧ Same H H1 ∧ H1 p = some (.lst rs) ∧ Paired (fun v c => RwV H1 now Ws v c ∧ v ≠ .ref p) rs (cs.take i)) ⟨none, [], rfl, tp, upd_same, .nil⟩ ?_ ?_ ?_
    · rintro i σ H1 hi ⟨v4, rs, rfl, s1, h1, hR⟩
      exact s1.seq hL
    · rintro i x σ H1 hx ⟨v4, rs, rfl, s1, h1, hR⟩
      obtain ⟨c, hc, rc, bc⟩ := paired_get hPl hx
      have hi : i < cs.length := (List.getElem?_eq_some_iff.mp hc).1
      have lR : rs.length ≤ 8 := by have := hR.length; rw [List.length_take] at this; omega
      refine ⟨_, rfl, .inl ⟨rfl, _, SqL.of h1⟩, _, rfl, ao, rfl, ⟨_, s1.seq hO⟩, fun D hD => ?_⟩
      refine block_list (xs := os) (fun j σ' H' => ∃ (v0 v1 : Option V) (ys : List V), σ' = [v0, v1, some x, some (.int now)] ∧ Same H1 H' ∧ H' D = some (.lst ys) ∧ Paired (FrV H') ys ((Ws.take j).map fun W => balQ now c W / totQ W)) ⟨none, none, [], rfl, Same.upd hD, upd_same, .nil⟩ ?_ ?_ ?_
      · rintro j σ' H' hj ⟨v0, v1, ys, rfl, s2, hd, hF⟩
        exact (s1.trans s2).seq hO
      · rintro j y σ' H' hy ⟨v0, v1, ys, rfl, s2, hd, hF⟩
        have s02 := s1.trans s2
        obtain ⟨W, hW, ov⟩ := paired_get hPo hy
        obtain ⟨a, w, pr, rfl, ha, wv⟩ := ov.same s02
        have hj : j < Ws.length := (List.getElem?_eq_some_iff.mp hW).1
        have ok := okW W (List.mem_of_getElem? hW)
        have lY : ys.length = min j Ws.length := by have := hF.length; rw [List.length_map, List.length_take] at this; exact this
        refine ⟨a, _, rfl, SqT.of ha, rfl, _, _, rfl, _, _, rfl, rfl, ?_⟩
        refine ⟨_, rfl, _, rfl, _, rfl, x, w, now, c, W, rfl, RepC.same s02 rc, bc, wv, ok, fun u3 H3 s3 f3 => ?_⟩
        refine ⟨_, rfl, w, W, now, rfl, wv.same s3, ok, fun u4 H4 s4 f4 => ?_⟩
        refine ⟨_, _, balQ now c W, totQ W, rfl, f3.same s4, f4, (bal_fix ok.all ok.len bc).mono (by decide), (tot_bd ok).mono (by decide), tot_ne ok, fun u5 H5 s5 f5 => ?_⟩
        have s25 := s3.trans (s4.trans s5)
        have hd5 := s25 _ _ hd
        refine ⟨_, hd5, sz (by omega), _, _, ys ++ [u5], rfl, (s2.trans s25).updD hD, upd_same, ?_⟩
        have ew : Ws.take (j + 1) = Ws.take j ++ [W] := by rw [List.take_add_one, hW]; rfl
        rw [ew, List.map_append]
        have tu := tup_of (o := .lst (ys ++ [u5])) hd5 (fun _ z => nomatch z)
        exact paired_snoc (Paired.mapP hF fun _ _ f => (f.same s25).tup tu) (f5.tup tu)
      · rintro σ' H2 ⟨v0, v1, ys, rfl, s2, hd, hF⟩
        rw [lO, List.take_length] at hF
        have h12 := s2 _ _ h1
        refine ⟨p, _, _, rfl, rfl, h12, sz (by omega), ?_⟩
        have npD : p ≠ D := ne_of_none h1 hD
        refine ⟨_, rs ++ [.ref D], rfl, (s1.trans s2).updD hp, upd_same, ?_⟩
        have ec : cs.take (i + 1) = cs.take i ++ [c] := by rw [List.take_add_one, hc]; rfl
        rw [ec]
        have tu := tup_of (o := .lst (rs ++ [.ref D])) h12 (fun _ z => nomatch z)
        refine Paired.snoc ?_ ⟨⟨D, ys, rfl, by rw [upd_ne npD.symm]; exact hd, Paired.mapP hF fun _ _ f => f.tup tu⟩, fun e => npD (V.ref.inj e).symm⟩
        refine Paired.mapP hR fun v c' r => ?_
        obtain ⟨⟨a, xs, rfl, ha, hX⟩, nr⟩ := r
        have nap : a ≠ p := fun e => nr (by rw [e])
        exact ⟨⟨a, xs, rfl, by rw [upd_ne nap]; exact s2 _ _ ha, Paired.mapP hX fun _ _ f => (f.same s2).tup tu⟩, nr⟩
    · rintro σ H1 ⟨v4, rs, rfl, s1, h1, hR⟩
      rw [lL, List.take_length] at hR
      exact ⟨_, rfl, k p H1 rs hp s1 h1 (Paired.mapP hR fun _ _ f => f.1)⟩
end
end T40
namespace T40
open PySem L2 Tc
section
variable {P : Program} {w : World} {K : PySem.W.Frag} {mg : Str → Option Value} {base : Heap}
abbrev s_product_sum : Stmt := top 20
theorem sc_product_sum : FnScope ["some", "others"] ["some", "others"] (defScope s_product_sum) := ⟨rfl, rfl, rfl, by decide +kernel, rfl, by decide +kernel, by decide +kernel⟩
theorem ok_product_sum (D : DefAt K mg "product_sum" s_product_sum) (T : Txt K mg) (G_sum_of : FnAt P w K mg base CX0 3 "sum_of" ["some"] (spSumOf K)) (G_times : FnAt P w K mg base CX0 2 "times" ["one", "other"] (spTimes)) : FnAt P w K mg base CX0 4 "product_sum" ["some", "others"] (spProd K) := by
  refine D.ok sc_product_sum (fun vs H Q E h => ?_) (fun _ _ _ _ _ _ us hl => match us, hl with | [_, _], _ => rfl) (fun f cdv A outer s H vs Q E hr h => ?_)
  · obtain ⟨a, b, xs, ys, now, c, zs, rfl, hA, hB, hX, hY, okz, h8, bc, k⟩ := h; rfl
  · obtain ⟨a, b, xs, ys, now, c, zs, rfl, hA, hB, hX, hY, okz, h8, bc, k⟩ := h
    have nd := sc_product_sum.nd
    refine ⟨_, (@pss_one _ _ _ (ps_ret (pe_fn G_sum_of hr (by rfl) pass0 (@pa_cons _ _ _ _ _ (pe_comp ["one", "other"] [] [] rfl (by rfl) (pi_zip (K := K) rfl (by rfl) T.z_zip (@pa_cons _ _ _ _ _ (pv 0) (@pa_cons _ _ _ _ _ (pv 1) pa_nil (by rfl)) (by rfl))) (fun _ _ _ _ => (pg_tup' (K := K) (n := 2) (by rfl) (by rfl) (pgs_cons (pg_name (i := 0) (show List.Nodup (["one", "other"] : List Str) from by decide) rfl (Or.inl rfl) (hf := Or.inr (by rfl))) (pgs_cons (pg_name (i := 1) (show List.Nodup (["one", "other"] : List Str) from by decide) rfl (Or.inl rfl) (hf := Or.inr (by rfl))) pgs_nil)))) (fun _ _ _ _ => pif_none) (fun _ _ _ _ => (pe_fn G_times hr (by rfl) pass0 (@pa_cons _ _ _ _ _ (pv 0) (@pa_cons _ _ _ _ _ (pv 1) pa_nil (by rfl)) (by rfl))))) pa_nil (by rfl))))), ?_⟩
    have lX : xs.length = zs.length := hX.length
    have lY : ys.length = zs.length := hY.length
    refine ⟨_, rfl, _, rfl, a, b, xs, ys, rfl, hA, hB, fun D hD => ?_⟩
    refine block_zip (xs := xs) (ys := ys) (fun j σ' H' => ∃ (v0 v1 : Option V) (ws : List V), σ' = [v0, v1] ∧ Same H H' ∧ H' D = some (.lst ws) ∧ Paired (FrV H') ws ((zs.take j).map (proQ now c))) (by omega) ⟨none, none, [], rfl, Same.upd hD, upd_same, .nil⟩ ?_ ?_ ?_
    · rintro j σ' H' hj ⟨v0, v1, ws, rfl, s1, hd, hF⟩
      exact ⟨s1.seq hA, s1.seq hB⟩
    · rintro j x y T σ' H' hx hy ⟨v0, v1, ws, rfl, s1, hd, hF⟩ hT
      obtain ⟨z, hz, fx⟩ := paired_get hX hx
      obtain ⟨z', hz', fy⟩ := paired_get hY hy
      rw [hz] at hz'
      cases hz'
      have ok := okz z (List.mem_of_getElem? hz)
      have hj : j < zs.length := (List.getElem?_eq_some_iff.mp hz).1
      have tT := Same.upd (o := .tup [x, y]) hT
      have lW : ws.length = min j zs.length := by have := hF.length; rw [List.length_map, List.length_take] at this; exact this
      refine ⟨T, _, rfl, SqT.of upd_same, rfl, _, _, rfl, _, _, rfl, rfl, ?_⟩
      have s2 := s1.trans tT
      refine ⟨_, rfl, _, rfl, spTimes.of (E := E0) rfl (fx.same s2) (fy.same s2) ((rat_bd ok.w bc).mono (by decide)) (ok.bd.mono (by decide)) fun u3 H3 s3 f3 => ?_⟩
      have s23 := tT.trans s3
      have hd3 := s23 _ _ hd
      refine ⟨_, hd3, sz (by omega), _, _, ws ++ [u3], rfl, (s1.trans s23).updD hD, upd_same, ?_⟩
      have ez : zs.take (j + 1) = zs.take j ++ [z] := by rw [List.take_add_one, hz]; rfl
      rw [ez, List.map_append]
      have tu := tup_of (o := .lst (ws ++ [u3])) hd3 (fun _ z => nomatch z)
      exact paired_snoc (Paired.mapP hF fun _ _ f => (f.same s23).tup tu) (f3.tup tu)
    · rintro σ' H1 ⟨v0, v1, ws, rfl, s1, hd, hF⟩
      rw [lX, List.take_length] at hF
      refine ⟨D, ws, zs.map (proQ now c), rfl, SqL.of hd, hF, fun r hr => ?_, fun j hj => ?_, fun u H' s' f' => k u H' (s1.trans s') f'⟩
      · obtain ⟨z, hz, rfl⟩ := List.mem_map.mp hr
        exact (((rat_bd (okz z hz).w bc).mul (okz z hz).bd)).mono (by decide)
      · rw [← List.map_take]
        exact (pro_sum (zs := zs.take j) (fun z hz => okz z (List.mem_of_mem_take hz)) (by rw [List.length_take]; omega) bc).mono (by decide)
end
end T40
namespace T40
open PySem L2 Tc
section
variable {P : Program} {w : World} {K : PySem.W.Frag} {mg : Str → Option Value} {base : Heap}
abbrev s_is_blend : Stmt := top 21
theorem sc_is_blend : FnScope ["offer", "wish", "now", "amounts", "pair", "amount"] ["offer", "wish", "now", "amounts"] (defScope s_is_blend) := ⟨rfl, rfl, rfl, by decide +kernel, rfl, by decide +kernel, by decide +kernel⟩
theorem ok_is_blend (D : DefAt K mg "is_blend" s_is_blend) (T : Txt K mg) (G_under : FnAt P w K mg base CX0 1 "under" ["one", "other"] (spUnder)) (G_total : FnAt P w K mg base CX0 4 "total" ["wine"] (spTotal)) (G_sum_of : FnAt P w K mg base CX0 3 "sum_of" ["some"] (spSumOf K)) (G_weights_in : FnAt P w K mg base CX0 8 "weights_in" ["offer", "label", "now"] (spWin K)) (G_product_sum : FnAt P w K mg base CX0 4 "product_sum" ["some", "others"] (spProd K)) : FnAt P w K mg base CX0 9 "is_blend" ["offer", "wish", "now", "amounts"] (spBlend K) := by
  refine D.ok sc_is_blend (fun vs H Q E h => ?_) (fun _ _ _ _ _ _ us hl => match us, hl with | [_, _, _, _], _ => rfl) (fun f cdv A outer s H vs Q E hr h => ?_)
  · obtain ⟨ao, aw, al, aa, now, os, ls, as, zs, cs, wv, w, rfl, hO, hPo, hA, hPa, okz, h8, hw, fw0, hL, hPl, hc8, k⟩ := h; rfl
  · obtain ⟨ao, aw, al, aa, now, os, ls, as, zs, cs, wv, w, rfl, hO, hPo, hA, hPa, okz, h8, hw, fw0, hL, hPl, hc8, k⟩ := h
    have nd := sc_is_blend.nd
    refine ⟨_, (@pss_cons _ _ _ _ _ (ps_for PassesOwn.never rfl (pi_zip (K := K) rfl (by rfl) T.z_zip (@pa_cons _ _ _ _ _ (pv 0) (@pa_cons _ _ _ _ _ (pv 3) pa_nil (by rfl)) (by rfl))) (pg_tup rfl (pgs_cons (pg_name (i := 4) nd rfl (Or.inl rfl)) (pgs_cons (pg_name (i := 5) nd rfl (Or.inl rfl)) pgs_nil))) (@pss_one _ _ _ (ps_if (PW.pt (pw_or (pt_cmpR op_lt (pe_ix (ix_tup' (K := K) rfl) (pv 5) pe_int (fun _ _ => rfl)) pe_int (nomark _)) (pw_or1 (pt_val (pe_fn G_under hr (by rfl) pass0 (@pa_cons _ _ _ _ _ (pe_fn G_total hr (by rfl) pass0 (@pa_cons _ _ _ _ _ (pe_ix (ix_tup' (K := K) rfl) (pv 4) pe_int (fun _ _ => rfl)) pa_nil (by rfl))) (@pa_cons _ _ _ _ _ (pv 5) pa_nil (by rfl)) (by rfl))))))) (@pss_one _ _ _ (ps_ret pe_bl)) pss_nil)))
      (@pss_cons _ _ _ _ _ (ps_if (pt_cmpR (op_neD' (K := K) rfl hr) (pe_fn G_sum_of hr (by rfl) pass0 (@pa_cons _ _ _ _ _ (pv 3) pa_nil (by rfl))) (pe_ix (ix_tup' (K := K) rfl) (pv 1) pe_int (fun _ _ => rfl)) (nomark _)) (@pss_one _ _ _ (ps_ret pe_bl)) pss_nil)
      (@pss_one _ _ _ (ps_ret (pe_callB (call_all' (K := K) rfl rfl) (by rfl) T.z_all bt_all (@pa_cons _ _ _ _ _ (pe_comp ["row"] ["amounts"] [3] rfl (by rfl) (pi_list' (K := K) rfl (pe_fn G_weights_in hr (by rfl) pass0 (@pa_cons _ _ _ _ _ (pv 0) (@pa_cons _ _ _ _ _ (pe_ix (ix_tup' (K := K) rfl) (pv 1) pe_int (fun _ _ => rfl)) (@pa_cons _ _ _ _ _ (pv 2) pa_nil (by rfl)) (by rfl)) (by rfl)))) (fun _ _ _ _ => (pg_name (i := 0) (show List.Nodup (["row", "amounts"] : List Str) from by decide) rfl (Or.inl rfl))) (fun _ _ _ _ => pif_none) (fun _ _ _ _ => (pe_cmpR op_ge (pe_ix (ix_tup' (K := K) rfl) (pe_fn G_product_sum hr (by rfl) pass0 (@pa_cons _ _ _ _ _ (pv 0) (@pa_cons _ _ _ _ _ (pv 1) pa_nil (by rfl)) (by rfl))) pe_int (fun _ _ => rfl)) pe_int (nomark _)))) pa_nil (by rfl))))))), ?_⟩
    have lO : os.length = zs.length := hPo.length
    have lA : as.length = zs.length := hPa.length
    refine ⟨_, rfl, _, rfl, ao, aa, os, as, rfl, hO, hA, ?_⟩
    refine for_zip (xs := os) (ys := as) (fun j σ H1 => ∃ (v4 v5 : Option V), σ = [some (.ref ao), some (.ref aw), some (.int now), some (.ref aa), v4, v5] ∧ Same H H1 ∧ (zs.take j).all okB = true) (by omega) ⟨none, none, rfl, Same.refl _, rfl⟩ ?_ ?_ ?_
    · rintro j σ H1 hj ⟨v4, v5, rfl, s1, al1⟩
      exact ⟨s1.seq hO, s1.seq hA⟩
    · rintro j x y T σ H1 hx hy ⟨v4, v5, rfl, s1, al1⟩ hT
      obtain ⟨z, hz, ox⟩ := paired_get hPo hx
      obtain ⟨z', hz', fy⟩ := paired_get hPa hy
      rw [hz] at hz'
      cases hz'
      have hzm := List.mem_of_getElem? hz
      have ok := okz z hzm
      have tT := Same.upd (o := .tup [x, y]) hT
      have s2 := s1.trans tT
      obtain ⟨a, wn, pr, rfl, ha, wv1⟩ := ox.same s2
      have fy2 := fy.same s2
      obtain ⟨b, rfl, hb⟩ := id fy2
      have ez : zs.take (j + 1) = zs.take j ++ [z] := by rw [List.take_add_one, hz]; rfl
      have bad : okB z = false → blendB now cs zs w = false := fun h => by
        have : zs.all okB = false := by
          rw [List.all_eq_false]
          exact ⟨z, hzm, by rw [h]; decide⟩
        unfold blendB
        rw [this]; rfl
      refine ⟨T, _, rfl, SqT.of upd_same, rfl, _, _, rfl, _, _, rfl, rfl, ?_⟩
      refine ⟨_, rfl, b, _, _, _, rfl, rfl, SqT.of hb, rfl, _, _, rfl, rfl, _, rfl, ?_⟩
      refine ite2 (fun hneg => ?_) (fun hneg => ?_)
      · have hneg : z.2.num < 0 := of_decide_eq_true hneg
        have hb0 : okB z = false := by
          unfold okB
          have : ¬ 0 ≤ z.2 := fun h => by have := Rat.num_nonneg.mpr h; omega
          rw [decide_eq_false this]; rfl
        have := k _ s2
        rw [bad hb0] at this
        exact this
      have hnn : 0 ≤ z.2 := Rat.num_nonneg.mp (by
        have h : ¬ z.2.num < 0 := fun e => hneg (decide_eq_true e)
        omega)
      refine ⟨_, rfl, a, _, _, _, rfl, rfl, SqT.of ha, rfl, wn, z.1, now, rfl, wv1, ok.w, fun u3 H3 s3 f3 => ?_⟩
      refine ⟨_, rfl, _, _, totQ z.1, z.2, rfl, f3, fy2.same s3, (tot_bd ok.w).mono (by decide), ok.bd.mono (by decide), _, rfl, ?_⟩
      refine ite2 (fun hlt => ?_) (fun hlt => ?_)
      · have hlt : totQ z.1 < z.2 := of_decide_eq_true hlt
        have hb0 : okB z = false := by
          unfold okB
          have : ¬ z.2 ≤ totQ z.1 := by grind
          rw [decide_eq_false this, Bool.and_false]
        have := k _ (s2.trans s3)
        rw [bad hb0] at this
        exact this
      · have hle : z.2 ≤ totQ z.1 := by
          have h : ¬ totQ z.1 < z.2 := fun e => hlt (decide_eq_true e)
          grind
        refine ⟨_, _, rfl, s2.trans s3, ?_⟩
        rw [ez, List.all_append, al1]
        show (true && (okB z && true)) = true
        unfold okB
        rw [decide_eq_true hnn, decide_eq_true hle]; rfl
    · rintro σ H1 ⟨v4, v5, rfl, s1, al1⟩
      rw [lO, List.take_length] at al1
      have hPa1 : Paired (FrV H1) as (zs.map (·.2)) := paired_map (Paired.mapP hPa fun _ _ f => f.same s1)
      refine ⟨_, rfl, aa, as, zs.map (·.2), rfl, s1.seq hA, hPa1, fun r hr => ?_, fun j hj => ?_, fun u2 H2 s2 f2 => ?_⟩
      · obtain ⟨z, hz, rfl⟩ := List.mem_map.mp hr
        exact (okz z hz).bd.mono (by decide)
      · rw [← List.map_take]
        exact (am_sum (zs := zs.take j) (fun z hz => okz z (List.mem_of_mem_take hz)) (by rw [List.length_take]; omega)).mono (by decide)
      have f2 : FrV H2 u2 (sumL zs (·.2)) := f2
      have s02 := s1.trans s2
      have hw2 := s02 _ _ hw
      refine ⟨_, rfl, aw, _, _, _, rfl, rfl, SqT.of hw2, rfl, _, _, f2.rep, (fw0.same s02).rep, pq_depth _ _, _, rfl, ?_⟩
      rw [eqv_pq]
      refine ite2 (fun h => ?_) (fun h => ?_)
      · have hne : ¬ sumL zs (·.2) = w := fun e => by
          have h : (!decide (sumL zs (·.2) = w)) = true := by rw [← fq_dec]; exact h
          rw [decide_eq_true e] at h
          cases h
        have := k _ s02
        unfold blendB at this
        rw [al1, decide_eq_false hne] at this
        exact this
      have heq : sumL zs (·.2) = w := by
        by_cases e : sumL zs (·.2) = w
        · exact e
        · exfalso
          apply h
          have h2 : (!decide (sumL zs (·.2) = w)) = true := by rw [decide_eq_false e]; rfl
          rw [← fq_dec] at h2
          exact h2
      have hPo2 : Paired (OfV H2) os (zs.map (·.1)) := paired_map (Paired.mapP hPo fun _ _ f => f.same s02)
      have okW : ∀ W ∈ zs.map (·.1), OkW now W := fun W hW => by
        obtain ⟨z, hz, rfl⟩ := List.mem_map.mp hW
        exact (okz z hz).w
      refine ⟨_, rfl, _, rfl, aw, _, _, _, rfl, rfl, SqT.of hw2, rfl, _, rfl, ao, al, now, os, ls, zs.map (·.1), cs, rfl, s02.seq hO, hPo2, okW, by rw [List.length_map]; exact h8, s02.seq hL, Paired.mapP hPl fun _ _ f => ⟨RepC.same s02 f.1, f.2⟩, hc8, fun p H3 rs hp s3 h3 hR => ?_⟩
      have lR : rs.length = cs.length := hR.length
      have s03 := s02.trans s3
      refine ⟨p, rfl, ⟨_, SqL.of h3⟩, fun D hD => ?_⟩
      refine block_list (xs := rs) (fun j σ' H' => ∃ (v0 : Option V), σ' = [v0, some (.ref aa)] ∧ Same H3 H' ∧ H' D = some (.lst (((cs.take j).map fun c => decide (0 ≤ sumL zs (proQ now c))).map V.bl))) ⟨none, rfl, Same.upd hD, upd_same⟩ ?_ ?_ ?_
      · rintro j σ' H' hj ⟨v0, rfl, s4, hd⟩
        exact SqL.of (s4 _ _ h3)
      · rintro j y σ' H' hy ⟨v0, rfl, s4, hd⟩
        obtain ⟨c, hc, a, xs, rfl, ha, hX⟩ := paired_get hR hy
        have hj : j < cs.length := (List.getElem?_eq_some_iff.mp hc).1
        have bc : Bd 200 c.rat := by
          have hjl : j < ls.length := by rw [hPl.length]; exact hj
          obtain ⟨c', hc', g⟩ := paired_get hPl (List.getElem?_eq_getElem hjl)
          rw [hc] at hc'
          cases hc'
          exact g.2
        have s04 := s03.trans s4
        have hX4 : Paired (fun v (z : Zz) => FrV H' v (balQ now c z.1 / totQ z.1)) xs zs := by
          have h1 : Paired (FrV H') xs ((zs.map (·.1)).map fun W => balQ now c W / totQ W) := paired_same s4 hX
          rw [List.map_map] at h1
          exact paired_unmap h1
        refine ⟨_, rfl, _, rfl, a, aa, xs, as, now, c, zs, rfl, SqL.of (s4 _ _ ha), s04.seq hA, hX4, Paired.mapP hPa fun _ _ f => f.same s04, okz, h8, bc, fun u5 H5 s5 f5 => ?_⟩
        obtain ⟨b, rfl, hb⟩ := f5
        refine ⟨b, _, _, _, rfl, rfl, SqT.of hb, rfl, _, _, rfl, rfl, ?_⟩
        have hd5 := s5 _ _ hd
        refine ⟨_, hd5, by rw [List.length_map, List.length_map, List.length_take]; exact sz (by omega), _, rfl, (s4.trans s5).updD hD, ?_⟩
        have ec : cs.take (j + 1) = cs.take j ++ [c] := by rw [List.take_add_one, hc]; rfl
        rw [upd_same, ec, List.map_append, List.map_append]
        have ed : decide ((0 : Int) ≤ (sumL zs (proQ now c)).num) = decide (0 ≤ sumL zs (proQ now c)) := by
          rw [decide_eq_decide]; exact Rat.num_nonneg
        show _ = some (HO.lst (_ ++ [V.bl (decide (0 ≤ sumL zs (proQ now c)))]))
        rw [← ed]
      · rintro σ' H4 ⟨v0, rfl, s4, hd⟩
        rw [lR, List.take_length] at hd
        refine ⟨D, _, rfl, SqL.of hd, ?_⟩
        have := k _ (s03.trans s4)
        unfold blendB at this
        rw [al1, decide_eq_true heq] at this
        have ea : ((cs.map fun c => decide (0 ≤ sumL zs (proQ now c))).all id) = cs.all fun c => decide (0 ≤ sumL zs (proQ now c)) := by
          rw [List.all_map]; rfl
        rw [ea]
        exact this
end
end T40
namespace T40
open PySem L2 Tc
section
variable {P : Program} {w : World} {K : PySem.W.Frag} {mg : Str → Option Value} {base : Heap}
abbrev s__law_cell_at : Stmt := top 23
theorem sc__law_cell_at : FnScope ["_law_script", "_law_k"] ["_law_script", "_law_k"] (defScope s__law_cell_at) := ⟨rfl, rfl, rfl, by decide +kernel, rfl, by decide +kernel, by decide +kernel⟩
theorem ok__law_cell_at (D : DefAt K mg "_law_cell_at" s__law_cell_at) (T : Txt K mg) : FnAt P w K mg base CX0 1 "_law_cell_at" ["_law_script", "_law_k"] (spCell K) := by
  refine D.ok sc__law_cell_at (fun vs H Q E h => ?_) (fun _ _ _ _ _ _ us hl => match us, hl with | [_, _], _ => rfl) (fun f cdv A outer s H vs Q E hr h => ?_)
  · obtain ⟨a, ns, j, rfl, hS, hj, k⟩ := h; rfl
  · obtain ⟨a, ns, j, rfl, hS, hj, k⟩ := h
    have nd := sc__law_cell_at.nd
    refine ⟨_, (@pss_cons _ _ _ _ _ (ps_if (pt_cmpR op_lt (pv 1) (pe_callB (call_len' (K := K) rfl) (by rfl) T.z_len PySem.boot_len (@pa_cons _ _ _ _ _ (pv 0) pa_nil (by rfl))) (nomark _)) (@pss_one _ _ _ (ps_ret (pe_ix (ix_list' (K := K) rfl) (pv 0) (pv 1) (fun _ _ => rfl)))) pss_nil)
      (@pss_one _ _ _ (ps_ret pe_int))), ?_⟩
    refine ⟨_, rfl, _, rfl, _, _, rfl, .inl ⟨_, hS, rfl⟩, _, _, rfl, rfl, _, rfl, ?_⟩
    refine ite2 (fun h1 => ?_) (fun h1 => ?_)
    · obtain ⟨c, hc⟩ := map_at hj (of_decide_eq_true h1)
      refine ⟨_, rfl, _, rfl, a, _, j, _, rfl, rfl, hS, hc, k c⟩
    · exact k 0
end
end T40
namespace T40
open PySem L2 Tc
section
variable {P : Program} {w : World} {K : PySem.W.Frag} {mg : Str → Option Value} {base : Heap}
abbrev s__law_mixed : Stmt := top 24
theorem sc__law_mixed : FnScope ["_law_cell", "_law_k"] ["_law_cell", "_law_k"] (defScope s__law_mixed) := ⟨rfl, rfl, rfl, by decide +kernel, rfl, by decide +kernel, by decide +kernel⟩
theorem ok__law_mixed (D : DefAt K mg "_law_mixed" s__law_mixed) (T : Txt K mg) : FnAt P w K mg base CX0 1 "_law_mixed" ["_law_cell", "_law_k"] (spMixed2) := by
  refine D.ok sc__law_mixed (fun vs H Q E h => ?_) (fun _ _ _ _ _ _ us hl => match us, hl with | [_, _], _ => rfl) (fun f cdv A outer s H vs Q E hr h => ?_)
  · obtain ⟨c, j, rfl, ⟨j0, j4⟩, k⟩ := h; rfl
  · obtain ⟨c, j, rfl, ⟨j0, j4⟩, k⟩ := h
    have nd := sc__law_mixed.nd
    refine ⟨_, (@pss_one _ _ _ (ps_ret (@pe_op _ _ _ _ _ _ _ _ op_modN (@pe_op _ _ _ _ _ _ _ _ op_mulB (@pe_op _ _ _ _ _ _ _ _ op_modN (pv 0) pe_int) (pe_ix (ix_list' (K := K) rfl) (@pe_lst _ _ _ _ (@pa_cons _ _ _ _ _ pe_int (@pa_cons _ _ _ _ _ pe_int (@pa_cons _ _ _ _ _ pe_int (@pa_cons _ _ _ _ _ pe_int pa_nil (by rfl)) (by rfl)) (by rfl)) (by rfl))) (pv 1) (fun _ _ => rfl))) (pe_ix (ix_list' (K := K) rfl) (@pe_lst _ _ _ _ (@pa_cons _ _ _ _ _ pe_int (@pa_cons _ _ _ _ _ pe_int (@pa_cons _ _ _ _ _ pe_int (@pa_cons _ _ _ _ _ pe_int pa_nil (by rfl)) (by rfl)) (by rfl)) (by rfl))) (pv 1) (fun _ _ => rfl))))), ?_⟩
    have at4 : ∀ (a b c d : Int), ∃ v : Int, v ∈ [a, b, c, d] ∧ atI [V.int a, .int b, .int c, .int d] j = some (V.int v) := by
      intro a b c d
      have : j = 0 ∨ j = 1 ∨ j = 2 ∨ j = 3 := by omega
      rcases this with rfl | rfl | rfl | rfl
      · exact ⟨a, by simp, rfl⟩
      · exact ⟨b, by simp, rfl⟩
      · exact ⟨c, by simp, rfl⟩
      · exact ⟨d, by simp, rfl⟩
    obtain ⟨u, hu, eu⟩ := at4 48271 69621 16807 39373
    obtain ⟨w1, hw, ew⟩ := at4 65537 65539 65543 65551
    refine ⟨_, rfl, _, _, rfl, rfl, (show (1000003 : Int) ≠ 0 by decide), sz (by simp), fun p hp => ?_⟩
    refine ⟨_, rfl, p, _, _, _, rfl, rfl, SqL.of upd_same, eu, _, _, rfl, rfl, ?_, sz (by simp), fun p2 hp2 => ?_⟩
    · have q := fmod_lt (c := c) (m := 1000003) (by decide)
      refine mulOk_of 64 (Nat.lt_of_le_of_lt (m := 1000003) (by omega) (by decide)) (Nat.lt_of_le_of_lt (m := 100000) ?_ (by decide)) (by decide)
      simp at hu
      omega
    have hw : 0 < w1 ∧ w1 ≤ 65551 := by
      simp at hw
      omega
    have q2 := fmod_lt (c := c.fmod 1000003 * u) (m := w1) hw.1
    refine ⟨_, rfl, p2, _, _, _, rfl, rfl, SqL.of upd_same, ew, _, _, rfl, rfl, (by omega), ?_⟩
    exact k _ _ q2.1 (by omega) ((Same.upd hp).trans (Same.upd hp2))
end
end T40
namespace T40
open PySem L2 Tc
section
variable {P : Program} {w : World} {K : PySem.W.Frag} {mg : Str → Option Value} {base : Heap}
abbrev s__law_divisor : Stmt := top 25
theorem sc__law_divisor : FnScope ["_law_one", "_law_other"] ["_law_one", "_law_other"] (defScope s__law_divisor) := ⟨rfl, rfl, rfl, by decide +kernel, rfl, by decide +kernel, by decide +kernel⟩
theorem ok__law_divisor (D : DefAt K mg "_law_divisor" s__law_divisor) (T : Txt K mg) : FnAt P w K mg base CX0 1 "_law_divisor" ["_law_one", "_law_other"] (spDivisor) := by
  refine D.ok sc__law_divisor (fun vs H Q E h => ?_) (fun _ _ _ _ _ _ us hl => match us, hl with | [_, _], _ => rfl) (fun f cdv A outer s H vs Q E hr h => ?_)
  · obtain ⟨a, b, rfl, k⟩ := h; rfl
  · obtain ⟨a, b, rfl, k⟩ := h
    have nd := sc__law_divisor.nd
    refine ⟨_, (@pss_cons _ _ _ _ _ (ps_while PassesOwn.never (pt_cmpR op_ne (pv 1) pe_int (nomark _)) (@pss_one _ _ _ (ps_par (i := 0) (j := 1) rfl nd rfl rfl (by decide) rfl rfl (@pa_cons _ _ _ _ _ (pv 1) (@pa_cons _ _ _ _ _ (@pe_op _ _ _ _ _ _ _ _ op_modN (pv 0) (pv 1)) pa_nil (by rfl)) (by rfl)) rfl)))
      (@pss_one _ _ _ (ps_ret (pe_callB call_abs (by rfl) T.z_abs bt_abs (@pa_cons _ _ _ _ _ (pv 0) pa_nil (by rfl)))))), ?_⟩
    refine while_by (fun σ H1 => ∃ x y : Int, σ = [some (.int x), some (.int y)] ∧ H1 = H ∧ Int.gcd x y = Int.gcd a b)
      (fun σ _ => match σ with | [_, some (.int y)] => y.natAbs | _ => 0) ⟨a, b, rfl, rfl, rfl⟩ ?_ ?_
    · rintro σ H1 ⟨x, y, rfl, rfl, d⟩
      refine ⟨_, rfl, rfl, _, rfl, ?_⟩
      refine ite2 (fun h1 => ?_) (fun h1 => ?_)
      · have hy : y ≠ 0 := by
          intro e; subst e; simp at h1
        refine ⟨_, rfl, _, rfl, _, rfl, _, _, rfl, rfl, hy, _, _, rfl, ?_⟩
        exact ⟨⟨_, _, rfl, rfl, (gcd_fmod x y).trans d⟩, Dv.less hy⟩
      · have hy : y = 0 := by
          by_cases e : y = 0
          · exact e
          · exact absurd (by simp [e]) h1
        subst hy
        refine ⟨_, rfl, x, rfl, ?_⟩
        rw [Int.gcd_zero_right] at d
        have e : (if x < 0 then -x else x) = ((Int.gcd a b : Nat) : Int) := by
          rw [← d]; split <;> omega
        rw [e]; exact k
    · intro σ H1 Q1 Q2 hq h1
      obtain ⟨v, e, h2, c, e2, h3⟩ := h1
      exact ⟨v, e, h2, c, e2, hq _ _ h3⟩
end
end T40
namespace T40
open PySem L2 Tc
section
variable {P : Program} {w : World} {K : PySem.W.Frag} {mg : Str → Option Value} {base : Heap}
abbrev s__law_lowest : Stmt := top 26
theorem sc__law_lowest : FnScope ["_law_top", "_law_bottom", "_law_share"] ["_law_top", "_law_bottom"] (defScope s__law_lowest) := ⟨rfl, rfl, rfl, by decide +kernel, rfl, by decide +kernel, by decide +kernel⟩
theorem ok__law_lowest (D : DefAt K mg "_law_lowest" s__law_lowest) (T : Txt K mg) (G__law_divisor : FnAt P w K mg base CX0 1 "_law_divisor" ["_law_one", "_law_other"] (spDivisor)) : FnAt P w K mg base CX0 2 "_law_lowest" ["_law_top", "_law_bottom"] (spLowest2) := by
  refine D.ok sc__law_lowest (fun vs H Q E h => ?_) (fun _ _ _ _ _ _ us hl => match us, hl with | [_, _], _ => rfl) (fun f cdv A outer s H vs Q E hr h => ?_)
  · obtain ⟨t, b, rfl, hb, hbb, k⟩ := h; rfl
  · obtain ⟨t, b, rfl, hb, hbb, k⟩ := h
    have nd := sc__law_lowest.nd
    refine ⟨_, (@pss_cons _ _ _ _ _ (@ps_set _ _ 2 _ _ _ _ nd rfl (Or.inl rfl) (pe_fn G__law_divisor hr (by rfl) pass0 (@pa_cons _ _ _ _ _ (pv 0) (@pa_cons _ _ _ _ _ (pv 1) pa_nil (by rfl)) (by rfl))) (by rfl) (Or.inl rfl))
      (@pss_one _ _ _ (ps_ret (@pe_tup _ _ _ _ _ (@pa_cons _ _ _ _ _ (@pe_op _ _ _ _ _ _ _ _ op_fdivB (pv 0) (pv 2)) (@pa_cons _ _ _ _ _ (@pe_op _ _ _ _ _ _ _ _ op_fdivB (pv 1) (pv 2)) pa_nil (by rfl)) (by rfl)))))), ?_⟩
    have hb' : b ≠ 0 := by omega
    have e : ((Int.gcd t b : Nat) : Int) = dv t b := by
      unfold dv
      rw [if_neg (by omega)]
    have hd : ∀ i, CDivB i ((Int.gcd t b : Nat) : Int) := fun i => by rw [e]; exact divB_of (dv_ne hb') (Nat.lt_of_le_of_lt (dv_le hb') hbb)
    refine ⟨_, rfl, _, rfl, t, b, rfl, ?_⟩
    refine ⟨_, rfl, _, rfl, _, _, rfl, rfl, hd _, _, rfl, _, rfl, _, _, rfl, rfl, hd _, sz (by simp), fun p hp => ?_⟩
    rw [e]
    exact k _ _ (Same.upd hp) (FrV.newOf (dv_num hb') (dv_den hb'))
end
end T40
namespace T40
open PySem L2 Tc
section
variable {P : Program} {w : World} {K : PySem.W.Frag} {mg : Str → Option Value} {base : Heap}
abbrev s__law_names : Stmt := top 27
theorem sc__law_names : FnScope ["_law_cell", "_law_letters", "_law_base", "_law_at", "_law_names_here", "_law_k"] ["_law_cell"] (defScope s__law_names) := ⟨rfl, rfl, rfl, by decide +kernel, rfl, by decide +kernel, by decide +kernel⟩
theorem ok__law_names (D : DefAt K mg "_law_names" s__law_names) (T : Txt K mg) : FnAt P w K mg base CX0 1 "_law_names" ["_law_cell"] (spNames) := by
  refine D.ok sc__law_names (fun vs H Q E h => ?_) (fun _ _ _ _ _ _ us hl => match us, hl with | [_], _ => rfl) (fun f cdv A outer s H vs Q E hr h => ?_)
  · obtain ⟨c, rfl, k⟩ := h; rfl
  · obtain ⟨c, rfl, k⟩ := h
    have nd := sc__law_names.nd
    refine ⟨_, (@pss_cons _ _ _ _ _ (@ps_set _ _ 1 _ _ _ _ nd rfl (Or.inr rfl) pe_str (by rfl) (Or.inl rfl))
      (@pss_cons _ _ _ _ _ (@ps_set _ _ 2 _ _ _ _ nd rfl (Or.inr rfl) (pe_comp ["_law_k"] ["_law_cell"] [0] rfl (by rfl) (pi_range1 (by rfl) T.z_range (@pa_cons _ _ _ _ _ (@pe_op _ _ _ _ _ _ _ _ op_add pe_int (@pe_op _ _ _ _ _ _ _ _ op_modN (pv 0) pe_int)) pa_nil (by rfl))) (fun _ _ _ _ => (pg_name (i := 0) (show List.Nodup (["_law_k", "_law_cell"] : List Str) from by decide) rfl (Or.inl rfl))) (fun _ _ _ _ => pif_none) (fun _ _ _ _ => (@pe_op _ _ _ _ _ _ _ _ op_modN (@pe_op _ _ _ _ _ _ _ _ op_add (@pe_op _ _ _ _ _ _ _ _ op_fdivB (pv 1) (@pe_op _ _ _ _ _ _ _ _ op_add (pv 0) pe_int)) (@pe_op _ _ _ _ _ _ _ _ op_mulB (pv 0) (pv 0))) pe_int))) (by rfl) (Or.inl rfl))
      (@pss_cons _ _ _ _ _ (@ps_set _ _ 3 _ _ _ _ nd rfl (Or.inr rfl) (@pe_op _ _ _ _ _ _ _ _ op_modN (@pe_op _ _ _ _ _ _ _ _ op_fdivB (pv 0) pe_int) (pe_callB (call_len' (K := K) rfl) (by rfl) T.z_len PySem.boot_len (@pa_cons _ _ _ _ _ (pv 2) pa_nil (by rfl)))) (by rfl) (Or.inl rfl))
      (@pss_cons _ _ _ _ _ (@ps_set _ _ 4 _ _ _ _ nd rfl (Or.inl rfl) (@pe_lst _ _ _ _ pa_nil) (by rfl) (Or.inl rfl))
      (@pss_cons _ _ _ _ _ (ps_for PassesOwn.never rfl (pi_range1 (by rfl) T.z_range (@pa_cons _ _ _ _ _ pe_int pa_nil (by rfl))) (pg_name (i := 5) nd rfl (Or.inr rfl)) (@pss_one _ _ _ (ps_expr (pe_bm PySem.F.plainAttrs_list PySem.F.slot_list_append PySem.F.type_list_append mt_append (pv 4) (@pa_cons _ _ _ _ _ (pe_bm' (K := K) rfl PySem.F.plainAttrs_str PySem.F.slot_str_join PySem.F.type_str_join (mt_join' (K := K) rfl) pe_str (@pa_cons _ _ _ _ _ (pe_comp ["_law_j"] ["_law_letters", "_law_base", "_law_k", "_law_at"] [1, 2, 5, 3] rfl (by rfl) (pi_range1 (by rfl) T.z_range (@pa_cons _ _ _ _ _ (pe_callB (call_len' (K := K) rfl) (by rfl) T.z_len PySem.boot_len (@pa_cons _ _ _ _ _ (pv 2) pa_nil (by rfl))) pa_nil (by rfl))) (fun _ _ _ _ => (pg_name (i := 0) (show List.Nodup (["_law_j", "_law_letters", "_law_base", "_law_k", "_law_at"] : List Str) from by decide) rfl (Or.inl rfl))) (fun _ _ _ _ => pif_none) (fun _ _ _ _ => (pe_ix ix_str (pv 1) (@pe_op _ _ _ _ _ _ _ _ op_modN (@pe_op _ _ _ _ _ _ _ _ op_add (pe_ix (ix_list' (K := K) rfl) (pv 2) (pv 0) (fun _ _ => rfl)) (@pe_op _ _ _ _ _ _ _ _ op_mulB (pv 3) (pe_callTy call_int1 (by rfl) T.z_int bt_int (@pa_cons _ _ _ _ _ (pe_cmpR op_eq (pv 0) (pv 4) (nomark _)) pa_nil (by rfl))))) pe_int) (fun _ _ => rfl)))) pa_nil (by rfl))) pa_nil (by rfl))))))
      (@pss_one _ _ _ (ps_ret (pv 4)))))))), ?_⟩
    have q8 := fmod_lt (c := c) (m := 8) (by decide)
    refine ⟨_, rfl, _, _, rfl, rfl, (show (8 : Int) ≠ 0 by decide), _, _, rfl, rfl, _, rfl, by omega, by omega, fun D hD => ?_⟩
    refine block_range (fun i σ' H' => ∃ (v : Option V) (bs : List Int), σ' = [v, some (.int c)] ∧ Same H H' ∧ H' D = some (.lst (bs.map V.int)) ∧ bs.length = i) ⟨none, [], rfl, Same.upd hD, upd_same, rfl⟩ ?_ ?_
    · rintro i σ' H' hi ⟨v, bs, rfl, s1, hd, hl⟩
      have hi : i < (1 + c.fmod 8).toNat := hi
      refine ⟨_, rfl, _, rfl, _, _, rfl, rfl, _, _, rfl, rfl, divB_of (by omega) (Nat.lt_of_le_of_lt (m := 20) (by omega) (by decide)), _, rfl, _, rfl, _, _, rfl, rfl, mulOk_of 64 (Nat.lt_of_le_of_lt (m := 20) (by omega) (by decide)) (Nat.lt_of_le_of_lt (m := 20) (by omega) (by decide)) (by decide), _, _, rfl, rfl, _, _, rfl, rfl, (show (26 : Int) ≠ 0 by decide), ?_⟩
      refine ⟨_, hd, by rw [List.length_map]; exact sz (by omega), _, bs ++ [((c.fdiv (0 + (i : Int) + 1) + (0 + (i : Int)) * (0 + (i : Int))).fmod 26)], rfl, s1.updD hD, ?_, by rw [List.length_append, hl]; rfl⟩
      rw [upd_same, List.map_append]
      rfl
    rintro σ' H1 ⟨v, bs, rfl, s1, hd, hl⟩
    have hl : bs.length = (1 + c.fmod 8).toNat := hl
    have hlen : (bs.map V.int).length = bs.length := List.length_map ..
    refine ⟨_, rfl, _, _, rfl, rfl, divB_of (by decide) (by decide), _, rfl, _, _, rfl, .inl ⟨_, SqL.of hd, rfl⟩, _, _, rfl, rfl, (by rw [hlen]; omega), ?_⟩
    refine ⟨sz (by simp), fun p hp => ?_⟩
    generalize hat : (c.fdiv 8).fmod (((bs.map V.int).length : Nat) : Int) = at'
    have sp1 := Same.upd (o := .lst []) hp
    refine ⟨_, rfl, by decide, by decide, ?_⟩
    refine for_range (fun i σ H2 => ∃ (v5 : Option V) (zs : List Str), σ = [some (.int c), some (.str "abcdefghijklmnopqrstuvwxyz"), some (.ref D), some (.int at'), some (.ref p), v5] ∧ Same H1 H2 ∧ H2 p = some (.lst (zs.map V.str)) ∧ zs.length = i) ⟨none, [], by rw [← hat]; rfl, sp1, upd_same, rfl⟩ ?_ ?_
    · rintro i σ H2 hi ⟨v5, zs, rfl, s2, hp2, hz⟩
      have hi : i < 3 := by simpa using hi
      have hd2 := s2 _ _ hd
      refine ⟨_, rfl, .inl ⟨rfl, _, SqL.of hp2⟩, rfl, ?_⟩
      refine ⟨_, rfl, _, _, rfl, .inl ⟨_, SqL.of hd2, rfl⟩, _, rfl, by omega, by omega, fun D2 hD2 => ?_⟩
      refine block_range (fun j σ' H' => ∃ (v : Option V) (ys : List Str), σ' = [v, some (.str "abcdefghijklmnopqrstuvwxyz"), some (.ref D), some (.int (0 + (i : Int))), some (.int at')] ∧ Same H2 H' ∧ H' D2 = some (.lst (ys.map V.str)) ∧ ys.length = j ∧ ∀ y ∈ ys, y.length = 1) ⟨none, [], rfl, Same.upd hD2, upd_same, rfl, fun _ z => nomatch z⟩ ?_ ?_
      · rintro j σ' H' hj ⟨v, ys, rfl, s3, hd3, hy, h1⟩
        have hj : j < bs.length := by
          have hj : j < (((bs.map V.int).length : Nat) : Int).toNat := hj
          rw [hlen] at hj; simpa using hj
        obtain ⟨b, hb⟩ := map_at (ns := bs) (k := 0 + (j : Int)) (by omega) (by rw [hlen]; omega)
        refine ⟨_, rfl, _, rfl, _, rfl, D, _, _, _, rfl, rfl, SqL.of (s3 _ _ hd2), hb, _, rfl, _, rfl, _, rfl, rfl, .inr ⟨_, rfl, _, _, rfl, rfl, mulOk_of 64 (Nat.lt_of_le_of_lt (m := 20) (by omega) (by decide)) ?_ (by decide), _, _, rfl, rfl, _, _, rfl, rfl, (show (26 : Int) ≠ 0 by decide), ?_⟩⟩
        · refine Nat.lt_of_le_of_lt (m := 1) ?_ (by decide)
          show (if _ then (1 : Int) else 0).natAbs ≤ 1
          split <;> decide
        obtain ⟨ch, hch⟩ := letter_at (fmod_lt (c := (b + (0 + (i : Int)) * (if decide (V.int (0 + (j : Int)) = V.int at') = true then 1 else 0))) (m := 26) (by decide))
        refine ⟨_, _, ch, rfl, rfl, sz (by decide), hch, ?_⟩
        refine ⟨_, hd3, by rw [List.length_map]; exact sz (by omega), _, ys ++ [⟨#[ch]⟩], rfl, s3.updD hD2, ?_, by rw [List.length_append, hy]; rfl, ?_⟩
        · rw [upd_same, List.map_append]; rfl
        · intro y hm
          rcases List.mem_append.mp hm with z | z
          · exact h1 y z
          · have z := List.mem_singleton.mp z
            subst z; rfl
      · rintro σ' H3 ⟨v, ys, rfl, s3, hd3, hy, h1⟩
        have hy : ys.length ≤ 8 := by
          have hy : ys.length = (((bs.map V.int).length : Nat) : Int).toNat := hy
          rw [hlen] at hy; simp at hy; omega
        refine ⟨_, D2, ys, rfl, rfl, SqL.of hd3, ?_, ?_⟩
        · have e : (ys.map (·.length)).sum = ys.length := by
            have : ∀ zs : List Str, (∀ y ∈ zs, y.length = 1) → (zs.map (·.length)).sum = zs.length := by
              intro zs
              induction zs with
              | nil => intro _; rfl
              | cons a t ih =>
                intro h
                rw [List.map_cons, List.sum_cons, ih fun y m => h y (List.mem_cons_of_mem _ m), h a List.mem_cons_self, List.length_cons, Nat.add_comm]
            exact this ys h1
          rw [e]
          show ys.length + ys.length * 0 ≤ _
          omega
        have hp3 := s3 _ _ hp2
        refine ⟨p, _, _, rfl, rfl, hp3, by rw [List.length_map]; exact sz (by omega), ?_⟩
        refine ⟨_, zs ++ [Txt.join "" ys], rfl, (s2.trans s3).updD hp, ?_, by rw [List.length_append, hz]; rfl⟩
        rw [upd_same, List.map_append]; rfl
    · rintro σ H2 ⟨v5, zs, rfl, s2, hp2, hz⟩
      exact ⟨_, rfl, k p H2 zs (s1.trans s2) hp2 hz⟩
end
end T40
namespace T40
open PySem L2 Tc
section
variable {P : Program} {w : World} {K : PySem.W.Frag} {mg : Str → Option Value} {base : Heap}
abbrev s__law_wine : Stmt := top 28
theorem sc__law_wine : FnScope ["_law_cell", "_law_other", "_law_names_here", "_law_now", "_law_wine_here", "_law_k", "_law_number", "_law_year", "_law_top"] ["_law_cell", "_law_other", "_law_names_here", "_law_now"] (defScope s__law_wine) := ⟨rfl, rfl, rfl, by decide +kernel, rfl, by decide +kernel, by decide +kernel⟩
theorem ok__law_wine (D : DefAt K mg "_law_wine" s__law_wine) (T : Txt K mg) (G__law_mixed : FnAt P w K mg base CX0 1 "_law_mixed" ["_law_cell", "_law_k"] (spMixed2)) (G__law_lowest : FnAt P w K mg base CX0 2 "_law_lowest" ["_law_top", "_law_bottom"] (spLowest2)) : FnAt P w K mg base CX0 3 "_law_wine" ["_law_cell", "_law_other", "_law_names_here", "_law_now"] (spWine) := by
  refine D.ok sc__law_wine (fun vs H Q E h => ?_) (fun _ _ _ _ _ _ us hl => match us, hl with | [_, _, _, _], _ => rfl) (fun f cdv A outer s H vs Q E hr h => ?_)
  · obtain ⟨c, o, an, zs, now, rfl, hz, hl3, hnow, hc, ho, k⟩ := h; rfl
  · obtain ⟨c, o, an, zs, now, rfl, hz, hl3, hnow, hc, ho, k⟩ := h
    have nd := sc__law_wine.nd
    refine ⟨_, (@pss_cons _ _ _ _ _ (@ps_set _ _ 4 _ _ _ _ nd rfl (Or.inl rfl) pe_dnewT (by rfl) (Or.inl rfl))
      (@pss_cons _ _ _ _ _ (ps_for PassesOwn.never rfl (pi_range1 (by rfl) T.z_range (@pa_cons _ _ _ _ _ (@pe_op _ _ _ _ _ _ _ _ op_modN (pv 0) pe_int) pa_nil (by rfl))) (pg_name (i := 5) nd rfl (Or.inl rfl)) (@pss_cons _ _ _ _ _ (@ps_set _ _ 6 _ _ _ _ nd rfl (Or.inl rfl) (pe_fn G__law_mixed hr (by rfl) pass0 (@pa_cons _ _ _ _ _ (@pe_op _ _ _ _ _ _ _ _ op_add (@pe_op _ _ _ _ _ _ _ _ op_add (pv 0) (@pe_op _ _ _ _ _ _ _ _ op_mulB pe_int (pv 5))) (pv 1)) (@pa_cons _ _ _ _ _ (pv 5) pa_nil (by rfl)) (by rfl))) (by rfl) (Or.inl rfl))
      (@pss_cons _ _ _ _ _ (@ps_set _ _ 7 _ _ _ _ nd rfl (Or.inl rfl) (pe_callB (call_max2 rfl) (by rfl) T.z_max bt_max (@pa_cons _ _ _ _ _ pe_int (@pa_cons _ _ _ _ _ (pe_callB (call_min2 rfl) (by rfl) T.z_min bt_min (@pa_cons _ _ _ _ _ pe_int (@pa_cons _ _ _ _ _ (@pe_op _ _ _ _ _ _ _ _ op_sub (pv 3) (@pe_op _ _ _ _ _ _ _ _ op_modN (pv 6) pe_int)) pa_nil (by rfl)) (by rfl))) pa_nil (by rfl)) (by rfl))) (by rfl) (Or.inl rfl))
      (@pss_cons _ _ _ _ _ (ps_if (pt_cmpR op_eq (@pe_op _ _ _ _ _ _ _ _ op_modN (pv 6) pe_int) pe_int (nomark _)) (@pss_one _ _ _ (@ps_set _ _ 7 _ _ _ _ nd rfl (Or.inl rfl) (@pe_op _ _ _ _ _ _ _ _ op_modN (@pe_op _ _ _ _ _ _ _ _ op_fdivB (pv 1) (@pe_op _ _ _ _ _ _ _ _ op_add (pv 5) pe_int)) pe_int) (by rfl) (Or.inl rfl))) pss_nil)
      (@pss_cons _ _ _ _ _ (@ps_set _ _ 8 _ _ _ _ nd rfl (Or.inl rfl) (@pe_op _ _ _ _ _ _ _ _ op_add pe_int (@pe_op _ _ _ _ _ _ _ _ op_modN (@pe_op _ _ _ _ _ _ _ _ op_fdivB (pv 6) pe_int) pe_int)) (by rfl) (Or.inl rfl))
      (@pss_cons _ _ _ _ _ (ps_if (pt_cmpR op_eq (@pe_op _ _ _ _ _ _ _ _ op_modN (pv 6) pe_int) pe_int (nomark _)) (@pss_one _ _ _ (@ps_set _ _ 8 _ _ _ _ nd rfl (Or.inl rfl) (@pe_op _ _ _ _ _ _ _ _ op_add pe_int (@pe_op _ _ _ _ _ _ _ _ op_modN (@pe_op _ _ _ _ _ _ _ _ op_fdivB (pv 1) (@pe_op _ _ _ _ _ _ _ _ op_add (pv 5) pe_int)) (@pe_op _ _ _ _ _ _ _ _ op_sub (@pe_op _ _ _ _ _ _ _ _ op_pow pe_int pe_int) pe_int))) (by rfl) (Or.inl rfl))) pss_nil)
      (@pss_one _ _ _ (ps_dput (hu_of hr) (pv 4) (@pe_tup _ _ _ _ _ (@pa_cons _ _ _ _ _ (pe_ix (ix_list' (K := K) rfl) (pv 2) (@pe_op _ _ _ _ _ _ _ _ op_modN (@pe_op _ _ _ _ _ _ _ _ op_fdivB (pv 6) pe_int) pe_int) (fun _ _ => rfl)) (@pa_cons _ _ _ _ _ (pv 7) pa_nil (by rfl)) (by rfl))) (pe_fn G__law_lowest hr (by rfl) pass0 (@pa_cons _ _ _ _ _ (pv 8) (@pa_cons _ _ _ _ _ (@pe_op _ _ _ _ _ _ _ _ op_add pe_int (@pe_op _ _ _ _ _ _ _ _ op_modN (@pe_op _ _ _ _ _ _ _ _ op_fdivB (pv 6) pe_int) pe_int)) pa_nil (by rfl)) (by rfl))) rfl))))))))
      (@pss_one _ _ _ (ps_ret (pv 4))))), ?_⟩
    have dd : ∀ {i d : Int}, 0 < d → d ≤ 1000000 → CDivB i d := fun h1 h2 => divB_of (by omega) (Nat.lt_of_le_of_lt (m := 1000000) (by omega) (by decide))
    have qc := fmod_lt (c := c) (m := 4) (by decide)
    intro d hd
    have td := Same.upd (o := .dT []) hd
    refine ⟨_, rfl, _, _, rfl, rfl, (show (4 : Int) ≠ 0 by decide), _, rfl, by omega, by omega, ?_⟩
    refine for_range (fun i σ H1 => ∃ (v5 v6 v7 v8 : Option V) (kvs : List (List Key × V)) (W : List Ent), σ = [some (.int c), some (.int o), some (.ref an), some (.int now), some (.ref d), v5, v6, v7, v8] ∧ Same H H1 ∧ H1 d = some (.dT kvs) ∧ Paired (EnV H1) kvs W ∧ (∀ e ∈ W, OkE now e) ∧ W.length ≤ i ∧ (1 ≤ i → W ≠ [])) ⟨none, none, none, none, [], [], rfl, td, upd_same, .nil, (fun _ z => nomatch z), Nat.le_refl _, fun h => absurd h (by decide)⟩ ?_ ?_
    · rintro i σ H1 hi ⟨v5, v6, v7, v8, kvs, W, rfl, s1, h1, hE, okE, lW, neW⟩
      have hi : i < 4 := by
        have hi : i < (c.fmod 4).toNat := hi
        omega
      have lK : kvs.length = W.length := hE.length
      refine ⟨_, rfl, _, rfl, _, _, rfl, rfl, mulOk_of 64 (by decide) (Nat.lt_of_le_of_lt (m := 10) (by omega) (by decide)) (by decide), _, _, rfl, rfl, _, rfl, _, _, rfl, rfl, _, rfl, c + 7 * (0 + (i : Int)) + o, 0 + (i : Int), rfl, ⟨by omega, by omega⟩, fun n H2 n0 n1 s2 => ?_⟩
      have q30 := fmod_lt (c := n) (m := 30) (by decide)
      refine ⟨_, rfl, _, rfl, _, _, rfl, rfl, (show (30 : Int) ≠ 0 by decide), _, _, rfl, rfl, _, _, rfl, _, _, rfl, ?_⟩
      let y0 : Int := cl (now - n.fmod 30)
      have hy0 : 0 ≤ y0 ∧ y0 ≤ 9999 := clamp _
      refine ⟨_, rfl, _, _, rfl, rfl, (show (11 : Int) ≠ 0 by decide), rfl, _, rfl, ?_⟩
      refine ite2 (fun _ => ?A) (fun _ => ?B)
      case' A =>
        refine ⟨_, rfl, _, rfl, _, _, rfl, rfl, _, _, rfl, rfl, dd (by omega) (by omega), _, _, rfl, rfl, (show (10000 : Int) ≠ 0 by decide), ?_⟩
        let y : Int := (o.fdiv (0 + (i : Int) + 3)).fmod 10000
        have hy : 0 ≤ y ∧ y ≤ 9999 := by
          have h := fmod_lt (c := o.fdiv (0 + (i : Int) + 3)) (m := 10000) (by decide)
          exact ⟨h.1, by have := h.2; show (o.fdiv (0 + (i : Int) + 3)).fmod 10000 ≤ 9999; omega⟩
      case' B =>
        let y : Int := y0
        have hy : 0 ≤ y ∧ y ≤ 9999 := hy0
      all_goals
        have q40 := fmod_lt (c := n.fdiv 3) (m := 40) (by decide)
        refine ⟨_, rfl, _, _, rfl, rfl, dd (by decide) (by decide), _, _, rfl, rfl, (show (40 : Int) ≠ 0 by decide), _, _, rfl, rfl, ?_⟩
        refine ⟨_, rfl, _, _, rfl, rfl, (show (5 : Int) ≠ 0 by decide), rfl, _, rfl, ?_⟩
        refine ite2 (fun _ => ?_) (fun _ => ?_)
        refine ⟨_, rfl, _, rfl, _, _, rfl, rfl, _, _, rfl, rfl, dd (by omega) (by omega), _, _, rfl, rfl, ⟨by decide, by decide, by decide⟩, _, _, rfl, rfl, _, _, rfl, rfl, (by rw [pow1012]; show (_ : Int) ≠ 0; decide), _, _, rfl, rfl, ?_⟩
        let tp : Int := 1 + (o.fdiv (0 + (i : Int) + 1)).fmod ((10 : Int) ^ (12 : Int).toNat - 1)
        have htp : 1 ≤ tp ∧ tp ≤ 1000000000000 := by
          have h := fmod_lt (c := o.fdiv (0 + (i : Int) + 1)) (m := (10 : Int) ^ (12 : Int).toNat - 1) (by rw [pow1012]; decide)
          show 1 ≤ 1 + (o.fdiv (0 + (i : Int) + 1)).fmod ((10 : Int) ^ (12 : Int).toNat - 1) ∧ 1 + (o.fdiv (0 + (i : Int) + 1)).fmod ((10 : Int) ^ (12 : Int).toNat - 1) ≤ 1000000000000
          rw [pow1012] at h ⊢
          omega
        rotate_left
        let tp : Int := 1 + (n.fdiv 3).fmod 40
        have htp : 1 ≤ tp ∧ tp ≤ 1000000000000 := by
          show 1 ≤ 1 + (n.fdiv 3).fmod 40 ∧ 1 + (n.fdiv 3).fmod 40 ≤ 1000000000000
          omega
        all_goals
          have q12 := fmod_lt (c := n.fdiv 2) (m := 12) (by decide)
          have q3 := fmod_lt (c := n.fdiv 7) (m := 3) (by decide)
          have hz2 := (s1.trans s2) _ _ hz
          obtain ⟨nm, hnm⟩ := str_at (zs := zs) q3.1 (by rw [hl3]; exact q3.2)
          have bb : ∀ {x : Int}, x.natAbs ≤ 1000000000000 → x.natAbs < 2 ^ 100 := fun h => Nat.lt_of_le_of_lt h (by decide)
          refine ⟨_, rfl, _, rfl, _, _, rfl, rfl, dd (by decide) (by decide), _, _, rfl, rfl, (show (12 : Int) ≠ 0 by decide), _, _, rfl, rfl, tp, 1 + (n.fdiv 2).fmod 12, rfl, by omega, Nat.lt_of_le_of_lt (m := 100) (by omega) (by decide), fun v3 H3 s3 f3 => ?_⟩
          have hz3 := s3 _ _ hz2
          refine ⟨_, rfl, _, rfl, _, rfl, _, _, rfl, rfl, dd (by decide) (by decide), _, _, rfl, rfl, (show (3 : Int) ≠ 0 by decide), an, _, _, _, rfl, rfl, SqL.of hz3, hnm, _, rfl, sz (by simp), fun kb hkb => ?_⟩
          have tk := Same.upd (o := .tup [V.str nm, .int y]) hkb
          have s14 := s2.trans (s3.trans tk)
          have h14 := s14 _ _ h1
          let e : Ent := ((nm, y), Rat.divInt tp (1 + (n.fdiv 2).fmod 12))
          have hE4 : Paired (EnV (upd H3 kb (.tup [V.str nm, .int y]))) kvs W := Paired.mapP hE fun _ _ f => ⟨f.1, f.2.same s14⟩
          obtain ⟨W', hW', hm', hl', hn'⟩ := put_wine hE4 e (v := v3) (f3.same tk)
          refine ⟨d, upd (upd H3 kb (.tup [V.str nm, .int y])) d (.dT (putK kvs (kyL (nm, y)) v3)), rfl, DPut.t (k := kyL (nm, y)) h14 upd_same (sz (by omega)), ?_⟩
          have tu : ∀ b ys, upd H3 kb (.tup [V.str nm, .int y]) b = some (.tup ys) → upd (upd H3 kb (.tup [V.str nm, .int y])) d (.dT (putK kvs (kyL (nm, y)) v3)) b = some (.tup ys) := tup_of h14 (fun _ z => nomatch z)
          refine ⟨_, _, _, _, _, W', rfl, (s1.trans s14).updD hd, upd_same, Paired.mapP hW' fun _ _ f => ⟨f.1, f.2.tup tu⟩, fun x hx => ?_, by omega, fun _ => hn'⟩
          rcases hm' x hx with q | q
          · exact okE x q
          · rw [q]
            refine ⟨divInt_posQ (by omega) (by omega), Nat.dvd_trans (den_dvd (by omega)) (dvd12 (by omega) (by omega)), Bd.divInt (by omega) (bb (by omega)) (bb (by omega)), ?_⟩
            exact Nat.lt_of_le_of_lt (m := 40000) (show (now - y).natAbs ≤ 40000 by omega) (by decide)
    · rintro σ H1 ⟨v5, v6, v7, v8, kvs, W, rfl, s1, h1, hE, okE, lW, neW⟩
      have lW : W.length ≤ (c.fmod 4).toNat := lW
      have neW : 1 ≤ (c.fmod 4).toNat → W ≠ [] := neW
      exact ⟨_, rfl, k d H1 W hd s1 ⟨d, kvs, rfl, h1, hE⟩ ⟨okE, neW (by omega), by omega⟩⟩
end
end T40
namespace T40
open PySem L2 Tc
section
variable {P : Program} {w : World} {K : PySem.W.Frag} {mg : Str → Option Value} {base : Heap}
abbrev s__law_pick : Stmt := top 29
theorem sc__law_pick : FnScope ["_law_number", "_law_names_here", "_law_now", "_law_some", "_law_first"] ["_law_number", "_law_names_here", "_law_now"] (defScope s__law_pick) := ⟨rfl, rfl, rfl, by decide +kernel, rfl, by decide +kernel, by decide +kernel⟩
theorem ok__law_pick (D : DefAt K mg "_law_pick" s__law_pick) (T : Txt K mg) : FnAt P w K mg base CX0 1 "_law_pick" ["_law_number", "_law_names_here", "_law_now"] (spPick) := by
  refine D.ok sc__law_pick (fun vs H Q E h => ?_) (fun _ _ _ _ _ _ us hl => match us, hl with | [_, _, _], _ => rfl) (fun f cdv A outer s H vs Q E hr h => ?_)
  · obtain ⟨n, now, a, zs, rfl, hz, hl, k⟩ := h; rfl
  · obtain ⟨n, now, a, zs, rfl, hz, hl, k⟩ := h
    have nd := sc__law_pick.nd
    refine ⟨_, (@pss_cons _ _ _ _ _ (@ps_set _ _ 3 _ _ _ _ nd rfl (Or.inl rfl) (@pe_lst _ _ _ _ (@pa_cons _ _ _ _ _ (@pe_tup _ _ _ _ _ (@pa_cons _ _ _ _ _ pe_str (@pa_cons _ _ _ _ _ (pe_ix (ix_list' (K := K) rfl) (pv 1) (@pe_op _ _ _ _ _ _ _ _ op_modN (@pe_op _ _ _ _ _ _ _ _ op_fdivB (pv 0) pe_int) pe_int) (fun _ _ => rfl)) pa_nil (by rfl)) (by rfl))) (@pa_cons _ _ _ _ _ (@pe_tup _ _ _ _ _ (@pa_cons _ _ _ _ _ pe_str (@pa_cons _ _ _ _ _ (@pe_op _ _ _ _ _ _ _ _ op_modN (@pe_op _ _ _ _ _ _ _ _ op_fdivB (pv 0) pe_int) pe_int) pa_nil (by rfl)) (by rfl))) (@pa_cons _ _ _ _ _ (@pe_tup _ _ _ _ _ (@pa_cons _ _ _ _ _ pe_str (@pa_cons _ _ _ _ _ (@pe_op _ _ _ _ _ _ _ _ op_sub (@pe_op _ _ _ _ _ _ _ _ op_modN (@pe_op _ _ _ _ _ _ _ _ op_fdivB (pv 0) pe_int) pe_int) pe_int) pa_nil (by rfl)) (by rfl))) pa_nil (by rfl)) (by rfl)) (by rfl))) (by rfl) (Or.inl rfl))
      (@pss_cons _ _ _ _ _ (@ps_set _ _ 4 _ _ _ _ nd rfl (Or.inl rfl) (pe_callB (call_max2 rfl) (by rfl) T.z_max bt_max (@pa_cons _ _ _ _ _ pe_int (@pa_cons _ _ _ _ _ (pe_callB (call_min2 rfl) (by rfl) T.z_min bt_min (@pa_cons _ _ _ _ _ pe_int (@pa_cons _ _ _ _ _ (@pe_op _ _ _ _ _ _ _ _ op_sub (pv 2) (@pe_op _ _ _ _ _ _ _ _ op_modN (@pe_op _ _ _ _ _ _ _ _ op_fdivB (pv 0) pe_int) pe_int)) pa_nil (by rfl)) (by rfl))) pa_nil (by rfl)) (by rfl))) (by rfl) (Or.inl rfl))
      (@pss_cons _ _ _ _ _ (ps_expr (pe_bm PySem.F.plainAttrs_list PySem.F.slot_list_append PySem.F.type_list_append mt_append (pv 3) (@pa_cons _ _ _ _ _ (@pe_tup _ _ _ _ _ (@pa_cons _ _ _ _ _ pe_str (@pa_cons _ _ _ _ _ (pv 4) (@pa_cons _ _ _ _ _ (pe_callB (call_max2 rfl) (by rfl) T.z_max bt_max (@pa_cons _ _ _ _ _ pe_int (@pa_cons _ _ _ _ _ (pe_callB (call_min2 rfl) (by rfl) T.z_min bt_min (@pa_cons _ _ _ _ _ pe_int (@pa_cons _ _ _ _ _ (@pe_op _ _ _ _ _ _ _ _ op_sub (@pe_op _ _ _ _ _ _ _ _ op_add (pv 2) (@pe_op _ _ _ _ _ _ _ _ op_modN (@pe_op _ _ _ _ _ _ _ _ op_fdivB (pv 0) pe_int) pe_int)) pe_int) pa_nil (by rfl)) (by rfl))) pa_nil (by rfl)) (by rfl))) pa_nil (by rfl)) (by rfl)) (by rfl))) pa_nil (by rfl))))
      (@pss_cons _ _ _ _ _ (ps_expr (pe_bm PySem.F.plainAttrs_list PySem.F.slot_list_append PySem.F.type_list_append mt_append (pv 3) (@pa_cons _ _ _ _ _ (@pe_tup _ _ _ _ _ (@pa_cons _ _ _ _ _ pe_str (@pa_cons _ _ _ _ _ (pe_ix (ix_list' (K := K) rfl) (pv 3) (@pe_op _ _ _ _ _ _ _ _ op_modN (@pe_op _ _ _ _ _ _ _ _ op_fdivB (pv 0) pe_int) pe_int) (fun _ _ => rfl)) pa_nil (by rfl)) (by rfl))) pa_nil (by rfl))))
      (@pss_cons _ _ _ _ _ (ps_expr (pe_bm PySem.F.plainAttrs_list PySem.F.slot_list_append PySem.F.type_list_append mt_append (pv 3) (@pa_cons _ _ _ _ _ (@pe_tup _ _ _ _ _ (@pa_cons _ _ _ _ _ pe_str (@pa_cons _ _ _ _ _ (pe_ix (ix_list' (K := K) rfl) (pv 3) (@pe_op _ _ _ _ _ _ _ _ op_modN (@pe_op _ _ _ _ _ _ _ _ op_fdivB (pv 0) pe_int) pe_int) (fun _ _ => rfl)) (@pa_cons _ _ _ _ _ (pe_ix (ix_list' (K := K) rfl) (pv 3) pe_int (fun _ _ => rfl)) pa_nil (by rfl)) (by rfl)) (by rfl))) pa_nil (by rfl))))
      (@pss_cons _ _ _ _ _ (ps_expr (pe_bm PySem.F.plainAttrs_list PySem.F.slot_list_append PySem.F.type_list_append mt_append (pv 3) (@pa_cons _ _ _ _ _ (@pe_tup _ _ _ _ _ (@pa_cons _ _ _ _ _ pe_str (@pa_cons _ _ _ _ _ (pe_ix (ix_list' (K := K) rfl) (pv 3) (@pe_op _ _ _ _ _ _ _ _ op_modN (@pe_op _ _ _ _ _ _ _ _ op_fdivB (pv 0) pe_int) pe_int) (fun _ _ => rfl)) (@pa_cons _ _ _ _ _ (pe_ix (ix_list' (K := K) rfl) (pv 3) (@pe_op _ _ _ _ _ _ _ _ op_modN (@pe_op _ _ _ _ _ _ _ _ op_fdivB (pv 0) pe_int) pe_int) (fun _ _ => rfl)) pa_nil (by rfl)) (by rfl)) (by rfl))) pa_nil (by rfl))))
      (@pss_one _ _ _ (ps_ret (pe_ix (ix_list' (K := K) rfl) (pv 3) (@pe_op _ _ _ _ _ _ _ _ op_modN (pv 0) pe_int) (fun _ _ => rfl)))))))))), ?_⟩
    have dd : ∀ {i d : Int}, 0 < d → d ≤ 1000000 → CDivB i d := fun h1 h2 => divB_of (by omega) (Nat.lt_of_le_of_lt (m := 1000000) (by omega) (by decide))
    have q3 := fmod_lt (c := n.fdiv 8) (m := 3) (by decide)
    obtain ⟨z, hat⟩ := str_at (zs := zs) q3.1 (by omega)
    refine ⟨_, rfl, _, rfl, _, _, rfl, rfl, dd (by decide) (by decide), _, _, rfl, rfl, (show (3 : Int) ≠ 0 by decide), a, _, _, _, rfl, rfl, SqL.of hz, hat, sz (by simp), fun p1 hp1 => ?_⟩
    refine ⟨_, rfl, _, _, rfl, rfl, dd (by decide) (by decide), _, _, rfl, rfl, (show (30 : Int) ≠ 0 by decide), sz (by simp), fun p2 hp2 => ?_⟩
    refine ⟨_, rfl, _, _, rfl, rfl, dd (by decide) (by decide), _, _, rfl, rfl, (show (20001 : Int) ≠ 0 by decide), _, _, rfl, rfl, sz (by simp), fun p3 hp3 => ?_⟩
    refine ⟨sz (by simp), fun p hp4 => ?_⟩
    have sA := Same.upd (o := .tup [.str "name", .str z]) hp1
    have sB := Same.upd (o := .tup [.str "old", .int ((n.fdiv 8).fmod 30)]) hp2
    have sC := Same.upd (o := .tup [.str "old", .int ((n.fdiv 8).fmod 20001 - 5000)]) hp3
    have sD := Same.upd (o := .lst [.ref p1, .ref p2, .ref p3]) hp4
    have hp : H p = none := by
      cases e : H p with
      | none => rfl
      | some u => rw [sC _ _ (sB _ _ (sA _ _ e))] at hp4; cases hp4
    have L0 : PL H _ p [.ref p1, .ref p2, .ref p3] 3 1 := ⟨sA.trans (sB.trans (sC.trans sD)), upd_same, rfl, fun v hv => by
      simp at hv
      rcases hv with rfl | rfl | rfl
      · exact PkV.name (sD _ _ (sC _ _ (sB _ _ upd_same)))
      · exact PkV.old (sD _ _ (sC _ _ upd_same))
      · exact PkV.old (sD _ _ upd_same)⟩
    refine ⟨_, rfl, _, rfl, _, _, rfl, rfl, dd (by decide) (by decide), _, _, rfl, rfl, (show (25 : Int) ≠ 0 by decide), _, _, rfl, rfl, _, _, rfl, _, _, rfl, ?_⟩
    refine ⟨_, rfl, .inl ⟨rfl, _, SqL.of L0.here⟩, _, rfl, _, rfl, _, rfl, _, _, rfl, rfl, dd (by decide) (by decide), _, _, rfl, rfl, (show (3 : Int) ≠ 0 by decide), _, _, rfl, rfl, _, _, rfl, rfl, _, _, rfl, _, _, rfl, sz (by simp), fun p4 hq4 => ?_⟩
    refine ⟨p, _, _, rfl, rfl, (Same.upd hq4) _ _ L0.here, sz (by simp), ?_⟩
    let f1 : Int := cl (now - (n.fdiv 8).fmod 25)
    let f2 : Int := cl (now + (n.fdiv 200).fmod 3 - 1)
    have L1 := L0.snoc (o := .tup [.str "years", .int f1, .int f2]) hp hq4 (Nat.le_refl 1) fun H' h _ => PkV.years h
    have g4 := fmod_lt (c := n.fdiv 16) (m := 4) (by decide)
    obtain ⟨v1, m1, e1⟩ := L1.get g4.1 g4.2
    refine ⟨_, rfl, .inl ⟨rfl, _, SqL.of L1.here⟩, _, rfl, _, rfl, _, _, rfl, rfl, dd (by decide) (by decide), _, _, rfl, rfl, (show (4 : Int) ≠ 0 by decide), p, _, _, _, rfl, rfl, SqL.of L1.here, e1, sz (by simp), fun p5 hq5 => ?_⟩
    refine ⟨p, _, _, rfl, rfl, (Same.upd hq5) _ _ L1.here, by rw [L1.len]; exact sz (by decide), ?_⟩
    have L2 := L1.snoc hp hq5 (Nat.le_succ 1) fun H' h al => PkV.nay h (al _ m1)
    have g5 := fmod_lt (c := n.fdiv 16) (m := 5) (by decide)
    obtain ⟨v2, m2, e2⟩ := L2.get g5.1 g5.2
    obtain ⟨v3, m3, e3⟩ := L2.get (k := 1) (by decide) (by decide)
    refine ⟨_, rfl, .inl ⟨rfl, _, SqL.of L2.here⟩, _, rfl, _, rfl, _, _, rfl, rfl, dd (by decide) (by decide), _, _, rfl, rfl, (show (5 : Int) ≠ 0 by decide), p, _, _, _, rfl, rfl, SqL.of L2.here, e2, _, rfl, p, _, _, _, rfl, rfl, SqL.of L2.here, e3, sz (by simp), fun p6 hq6 => ?_⟩
    refine ⟨p, _, _, rfl, rfl, (Same.upd hq6) _ _ L2.here, by rw [L2.len]; exact sz (by decide), ?_⟩
    have L3 := L2.snoc hp hq6 (Nat.le_succ 2) fun H' h al => PkV.both h (al _ m2) (al _ m3)
    have g6 := fmod_lt (c := n.fdiv 64) (m := 6) (by decide)
    obtain ⟨v4, m4, e4⟩ := L3.get (k := (n.fdiv 16).fmod 4) g4.1 (by omega)
    obtain ⟨v5, m5, e5⟩ := L3.get g6.1 g6.2
    refine ⟨_, rfl, .inl ⟨rfl, _, SqL.of L3.here⟩, _, rfl, _, rfl, _, _, rfl, rfl, dd (by decide) (by decide), _, _, rfl, rfl, (show (4 : Int) ≠ 0 by decide), p, _, _, _, rfl, rfl, SqL.of L3.here, e4, _, rfl, _, rfl, _, _, rfl, rfl, dd (by decide) (by decide), _, _, rfl, rfl, (show (6 : Int) ≠ 0 by decide), p, _, _, _, rfl, rfl, SqL.of L3.here, e5, sz (by simp), fun p7 hq7 => ?_⟩
    refine ⟨p, _, _, rfl, rfl, (Same.upd hq7) _ _ L3.here, by rw [L3.len]; exact sz (by decide), ?_⟩
    have L4 := L3.snoc hp hq7 (Nat.le_succ 3) fun H' h al => PkV.one h (al _ m4) (al _ m5)
    have g7 := fmod_lt (c := n) (m := 7) (by decide)
    obtain ⟨v6, m6, e6⟩ := L4.get g7.1 g7.2
    exact ⟨_, rfl, _, rfl, _, _, rfl, rfl, (show (7 : Int) ≠ 0 by decide), p, _, _, _, rfl, rfl, SqL.of L4.here, e6, k _ _ L4.same (L4.all _ m6)⟩
end
end T40
namespace T40
open PySem L2 Tc
section
variable {P : Program} {w : World} {K : PySem.W.Frag} {mg : Str → Option Value} {base : Heap}
abbrev s__law_condition : Stmt := top 30
theorem sc__law_condition : FnScope ["_law_cell", "_law_names_here", "_law_now", "_law_number", "_law_bottom", "_law_share"] ["_law_cell", "_law_names_here", "_law_now"] (defScope s__law_condition) := ⟨rfl, rfl, rfl, by decide +kernel, rfl, by decide +kernel, by decide +kernel⟩
theorem ok__law_condition (D : DefAt K mg "_law_condition" s__law_condition) (T : Txt K mg) (G__law_mixed : FnAt P w K mg base CX0 1 "_law_mixed" ["_law_cell", "_law_k"] (spMixed2)) (G__law_lowest : FnAt P w K mg base CX0 2 "_law_lowest" ["_law_top", "_law_bottom"] (spLowest2)) (G__law_pick : FnAt P w K mg base CX0 1 "_law_pick" ["_law_number", "_law_names_here", "_law_now"] (spPick)) : FnAt P w K mg base CX0 3 "_law_condition" ["_law_cell", "_law_names_here", "_law_now"] (spCond) := by
  refine D.ok sc__law_condition (fun vs H Q E h => ?_) (fun _ _ _ _ _ _ us hl => match us, hl with | [_, _, _], _ => rfl) (fun f cdv A outer s H vs Q E hr h => ?_)
  · obtain ⟨c, now, a, zs, rfl, hz, hl, k⟩ := h; rfl
  · obtain ⟨c, now, a, zs, rfl, hz, hl, k⟩ := h
    have nd := sc__law_condition.nd
    refine ⟨_, (@pss_cons _ _ _ _ _ (@ps_set _ _ 3 _ _ _ _ nd rfl (Or.inl rfl) (pe_fn G__law_mixed hr (by rfl) pass0 (@pa_cons _ _ _ _ _ (pv 0) (@pa_cons _ _ _ _ _ pe_int pa_nil (by rfl)) (by rfl))) (by rfl) (Or.inl rfl))
      (@pss_cons _ _ _ _ _ (@ps_set _ _ 4 _ _ _ _ nd rfl (Or.inl rfl) (@pe_op _ _ _ _ _ _ _ _ op_add pe_int (@pe_op _ _ _ _ _ _ _ _ op_modN (@pe_op _ _ _ _ _ _ _ _ op_fdivB (pv 3) pe_int) pe_int)) (by rfl) (Or.inl rfl))
      (@pss_cons _ _ _ _ _ (@ps_set _ _ 5 _ _ _ _ nd rfl (Or.inl rfl) (pe_fn G__law_lowest hr (by rfl) pass0 (@pa_cons _ _ _ _ _ (@pe_op _ _ _ _ _ _ _ _ op_modN (@pe_op _ _ _ _ _ _ _ _ op_fdivB (pv 3) pe_int) (@pe_op _ _ _ _ _ _ _ _ op_add (pv 4) pe_int)) (@pa_cons _ _ _ _ _ (pv 4) pa_nil (by rfl)) (by rfl))) (by rfl) (Or.inl rfl))
      (@pss_cons _ _ _ _ _ (ps_if (pt_cmpR op_eq (@pe_op _ _ _ _ _ _ _ _ op_modN (pv 3) pe_int) pe_int (nomark _)) (@pss_one _ _ _ (ps_ret (@pe_tup _ _ _ _ _ (@pa_cons _ _ _ _ _ pe_str (@pa_cons _ _ _ _ _ (pe_fn G__law_lowest hr (by rfl) pass0 (@pa_cons _ _ _ _ _ (@pe_op _ _ _ _ _ _ _ _ op_sub (@pe_op _ _ _ _ _ _ _ _ op_modN (@pe_op _ _ _ _ _ _ _ _ op_fdivB (pv 3) pe_int) pe_int) pe_int) (@pa_cons _ _ _ _ _ (@pe_op _ _ _ _ _ _ _ _ op_add pe_int (@pe_op _ _ _ _ _ _ _ _ op_modN (@pe_op _ _ _ _ _ _ _ _ op_fdivB (pv 3) pe_int) pe_int)) pa_nil (by rfl)) (by rfl))) pa_nil (by rfl)) (by rfl))))) pss_nil)
      (@pss_one _ _ _ (ps_ret (@pe_tup _ _ _ _ _ (@pa_cons _ _ _ _ _ (pe_ix (ix_list' (K := K) rfl) (@pe_lst _ _ _ _ (@pa_cons _ _ _ _ _ pe_str (@pa_cons _ _ _ _ _ pe_str pa_nil (by rfl)) (by rfl))) (@pe_op _ _ _ _ _ _ _ _ op_modN (pv 3) pe_int) (fun _ _ => rfl)) (@pa_cons _ _ _ _ _ (pv 5) (@pa_cons _ _ _ _ _ (pe_fn G__law_pick hr (by rfl) pass0 (@pa_cons _ _ _ _ _ (pe_fn G__law_mixed hr (by rfl) pass0 (@pa_cons _ _ _ _ _ (pv 0) (@pa_cons _ _ _ _ _ pe_int pa_nil (by rfl)) (by rfl))) (@pa_cons _ _ _ _ _ (pv 1) (@pa_cons _ _ _ _ _ (pv 2) pa_nil (by rfl)) (by rfl)) (by rfl))) pa_nil (by rfl)) (by rfl)) (by rfl))))))))), ?_⟩
    have dd : ∀ {i d : Int}, 0 < d → d ≤ 1000000 → CDivB i d := fun h1 h2 => divB_of (by omega) (Nat.lt_of_le_of_lt (m := 1000000) (by omega) (by decide))
    refine ⟨_, rfl, c, 0, rfl, ⟨by decide, by decide⟩, fun n H1 n0 n1 s1 => ?_⟩
    refine ⟨_, rfl, _, _, rfl, rfl, dd (by decide) (by decide), _, _, rfl, rfl, (show (20 : Int) ≠ 0 by decide), _, _, rfl, rfl, ?_⟩
    have hb : 0 < 1 + (n.fdiv 3).fmod 20 ∧ 1 + (n.fdiv 3).fmod 20 ≤ 1000000000000 := by
      have := fmod_lt (c := n.fdiv 3) (m := 20) (by decide)
      omega
    let b : Int := 1 + (n.fdiv 3).fmod 20
    let t : Int := n.fdiv 60
    have hb : 0 < b ∧ b ≤ 1000000000000 := hb
    have qt := fmod_lt (c := t) (m := b + 1) (by omega)
    have bb : ∀ {x : Int}, x.natAbs ≤ 1000000000000 → x.natAbs < 2 ^ 200 := fun h => Nat.lt_of_le_of_lt h (by decide)
    refine ⟨_, rfl, _, _, rfl, rfl, dd (by decide) (by decide), _, rfl, _, _, rfl, rfl, _, _, rfl, rfl, (show b + 1 ≠ 0 by omega), _, rfl, t.fmod (b + 1), b, rfl, hb.1, Nat.lt_of_lt_of_le (bb (by omega)) (pow_le (by decide)), fun v2 H2 s2 f2 => ?_⟩
    refine ⟨_, rfl, _, _, rfl, rfl, (show (3 : Int) ≠ 0 by decide), rfl, _, rfl, ?_⟩
    have q3 := fmod_lt (c := n) (m := 3) (by decide)
    have bs : Bd 200 (Rat.divInt (t.fmod (b + 1)) b) := Bd.divInt (by omega) (bb (by omega)) (bb (by omega))
    refine ite2 (fun _ => ?_) (fun hne => ?_)
    · have q60 := fmod_lt (c := n.fdiv 3) (m := 60) (by decide)
      have q6 := fmod_lt (c := n.fdiv 180) (m := 6) (by decide)
      refine ⟨_, rfl, _, _, rfl, rfl, dd (by decide) (by decide), _, _, rfl, rfl, (show (60 : Int) ≠ 0 by decide), _, _, rfl, rfl, _, rfl, _, _, rfl, rfl, dd (by decide) (by decide), _, _, rfl, rfl, (show (6 : Int) ≠ 0 by decide), _, _, rfl, rfl, (n.fdiv 3).fmod 60 - 10, 1 + (n.fdiv 180).fmod 6, rfl, by omega, Nat.lt_of_lt_of_le (bb (by omega)) (pow_le (by decide)), fun v3 H3 s3 f3 => ?_⟩
      refine ⟨sz (by simp), fun p hp => ?_⟩
      exact k _ _ (.mean _) (s1.trans (s2.trans (s3.trans (Same.upd hp)))) ⟨p, v3, rfl, upd_same, f3.upd hp⟩ (Bd.divInt (by omega) (bb (by omega)) (bb (by omega)))
    · have hne : ¬ decide (V.int (n.fmod 3) = V.int 2) = true := hne
      have hne : n.fmod 3 ≠ 2 := fun e => hne (decide_eq_true (by rw [e]))
      refine ⟨sz (by simp), fun p hp => ?_⟩
      have sp1 := Same.upd (o := .lst [.str "least", .str "most"]) hp
      have h01 : n.fmod 3 = 0 ∨ n.fmod 3 = 1 := by omega
      rcases h01 with e | e
      · refine ⟨_, rfl, _, _, rfl, rfl, (show (3 : Int) ≠ 0 by decide), p, _, _, .str "least", rfl, rfl, SqL.of upd_same, by rw [e]; rfl, _, rfl, _, rfl, c, 1, rfl, ⟨by decide, by decide⟩, fun m H3 m0 m1 s3 => ?_⟩
        have s13 := s1.trans (s2.trans (sp1.trans s3))
        refine ⟨_, rfl, _, rfl, m, now, a, zs, rfl, s13 _ _ hz, hl, fun v4 H4 s4 ⟨pk, r4, l4⟩ => ⟨sz (by simp), fun p5 hp5 => ?_⟩⟩
        exact k _ _ (.least _ pk) (s13.trans (s4.trans (Same.upd hp5))) ⟨p5, v2, v4, rfl, upd_same, f2.same (sp1.trans (s3.trans (s4.trans (Same.upd hp5)))), r4.same (Same.upd hp5), l4⟩ bs
      · refine ⟨_, rfl, _, _, rfl, rfl, (show (3 : Int) ≠ 0 by decide), p, _, _, .str "most", rfl, rfl, SqL.of upd_same, by rw [e]; rfl, _, rfl, _, rfl, c, 1, rfl, ⟨by decide, by decide⟩, fun m H3 m0 m1 s3 => ?_⟩
        have s13 := s1.trans (s2.trans (sp1.trans s3))
        refine ⟨_, rfl, _, rfl, m, now, a, zs, rfl, s13 _ _ hz, hl, fun v4 H4 s4 ⟨pk, r4, l4⟩ => ⟨sz (by simp), fun p5 hp5 => ?_⟩⟩
        exact k _ _ (.most _ pk) (s13.trans (s4.trans (Same.upd hp5))) ⟨p5, v2, v4, rfl, upd_same, f2.same (sp1.trans (s3.trans (s4.trans (Same.upd hp5)))), r4.same (Same.upd hp5), l4⟩ bs
end
end T40
namespace T40
open PySem L2 Tc
section
variable {P : Program} {w : World} {K : PySem.W.Frag} {mg : Str → Option Value} {base : Heap}
abbrev s__law_meant : Stmt := top 31
theorem sc__law_meant : FnScope ["_law_pick_here", "_law_lot", "_law_now"] ["_law_pick_here", "_law_lot", "_law_now"] (defScope s__law_meant) := ⟨rfl, rfl, rfl, by decide +kernel, rfl, by decide +kernel, by decide +kernel⟩
theorem ok__law_meant (D : DefAt K mg "_law_meant" s__law_meant) (T : Txt K mg) : ∀ d, FnAt P w K mg base CX0 (d + 1) "_law_meant" ["_law_pick_here", "_law_lot", "_law_now"] (spMeans d) := by
  intro d
  induction d with
  | zero =>
    refine D.ok sc__law_meant (fun vs H Q E h => ?_) (fun _ _ _ _ _ _ us hl => match us, hl with | [_, _, _], _ => rfl) (fun f cdv A outer s H vs Q E hr h => ?_)
    · exact False.elim (by obtain ⟨_, _, _, _, _, p, _, _, _, hd, _⟩ := h; have := dp_pos p; omega)
    · exact False.elim (by obtain ⟨_, _, _, _, _, p, _, _, _, hd, _⟩ := h; have := dp_pos p; omega)
  | succ d G__law_meant =>
  refine D.ok sc__law_meant (fun vs H Q E h => ?_) (fun _ _ _ _ _ _ us hl => match us, hl with | [_, _, _], _ => rfl) (fun f cdv A outer s H vs Q E hr h => ?_)
  · obtain ⟨v, l, z, y, now, p, rfl, hl, hp, hd, k⟩ := h; rfl
  · obtain ⟨v, l, z, y, now, p, rfl, hl, hp, hd, k⟩ := h
    have nd := sc__law_meant.nd
    refine ⟨_, (@pss_cons _ _ _ _ _ (ps_if (pt_cmpR op_eq (pe_ix (ix_tup' (K := K) rfl) (pv 0) pe_int (fun _ _ => rfl)) pe_str (nomark _)) (@pss_one _ _ _ (ps_ret (pe_cmpR op_eq (pe_ix (ix_tup' (K := K) rfl) (pv 1) pe_int (fun _ _ => rfl)) (pe_ix (ix_tup' (K := K) rfl) (pv 0) pe_int (fun _ _ => rfl)) (nomark _)))) pss_nil)
      (@pss_cons _ _ _ _ _ (ps_if (pt_cmpR op_eq (pe_ix (ix_tup' (K := K) rfl) (pv 0) pe_int (fun _ _ => rfl)) pe_str (nomark _)) (@pss_one _ _ _ (ps_ret (pe_cmpR op_ge (@pe_op _ _ _ _ _ _ _ _ op_sub (pv 2) (pe_ix (ix_tup' (K := K) rfl) (pv 1) pe_int (fun _ _ => rfl))) (pe_ix (ix_tup' (K := K) rfl) (pv 0) pe_int (fun _ _ => rfl)) (nomark _)))) pss_nil)
      (@pss_cons _ _ _ _ _ (ps_if (pt_cmpR op_eq (pe_ix (ix_tup' (K := K) rfl) (pv 0) pe_int (fun _ _ => rfl)) pe_str (nomark _)) (@pss_one _ _ _ (ps_ret (pe_chain op_le op_le (pe_ix (ix_tup' (K := K) rfl) (pv 0) pe_int (fun _ _ => rfl)) (pe_ix (ix_tup' (K := K) rfl) (pv 1) pe_int (fun _ _ => rfl)) (pe_ix (ix_tup' (K := K) rfl) (pv 0) pe_int (fun _ _ => rfl))))) pss_nil)
      (@pss_cons _ _ _ _ _ (ps_if (pt_cmpR op_eq (pe_ix (ix_tup' (K := K) rfl) (pv 0) pe_int (fun _ _ => rfl)) pe_str (nomark _)) (@pss_one _ _ _ (ps_ret (pe_not (pe_fn G__law_meant hr (by rfl) pass0 (@pa_cons _ _ _ _ _ (pe_ix (ix_tup' (K := K) rfl) (pv 0) pe_int (fun _ _ => rfl)) (@pa_cons _ _ _ _ _ (pv 1) (@pa_cons _ _ _ _ _ (pv 2) pa_nil (by rfl)) (by rfl)) (by rfl)) (by omega))))) pss_nil)
      (@pss_cons _ _ _ _ _ (ps_if (pt_cmpR op_eq (pe_ix (ix_tup' (K := K) rfl) (pv 0) pe_int (fun _ _ => rfl)) pe_str (nomark _)) (@pss_one _ _ _ (ps_ret (pe_and (pe_fn G__law_meant hr (by rfl) pass0 (@pa_cons _ _ _ _ _ (pe_ix (ix_tup' (K := K) rfl) (pv 0) pe_int (fun _ _ => rfl)) (@pa_cons _ _ _ _ _ (pv 1) (@pa_cons _ _ _ _ _ (pv 2) pa_nil (by rfl)) (by rfl)) (by rfl)) (by omega)) (pe_one (pe_fn G__law_meant hr (by rfl) pass0 (@pa_cons _ _ _ _ _ (pe_ix (ix_tup' (K := K) rfl) (pv 0) pe_int (fun _ _ => rfl)) (@pa_cons _ _ _ _ _ (pv 1) (@pa_cons _ _ _ _ _ (pv 2) pa_nil (by rfl)) (by rfl)) (by rfl)) (by omega)))))) pss_nil)
      (@pss_one _ _ _ (ps_ret (pe_or (pe_fn G__law_meant hr (by rfl) pass0 (@pa_cons _ _ _ _ _ (pe_ix (ix_tup' (K := K) rfl) (pv 0) pe_int (fun _ _ => rfl)) (@pa_cons _ _ _ _ _ (pv 1) (@pa_cons _ _ _ _ _ (pv 2) pa_nil (by rfl)) (by rfl)) (by rfl)) (by omega)) (pe_one (pe_fn G__law_meant hr (by rfl) pass0 (@pa_cons _ _ _ _ _ (pe_ix (ix_tup' (K := K) rfl) (pv 0) pe_int (fun _ _ => rfl)) (@pa_cons _ _ _ _ _ (pv 1) (@pa_cons _ _ _ _ _ (pv 2) pa_nil (by rfl)) (by rfl)) (by rfl)) (by omega))))))))))), ?_⟩
    cases p with
    | name n =>
      obtain ⟨a, rfl, ha⟩ := hp
      refine ⟨_, rfl, a, _, _, _, rfl, rfl, SqT.of ha, rfl, rfl, _, rfl, ?_⟩
      refine dec_true rfl ?_
      exact ⟨_, rfl, l, _, _, _, rfl, rfl, SqT.of hl, rfl, _, rfl, a, _, _, _, rfl, rfl, SqT.of ha, rfl, rfl, k⟩
    | old i =>
      obtain ⟨a, rfl, ha⟩ := hp
      refine ⟨_, rfl, a, _, _, _, rfl, rfl, SqT.of ha, rfl, rfl, _, rfl, ?_⟩
      refine dec_false (by decide +kernel) ?_
      refine ⟨_, rfl, a, _, _, _, rfl, rfl, SqT.of ha, rfl, rfl, _, rfl, ?_⟩
      refine dec_true rfl ?_
      exact ⟨_, rfl, _, rfl, l, _, _, _, rfl, rfl, SqT.of hl, rfl, _, _, rfl, rfl, _, rfl, a, _, _, _, rfl, rfl, SqT.of ha, rfl, _, _, rfl, rfl, k⟩
    | years i j =>
      obtain ⟨a, rfl, ha⟩ := hp
      refine ⟨_, rfl, a, _, _, _, rfl, rfl, SqT.of ha, rfl, rfl, _, rfl, ?_⟩
      refine dec_false (by decide +kernel) ?_
      refine ⟨_, rfl, a, _, _, _, rfl, rfl, SqT.of ha, rfl, rfl, _, rfl, ?_⟩
      refine dec_false (by decide +kernel) ?_
      refine ⟨_, rfl, a, _, _, _, rfl, rfl, SqT.of ha, rfl, rfl, _, rfl, ?_⟩
      refine dec_true rfl ?_
      refine ⟨_, rfl, a, _, _, _, rfl, rfl, SqT.of ha, rfl, _, rfl, l, _, _, _, rfl, rfl, SqT.of hl, rfl, _, _, rfl, rfl, _, rfl, ?_⟩
      have k : Q (.bl (decide (i ≤ y) && decide (y ≤ j))) H := k
      refine ite2 (fun h1 => ?_) (fun h1 => ?_)
      · have h1 : decide (i ≤ y) = true := h1
        rw [h1, Bool.true_and] at k
        exact ⟨_, rfl, a, _, _, _, rfl, rfl, SqT.of ha, rfl, _, _, rfl, rfl, k⟩
      · have h1 : ¬ decide (i ≤ y) = true := h1
        rw [Bool.eq_false_iff.mpr h1, Bool.false_and] at k
        exact k
    | nay p =>
      obtain ⟨a, x, rfl, ha, h1⟩ := hp
      have hd : dp p + 1 ≤ d + 1 := hd
      refine ⟨_, rfl, a, _, _, _, rfl, rfl, SqT.of ha, rfl, rfl, _, rfl, ?_⟩
      refine dec_false (by decide +kernel) ?_
      refine ⟨_, rfl, a, _, _, _, rfl, rfl, SqT.of ha, rfl, rfl, _, rfl, ?_⟩
      refine dec_false (by decide +kernel) ?_
      refine ⟨_, rfl, a, _, _, _, rfl, rfl, SqT.of ha, rfl, rfl, _, rfl, ?_⟩
      refine dec_false (by decide +kernel) ?_
      refine ⟨_, rfl, a, _, _, _, rfl, rfl, SqT.of ha, rfl, rfl, _, rfl, ?_⟩
      refine dec_true rfl ?_
      exact ⟨_, rfl, a, _, _, _, rfl, rfl, SqT.of ha, rfl, _, rfl, _, rfl, x, l, z, y, now, p, rfl, hl, h1, by omega, _, rfl, k⟩
    | both p q =>
      obtain ⟨a, x, w, rfl, ha, h1, h2⟩ := hp
      have hd : max (dp p) (dp q) + 1 ≤ d + 1 := hd
      have k : Q (.bl (mean z y now p && mean z y now q)) H := k
      refine ⟨_, rfl, a, _, _, _, rfl, rfl, SqT.of ha, rfl, rfl, _, rfl, ?_⟩
      refine dec_false (by decide +kernel) ?_
      refine ⟨_, rfl, a, _, _, _, rfl, rfl, SqT.of ha, rfl, rfl, _, rfl, ?_⟩
      refine dec_false (by decide +kernel) ?_
      refine ⟨_, rfl, a, _, _, _, rfl, rfl, SqT.of ha, rfl, rfl, _, rfl, ?_⟩
      refine dec_false (by decide +kernel) ?_
      refine ⟨_, rfl, a, _, _, _, rfl, rfl, SqT.of ha, rfl, rfl, _, rfl, ?_⟩
      refine dec_false (by decide +kernel) ?_
      refine ⟨_, rfl, a, _, _, _, rfl, rfl, SqT.of ha, rfl, rfl, _, rfl, ?_⟩
      refine dec_true rfl ?_
      refine ⟨_, rfl, a, _, _, _, rfl, rfl, SqT.of ha, rfl, _, rfl, _, rfl, x, l, z, y, now, p, rfl, hl, h1, by omega, _, rfl, ?_⟩
      refine ite2 (fun e => ?_) (fun e => ?_)
      · have e : mean z y now p = true := e
        rw [e, Bool.true_and] at k
        exact ⟨_, rfl, a, _, _, _, rfl, rfl, SqT.of ha, rfl, _, rfl, _, rfl, w, l, z, y, now, q, rfl, hl, h2, by omega, k⟩
      · have e : ¬ mean z y now p = true := e
        rw [Bool.eq_false_iff.mpr e, Bool.false_and] at k
        exact k
    | one p q =>
      obtain ⟨a, x, w, rfl, ha, h1, h2⟩ := hp
      have hd : max (dp p) (dp q) + 1 ≤ d + 1 := hd
      have k : Q (.bl (mean z y now p || mean z y now q)) H := k
      refine ⟨_, rfl, a, _, _, _, rfl, rfl, SqT.of ha, rfl, rfl, _, rfl, ?_⟩
      refine dec_false (by decide +kernel) ?_
      refine ⟨_, rfl, a, _, _, _, rfl, rfl, SqT.of ha, rfl, rfl, _, rfl, ?_⟩
      refine dec_false (by decide +kernel) ?_
      refine ⟨_, rfl, a, _, _, _, rfl, rfl, SqT.of ha, rfl, rfl, _, rfl, ?_⟩
      refine dec_false (by decide +kernel) ?_
      refine ⟨_, rfl, a, _, _, _, rfl, rfl, SqT.of ha, rfl, rfl, _, rfl, ?_⟩
      refine dec_false (by decide +kernel) ?_
      refine ⟨_, rfl, a, _, _, _, rfl, rfl, SqT.of ha, rfl, rfl, _, rfl, ?_⟩
      refine dec_false (by decide +kernel) ?_
      refine ⟨_, rfl, a, _, _, _, rfl, rfl, SqT.of ha, rfl, _, rfl, _, rfl, x, l, z, y, now, p, rfl, hl, h1, by omega, _, rfl, ?_⟩
      refine ite2 (fun e => ?_) (fun e => ?_)
      · have e : mean z y now p = true := e
        rw [e, Bool.true_or] at k
        exact k
      · have e : ¬ mean z y now p = true := e
        rw [Bool.eq_false_iff.mpr e, Bool.false_or] at k
        exact ⟨_, rfl, a, _, _, _, rfl, rfl, SqT.of ha, rfl, _, rfl, _, rfl, w, l, z, y, now, q, rfl, hl, h2, by omega, k⟩
end
end T40
namespace T40
open PySem L2 Tc
section
variable {P : Program} {w : World} {K : PySem.W.Frag} {mg : Str → Option Value} {base : Heap}
abbrev s__law_factor : Stmt := top 32
theorem sc__law_factor : FnScope ["_law_condition_here", "_law_lot", "_law_now", "_law_top", "_law_bottom", "_law_found"] ["_law_condition_here", "_law_lot", "_law_now"] (defScope s__law_factor) := ⟨rfl, rfl, rfl, by decide +kernel, rfl, by decide +kernel, by decide +kernel⟩
theorem ok__law_factor (D : DefAt K mg "_law_factor" s__law_factor) (T : Txt K mg) (G__law_meant : FnAt P w K mg base CX0 5 "_law_meant" ["_law_pick_here", "_law_lot", "_law_now"] (spMeans 4)) : FnAt P w K mg base CX0 6 "_law_factor" ["_law_condition_here", "_law_lot", "_law_now"] (spFactor) := by
  refine D.ok sc__law_factor (fun vs H Q E h => ?_) (fun _ _ _ _ _ _ us hl => match us, hl with | [_, _, _], _ => rfl) (fun f cdv A outer s H vs Q E hr h => ?_)
  · obtain ⟨v, l, z, y, now, c, rfl, hl, hc, hB, hn, k⟩ := h; rfl
  · obtain ⟨v, l, z, y, now, c, rfl, hl, hc, hB, hn, k⟩ := h
    have nd := sc__law_factor.nd
    refine ⟨_, (@pss_cons _ _ _ _ _ (ps_asg (pe_ix (ix_tup' (K := K) rfl) (pv 0) pe_int (fun _ _ => rfl)) (pg_tup rfl (pgs_cons (pg_name (i := 3) nd rfl (Or.inl rfl)) (pgs_cons (pg_name (i := 4) nd rfl (Or.inl rfl)) pgs_nil))))
      (@pss_cons _ _ _ _ _ (ps_if (pt_cmpR op_eq (pe_ix (ix_tup' (K := K) rfl) (pv 0) pe_int (fun _ _ => rfl)) pe_str (nomark _)) (@pss_one _ _ _ (ps_ret (@pe_op _ _ _ _ _ _ _ _ op_sub (@pe_op _ _ _ _ _ _ _ _ op_mulB (@pe_op _ _ _ _ _ _ _ _ op_sub (pv 2) (pe_ix (ix_tup' (K := K) rfl) (pv 1) pe_int (fun _ _ => rfl))) (pv 4)) (pv 3)))) pss_nil)
      (@pss_cons _ _ _ _ _ (@ps_set _ _ 5 _ _ _ _ nd rfl (Or.inl rfl) (@pe_op _ _ _ _ _ _ _ _ op_sub pe_int (pv 3)) (by rfl) (Or.inl rfl))
      (@pss_cons _ _ _ _ _ (ps_if (pt_val (pe_fn G__law_meant hr (by rfl) pass0 (@pa_cons _ _ _ _ _ (pe_ix (ix_tup' (K := K) rfl) (pv 0) pe_int (fun _ _ => rfl)) (@pa_cons _ _ _ _ _ (pv 1) (@pa_cons _ _ _ _ _ (pv 2) pa_nil (by rfl)) (by rfl)) (by rfl)))) (@pss_one _ _ _ (@ps_set _ _ 5 _ _ _ _ nd rfl (Or.inl rfl) (@pe_op _ _ _ _ _ _ _ _ op_sub (pv 4) (pv 3)) (by rfl) (Or.inl rfl))) pss_nil)
      (@pss_cons _ _ _ _ _ (ps_if (pt_cmpR op_eq (pe_ix (ix_tup' (K := K) rfl) (pv 0) pe_int (fun _ _ => rfl)) pe_str (nomark _)) (@pss_one _ _ _ (ps_ret (@pe_op _ _ _ _ _ _ _ _ op_sub pe_int (pv 5)))) pss_nil)
      (@pss_one _ _ _ (ps_ret (pv 5)))))))), ?_⟩
    cases c with
    | mean r =>
      obtain ⟨a, x, rfl, ha, ⟨b, rfl, hb⟩⟩ := hc
      refine ⟨_, rfl, a, _, _, _, rfl, rfl, SqT.of ha, rfl, b, _, rfl, SqT.of hb, rfl, _, _, rfl, _, _, rfl, rfl, ?_⟩
      refine ⟨_, rfl, a, _, _, _, rfl, rfl, SqT.of ha, rfl, rfl, _, rfl, ?_⟩
      refine dec_true rfl ?_
      have bd : ((r.den : Int)).natAbs < 2 ^ 200 := hB.den
      exact ⟨_, rfl, _, rfl, l, _, _, _, rfl, rfl, SqT.of hl, rfl, _, _, rfl, rfl, _, rfl, _, _, rfl, rfl, mulOk_of 200 (Nat.lt_of_lt_of_le hn (pow_le (by decide))) bd (by decide), _, rfl, _, _, rfl, rfl, k⟩
    | least r p =>
      obtain ⟨a, x, w1, rfl, ha, ⟨b, rfl, hb⟩, hp, hd⟩ := hc
      have k : Q (.int (if mean z y now p = true then r.den - r.num else 0 - r.num)) H := k
      refine ⟨_, rfl, a, _, _, _, rfl, rfl, SqT.of ha, rfl, b, _, rfl, SqT.of hb, rfl, _, _, rfl, _, _, rfl, rfl, ?_⟩
      refine ⟨_, rfl, a, _, _, _, rfl, rfl, SqT.of ha, rfl, rfl, _, rfl, ?_⟩
      refine dec_false (by decide +kernel) ?_
      refine ⟨_, rfl, _, _, rfl, rfl, ?_⟩
      refine ⟨_, rfl, a, _, _, _, rfl, rfl, SqT.of ha, rfl, _, rfl, _, rfl, w1, l, z, y, now, p, rfl, hl, hp, hd, _, rfl, ?_⟩
      refine ite2 (fun e => ?_) (fun e => ?_)
      · rw [if_pos e] at k
        refine ⟨_, rfl, _, rfl, _, _, rfl, rfl, ?_⟩
        refine ⟨_, rfl, a, _, _, _, rfl, rfl, SqT.of ha, rfl, rfl, _, rfl, ?_⟩
        refine dec_false (by decide +kernel) ?_
        exact ⟨_, rfl, k⟩
      · rw [if_neg e] at k
        refine ⟨_, rfl, a, _, _, _, rfl, rfl, SqT.of ha, rfl, rfl, _, rfl, ?_⟩
        refine dec_false (by decide +kernel) ?_
        exact ⟨_, rfl, k⟩
    | most r p =>
      obtain ⟨a, x, w1, rfl, ha, ⟨b, rfl, hb⟩, hp, hd⟩ := hc
      have k : Q (.int (0 - (if mean z y now p = true then r.den - r.num else 0 - r.num))) H := k
      refine ⟨_, rfl, a, _, _, _, rfl, rfl, SqT.of ha, rfl, b, _, rfl, SqT.of hb, rfl, _, _, rfl, _, _, rfl, rfl, ?_⟩
      refine ⟨_, rfl, a, _, _, _, rfl, rfl, SqT.of ha, rfl, rfl, _, rfl, ?_⟩
      refine dec_false (by decide +kernel) ?_
      refine ⟨_, rfl, _, _, rfl, rfl, ?_⟩
      refine ⟨_, rfl, a, _, _, _, rfl, rfl, SqT.of ha, rfl, _, rfl, _, rfl, w1, l, z, y, now, p, rfl, hl, hp, hd, _, rfl, ?_⟩
      refine ite2 (fun e => ?_) (fun e => ?_)
      · rw [if_pos e] at k
        refine ⟨_, rfl, _, rfl, _, _, rfl, rfl, ?_⟩
        refine ⟨_, rfl, a, _, _, _, rfl, rfl, SqT.of ha, rfl, rfl, _, rfl, ?_⟩
        refine dec_true rfl ?_
        exact ⟨_, rfl, _, _, rfl, rfl, k⟩
      · rw [if_neg e] at k
        refine ⟨_, rfl, a, _, _, _, rfl, rfl, SqT.of ha, rfl, rfl, _, rfl, ?_⟩
        refine dec_true rfl ?_
        exact ⟨_, rfl, _, _, rfl, rfl, k⟩
end
end T40
namespace T40
open PySem L2 Tc
section
variable {P : Program} {w : World} {K : PySem.W.Frag} {mg : Str → Option Value} {base : Heap}
abbrev s__law_units : Stmt := top 33
theorem sc__law_units : FnScope ["_law_amount"] ["_law_amount"] (defScope s__law_units) := ⟨rfl, rfl, rfl, by decide +kernel, rfl, by decide +kernel, by decide +kernel⟩
theorem ok__law_units (D : DefAt K mg "_law_units" s__law_units) (T : Txt K mg) : FnAt P w K mg base CX0 1 "_law_units" ["_law_amount"] (spUnits) := by
  refine D.ok sc__law_units (fun vs H Q E h => ?_) (fun _ _ _ _ _ _ us hl => match us, hl with | [_], _ => rfl) (fun f cdv A outer s H vs Q E hr h => ?_)
  · obtain ⟨_, r, rfl, ⟨a, rfl, ha⟩, br, k⟩ := h; rfl
  · obtain ⟨_, r, rfl, ⟨a, rfl, ha⟩, br, k⟩ := h
    have nd := sc__law_units.nd
    refine ⟨_, (@pss_one _ _ _ (ps_ret (@pe_op _ _ _ _ _ _ _ _ op_mulB (pe_ix (ix_tup' (K := K) rfl) (pv 0) pe_int (fun _ _ => rfl)) (@pe_op _ _ _ _ _ _ _ _ op_fdivB pe_int (pe_ix (ix_tup' (K := K) rfl) (pv 0) pe_int (fun _ _ => rfl)))))), ?_⟩
    have d := rat_den_pos r
    refine ⟨_, rfl, a, _, _, _, rfl, rfl, SqT.of ha, rfl, _, rfl, a, _, _, _, rfl, rfl, SqT.of ha, rfl, _, _, rfl, rfl, divB_of (by omega) (Nat.lt_of_lt_of_le br.den (pow_le (by decide))), _, _, rfl, rfl, mulOk_of 100 br.num ?_ (by decide), k⟩
    have h1 := natAbs_fdiv_le (27720 : Int) r.den
    have e2 : (27720 : Int).natAbs = 27720 := rfl
    exact Nat.lt_of_le_of_lt (show ((27720 : Int).fdiv r.den).natAbs ≤ 30000 by omega) (by decide)
end
end T40
namespace T40
open PySem L2 Tc
section
variable {P : Program} {w : World} {K : PySem.W.Frag} {mg : Str → Option Value} {base : Heap}
abbrev s__law_weighed : Stmt := top 34
theorem sc__law_weighed : FnScope ["_law_condition_here", "_law_wine_here", "_law_now"] ["_law_condition_here", "_law_wine_here", "_law_now"] (defScope s__law_weighed) := ⟨rfl, rfl, rfl, by decide +kernel, rfl, by decide +kernel, by decide +kernel⟩
theorem ok__law_weighed (D : DefAt K mg "_law_weighed" s__law_weighed) (T : Txt K mg) (G__law_units : FnAt P w K mg base CX0 1 "_law_units" ["_law_amount"] (spUnits)) (G__law_factor : FnAt P w K mg base CX0 6 "_law_factor" ["_law_condition_here", "_law_lot", "_law_now"] (spFactor)) : FnAt P w K mg base CX0 7 "_law_weighed" ["_law_condition_here", "_law_wine_here", "_law_now"] (spWghd) := by
  refine D.ok sc__law_weighed (fun vs H Q E h => ?_) (fun _ _ _ _ _ _ us hl => match us, hl with | [_, _, _], _ => rfl) (fun f cdv A outer s H vs Q E hr h => ?_)
  · obtain ⟨v, _, now, c, W, rfl, hc, bc, ⟨d, kvs, rfl, hd, hE⟩, ok, k⟩ := h; rfl
  · obtain ⟨v, _, now, c, W, rfl, hc, bc, ⟨d, kvs, rfl, hd, hE⟩, ok, k⟩ := h
    have nd := sc__law_weighed.nd
    refine ⟨_, (@pss_one _ _ _ (ps_ret (pe_callB (call_sum' (K := K) rfl rfl) (by rfl) T.z_sum bt_sum (@pa_cons _ _ _ _ _ (pe_thaw (pe_comp ["_law_lot", "_law_amount"] ["_law_condition_here", "_law_now"] [0, 2] rfl (by rfl) (pi_items (pe_bm0' (K := K) rfl PySem.F.plainAttrs_dict PySem.F.slot_dict_items PySem.F.type_dict_items mt_items (pv 1))) (fun _ _ _ _ => (pg_tup' (K := K) (n := 2) (by rfl) (by rfl) (pgs_cons (pg_name (i := 0) (show List.Nodup (["_law_lot", "_law_amount", "_law_condition_here", "_law_now"] : List Str) from by decide) rfl (Or.inl rfl) (hf := Or.inr (by rfl))) (pgs_cons (pg_name (i := 1) (show List.Nodup (["_law_lot", "_law_amount", "_law_condition_here", "_law_now"] : List Str) from by decide) rfl (Or.inl rfl) (hf := Or.inr (by rfl))) pgs_nil)))) (fun _ _ _ _ => pif_none) (fun _ _ _ _ => (@pe_op _ _ _ _ _ _ _ _ op_mulB (pe_fn G__law_units hr (by rfl) pass0 (@pa_cons _ _ _ _ _ (pv 1) pa_nil (by rfl))) (pe_fn G__law_factor hr (by rfl) pass0 (@pa_cons _ _ _ _ _ (pv 2) (@pa_cons _ _ _ _ _ (pv 0) (@pa_cons _ _ _ _ _ (pv 3) pa_nil (by rfl)) (by rfl)) (by rfl))))))) pa_nil (by rfl))))), ?_⟩
    refine ⟨d, _, hd, rfl, ?_⟩
    refine ⟨_, rfl, .inr (.inr (.inl ⟨rfl, .inr ⟨_, hd⟩⟩)), d, _, rfl, rfl, hd, rfl, fun pv hpv => ?_⟩
    have t1 := Same.upd (o := viewO pv d) hpv
    refine ⟨pv, d, _, rfl, upd_same, t1 _ _ hd, rfl, fun o ps hps D hD => ?_⟩
    have hps : Paired (fun kv p => ∃ b, p = (V.ref b, kv.2) ∧ upd H pv (viewO pv d) b = some (.tup (kv.1.map kV))) kvs ps := hps
    have lps : ps.length = W.length := by rw [← hps.length, hE.length]
    have hd1 := t1 _ _ hd
    have hc1 := RepC.same t1 hc
    have hE1 : Paired (EnV (upd H pv (viewO pv d))) kvs W := Paired.mapP hE fun _ _ f => ⟨f.1, f.2.same t1⟩
    generalize upd H pv (viewO pv d) = H1 at *
    have notd : ∀ {b : Addr} {zs : List V}, H1 b = some (.tup zs) → b ≠ d := fun e => ne_of e hd1 (by intro z; cases z)
    have nDd : D ≠ d := fun e => by rw [e, upd_same] at hD; cases hD
    have hD1 : H1 D = none := by rw [upd_ne nDd] at hD; exact hD
    refine block_items (fun i σ' H2 => ∃ (v0 v1 : Option V), σ' = [v0, v1, some v, some (.int now)] ∧ H2 d = some (.frz o (.dT kvs)) ∧ (∀ b ob, H1 b = some ob → b ≠ d → H2 b = some ob) ∧ H2 D = some (.lst (((W.take i).map fun e => unZ e.2 * fac e.1.1 e.1.2 now c).map V.int))) ?_ ?_ ?_ ?_
    · refine ⟨none, none, rfl, by rw [upd_ne nDd.symm]; exact upd_same, fun b ob e n => ?_, upd_same⟩
      rw [upd_ne (ne_of_none e hD1), upd_ne n]; exact e
    · rintro i σ' H2 ⟨_, _, _, h, _⟩
      exact h
    · rintro i k' a' T σ' H2 hk ⟨v0, v1, rfl, hfz, kp, hD2⟩ hT
      obtain ⟨b, e, rfl, hb, he, fa⟩ := pss_at hps hE1 hk
      have ti := Same.upd (o := .tup [V.ref b, a']) hT
      have kt : ∀ x zs, H1 x = some (.tup zs) → upd H2 T (.tup [V.ref b, a']) x = some (.tup zs) := fun x zs e => ti _ _ (kp _ _ e (notd e))
      have oke := ok.all e (List.mem_of_getElem? he)
      have rc : RepC (upd H2 T (.tup [V.ref b, a'])) c v := RepC.tup kt hc1
      have hil : i < W.length := (List.getElem?_eq_some_iff.mp he).1
      have l3 := ok.len
      refine ⟨T, _, rfl, SqT.of upd_same, rfl, _, _, rfl, _, _, rfl, rfl, ?_⟩
      refine ⟨_, rfl, a', e.2, rfl, fa.tup kt, oke.bd, _, rfl, _, rfl, _, rfl, v, b, e.1.1, e.1.2, now, c, rfl, kt _ _ hb, rc, bc, oke.yr, _, _, rfl, rfl, mulOk_of 400 (Nat.lt_of_lt_of_le (unZ_bd oke.bd) (pow_le (by decide))) (fac_bd bc oke.yr) (by decide), ?_⟩
      have hD3 := ti _ _ hD2
      refine ⟨_, hD3, by rw [List.length_map, List.length_map, List.length_take]; exact sz (by omega), _, _, rfl, by rw [upd_ne nDd.symm]; exact ti _ _ hfz, fun x ob ex n => ?_, ?_⟩
      · rw [upd_ne (ne_of_none ex hD1)]; exact ti _ _ (kp x ob ex n)
      · have ew : W.take (i + 1) = W.take i ++ [e] := by rw [List.take_add_one, he]; rfl
        rw [upd_same, ew, List.map_append, List.map_append]; rfl
    · rintro σ' H2 ⟨v0, v1, rfl, hfz, kp, hD2⟩
      rw [lps, List.take_length] at hD2
      have sH : Same H (upd H2 d (.dT kvs)) := fun x ob ex => by
        by_cases z : x = d
        · subst z; rw [upd_same]; rw [hd] at ex; exact ex
        · rw [upd_ne z]; exact kp _ _ (t1 _ _ ex) z
      refine ⟨o, _, hfz, D, _, rfl, SqL.of (by rw [upd_ne nDd]; exact hD2), k _ sH⟩
end
end T40
namespace T40
open PySem L2 Tc
section
variable {P : Program} {w : World} {K : PySem.W.Frag} {mg : Str → Option Value} {base : Heap}
abbrev s__law_offer : Stmt := top 37
theorem sc__law_offer : FnScope ["_law_script", "_law_at", "_law_names_here", "_law_now", "_law_offer_here", "_law_k", "_law_cell", "_law_other", "_law_wine_here", "_law_price"] ["_law_script", "_law_at", "_law_names_here", "_law_now"] (defScope s__law_offer) := ⟨rfl, rfl, rfl, by decide +kernel, rfl, by decide +kernel, by decide +kernel⟩
theorem ok__law_offer (D : DefAt K mg "_law_offer" s__law_offer) (T : Txt K mg) (G__law_cell_at : FnAt P w K mg base CX0 1 "_law_cell_at" ["_law_script", "_law_k"] (spCell K)) (G__law_wine : FnAt P w K mg base CX0 3 "_law_wine" ["_law_cell", "_law_other", "_law_names_here", "_law_now"] (spWine)) (G__law_lowest : FnAt P w K mg base CX0 2 "_law_lowest" ["_law_top", "_law_bottom"] (spLowest2)) (G__law_mixed : FnAt P w K mg base CX0 1 "_law_mixed" ["_law_cell", "_law_k"] (spMixed2)) : FnAt P w K mg base CX0 4 "_law_offer" ["_law_script", "_law_at", "_law_names_here", "_law_now"] (spOffer K) := by
  refine D.ok sc__law_offer (fun vs H Q E h => ?_) (fun _ _ _ _ _ _ us hl => match us, hl with | [_, _, _, _], _ => rfl) (fun f cdv A outer s H vs Q E hr h => ?_)
  · obtain ⟨a, ns, at', an, zs, now, rfl, hS, a0, a1, hz, hl3, hnow, k⟩ := h; rfl
  · obtain ⟨a, ns, at', an, zs, now, rfl, hS, a0, a1, hz, hl3, hnow, k⟩ := h
    have nd := sc__law_offer.nd
    refine ⟨_, (@pss_cons _ _ _ _ _ (@ps_set _ _ 4 _ _ _ _ nd rfl (Or.inl rfl) (@pe_lst _ _ _ _ pa_nil) (by rfl) (Or.inl rfl))
      (@pss_cons _ _ _ _ _ (ps_for PassesOwn.never rfl (pi_range1 (by rfl) T.z_range (@pa_cons _ _ _ _ _ (@pe_op _ _ _ _ _ _ _ _ op_add pe_int (@pe_op _ _ _ _ _ _ _ _ op_modN (pe_fn G__law_cell_at hr (by rfl) pass0 (@pa_cons _ _ _ _ _ (pv 0) (@pa_cons _ _ _ _ _ (pv 1) pa_nil (by rfl)) (by rfl))) pe_int)) pa_nil (by rfl))) (pg_name (i := 5) nd rfl (Or.inl rfl)) (@pss_cons _ _ _ _ _ (@ps_set _ _ 6 _ _ _ _ nd rfl (Or.inl rfl) (pe_fn G__law_cell_at hr (by rfl) pass0 (@pa_cons _ _ _ _ _ (pv 0) (@pa_cons _ _ _ _ _ (@pe_op _ _ _ _ _ _ _ _ op_add (@pe_op _ _ _ _ _ _ _ _ op_add (pv 1) pe_int) (@pe_op _ _ _ _ _ _ _ _ op_mulB pe_int (pv 5))) pa_nil (by rfl)) (by rfl))) (by rfl) (Or.inl rfl))
      (@pss_cons _ _ _ _ _ (@ps_set _ _ 7 _ _ _ _ nd rfl (Or.inl rfl) (pe_fn G__law_cell_at hr (by rfl) pass0 (@pa_cons _ _ _ _ _ (pv 0) (@pa_cons _ _ _ _ _ (@pe_op _ _ _ _ _ _ _ _ op_add (@pe_op _ _ _ _ _ _ _ _ op_add (pv 1) pe_int) (@pe_op _ _ _ _ _ _ _ _ op_mulB pe_int (pv 5))) pa_nil (by rfl)) (by rfl))) (by rfl) (Or.inl rfl))
      (@pss_cons _ _ _ _ _ (@ps_set _ _ 8 _ _ _ _ nd rfl (Or.inl rfl) (pe_fn G__law_wine hr (by rfl) pass0 (@pa_cons _ _ _ _ _ (@pe_op _ _ _ _ _ _ _ _ op_add (@pe_op _ _ _ _ _ _ _ _ op_add (@pe_op _ _ _ _ _ _ _ _ op_mulB (@pe_op _ _ _ _ _ _ _ _ op_fdivB (pv 6) pe_int) pe_int) pe_int) (@pe_op _ _ _ _ _ _ _ _ op_modN (pv 6) pe_int)) (@pa_cons _ _ _ _ _ (@pe_op _ _ _ _ _ _ _ _ op_modN (pv 7) pe_int) (@pa_cons _ _ _ _ _ (pv 2) (@pa_cons _ _ _ _ _ (pv 3) pa_nil (by rfl)) (by rfl)) (by rfl)) (by rfl))) (by rfl) (Or.inl rfl))
      (@pss_cons _ _ _ _ _ (@ps_set _ _ 9 _ _ _ _ nd rfl (Or.inl rfl) (pe_fn G__law_lowest hr (by rfl) pass0 (@pa_cons _ _ _ _ _ (@pe_op _ _ _ _ _ _ _ _ op_modN (pe_fn G__law_mixed hr (by rfl) pass0 (@pa_cons _ _ _ _ _ (pv 7) (@pa_cons _ _ _ _ _ pe_int pa_nil (by rfl)) (by rfl))) pe_int) (@pa_cons _ _ _ _ _ (@pe_op _ _ _ _ _ _ _ _ op_add pe_int (@pe_op _ _ _ _ _ _ _ _ op_modN (pe_fn G__law_mixed hr (by rfl) pass0 (@pa_cons _ _ _ _ _ (pv 7) (@pa_cons _ _ _ _ _ pe_int pa_nil (by rfl)) (by rfl))) pe_int)) pa_nil (by rfl)) (by rfl))) (by rfl) (Or.inl rfl))
      (@pss_one _ _ _ (ps_expr (pe_bm PySem.F.plainAttrs_list PySem.F.slot_list_append PySem.F.type_list_append mt_append (pv 4) (@pa_cons _ _ _ _ _ (@pe_tup _ _ _ _ _ (@pa_cons _ _ _ _ _ (pv 8) (@pa_cons _ _ _ _ _ (pv 9) pa_nil (by rfl)) (by rfl))) pa_nil (by rfl))))))))))
      (@pss_one _ _ _ (ps_ret (pv 4))))), ?_⟩
    have dd : ∀ {i d : Int}, 0 < d → d ≤ 1000000 → CDivB i d := fun h1 h2 => divB_of (by omega) (Nat.lt_of_le_of_lt (m := 1000000) (by omega) (by decide))
    refine ⟨sz (by simp), fun p hp => ?_⟩
    have tp := Same.upd (o := .lst []) hp
    refine ⟨_, rfl, _, rfl, a, ns, at', rfl, tp.seq hS, a0, fun c0 => ⟨_, _, rfl, rfl, (show (8 : Int) ≠ 0 by decide), _, _, rfl, rfl, _, rfl, ?_, ?_, ?_⟩⟩
    · have := fmod_lt (c := c0) (m := 8) (by decide)
      omega
    · have := fmod_lt (c := c0) (m := 8) (by decide)
      omega
    have q8 := fmod_lt (c := c0) (m := 8) (by decide)
    refine for_range (fun i σ H1 => ∃ (v5 v6 v7 v8 v9 : Option V) (os : List V) (Ws : List (List Ent)), σ = [some (.ref a), some (.int at'), some (.ref an), some (.int now), some (.ref p), v5, v6, v7, v8, v9] ∧ Same H H1 ∧ H1 p = some (.lst os) ∧ Paired (OfV H1) os Ws ∧ (∀ W ∈ Ws, OkW now W) ∧ Ws.length = i) ⟨none, none, none, none, none, [], [], rfl, tp, upd_same, .nil, (fun _ z => nomatch z), rfl⟩ ?_ ?_
    · rintro i σ H1 hi ⟨v5, v6, v7, v8, v9, os, Ws, rfl, s1, h1, hO, okW, lW⟩
      have hi : i < 8 := by
        have hi : i < (1 + c0.fmod 8).toNat := hi
        omega
      have lO : os.length = Ws.length := hO.length
      have hS1 := s1.seq hS
      have m2 : IntMulOk 2 (0 + (i : Int)) := mulOk_of 64 (by decide) (Nat.lt_of_le_of_lt (m := 10) (by omega) (by decide)) (by decide)
      refine ⟨_, rfl, _, rfl, _, _, rfl, rfl, _, rfl, _, _, rfl, rfl, m2, _, _, rfl, rfl, a, ns, at' + 1 + 2 * (0 + (i : Int)), rfl, hS1, by omega, fun c => ?_⟩
      refine ⟨_, rfl, _, rfl, _, _, rfl, rfl, _, rfl, _, _, rfl, rfl, m2, _, _, rfl, rfl, a, ns, at' + 2 + 2 * (0 + (i : Int)), rfl, hS1, by omega, fun o => ?_⟩
      have q3 := fmod_lt (c := c) (m := 3) (by decide)
      have q1000 := fmod_lt (c := o) (m := 1000) (by decide)
      have hz1 := s1 _ _ hz
      have c4 : 1 ≤ (c.fdiv 3 * 4 + 1 + c.fmod 3).fmod 4 := by
        rw [Int.fmod_eq_emod_of_nonneg _ (by decide)]
        omega
      refine ⟨_, rfl, _, _, rfl, rfl, dd (by decide) (by decide), _, _, rfl, rfl, IntMulOk.of_right (by decide), _, _, rfl, rfl, _, rfl, _, _, rfl, rfl, (show (3 : Int) ≠ 0 by decide), _, _, rfl, rfl, _, rfl, _, _, rfl, rfl, (show (1000 : Int) ≠ 0 by decide), _, rfl, _, rfl, c.fdiv 3 * 4 + 1 + c.fmod 3, o.fmod 1000, an, zs, now, rfl, hz1, hl3, hnow, c4, q1000, fun d H2 W hd s2 wv ok => ?_⟩
      refine ⟨_, rfl, o, 2, rfl, ⟨by decide, by decide⟩, fun m2' H3 m20 m21 s3 => ⟨_, _, rfl, rfl, (show (25 : Int) ≠ 0 by decide), _, rfl, o, 3, rfl, ⟨by decide, by decide⟩, fun m3 H4 m30 m31 s4 => ⟨_, _, rfl, rfl, (show (3 : Int) ≠ 0 by decide), _, _, rfl, rfl, ?_⟩⟩⟩
      have qm := fmod_lt (c := m3) (m := 3) (by decide)
      refine ⟨m2'.fmod 25, 1 + m3.fmod 3, rfl, by omega, Nat.lt_of_le_of_lt (m := 10) (by omega) (by decide), fun v5' H5 s5 f5 => ?_⟩
      have s25 := s3.trans (s4.trans s5)
      have s15 := s2.trans s25
      have h15 := s15 _ _ h1
      refine ⟨_, rfl, .inl ⟨rfl, _, SqL.of h15⟩, _, rfl, _, rfl, sz (by simp), fun q hq => ?_⟩
      have tq := Same.upd (o := .tup [V.ref d, v5']) hq
      have h16 := tq _ _ h15
      refine ⟨p, _, _, rfl, rfl, h16, sz (by omega), ?_⟩
      have s26 := s25.trans tq
      have s16 := s15.trans tq
      have up : ∀ {v : V} {W : List Ent}, OfV (upd H5 q (.tup [V.ref d, v5'])) v W → OfV (upd (upd H5 q (.tup [V.ref d, v5'])) p (.lst (os ++ [.ref q]))) v W := by
        rintro v W ⟨b, w, pr, e, hb, d', kvs, e2, hd', hE⟩
        have tu := tup_of (o := .lst (os ++ [.ref q])) h16 (fun _ z => nomatch z)
        exact ⟨b, w, pr, e, tu _ _ hb, d', kvs, e2, by rw [upd_ne (ne_of hd' h16 (by intro z; cases z))]; exact hd', Paired.mapP hE fun _ _ f => ⟨f.1, f.2.tup tu⟩⟩
      refine ⟨_, _, _, _, _, os ++ [.ref q], Ws ++ [W], rfl, (s1.trans s16).updD hp, upd_same, Paired.snoc (Paired.mapP hO fun _ _ f => up (f.same s16)) (up ⟨q, _, _, rfl, upd_same, wv.same s26⟩), fun X hX => ?_, by rw [List.length_append, lW]; rfl⟩
      rcases List.mem_append.mp hX with e | e
      · exact okW X e
      · rw [List.mem_singleton.mp e]; exact ok
    · rintro σ H1 ⟨v5, v6, v7, v8, v9, os, Ws, rfl, s1, h1, hO, okW, lW⟩
      have lW : Ws.length = (1 + c0.fmod 8).toNat := lW
      exact ⟨_, rfl, k p H1 os Ws hp s1 h1 hO okW (by omega) (by omega)⟩
end
end T40
namespace T40
open PySem L2 Tc
section
variable {P : Program} {w : World} {K : PySem.W.Frag} {mg : Str → Option Value} {base : Heap}
abbrev s__law_total : Stmt := top 38
theorem sc__law_total : FnScope ["_law_wine_here"] ["_law_wine_here"] (defScope s__law_total) := ⟨rfl, rfl, rfl, by decide +kernel, rfl, by decide +kernel, by decide +kernel⟩
theorem ok__law_total (D : DefAt K mg "_law_total" s__law_total) (T : Txt K mg) (G__law_units : FnAt P w K mg base CX0 1 "_law_units" ["_law_amount"] (spUnits)) : FnAt P w K mg base CX0 2 "_law_total" ["_law_wine_here"] (spLTot) := by
  refine D.ok sc__law_total (fun vs H Q E h => ?_) (fun _ _ _ _ _ _ us hl => match us, hl with | [_], _ => rfl) (fun f cdv A outer s H vs Q E hr h => ?_)
  · obtain ⟨_, now, W, rfl, ⟨d, kvs, rfl, hd, hE⟩, ok, k⟩ := h; rfl
  · obtain ⟨_, now, W, rfl, ⟨d, kvs, rfl, hd, hE⟩, ok, k⟩ := h
    have nd := sc__law_total.nd
    refine ⟨_, (@pss_one _ _ _ (ps_ret (pe_callB (call_sum' (K := K) rfl rfl) (by rfl) T.z_sum bt_sum (@pa_cons _ _ _ _ _ (pe_thaw (pe_comp ["_law_lot", "_law_amount"] [] [] rfl (by rfl) (pi_items (pe_bm0' (K := K) rfl PySem.F.plainAttrs_dict PySem.F.slot_dict_items PySem.F.type_dict_items mt_items (pv 0))) (fun _ _ _ _ => (pg_tup' (K := K) (n := 2) (by rfl) (by rfl) (pgs_cons (pg_name (i := 0) (show List.Nodup (["_law_lot", "_law_amount"] : List Str) from by decide) rfl (Or.inl rfl) (hf := Or.inr (by rfl))) (pgs_cons (pg_name (i := 1) (show List.Nodup (["_law_lot", "_law_amount"] : List Str) from by decide) rfl (Or.inl rfl) (hf := Or.inr (by rfl))) pgs_nil)))) (fun _ _ _ _ => pif_none) (fun _ _ _ _ => (pe_fn G__law_units hr (by rfl) pass0 (@pa_cons _ _ _ _ _ (pv 1) pa_nil (by rfl)))))) pa_nil (by rfl))))), ?_⟩
    refine ⟨d, _, hd, rfl, ?_⟩
    refine ⟨_, rfl, .inr (.inr (.inl ⟨rfl, .inr ⟨_, hd⟩⟩)), d, _, rfl, rfl, hd, rfl, fun pv hpv => ?_⟩
    have t1 := Same.upd (o := viewO pv d) hpv
    refine ⟨pv, d, _, rfl, upd_same, t1 _ _ hd, rfl, fun o ps hps D hD => ?_⟩
    have hps : Paired (fun kv p => ∃ b, p = (V.ref b, kv.2) ∧ upd H pv (viewO pv d) b = some (.tup (kv.1.map kV))) kvs ps := hps
    have lps : ps.length = W.length := by rw [← hps.length, hE.length]
    have hd1 := t1 _ _ hd
    have hE1 : Paired (EnV (upd H pv (viewO pv d))) kvs W := Paired.mapP hE fun _ _ f => ⟨f.1, f.2.same t1⟩
    generalize upd H pv (viewO pv d) = H1 at *
    have notd : ∀ {b : Addr} {zs : List V}, H1 b = some (.tup zs) → b ≠ d := fun e => ne_of e hd1 (by intro z; cases z)
    have nDd : D ≠ d := fun e => by rw [e, upd_same] at hD; cases hD
    have hD1 : H1 D = none := by rw [upd_ne nDd] at hD; exact hD
    refine block_items (fun i σ' H2 => ∃ (v0 v1 : Option V), σ' = [v0, v1] ∧ H2 d = some (.frz o (.dT kvs)) ∧ (∀ b ob, H1 b = some ob → b ≠ d → H2 b = some ob) ∧ H2 D = some (.lst (((W.take i).map fun e => unZ e.2).map V.int))) ?_ ?_ ?_ ?_
    · refine ⟨none, none, rfl, by rw [upd_ne nDd.symm]; exact upd_same, fun b ob e n => ?_, upd_same⟩
      rw [upd_ne (ne_of_none e hD1), upd_ne n]; exact e
    · rintro i σ' H2 ⟨_, _, _, h, _⟩
      exact h
    · rintro i k' a' T σ' H2 hk ⟨v0, v1, rfl, hfz, kp, hD2⟩ hT
      obtain ⟨b, e, rfl, hb, he, fa⟩ := pss_at hps hE1 hk
      have ti := Same.upd (o := .tup [V.ref b, a']) hT
      have kt : ∀ x zs, H1 x = some (.tup zs) → upd H2 T (.tup [V.ref b, a']) x = some (.tup zs) := fun x zs e => ti _ _ (kp _ _ e (notd e))
      have oke := ok.all e (List.mem_of_getElem? he)
      have hil : i < W.length := (List.getElem?_eq_some_iff.mp he).1
      have l3 := ok.len
      refine ⟨T, _, rfl, SqT.of upd_same, rfl, _, _, rfl, _, _, rfl, rfl, ?_⟩
      refine ⟨_, rfl, a', e.2, rfl, fa.tup kt, oke.bd, ?_⟩
      have hD3 := ti _ _ hD2
      refine ⟨_, hD3, by rw [List.length_map, List.length_map, List.length_take]; exact sz (by omega), _, _, rfl, by rw [upd_ne nDd.symm]; exact ti _ _ hfz, fun x ob ex n => ?_, ?_⟩
      · rw [upd_ne (ne_of_none ex hD1)]; exact ti _ _ (kp x ob ex n)
      · have ew : W.take (i + 1) = W.take i ++ [e] := by rw [List.take_add_one, he]; rfl
        rw [upd_same, ew, List.map_append, List.map_append]; rfl
    · rintro σ' H2 ⟨v0, v1, rfl, hfz, kp, hD2⟩
      rw [lps, List.take_length] at hD2
      have sH : Same H (upd H2 d (.dT kvs)) := fun x ob ex => by
        by_cases z : x = d
        · subst z; rw [upd_same]; rw [hd] at ex; exact ex
        · rw [upd_ne z]; exact kp _ _ (t1 _ _ ex) z
      refine ⟨o, _, hfz, D, _, rfl, SqL.of (by rw [upd_ne nDd]; exact hD2), k _ sH⟩
end
end T40
namespace T40
open PySem L2 Tc
section
variable {P : Program} {w : World} {K : PySem.W.Frag} {mg : Str → Option Value} {base : Heap}
abbrev s__law_label : Stmt := top 39
theorem sc__law_label : FnScope ["_law_script", "_law_at", "_law_most", "_law_names_here", "_law_now", "_law_many"] ["_law_script", "_law_at", "_law_most", "_law_names_here", "_law_now"] (defScope s__law_label) := ⟨rfl, rfl, rfl, by decide +kernel, rfl, by decide +kernel, by decide +kernel⟩
theorem ok__law_label (D : DefAt K mg "_law_label" s__law_label) (T : Txt K mg) (G__law_cell_at : FnAt P w K mg base CX0 1 "_law_cell_at" ["_law_script", "_law_k"] (spCell K)) (G__law_condition : FnAt P w K mg base CX0 3 "_law_condition" ["_law_cell", "_law_names_here", "_law_now"] (spCond)) : FnAt P w K mg base CX0 4 "_law_label" ["_law_script", "_law_at", "_law_most", "_law_names_here", "_law_now"] (spLabel K) := by
  refine D.ok sc__law_label (fun vs H Q E h => ?_) (fun _ _ _ _ _ _ us hl => match us, hl with | [_, _, _, _, _], _ => rfl) (fun f cdv A outer s H vs Q E hr h => ?_)
  · obtain ⟨a, ns, at', an, zs, now, rfl, hS, a0, a1, hz, hl3, k⟩ := h; rfl
  · obtain ⟨a, ns, at', an, zs, now, rfl, hS, a0, a1, hz, hl3, k⟩ := h
    have nd := sc__law_label.nd
    refine ⟨_, (@pss_cons _ _ _ _ _ (@ps_set _ _ 5 _ _ _ _ nd rfl (Or.inl rfl) (@pe_op _ _ _ _ _ _ _ _ op_modN (pe_fn G__law_cell_at hr (by rfl) pass0 (@pa_cons _ _ _ _ _ (pv 0) (@pa_cons _ _ _ _ _ (pv 1) pa_nil (by rfl)) (by rfl))) (@pe_op _ _ _ _ _ _ _ _ op_add (pv 2) pe_int)) (by rfl) (Or.inl rfl))
      (@pss_one _ _ _ (ps_ret (pe_comp ["_law_k"] ["_law_names_here", "_law_now", "_law_script", "_law_at"] [3, 4, 0, 1] rfl (by rfl) (pi_range1 (by rfl) T.z_range (@pa_cons _ _ _ _ _ (pv 5) pa_nil (by rfl))) (fun _ _ _ _ => (pg_name (i := 0) (show List.Nodup (["_law_k", "_law_names_here", "_law_now", "_law_script", "_law_at"] : List Str) from by decide) rfl (Or.inl rfl))) (fun _ _ _ _ => pif_none) (fun _ _ _ _ => (pe_fn G__law_condition hr (by rfl) pass0 (@pa_cons _ _ _ _ _ (@pe_op _ _ _ _ _ _ _ _ op_fdivB (pe_fn G__law_cell_at hr (by rfl) pass0 (@pa_cons _ _ _ _ _ (pv 3) (@pa_cons _ _ _ _ _ (@pe_op _ _ _ _ _ _ _ _ op_add (pv 4) (pv 0)) pa_nil (by rfl)) (by rfl))) pe_int) (@pa_cons _ _ _ _ _ (pv 1) (@pa_cons _ _ _ _ _ (pv 2) pa_nil (by rfl)) (by rfl)) (by rfl)))))))), ?_⟩
    have dd : ∀ {i d : Int}, 0 < d → d ≤ 1000000 → CDivB i d := fun h1 h2 => divB_of (by omega) (Nat.lt_of_le_of_lt (m := 1000000) (by omega) (by decide))
    refine ⟨_, rfl, _, rfl, a, ns, at', rfl, hS, a0, fun c0 => ⟨_, rfl, _, _, rfl, rfl, _, _, rfl, rfl, (show (5 : Int) + 1 ≠ 0 by decide), ?_⟩⟩
    have q6 := fmod_lt (c := c0) (m := (5 : Int) + 1) (by decide)
    refine ⟨_, rfl, _, rfl, by omega, by omega, fun D hD => ?_⟩
    refine block_range (fun i σ' H' => ∃ (v : Option V) (ls : List V) (cs : List Cond), σ' = [v, some (.ref an), some (.int now), some (.ref a), some (.int at')] ∧ Same H H' ∧ H' D = some (.lst ls) ∧ Paired (CdV H') ls cs ∧ cs.length = i) ⟨none, [], [], rfl, Same.upd hD, upd_same, .nil, rfl⟩ ?_ ?_
    · rintro i σ' H' hi ⟨v, ls, cs, rfl, s1, hd, hC, lC⟩
      have hi : i < 6 := by
        have hi : i < (c0.fmod (5 + 1)).toNat := hi
        omega
      have lL : ls.length = cs.length := hC.length
      refine ⟨_, rfl, _, rfl, _, rfl, _, _, rfl, rfl, a, ns, at' + (0 + (i : Int)), rfl, s1.seq hS, by omega, fun c => ⟨_, _, rfl, rfl, dd (by decide) (by decide), _, rfl, _, rfl, c.fdiv 3, now, an, zs, rfl, s1 _ _ hz, hl3, fun v2 H2 cc s2 rc bc => ?_⟩⟩
      have hd2 := s2 _ _ hd
      have tu := tup_of (o := .lst (ls ++ [v2])) hd2 (fun _ z => nomatch z)
      refine ⟨_, hd2, sz (by omega), _, ls ++ [v2], cs ++ [cc], rfl, (s1.trans s2).updD hD, upd_same, Paired.snoc (Paired.mapP hC fun _ _ f => ⟨RepC.tup tu (RepC.same s2 f.1), f.2⟩) ⟨RepC.tup tu rc, bc⟩, by rw [List.length_append, lC]; rfl⟩
    · rintro σ' H1 ⟨v, ls, cs, rfl, s1, hd, hC, lC⟩
      have lC : cs.length = (c0.fmod (5 + 1)).toNat := lC
      exact k D H1 ls cs hD s1 hd hC (by omega)
end
end T40
namespace T40
open PySem L2 Tc
section
variable {P : Program} {w : World} {K : PySem.W.Frag} {mg : Str → Option Value} {base : Heap}
abbrev s__law_sum : Stmt := top 41
theorem sc__law_sum : FnScope ["_law_some", "_law_top", "_law_bottom", "_law_one"] ["_law_some"] (defScope s__law_sum) := ⟨rfl, rfl, rfl, by decide +kernel, rfl, by decide +kernel, by decide +kernel⟩
theorem ok__law_sum (D : DefAt K mg "_law_sum" s__law_sum) (T : Txt K mg) (G__law_lowest : FnAt P w K mg base CX0 2 "_law_lowest" ["_law_top", "_law_bottom"] (spLowest2)) : FnAt P w K mg base CX0 3 "_law_sum" ["_law_some"] (spLSum K) := by
  refine D.ok sc__law_sum (fun vs H Q E h => ?_) (fun _ _ _ _ _ _ us hl => match us, hl with | [_], _ => rfl) (fun f cdv A outer s H vs Q E hr h => ?_)
  · obtain ⟨a, xs, ps, rfl, hA, hX, hB, hT, k⟩ := h; rfl
  · obtain ⟨a, xs, ps, rfl, hA, hX, hB, hT, k⟩ := h
    have nd := sc__law_sum.nd
    refine ⟨_, (@pss_cons _ _ _ _ _ (@ps_set _ _ 1 _ _ _ _ nd rfl (Or.inl rfl) pe_int (by rfl) (Or.inl rfl))
      (@pss_cons _ _ _ _ _ (@ps_set _ _ 2 _ _ _ _ nd rfl (Or.inl rfl) pe_int (by rfl) (Or.inl rfl))
      (@pss_cons _ _ _ _ _ (ps_for PassesOwn.never rfl (pi_list' (K := K) rfl (pv 0)) (pg_name (i := 3) nd rfl (Or.inl rfl)) (@pss_one _ _ _ (ps_asg (pe_fn G__law_lowest hr (by rfl) pass0 (@pa_cons _ _ _ _ _ (@pe_op _ _ _ _ _ _ _ _ op_add (@pe_op _ _ _ _ _ _ _ _ op_mulB (pv 1) (pe_ix (ix_tup' (K := K) rfl) (pv 3) pe_int (fun _ _ => rfl))) (@pe_op _ _ _ _ _ _ _ _ op_mulB (pe_ix (ix_tup' (K := K) rfl) (pv 3) pe_int (fun _ _ => rfl)) (pv 2))) (@pa_cons _ _ _ _ _ (@pe_op _ _ _ _ _ _ _ _ op_mulB (pv 2) (pe_ix (ix_tup' (K := K) rfl) (pv 3) pe_int (fun _ _ => rfl))) pa_nil (by rfl)) (by rfl))) (pg_tup rfl (pgs_cons (pg_name (i := 1) nd rfl (Or.inl rfl)) (pgs_cons (pg_name (i := 2) nd rfl (Or.inl rfl)) pgs_nil))))))
      (@pss_one _ _ _ (ps_ret (@pe_tup _ _ _ _ _ (@pa_cons _ _ _ _ _ (pv 1) (@pa_cons _ _ _ _ _ (pv 2) pa_nil (by rfl)) (by rfl)))))))), ?_⟩
    have lX : xs.length = ps.length := hX.length
    refine ⟨_, rfl, a, rfl, ⟨_, hA⟩, ?_⟩
    refine for_list (xs := xs) (fun i σ H1 => ∃ (v3 : Option V), σ = [some (.ref a), some (.int (sumL (ps.take i) quI).num), some (.int ((sumL (ps.take i) quI).den : Nat)), v3] ∧ Same H H1) ⟨none, rfl, Same.refl _⟩ ?_ ?_ ?_
    · rintro i σ H1 hi ⟨v3, rfl, s1⟩
      exact s1.seq hA
    · rintro i x σ H1 hx ⟨v3, rfl, s1⟩
      obtain ⟨p, hp, c, rfl, hc0⟩ := paired_get hX hx
      have hc := s1 _ _ hc0
      obtain ⟨p0, p1, p2⟩ := hB p (List.mem_of_getElem? hp)
      have hi : i < ps.length := (List.getElem?_eq_some_iff.mp hp).1
      have bS := hT i (by omega)
      have dS := rat_den_pos (sumL (ps.take i) quI)
      have bd : ((sumL (ps.take i) quI).den : Int).natAbs < 2 ^ 1000 := bS.den
      refine ⟨_, rfl, _, rfl, c, _, _, _, rfl, rfl, SqT.of hc, rfl, _, _, rfl, rfl, mulOk_of 1000 bS.num p2 (by decide), _, rfl, c, _, _, _, rfl, rfl, SqT.of hc, rfl, _, rfl, _, _, rfl, rfl, mulOk_of 1000 p1 bd (by decide), _, _, rfl, rfl, _, rfl, _, rfl, c, _, _, _, rfl, rfl, SqT.of hc, rfl, _, _, rfl, rfl, mulOk_of 1000 bd p2 (by decide), (sumL (ps.take i) quI).num * p.2 + p.1 * ((sumL (ps.take i) quI).den : Nat), ((sumL (ps.take i) quI).den : Nat) * p.2, rfl, Int.mul_pos (by omega) p0, Nat.lt_of_lt_of_le (natAbs_mul_lt bd p2) (pow_le (by decide)), fun v2 H2 s2 f2 => ?_⟩
      rw [add_qu _ p p0] at f2
      obtain ⟨b, rfl, hb⟩ := f2
      refine ⟨b, _, rfl, SqT.of hb, rfl, _, _, rfl, _, _, rfl, rfl, ?_⟩
      have ep : ps.take (i + 1) = ps.take i ++ [p] := by rw [List.take_add_one, hp]; rfl
      refine ⟨some (.ref c), ?_, s1.trans s2⟩
      rw [ep, sumL_snoc]; rfl
    · rintro σ H1 ⟨v3, rfl, s1⟩
      refine ⟨_, rfl, _, rfl, sz (by simp), fun p hp => ?_⟩
      rw [lX, List.take_length]
      exact k _ _ (s1.trans (Same.upd hp)) (FrV.newOf rfl rfl)
end
end T40
namespace T40
open PySem L2 Tc
section
variable {P : Program} {w : World} {K : PySem.W.Frag} {mg : Str → Option Value} {base : Heap}
abbrev s__law_kept : Stmt := top 42
theorem sc__law_kept : FnScope ["_law_offer_here", "_law_label_here", "_law_now", "_law_amounts_here", "_law_condition_here", "_law_parts", "_law_entry", "_law_amount"] ["_law_offer_here", "_law_label_here", "_law_now", "_law_amounts_here"] (defScope s__law_kept) := ⟨rfl, rfl, rfl, by decide +kernel, rfl, by decide +kernel, by decide +kernel⟩
theorem ok__law_kept (D : DefAt K mg "_law_kept" s__law_kept) (T : Txt K mg) (G__law_total : FnAt P w K mg base CX0 2 "_law_total" ["_law_wine_here"] (spLTot)) (G__law_weighed : FnAt P w K mg base CX0 7 "_law_weighed" ["_law_condition_here", "_law_wine_here", "_law_now"] (spWghd)) (G__law_sum : FnAt P w K mg base CX0 3 "_law_sum" ["_law_some"] (spLSum K)) : FnAt P w K mg base CX0 8 "_law_kept" ["_law_offer_here", "_law_label_here", "_law_now", "_law_amounts_here"] (spLKept K) := by
  refine D.ok sc__law_kept (fun vs H Q E h => ?_) (fun _ _ _ _ _ _ us hl => match us, hl with | [_, _, _, _], _ => rfl) (fun f cdv A outer s H vs Q E hr h => ?_)
  · obtain ⟨ao, al, aa, now, os, ls, as, zs, cs, rfl, hO, hPo, hA, hPa, okz, h8, hL, hPl, hc8, k⟩ := h; rfl
  · obtain ⟨ao, al, aa, now, os, ls, as, zs, cs, rfl, hO, hPo, hA, hPa, okz, h8, hL, hPl, hc8, k⟩ := h
    have nd := sc__law_kept.nd
    refine ⟨_, (@pss_cons _ _ _ _ _ (ps_for PassesOwn.never rfl (pi_list' (K := K) rfl (pv 1)) (pg_name (i := 4) nd rfl (Or.inl rfl)) (@pss_cons _ _ _ _ _ (@ps_set _ _ 5 _ _ _ _ nd rfl (Or.inl rfl) (@pe_lst _ _ _ _ pa_nil) (by rfl) (Or.inl rfl))
      (@pss_cons _ _ _ _ _ (ps_for PassesOwn.never rfl (pi_zip (K := K) rfl (by rfl) T.z_zip (@pa_cons _ _ _ _ _ (pv 0) (@pa_cons _ _ _ _ _ (pv 3) pa_nil (by rfl)) (by rfl))) (pg_tup rfl (pgs_cons (pg_name (i := 6) nd rfl (Or.inl rfl)) (pgs_cons (pg_name (i := 7) nd rfl (Or.inl rfl)) pgs_nil))) (@pss_one _ _ _ (ps_expr (pe_bm PySem.F.plainAttrs_list PySem.F.slot_list_append PySem.F.type_list_append mt_append (pv 5) (@pa_cons _ _ _ _ _ (@pe_tup _ _ _ _ _ (@pa_cons _ _ _ _ _ (@pe_op _ _ _ _ _ _ _ _ op_mulB (pe_ix (ix_tup' (K := K) rfl) (pv 7) pe_int (fun _ _ => rfl)) (pe_fn G__law_weighed hr (by rfl) pass0 (@pa_cons _ _ _ _ _ (pv 4) (@pa_cons _ _ _ _ _ (pe_ix (ix_tup' (K := K) rfl) (pv 6) pe_int (fun _ _ => rfl)) (@pa_cons _ _ _ _ _ (pv 2) pa_nil (by rfl)) (by rfl)) (by rfl)))) (@pa_cons _ _ _ _ _ (@pe_op _ _ _ _ _ _ _ _ op_mulB (pe_ix (ix_tup' (K := K) rfl) (pv 7) pe_int (fun _ _ => rfl)) (pe_fn G__law_total hr (by rfl) pass0 (@pa_cons _ _ _ _ _ (pe_ix (ix_tup' (K := K) rfl) (pv 6) pe_int (fun _ _ => rfl)) pa_nil (by rfl)))) pa_nil (by rfl)) (by rfl))) pa_nil (by rfl))))))
      (@pss_one _ _ _ (ps_if (pt_cmpR op_lt (pe_ix (ix_tup' (K := K) rfl) (pe_fn G__law_sum hr (by rfl) pass0 (@pa_cons _ _ _ _ _ (pv 5) pa_nil (by rfl))) pe_int (fun _ _ => rfl)) pe_int (nomark _)) (@pss_one _ _ _ (ps_ret pe_bl)) pss_nil)))))
      (@pss_one _ _ _ (ps_ret pe_bl))), ?_⟩
    have lO : os.length = zs.length := hPo.length
    have lA : as.length = zs.length := hPa.length
    have lL : ls.length = cs.length := hPl.length
    refine ⟨_, rfl, al, rfl, ⟨_, hL⟩, ?_⟩
    refine for_list (xs := ls) (fun i σ H1 => ∃ (v4 v5 v6 v7 : Option V), σ = [some (.ref ao), some (.ref al), some (.int now), some (.ref aa), v4, v5, v6, v7] ∧ Same H H1 ∧ ((cs.take i).all fun c => decide (0 ≤ sumL zs (proQ now c))) = true) ⟨none, none, none, none, rfl, Same.refl _, rfl⟩ ?_ ?_ ?_
    · rintro i σ H1 hi ⟨v4, v5, v6, v7, rfl, s1, al1⟩
      exact s1.seq hL
    · rintro i x σ H1 hx ⟨v4, v5, v6, v7, rfl, s1, al1⟩
      obtain ⟨c, hc, rc, bc⟩ := paired_get hPl hx
      have hcm := List.mem_of_getElem? hc
      refine ⟨sz (by simp), fun pp hpp => ?_⟩
      have tp := Same.upd (o := .lst []) hpp
      have s2 := s1.trans tp
      refine ⟨_, rfl, _, rfl, ao, aa, os, as, rfl, s2.seq hO, s2.seq hA, ?_⟩
      refine for_zip (xs := os) (ys := as) (fun j σ H3 => ∃ (v6 v7 : Option V) (ws : List V) (qs : List I2), σ = [some (.ref ao), some (.ref al), some (.int now), some (.ref aa), some x, some (.ref pp), v6, v7] ∧ Same H1 H3 ∧ H3 pp = some (.lst ws) ∧ Paired (PrI H3) ws qs ∧ qs = (zs.take j).map fun z => (z.2.num * wghZ now c z.1, (z.2.den : Int) * totZ z.1)) (by omega) ⟨_, _, [], [], rfl, tp, upd_same, .nil, rfl⟩ ?_ ?_ ?_
      · rintro j σ H3 hj ⟨v6, v7, ws, qs, rfl, s3, h3, hW, eq⟩
        exact ⟨(s1.trans s3).seq hO, (s1.trans s3).seq hA⟩
      · rintro j u y T σ H3 hu hy ⟨v6, v7, ws, qs, rfl, s3, h3, hW, eq⟩ hT
        obtain ⟨z, hz, ox⟩ := paired_get hPo hu
        obtain ⟨z', hz', fy⟩ := paired_get hPa hy
        rw [hz] at hz'
        cases hz'
        have ok := okz z (List.mem_of_getElem? hz)
        have hj : j < zs.length := (List.getElem?_eq_some_iff.mp hz).1
        have tT := Same.upd (o := .tup [u, y]) hT
        have s4 := (s1.trans s3).trans tT
        obtain ⟨a, wn, pr, rfl, ha, wv1⟩ := ox.same s4
        obtain ⟨b, rfl, hb⟩ := fy.same s4
        have h34 := tT _ _ h3
        have lW : ws.length ≤ 8 := by
          have := hW.length
          rw [eq, List.length_map, List.length_take] at this
          omega
        have bw : (wghZ now c z.1).natAbs < 2 ^ 700 := Nat.lt_of_le_of_lt (wghZ_bd ok.w bc) (by decide)
        have bt : (totZ z.1).natAbs < 2 ^ 700 := Nat.lt_of_le_of_lt (totZ_bd ok.w) (by decide)
        have bn : z.2.num.natAbs < 2 ^ 700 := Nat.lt_of_lt_of_le ok.bd.num (pow_le (by decide))
        have bd : (z.2.den : Int).natAbs < 2 ^ 700 := Nat.lt_of_lt_of_le ok.bd.den (pow_le (by decide))
        refine ⟨T, _, rfl, SqT.of upd_same, rfl, _, _, rfl, _, _, rfl, rfl, ?_⟩
        refine ⟨_, rfl, .inl ⟨rfl, _, SqL.of h34⟩, _, rfl, b, _, _, _, rfl, rfl, SqT.of hb, rfl, _, rfl, _, rfl, a, _, _, _, rfl, rfl, SqT.of ha, rfl, _, rfl, x, wn, now, c, z.1, rfl, RepC.same s4 rc, bc, wv1, ok.w, fun H5 s5 => ?_⟩
        refine ⟨_, _, rfl, rfl, mulOk_of 700 bn bw (by decide), _, rfl, b, _, _, _, rfl, rfl, SqT.of (s5 _ _ hb), rfl, _, rfl, a, _, _, _, rfl, rfl, SqT.of (s5 _ _ ha), rfl, wn, now, z.1, rfl, wv1.same s5, ok.w, fun H6 s6 => ?_⟩
        refine ⟨_, _, rfl, rfl, mulOk_of 700 bd bt (by decide), sz (by simp), fun q hq => ?_⟩
        have tq := Same.upd (o := .tup [.int (z.2.num * wghZ now c z.1), .int ((z.2.den : Nat) * totZ z.1)]) hq
        have s47 := s5.trans (s6.trans tq)
        have h37 := s47 _ _ h34
        refine ⟨pp, _, _, rfl, rfl, h37, sz (by omega), ?_⟩
        have tu := tup_of (o := .lst (ws ++ [.ref q])) h37 (fun _ z => nomatch z)
        refine ⟨_, _, ws ++ [.ref q], qs ++ [(z.2.num * wghZ now c z.1, (z.2.den : Int) * totZ z.1)], rfl, (s3.trans (tT.trans s47)).updD hpp, upd_same, Paired.snoc (Paired.mapP hW fun _ _ f => ?_) ⟨q, rfl, tu _ _ upd_same⟩, ?_⟩
        · obtain ⟨w, e, hw⟩ := f
          exact ⟨w, e, tu _ _ (s47 _ _ (tT _ _ hw))⟩
        · have ez : zs.take (j + 1) = zs.take j ++ [z] := by rw [List.take_add_one, hz]; rfl
          rw [ez, List.map_append, eq]; rfl
      · rintro σ H3 ⟨v6, v7, ws, qs, rfl, s3, h3, hW, eq⟩
        rw [lO, List.take_length] at eq
        have hqu : ∀ z : Zz, quI (z.2.num * wghZ now c z.1, (z.2.den : Int) * totZ z.1) = parQ now c z := fun z => rfl
        have hsum : ∀ j, sumL (qs.take j) quI = sumL (zs.take j) (parQ now c) := fun j => by
          rw [eq, ← List.map_take, sumL_map]; rfl
        refine ⟨_, rfl, pp, ws, qs, rfl, SqL.of h3, hW, fun p hp => ?_, fun j hj => ?_, fun v4 H4 s4 f4 => ?_⟩
        · rw [eq] at hp
          obtain ⟨z, hz, rfl⟩ := List.mem_map.mp hp
          have ok := okz z hz
          have d := rat_den_pos z.2
          have bn : z.2.num.natAbs < 2 ^ 200 := ok.bd.num
          have bd : (z.2.den : Int).natAbs < 2 ^ 200 := ok.bd.den
          refine ⟨Int.mul_pos (by omega) (totZ_pos ok.w), ?_, ?_⟩
          · exact Nat.lt_of_lt_of_le (natAbs_mul_lt (n := 600) bn (Nat.lt_of_le_of_lt (wghZ_bd ok.w bc) (by decide))) (pow_le (by decide))
          · exact Nat.lt_of_lt_of_le (natAbs_mul_lt (n := 600) bd (Nat.lt_of_le_of_lt (totZ_bd ok.w) (by decide))) (pow_le (by decide))
        · rw [hsum]
          exact (par_sum (zs := zs.take j) (fun z hz => okz z (List.mem_of_mem_take hz)) (by rw [List.length_take]; omega) bc).mono (by decide)
        have es : sumL qs quI = sumL zs (parQ now c) := by
          rw [eq, sumL_map]; rfl
        rw [es] at f4
        obtain ⟨b, rfl, hb⟩ := f4
        have s14 := s3.trans s4
        refine ⟨b, _, _, _, rfl, rfl, SqT.of hb, rfl, _, _, rfl, rfl, _, rfl, ?_⟩
        refine ite2 (fun hn => ?_) (fun hn => ?_)
        · have hn : (sumL zs (parQ now c)).num < 0 := of_decide_eq_true hn
          have bad : ¬ 0 ≤ sumL zs (proQ now c) := (sign_pro okz).mp hn
          have hf : (cs.all fun c => decide (0 ≤ sumL zs (proQ now c))) = false := by
            rw [List.all_eq_false]
            exact ⟨c, hcm, by rw [decide_eq_false bad]; decide⟩
          have := k _ (s1.trans s14)
          rw [hf] at this
          exact this
        · have hn : ¬ (sumL zs (parQ now c)).num < 0 := fun e => hn (decide_eq_true e)
          have good : 0 ≤ sumL zs (proQ now c) := by
            by_cases q : 0 ≤ sumL zs (proQ now c)
            · exact q
            · exact absurd ((sign_pro okz).mpr q) hn
          refine ⟨_, _, _, _, rfl, s1.trans s14, ?_⟩
          have ec : cs.take (i + 1) = cs.take i ++ [c] := by rw [List.take_add_one, hc]; rfl
          rw [ec, List.all_append, al1]
          show (true && (decide (0 ≤ sumL zs (proQ now c)) && true)) = true
          rw [decide_eq_true good]; rfl
    · rintro σ H1 ⟨v4, v5, v6, v7, rfl, s1, al1⟩
      rw [lL, List.take_length] at al1
      have := k _ s1
      rw [al1] at this
      exact this
end
end T40
namespace T40
open PySem L2 Tc
section
variable {P : Program} {w : World} {K : PySem.W.Frag} {mg : Str → Option Value} {base : Heap}
abbrev s__law_is_blend : Stmt := top 43
theorem sc__law_is_blend : FnScope ["_law_offer_here", "_law_wish", "_law_now", "_law_amounts_here", "_law_entry", "_law_amount"] ["_law_offer_here", "_law_wish", "_law_now", "_law_amounts_here"] (defScope s__law_is_blend) := ⟨rfl, rfl, rfl, by decide +kernel, rfl, by decide +kernel, by decide +kernel⟩
theorem ok__law_is_blend (D : DefAt K mg "_law_is_blend" s__law_is_blend) (T : Txt K mg) (G__law_total : FnAt P w K mg base CX0 2 "_law_total" ["_law_wine_here"] (spLTot)) (G__law_kept : FnAt P w K mg base CX0 8 "_law_kept" ["_law_offer_here", "_law_label_here", "_law_now", "_law_amounts_here"] (spLKept K)) (G__law_sum : FnAt P w K mg base CX0 3 "_law_sum" ["_law_some"] (spLSum K)) : FnAt P w K mg base CX0 9 "_law_is_blend" ["_law_offer_here", "_law_wish", "_law_now", "_law_amounts_here"] (spBlend K) := by
  refine D.ok sc__law_is_blend (fun vs H Q E h => ?_) (fun _ _ _ _ _ _ us hl => match us, hl with | [_, _, _, _], _ => rfl) (fun f cdv A outer s H vs Q E hr h => ?_)
  · obtain ⟨ao, aw, al, aa, now, os, ls, as, zs, cs, wv, w, rfl, hO, hPo, hA, hPa, okz, h8, hw, fw0, hL, hPl, hc8, k⟩ := h; rfl
  · obtain ⟨ao, aw, al, aa, now, os, ls, as, zs, cs, wv, w, rfl, hO, hPo, hA, hPa, okz, h8, hw, fw0, hL, hPl, hc8, k⟩ := h
    have nd := sc__law_is_blend.nd
    refine ⟨_, (@pss_cons _ _ _ _ _ (ps_for PassesOwn.never rfl (pi_zip (K := K) rfl (by rfl) T.z_zip (@pa_cons _ _ _ _ _ (pv 0) (@pa_cons _ _ _ _ _ (pv 3) pa_nil (by rfl)) (by rfl))) (pg_tup rfl (pgs_cons (pg_name (i := 4) nd rfl (Or.inl rfl)) (pgs_cons (pg_name (i := 5) nd rfl (Or.inl rfl)) pgs_nil))) (@pss_one _ _ _ (ps_if (PW.pt (pw_or (pt_cmpR op_lt (pe_ix (ix_tup' (K := K) rfl) (pv 5) pe_int (fun _ _ => rfl)) pe_int (nomark _)) (pw_or1 (pt_cmpR op_gt (@pe_op _ _ _ _ _ _ _ _ op_mulB pe_int (pe_ix (ix_tup' (K := K) rfl) (pv 5) pe_int (fun _ _ => rfl))) (@pe_op _ _ _ _ _ _ _ _ op_mulB (pe_fn G__law_total hr (by rfl) pass0 (@pa_cons _ _ _ _ _ (pe_ix (ix_tup' (K := K) rfl) (pv 4) pe_int (fun _ _ => rfl)) pa_nil (by rfl))) (pe_ix (ix_tup' (K := K) rfl) (pv 5) pe_int (fun _ _ => rfl))) (nomark _))))) (@pss_one _ _ _ (ps_ret pe_bl)) pss_nil)))
      (@pss_one _ _ _ (ps_ret (pe_and (pe_cmpR (op_eqD' (K := K) rfl hr) (pe_fn G__law_sum hr (by rfl) pass0 (@pa_cons _ _ _ _ _ (pv 3) pa_nil (by rfl))) (pe_ix (ix_tup' (K := K) rfl) (pv 1) pe_int (fun _ _ => rfl)) (nomark _)) (pe_one (pe_fn G__law_kept hr (by rfl) pass0 (@pa_cons _ _ _ _ _ (pv 0) (@pa_cons _ _ _ _ _ (pe_ix (ix_tup' (K := K) rfl) (pv 1) pe_int (fun _ _ => rfl)) (@pa_cons _ _ _ _ _ (pv 2) (@pa_cons _ _ _ _ _ (pv 3) pa_nil (by rfl)) (by rfl)) (by rfl)) (by rfl)))))))), ?_⟩
    have lO : os.length = zs.length := hPo.length
    have lA : as.length = zs.length := hPa.length
    refine ⟨_, rfl, _, rfl, ao, aa, os, as, rfl, hO, hA, ?_⟩
    refine for_zip (xs := os) (ys := as) (fun j σ H1 => ∃ (v4 v5 : Option V), σ = [some (.ref ao), some (.ref aw), some (.int now), some (.ref aa), v4, v5] ∧ Same H H1 ∧ (zs.take j).all okB = true) (by omega) ⟨none, none, rfl, Same.refl _, rfl⟩ ?_ ?_ ?_
    · rintro j σ H1 hj ⟨v4, v5, rfl, s1, al1⟩
      exact ⟨s1.seq hO, s1.seq hA⟩
    · rintro j x y T σ H1 hx hy ⟨v4, v5, rfl, s1, al1⟩ hT
      obtain ⟨z, hz, ox⟩ := paired_get hPo hx
      obtain ⟨z', hz', fy⟩ := paired_get hPa hy
      rw [hz] at hz'
      cases hz'
      have hzm := List.mem_of_getElem? hz
      have ok := okz z hzm
      have tT := Same.upd (o := .tup [x, y]) hT
      have s2 := s1.trans tT
      obtain ⟨a, wn, pr, rfl, ha, wv1⟩ := ox.same s2
      have fy2 := fy.same s2
      obtain ⟨b, rfl, hb⟩ := id fy2
      have ez : zs.take (j + 1) = zs.take j ++ [z] := by rw [List.take_add_one, hz]; rfl
      have bad : okB z = false → blendB now cs zs w = false := fun h => by
        have : zs.all okB = false := by
          rw [List.all_eq_false]
          exact ⟨z, hzm, by rw [h]; decide⟩
        unfold blendB
        rw [this]; rfl
      refine ⟨T, _, rfl, SqT.of upd_same, rfl, _, _, rfl, _, _, rfl, rfl, ?_⟩
      refine ⟨_, rfl, b, _, _, _, rfl, rfl, SqT.of hb, rfl, _, _, rfl, rfl, _, rfl, ?_⟩
      refine ite2 (fun hneg => ?_) (fun hneg => ?_)
      · have hneg : z.2.num < 0 := of_decide_eq_true hneg
        have hb0 : okB z = false := by
          unfold okB
          have : ¬ 0 ≤ z.2 := fun h => by have := Rat.num_nonneg.mpr h; omega
          rw [decide_eq_false this]; rfl
        have := k _ s2
        rw [bad hb0] at this
        exact this
      have hnn : 0 ≤ z.2 := Rat.num_nonneg.mp (by
        have h : ¬ z.2.num < 0 := fun e => hneg (decide_eq_true e)
        omega)
      have bt : (totZ z.1).natAbs < 2 ^ 200 := Nat.lt_of_le_of_lt (totZ_bd ok.w) (by decide)
      have bd : (z.2.den : Int).natAbs < 2 ^ 200 := ok.bd.den
      refine ⟨_, rfl, b, _, _, _, rfl, rfl, SqT.of hb, rfl, _, _, rfl, rfl, mulOk_of 200 (by decide) ok.bd.num (by decide), _, rfl, a, _, _, _, rfl, rfl, SqT.of ha, rfl, wn, now, z.1, rfl, wv1, ok.w, fun H3 s3 => ?_⟩
      refine ⟨_, rfl, b, _, _, _, rfl, rfl, SqT.of (s3 _ _ hb), rfl, _, _, rfl, rfl, mulOk_of 200 bt bd (by decide), _, _, rfl, rfl, _, rfl, ?_⟩
      refine ite2 (fun hlt => ?_) (fun hlt => ?_)
      · have hlt : totZ z.1 * (z.2.den : Int) < 27720 * z.2.num := of_decide_eq_true hlt
        have hlt : totQ z.1 < z.2 := (over_tot ok).mp hlt
        have hb0 : okB z = false := by
          unfold okB
          have : ¬ z.2 ≤ totQ z.1 := by grind
          rw [decide_eq_false this, Bool.and_false]
        have := k _ (s2.trans s3)
        rw [bad hb0] at this
        exact this
      · have hle : z.2 ≤ totQ z.1 := by
          have h : ¬ totQ z.1 < z.2 := fun e => hlt (decide_eq_true ((over_tot ok).mpr e))
          grind
        refine ⟨_, _, rfl, s2.trans s3, ?_⟩
        rw [ez, List.all_append, al1]
        show (true && (okB z && true)) = true
        unfold okB
        rw [decide_eq_true hnn, decide_eq_true hle]; rfl
    · rintro σ H1 ⟨v4, v5, rfl, s1, al1⟩
      rw [lO, List.take_length] at al1
      have hPa1 := fr_pr (Paired.mapP hPa fun _ _ f => f.same s1)
      refine ⟨_, rfl, aa, as, zs.map (fun z => (z.2.num, (z.2.den : Int))), rfl, s1.seq hA, hPa1, fun p hp => ?_, fun j hj => ?_, fun u2 H2 s2 f2 => ?_⟩
      · obtain ⟨z, hz, rfl⟩ := List.mem_map.mp hp
        have d := rat_den_pos z.2
        exact ⟨d, Nat.lt_of_lt_of_le (okz z hz).bd.num (pow_le (by decide)), Nat.lt_of_lt_of_le (okz z hz).bd.den (pow_le (by decide))⟩
      · rw [← List.map_take, sum_am]
        exact (am_sum (zs := zs.take j) (fun z hz => okz z (List.mem_of_mem_take hz)) (by rw [List.length_take]; omega)).mono (by decide)
      rw [sum_am] at f2
      have s02 := s1.trans s2
      have hw2 := s02 _ _ hw
      refine ⟨_, rfl, aw, _, _, _, rfl, rfl, SqT.of hw2, rfl, _, _, f2.rep, (fw0.same s02).rep, pq_depth _ _, _, rfl, ?_⟩
      rw [eqv_pq]
      refine ite2 (fun h => ?_) (fun h => ?_)
      · have heq : sumL zs (·.2) = w := of_decide_eq_true (by rw [← fq_dec]; exact h)
        refine ⟨_, rfl, _, rfl, aw, _, _, _, rfl, rfl, SqT.of hw2, rfl, _, rfl, _, rfl, ao, al, aa, now, os, ls, as, zs, cs, rfl, s02.seq hO, Paired.mapP hPo fun _ _ f => f.same s02, s02.seq hA, Paired.mapP hPa fun _ _ f => f.same s02, okz, h8, s02.seq hL, Paired.mapP hPl fun _ _ f => ⟨RepC.same s02 f.1, f.2⟩, hc8, fun H3 s3 => ?_⟩
        have := k _ (s02.trans s3)
        unfold blendB at this
        rw [al1, decide_eq_true heq] at this
        exact this
      · have hne : ¬ sumL zs (·.2) = w := fun e => h (by rw [fq_dec]; exact decide_eq_true e)
        have := k _ s02
        unfold blendB at this
        rw [al1, decide_eq_false hne] at this
        exact this
end
end T40
namespace T40
open PySem L2 Tc
section
variable {P : Program} {w : World} {K : PySem.W.Frag} {mg : Str → Option Value} {base : Heap}
abbrev s__law_amounts : Stmt := top 44
theorem sc__law_amounts : FnScope ["_law_offer_here", "_law_cells", "_law_turn", "_law_amounts_here", "_law_k", "_law_cell", "_law_units_here", "_law_top"] ["_law_offer_here", "_law_cells", "_law_turn"] (defScope s__law_amounts) := ⟨rfl, rfl, rfl, by decide +kernel, rfl, by decide +kernel, by decide +kernel⟩
theorem ok__law_amounts (D : DefAt K mg "_law_amounts" s__law_amounts) (T : Txt K mg) (G__law_total : FnAt P w K mg base CX0 2 "_law_total" ["_law_wine_here"] (spLTot)) (G__law_lowest : FnAt P w K mg base CX0 2 "_law_lowest" ["_law_top", "_law_bottom"] (spLowest2)) : FnAt P w K mg base CX0 3 "_law_amounts" ["_law_offer_here", "_law_cells", "_law_turn"] (spAmounts K) := by
  refine D.ok sc__law_amounts (fun vs H Q E h => ?_) (fun _ _ _ _ _ _ us hl => match us, hl with | [_, _, _], _ => rfl) (fun f cdv A outer s H vs Q E hr h => ?_)
  · obtain ⟨ao, ac, os, Ws, ns, now, t, rfl, hO, hPo, okW, h8, hC, hn1, k⟩ := h; rfl
  · obtain ⟨ao, ac, os, Ws, ns, now, t, rfl, hO, hPo, okW, h8, hC, hn1, k⟩ := h
    have nd := sc__law_amounts.nd
    refine ⟨_, (@pss_cons _ _ _ _ _ (@ps_set _ _ 3 _ _ _ _ nd rfl (Or.inl rfl) (@pe_lst _ _ _ _ pa_nil) (by rfl) (Or.inl rfl))
      (@pss_cons _ _ _ _ _ (ps_for PassesOwn.never rfl (pi_range1 (by rfl) T.z_range (@pa_cons _ _ _ _ _ (pe_callB (call_len' (K := K) rfl) (by rfl) T.z_len PySem.boot_len (@pa_cons _ _ _ _ _ (pv 0) pa_nil (by rfl))) pa_nil (by rfl))) (pg_name (i := 4) nd rfl (Or.inl rfl)) (@pss_cons _ _ _ _ _ (@ps_set _ _ 5 _ _ _ _ nd rfl (Or.inl rfl) (pe_ix (ix_list' (K := K) rfl) (pv 1) (@pe_op _ _ _ _ _ _ _ _ op_modN (@pe_op _ _ _ _ _ _ _ _ op_add (pv 2) (pv 4)) (pe_callB (call_len' (K := K) rfl) (by rfl) T.z_len PySem.boot_len (@pa_cons _ _ _ _ _ (pv 1) pa_nil (by rfl)))) (fun _ _ => rfl)) (by rfl) (Or.inl rfl))
      (@pss_cons _ _ _ _ _ (@ps_set _ _ 6 _ _ _ _ nd rfl (Or.inl rfl) (pe_fn G__law_total hr (by rfl) pass0 (@pa_cons _ _ _ _ _ (pe_ix (ix_tup' (K := K) rfl) (pe_ix (ix_list' (K := K) rfl) (pv 0) (pv 4) (fun _ _ => rfl)) pe_int (fun _ _ => rfl)) pa_nil (by rfl))) (by rfl) (Or.inl rfl))
      (@pss_cons _ _ _ _ _ (@ps_set _ _ 7 _ _ _ _ nd rfl (Or.inl rfl) (pe_ix (ix_list' (K := K) rfl) (@pe_lst _ _ _ _ (@pa_cons _ _ _ _ _ pe_int (@pa_cons _ _ _ _ _ pe_int (@pa_cons _ _ _ _ _ (@pe_op _ _ _ _ _ _ _ _ op_modN (@pe_op _ _ _ _ _ _ _ _ op_fdivB (pv 5) pe_int) pe_int) (@pa_cons _ _ _ _ _ (@pe_op _ _ _ _ _ _ _ _ op_modN (@pe_op _ _ _ _ _ _ _ _ op_fdivB (pv 5) pe_int) pe_int) (@pa_cons _ _ _ _ _ (@pe_op _ _ _ _ _ _ _ _ op_modN (@pe_op _ _ _ _ _ _ _ _ op_fdivB (pv 5) pe_int) pe_int) (@pa_cons _ _ _ _ _ pe_int (@pa_cons _ _ _ _ _ (@pe_op _ _ _ _ _ _ _ _ op_sub pe_int (@pe_op _ _ _ _ _ _ _ _ op_mulB pe_int (@pe_op _ _ _ _ _ _ _ _ op_modN (@pe_op _ _ _ _ _ _ _ _ op_fdivB (pv 5) pe_int) pe_int))) pa_nil (by rfl)) (by rfl)) (by rfl)) (by rfl)) (by rfl)) (by rfl)) (by rfl))) (@pe_op _ _ _ _ _ _ _ _ op_modN (pv 5) pe_int) (fun _ _ => rfl)) (by rfl) (Or.inl rfl))
      (@pss_one _ _ _ (ps_expr (pe_bm PySem.F.plainAttrs_list PySem.F.slot_list_append PySem.F.type_list_append mt_append (pv 3) (@pa_cons _ _ _ _ _ (pe_fn G__law_lowest hr (by rfl) pass0 (@pa_cons _ _ _ _ _ (@pe_op _ _ _ _ _ _ _ _ op_mulB (pv 6) (pv 7)) (@pa_cons _ _ _ _ _ (@pe_op _ _ _ _ _ _ _ _ op_mulB pe_int pe_int) pa_nil (by rfl)) (by rfl))) pa_nil (by rfl)))))))))
      (@pss_one _ _ _ (ps_ret (pv 3))))), ?_⟩
    have dd : ∀ {i d : Int}, 0 < d → d ≤ 1000000 → CDivB i d := fun h1 h2 => divB_of (by omega) (Nat.lt_of_le_of_lt (m := 1000000) (by omega) (by decide))
    have lO : os.length = Ws.length := hPo.length
    have hml : (ns.map V.int).length = ns.length := List.length_map ..
    refine ⟨sz (by simp), fun p hp => ?_⟩
    have tp := Same.upd (o := .lst []) hp
    refine ⟨_, rfl, _, _, rfl, .inl ⟨_, tp.seq hO, rfl⟩, _, rfl, by omega, by omega, ?_⟩
    refine for_range (fun i σ H1 => ∃ (v4 v5 v6 v7 : Option V) (as : List V) (zs : List Zz), σ = [some (.ref ao), some (.ref ac), some (.int t), some (.ref p), v4, v5, v6, v7] ∧ Same H H1 ∧ H1 p = some (.lst as) ∧ Paired (fun v (z : Zz) => FrV H1 v z.2) as zs ∧ zs.map (·.1) = Ws.take i ∧ ∀ z ∈ zs, OkZ now z) ⟨none, none, none, none, [], [], rfl, tp, upd_same, .nil, rfl, (fun _ z => nomatch z)⟩ ?_ ?_
    · rintro i σ H1 hi ⟨v4, v5, v6, v7, as, zs, rfl, s1, h1, hA, eW, okz⟩
      have hi : i < os.length := by simpa using hi
      have hiW : i < Ws.length := by omega
      have lA : as.length ≤ 8 := by
        have e1 := hA.length
        have e2 := congrArg List.length eW
        rw [List.length_map, List.length_take] at e2
        omega
      have qc := fmod_lt (c := t + (0 + (i : Int))) (m := (((ns.map V.int).length : Nat) : Int)) (by rw [hml]; omega)
      obtain ⟨c, hc⟩ := map_at (ns := ns) qc.1 qc.2
      have hC1 := s1.seq hC
      have hO1 := s1.seq hO
      refine ⟨_, rfl, _, rfl, _, rfl, _, _, rfl, rfl, _, rfl, _, _, rfl, .inl ⟨_, hC1, rfl⟩, _, _, rfl, rfl, (show (((ns.map V.int).length : Nat) : Int) ≠ 0 by rw [hml]; omega), ac, _, _, _, rfl, rfl, hC1, hc, ?_⟩
      obtain ⟨W, hW, ov⟩ := paired_get hPo (List.getElem?_eq_getElem hi)
      obtain ⟨b, w, pr, eo, hb, wv⟩ := ov.same s1
      have ok := okW W (List.mem_of_getElem? hW)
      have hat : atI os (0 + (i : Int)) = some (.ref b) := by
        rw [Int.zero_add]
        exact atI_nat (by rw [List.getElem?_eq_getElem hi, eo])
      refine ⟨_, rfl, _, rfl, ao, _, _, _, rfl, rfl, hO1, hat, b, _, _, _, rfl, rfl, SqT.of hb, rfl, w, now, W, rfl, wv, ok, fun H2 s2 => ?_⟩
      have q13 := fmod_lt (c := c.fdiv 7) (m := 13) (by decide)
      have q2 := fmod_lt (c := c.fdiv 7) (m := 2) (by decide)
      have q7 := fmod_lt (c := c) (m := 7) (by decide)
      refine ⟨_, rfl, _, _, rfl, rfl, dd (by decide) (by decide), _, _, rfl, rfl, (show (13 : Int) ≠ 0 by decide), _, rfl, _, _, rfl, rfl, dd (by decide) (by decide), _, _, rfl, rfl, (show (13 : Int) ≠ 0 by decide), _, rfl, _, _, rfl, rfl, dd (by decide) (by decide), _, _, rfl, rfl, (show (13 : Int) ≠ 0 by decide), _, rfl, _, _, rfl, rfl, dd (by decide) (by decide), _, _, rfl, rfl, (show (2 : Int) ≠ 0 by decide), _, _, rfl, rfl, mulOk_of 64 (by decide) (Nat.lt_of_le_of_lt (m := 10) (by omega) (by decide)) (by decide), _, _, rfl, rfl, sz (by simp), fun l hl => ?_⟩
      obtain ⟨tp', htp, hat7⟩ := at7 (a := 0) (b := 12) (c := (c.fdiv 7).fmod 13) (d := (c.fdiv 7).fmod 13) (e := (c.fdiv 7).fmod 13) (f := 12) (g := 13 - 14 * (c.fdiv 7).fmod 2) q7.1 q7.2
      have htp20 : tp'.natAbs ≤ 20 := by
        simp at htp
        omega
      have tl := Same.upd (o := .lst [V.int 0, .int 12, .int ((c.fdiv 7).fmod 13), .int ((c.fdiv 7).fmod 13), .int ((c.fdiv 7).fmod 13), .int 12, .int (13 - 14 * (c.fdiv 7).fmod 2)]) hl
      refine ⟨_, rfl, _, _, rfl, rfl, (show (7 : Int) ≠ 0 by decide), l, _, _, _, rfl, rfl, SqL.of upd_same, hat7, ?_⟩
      have s13 := s2.trans tl
      have h13 := s13 _ _ h1
      have bt : (totZ W).natAbs < 2 ^ 200 := Nat.lt_of_le_of_lt (totZ_bd ok) (by decide)
      refine ⟨_, rfl, .inl ⟨rfl, _, SqL.of h13⟩, _, rfl, _, rfl, _, _, rfl, rfl, mulOk_of 200 bt (Nat.lt_of_le_of_lt htp20 (by decide)) (by decide), _, _, rfl, rfl, mulOk_of 64 (by decide) (by decide) (by decide), totZ W * tp', 27720 * 12, rfl, by decide, by decide, fun v4' H4 s4 f4 => ?_⟩
      have s14 := s13.trans s4
      have h14 := s14 _ _ h1
      refine ⟨p, _, _, rfl, rfl, h14, sz (by omega), ?_⟩
      have tu := tup_of (o := .lst (as ++ [v4'])) h14 (fun _ z => nomatch z)
      refine ⟨_, _, _, _, as ++ [v4'], zs ++ [(W, Rat.divInt (totZ W * tp') (27720 * 12))], rfl, (s1.trans s14).updD hp, upd_same, Paired.snoc (Paired.mapP hA fun _ _ f => (f.same s14).tup tu) (f4.tup tu), ?_, fun z hz => ?_⟩
      · have eT : Ws.take (i + 1) = Ws.take i ++ [W] := by rw [List.take_add_one, hW]; rfl
        rw [List.map_append, eW, eT]; rfl
      · rcases List.mem_append.mp hz with e | e
        · exact okz z e
        · rw [List.mem_singleton.mp e]
          exact ⟨ok, tp', htp20, rfl⟩
    · rintro σ H1 ⟨v4, v5, v6, v7, as, zs, rfl, s1, h1, hA, eW, okz⟩
      have eW : zs.map (·.1) = Ws.take os.length := by simpa using eW
      rw [lO, List.take_length] at eW
      exact ⟨_, rfl, k p H1 as zs hp s1 h1 hA eW okz⟩
end
end T40
namespace T40
open PySem L2 Tc
section
variable {P : Program} {w : World} {K : PySem.W.Frag} {mg : Str → Option Value} {base : Heap}
abbrev s_law : Stmt := top 45
theorem sc_law : FnScope ["_law_script", "_law_now", "_law_names_here", "_law_offer_here", "_law_label_here", "_law_cells", "_law_turn", "_law_amounts_here", "_law_wished", "_law_handed", "_law_found", "_law_due"] ["_law_script"] (defScope s_law) := ⟨rfl, rfl, rfl, by decide +kernel, rfl, by decide +kernel, by decide +kernel⟩
theorem ok_law {f : Addr} {fd : FuncData} (D : Fun K "law" "law" s_law f fd) (T : Txt K mg) (G__law_cell_at : FnAt P w K mg base CX0 1 "_law_cell_at" ["_law_script", "_law_k"] (spCell K)) (G__law_names : FnAt P w K mg base CX0 1 "_law_names" ["_law_cell"] (spNames)) (G__law_offer : FnAt P w K mg base CX0 4 "_law_offer" ["_law_script", "_law_at", "_law_names_here", "_law_now"] (spOffer K)) (G__law_label : FnAt P w K mg base CX0 4 "_law_label" ["_law_script", "_law_at", "_law_most", "_law_names_here", "_law_now"] (spLabel K)) (G__law_amounts : FnAt P w K mg base CX0 3 "_law_amounts" ["_law_offer_here", "_law_cells", "_law_turn"] (spAmounts K)) (G__law_sum : FnAt P w K mg base CX0 3 "_law_sum" ["_law_some"] (spLSum K)) (G__law_lowest : FnAt P w K mg base CX0 2 "_law_lowest" ["_law_top", "_law_bottom"] (spLowest2)) (G_is_blend : FnAt P w K mg base CX0 9 "is_blend" ["offer", "wish", "now", "amounts"] (spBlend K)) (G__law_is_blend : FnAt P w K mg base CX0 9 "_law_is_blend" ["_law_offer_here", "_law_wish", "_law_now", "_law_amounts_here"] (spBlend K)) : FnOk P w K mg base CX0 10 f fd ["_law_script"] (spLaw K) := by
  refine D.ok sc_law (fun vs H Q E h => ?_) (fun cdv A outer s H vs Q E hr h => ?_)
  · obtain ⟨a, ns, rfl, hS, hlen, k⟩ := h; rfl
  · obtain ⟨a, ns, rfl, hS, hlen, k⟩ := h
    have nd := sc_law.nd
    refine ⟨_, (@pss_cons _ _ _ _ _ (@ps_set _ _ 1 _ _ _ _ nd rfl (Or.inl rfl) (@pe_op _ _ _ _ _ _ _ _ op_modN (pe_fn G__law_cell_at hr (by rfl) pass0 (@pa_cons _ _ _ _ _ (pv 0) (@pa_cons _ _ _ _ _ pe_int pa_nil (by rfl)) (by rfl))) pe_int) (by rfl) (Or.inl rfl))
      (@pss_cons _ _ _ _ _ (@ps_set _ _ 2 _ _ _ _ nd rfl (Or.inl rfl) (pe_fn G__law_names hr (by rfl) pass0 (@pa_cons _ _ _ _ _ (pe_fn G__law_cell_at hr (by rfl) pass0 (@pa_cons _ _ _ _ _ (pv 0) (@pa_cons _ _ _ _ _ pe_int pa_nil (by rfl)) (by rfl))) pa_nil (by rfl))) (by rfl) (Or.inl rfl))
      (@pss_cons _ _ _ _ _ (@ps_set _ _ 3 _ _ _ _ nd rfl (Or.inl rfl) (pe_fn G__law_offer hr (by rfl) pass0 (@pa_cons _ _ _ _ _ (pv 0) (@pa_cons _ _ _ _ _ pe_int (@pa_cons _ _ _ _ _ (pv 2) (@pa_cons _ _ _ _ _ (pv 1) pa_nil (by rfl)) (by rfl)) (by rfl)) (by rfl))) (by rfl) (Or.inl rfl))
      (@pss_cons _ _ _ _ _ (@ps_set _ _ 4 _ _ _ _ nd rfl (Or.inl rfl) (pe_fn G__law_label hr (by rfl) pass0 (@pa_cons _ _ _ _ _ (pv 0) (@pa_cons _ _ _ _ _ pe_int (@pa_cons _ _ _ _ _ pe_int (@pa_cons _ _ _ _ _ (pv 2) (@pa_cons _ _ _ _ _ (pv 1) pa_nil (by rfl)) (by rfl)) (by rfl)) (by rfl)) (by rfl))) (by rfl) (Or.inl rfl))
      (@pss_cons _ _ _ _ _ (@ps_set _ _ 5 _ _ _ _ nd rfl (Or.inl rfl) (@pe_op _ _ _ _ _ _ _ _ op_cat (@pe_lst _ _ _ _ (@pa_cons _ _ _ _ _ (pe_fn G__law_cell_at hr (by rfl) pass0 (@pa_cons _ _ _ _ _ (pv 0) (@pa_cons _ _ _ _ _ pe_int pa_nil (by rfl)) (by rfl))) pa_nil (by rfl))) (pe_slice (sl_list' (K := K) rfl) (pv 0) (po_some pe_int) (po_some pe_int))) (by rfl) (Or.inl rfl))
      (@pss_cons _ _ _ _ _ (ps_for PassesOwn.never rfl (pi_range3 (by rfl) T.z_range (@pa_cons _ _ _ _ _ pe_int (@pa_cons _ _ _ _ _ (pe_callB (call_len' (K := K) rfl) (by rfl) T.z_len PySem.boot_len (@pa_cons _ _ _ _ _ (pv 5) pa_nil (by rfl))) (@pa_cons _ _ _ _ _ (pe_callB (call_len' (K := K) rfl) (by rfl) T.z_len PySem.boot_len (@pa_cons _ _ _ _ _ (pv 3) pa_nil (by rfl))) pa_nil (by rfl)) (by rfl)) (by rfl))) (pg_name (i := 6) nd rfl (Or.inl rfl)) (@pss_cons _ _ _ _ _ (@ps_set _ _ 7 _ _ _ _ nd rfl (Or.inl rfl) (pe_fn G__law_amounts hr (by rfl) pass0 (@pa_cons _ _ _ _ _ (pv 3) (@pa_cons _ _ _ _ _ (pv 5) (@pa_cons _ _ _ _ _ (pv 6) pa_nil (by rfl)) (by rfl)) (by rfl))) (by rfl) (Or.inl rfl))
      (@pss_cons _ _ _ _ _ (@ps_set _ _ 8 _ _ _ _ nd rfl (Or.inl rfl) (pe_fn G__law_sum hr (by rfl) pass0 (@pa_cons _ _ _ _ _ (pv 7) pa_nil (by rfl))) (by rfl) (Or.inl rfl))
      (@pss_cons _ _ _ _ _ (ps_if (PW.pt (pw_or (pt_cmpR op_eq (@pe_op _ _ _ _ _ _ _ _ op_modN (@pe_op _ _ _ _ _ _ _ _ op_fdivB (pe_ix (ix_list' (K := K) rfl) (pv 5) (pv 6) (fun _ _ => rfl)) pe_int) pe_int) pe_int (nomark _)) (pw_or1 (pt_cmpR op_le (pe_ix (ix_tup' (K := K) rfl) (pv 8) pe_int (fun _ _ => rfl)) pe_int (nomark _))))) (@pss_one _ _ _ (@ps_set _ _ 8 _ _ _ _ nd rfl (Or.inl rfl) (pe_fn G__law_lowest hr (by rfl) pass0 (@pa_cons _ _ _ _ _ (@pe_op _ _ _ _ _ _ _ _ op_add (@pe_op _ _ _ _ _ _ _ _ op_add (pe_callB call_abs (by rfl) T.z_abs bt_abs (@pa_cons _ _ _ _ _ (pe_ix (ix_tup' (K := K) rfl) (pv 8) pe_int (fun _ _ => rfl)) pa_nil (by rfl))) pe_int) (@pe_op _ _ _ _ _ _ _ _ op_modN (pe_ix (ix_list' (K := K) rfl) (pv 5) (pv 6) (fun _ _ => rfl)) pe_int)) (@pa_cons _ _ _ _ _ (pe_ix (ix_tup' (K := K) rfl) (pv 8) pe_int (fun _ _ => rfl)) pa_nil (by rfl)) (by rfl))) (by rfl) (Or.inl rfl))) pss_nil)
      (@pss_cons _ _ _ _ _ (@ps_set _ _ 9 _ _ _ _ nd rfl (Or.inl rfl) (@pe_lst _ _ _ _ (@pa_cons _ _ _ _ _ (pe_callTy (call_list_of' (K := K) rfl) (by rfl) T.z_list bt_list (@pa_cons _ _ _ _ _ (pv 3) pa_nil (by rfl))) (@pa_cons _ _ _ _ _ (@pe_tup _ _ _ _ _ (@pa_cons _ _ _ _ _ (pv 8) (@pa_cons _ _ _ _ _ (pe_callTy (call_list_of' (K := K) rfl) (by rfl) T.z_list bt_list (@pa_cons _ _ _ _ _ (pv 4) pa_nil (by rfl))) pa_nil (by rfl)) (by rfl))) (@pa_cons _ _ _ _ _ (pe_callTy (call_list_of' (K := K) rfl) (by rfl) T.z_list bt_list (@pa_cons _ _ _ _ _ (pv 7) pa_nil (by rfl))) pa_nil (by rfl)) (by rfl)) (by rfl))) (by rfl) (Or.inl rfl))
      (@pss_cons _ _ _ _ _ (@ps_set _ _ 10 _ _ _ _ nd rfl (Or.inl rfl) (pe_fn G_is_blend hr (by rfl) pass0 (@pa_cons _ _ _ _ _ (pe_ix (ix_list' (K := K) rfl) (pv 9) pe_int (fun _ _ => rfl)) (@pa_cons _ _ _ _ _ (pe_ix (ix_list' (K := K) rfl) (pv 9) pe_int (fun _ _ => rfl)) (@pa_cons _ _ _ _ _ (pv 1) (@pa_cons _ _ _ _ _ (pe_ix (ix_list' (K := K) rfl) (pv 9) pe_int (fun _ _ => rfl)) pa_nil (by rfl)) (by rfl)) (by rfl)) (by rfl))) (by rfl) (Or.inl rfl))
      (@pss_cons _ _ _ _ _ (@ps_set _ _ 11 _ _ _ _ nd rfl (Or.inl rfl) (pe_fn G__law_is_blend hr (by rfl) pass0 (@pa_cons _ _ _ _ _ (pv 3) (@pa_cons _ _ _ _ _ (@pe_tup _ _ _ _ _ (@pa_cons _ _ _ _ _ (pv 8) (@pa_cons _ _ _ _ _ (pv 4) pa_nil (by rfl)) (by rfl))) (@pa_cons _ _ _ _ _ (pv 1) (@pa_cons _ _ _ _ _ (pv 7) pa_nil (by rfl)) (by rfl)) (by rfl)) (by rfl))) (by rfl) (Or.inl rfl))
      (@pss_one _ _ _ (ps_if (PW.pt (pw_or (pt_not (pt_val (pe_callB (call_isi' (K := K) rfl) (by rfl) T.z_isinstance bt_isinstance (@pa_cons _ _ _ _ _ (pv 10) (@pa_cons _ _ _ _ _ (pe_bltn (v := .ty "bool") (by rfl) T.z_bool bt_bool rfl) pa_nil (by rfl)) (by rfl))))) (pw_or (pt_cmpR op_ne (pv 10) (pv 11) (nomark _)) (pw_or1 (pt_cmpR (op_neS (K := K) rfl hr) (pv 9) (@pe_lst _ _ _ _ (@pa_cons _ _ _ _ _ (pv 3) (@pa_cons _ _ _ _ _ (@pe_tup _ _ _ _ _ (@pa_cons _ _ _ _ _ (pv 8) (@pa_cons _ _ _ _ _ (pv 4) pa_nil (by rfl)) (by rfl))) (@pa_cons _ _ _ _ _ (pv 7) pa_nil (by rfl)) (by rfl)) (by rfl))) (nomark _)))))) (@pss_one _ _ _ (ps_ret pe_bl)) pss_nil)))))))))
      (@pss_one _ _ _ (ps_ret pe_bl)))))))), ?_⟩
    have dd : ∀ {i d : Int}, 0 < d → d ≤ 1000000 → CDivB i d := fun h1 h2 => divB_of (by omega) (Nat.lt_of_le_of_lt (m := 1000000) (by omega) (by decide))
    refine ⟨_, rfl, a, ns, 0, rfl, hS, by decide, fun c0 => ⟨_, _, rfl, rfl, (show (20001 : Int) ≠ 0 by decide), ?_⟩⟩
    let now : Int := c0.fmod 20001
    have hnow : 0 ≤ now ∧ now < 20001 := fmod_lt (c := c0) (m := 20001) (by decide)
    refine ⟨_, rfl, a, ns, 1, rfl, hS, by decide, fun c1 => ⟨c1, rfl, fun an H1 zs s1 hz hl3 => ?_⟩⟩
    refine ⟨_, rfl, _, rfl, _, rfl, a, ns, 2, an, zs, now, rfl, s1.seq hS, by decide, by decide, hz, hl3, hnow, fun ao H2 os Ws hao s2 h2 hO okW w1 w8 => ?_⟩
    have s02 := s1.trans s2
    refine ⟨_, rfl, _, rfl, _, rfl, a, ns, 12, an, zs, now, rfl, s02.seq hS, by decide, by decide, s2 _ _ hz, hl3, fun al H3 ls cs hal s3 h3 hC c8 => ?_⟩
    have s03 := s02.trans s3
    refine ⟨_, rfl, a, ns, 15, rfl, s03.seq hS, by decide, fun c15 => ⟨sz (by simp), fun q1 hq1 => ?_⟩⟩
    have t4 := Same.upd (o := .lst [V.int c15]) hq1
    obtain ⟨ms, ems, hms⟩ := cut41 ns
    refine ⟨_, rfl, 19, rfl, 60, rfl, a, _, rfl, (s03.trans t4).seq hS, fun q2 hq2 => ?_⟩
    have t5 := Same.upd (o := .lst (cutV (ns.map V.int) (some 19) (some 60))) hq2
    have hq2' : upd (upd H3 q1 (.lst [V.int c15])) q2 (.lst (cutV (ns.map V.int) (some 19) (some 60))) q2 = some (.lst (ms.map V.int)) := by rw [upd_same, ems]
    refine ⟨q1, q2, _, _, rfl, rfl, t5 _ _ upd_same, hq2', ?_, fun q3 hq3 => ?_⟩
    · show 1 + (ms.map V.int).length ≤ sizeLine
      rw [List.length_map]; exact sz (by omega)
    have t6 := Same.upd (o := .lst ([V.int c15] ++ ms.map V.int)) hq3
    have s36 := t4.trans (t5.trans t6)
    have hq3' : upd (upd (upd H3 q1 (.lst [V.int c15])) q2 (.lst (cutV (ns.map V.int) (some 19) (some 60)))) q3 (.lst ([V.int c15] ++ ms.map V.int)) q3 = some (.lst ((c15 :: ms).map V.int)) := upd_same
    have h26 := (s3.trans s36) _ _ h2
    have h36 := s36 _ _ h3
    have hO6 : Paired (OfV (upd (upd (upd H3 q1 (.lst [V.int c15])) q2 (.lst (cutV (ns.map V.int) (some 19) (some 60)))) q3 (.lst ([V.int c15] ++ ms.map V.int)))) os Ws := Paired.mapP hO fun _ _ f => f.same (s3.trans s36)
    have hC6 : Paired (CdV (upd (upd (upd H3 q1 (.lst [V.int c15])) q2 (.lst (cutV (ns.map V.int) (some 19) (some 60)))) q3 (.lst ([V.int c15] ++ ms.map V.int)))) ls cs := Paired.mapP hC fun _ _ f => ⟨RepC.same s36 f.1, f.2⟩
    have s06 := s03.trans s36
    generalize upd (upd (upd H3 q1 (.lst [V.int c15])) q2 (.lst (cutV (ns.map V.int) (some 19) (some 60)))) q3 (.lst ([V.int c15] ++ ms.map V.int)) = H6 at *
    have lO : os.length = Ws.length := hO6.length
    have lC : ((c15 :: ms).map V.int).length = ms.length + 1 := by rw [List.length_map, List.length_cons]
    refine ⟨_, rfl, _, _, rfl, .inl ⟨_, SqL.of hq3', rfl⟩, _, rfl, _, _, rfl, .inl ⟨_, SqL.of h26, rfl⟩, 0, (((c15 :: ms).map V.int).length : Nat), (os.length : Nat), rfl, ⟨by decide, by decide, by omega, by omega, by omega, by omega⟩, ?_⟩
    refine for_rangeS (fun i σ H7 => ∃ (v6 v7 v8 v9 v10 v11 : Option V), σ = [some (.ref a), some (.int now), some (.ref an), some (.ref ao), some (.ref al), some (.ref q3), v6, v7, v8, v9, v10, v11] ∧ Same H6 H7) ⟨none, none, none, none, none, none, rfl, Same.refl _⟩ ?_ ?_
    · rintro i σ H7 hi ⟨v6, v7, v8, v9, v10, v11, rfl, s7⟩
      have hi' := rngN_ltS (show (0 : Int) < (os.length : Nat) by omega) hi
      let tn : Int := 0 + (i : Int) * ((os.length : Nat) : Int)
      have tn0 : 0 ≤ tn := by
        have : 0 ≤ (i : Int) * ((os.length : Nat) : Int) := Int.mul_nonneg (by omega) (by omega)
        show 0 ≤ 0 + (i : Int) * ((os.length : Nat) : Int)
        omega
      obtain ⟨ct, hct⟩ := map_at (ns := c15 :: ms) (k := tn) tn0 hi'
      have hO7 : Paired (OfV H7) os Ws := Paired.mapP hO6 fun _ _ f => f.same s7
      refine ⟨_, rfl, _, rfl, _, rfl, ao, q3, os, Ws, c15 :: ms, now, tn, rfl, SqL.of (s7 _ _ h26), hO7, okW, w8, SqL.of (s7 _ _ hq3'), by simp, fun aa H8 as zz haa s8 h8 hA eW okz => ?_⟩
      have s68 := s7.trans s8
      have z8 : zz.length ≤ 8 := by
        have := congrArg List.length eW
        rw [List.length_map] at this
        omega
      have hPa8 := fr_pr hA
      refine ⟨_, rfl, aa, as, zz.map (fun z => (z.2.num, (z.2.den : Int))), rfl, SqL.of h8, hPa8, fun p hp => ?_, fun j hj => ?_, fun u9 H9 s9 f9 => ?_⟩
      · obtain ⟨z, hz, rfl⟩ := List.mem_map.mp hp
        have d := rat_den_pos z.2
        exact ⟨d, Nat.lt_of_lt_of_le (okz z hz).bd.num (pow_le (by decide)), Nat.lt_of_lt_of_le (okz z hz).bd.den (pow_le (by decide))⟩
      · rw [← List.map_take, sum_am]
        exact (am_sum (zs := zz.take j) (fun z hz => okz z (List.mem_of_mem_take hz)) (by rw [List.length_take]; omega)).mono (by decide)
      rw [sum_am] at f9
      have s69 := s68.trans s9
      have bw := am_sum okz z8
      have hq9 := s69 _ _ hq3'
      obtain ⟨bw9, rfl, hbw⟩ := id f9
      refine ⟨_, rfl, _, rfl, q3, _, _, _, rfl, rfl, SqL.of hq9, hct, _, _, rfl, rfl, dd (by decide) (by decide), _, _, rfl, rfl, (show (4 : Int) ≠ 0 by decide), rfl, _, rfl, ?_⟩
      have dw := rat_den_pos (sumL zz (·.2))
      refine' by_key2 (C := fun (wv : V) (Hx : Hp) => Same H9 Hx ∧ ∃ w, FrV Hx wv w) (fun key => ?go) ?body
      case go =>
        refine ite2 (fun _ => ?A1) (fun _ => ?E)
        case A1 =>
          exact ⟨_, rfl, bw9, _, _, _, rfl, rfl, SqT.of hbw, rfl, _, rfl, _, _, rfl, rfl, _, rfl, _, rfl, q3, _, _, _, rfl, rfl, SqL.of hq9, hct, _, _, rfl, rfl, (show (3 : Int) ≠ 0 by decide), _, _, rfl, rfl, _, rfl, bw9, _, _, _, rfl, rfl, SqT.of hbw, rfl, _, _, rfl, dw, Nat.lt_of_lt_of_le bw.den (pow_le (by decide)), fun wv H10 s910 f10 => key wv H10 ⟨s910, _, f10⟩⟩
        case E =>
          refine ⟨_, rfl, bw9, _, _, _, rfl, rfl, SqT.of hbw, rfl, _, _, rfl, rfl, _, rfl, ?_⟩
          refine ite2 (fun _ => ?_) (fun _ => key (.ref bw9) H9 ⟨Same.refl _, _, f9⟩)
          exact ⟨_, rfl, bw9, _, _, _, rfl, rfl, SqT.of hbw, rfl, _, rfl, _, _, rfl, rfl, _, rfl, _, rfl, q3, _, _, _, rfl, rfl, SqL.of hq9, hct, _, _, rfl, rfl, (show (3 : Int) ≠ 0 by decide), _, _, rfl, rfl, _, rfl, bw9, _, _, _, rfl, rfl, SqT.of hbw, rfl, _, _, rfl, dw, Nat.lt_of_lt_of_le bw.den (pow_le (by decide)), fun wv H10 s910 f10 => key wv H10 ⟨s910, _, f10⟩⟩
      case body =>
        rintro wv H10 ⟨s910, w, f10⟩
        obtain ⟨bv, ebv, hbv⟩ := id f10
        have hrefl : ∀ {Hx : Hp}, AlS K Hx 2 wv wv := fun {Hx} => by rw [ebv]; exact AlS.refl 2
        have s810 := s9.trans s910
        have s610 := s69.trans s910
        have hA10 := Paired.mapP hA fun _ _ f => FrV.same f s810
        have hO10 := paired_zip (Paired.mapP hO6 fun _ _ f => OfV.same f s610) eW
        have hC10 : Paired (CdV H10) ls cs := Paired.mapP hC6 fun _ _ f => ⟨RepC.same s610 f.1, f.2⟩
        have ho10 := s610 _ _ h26
        have hl10 := s610 _ _ h36
        have ha10 := s810 _ _ h8
        refine ⟨_, rfl, ao, _, rfl, .inl (SqL.of ho10), fun l1 hl1 => ?_⟩
        have u1 := Same.upd (o := .lst os) hl1
        refine ⟨_, rfl, _, rfl, al, _, rfl, .inl (SqL.of (u1 _ _ hl10)), fun l2 hl2 => ?_⟩
        have u2 := u1.trans (Same.upd (o := .lst ls) hl2)
        refine ⟨sz (by simp), fun l3 hl3' => ?_⟩
        have u3 := u2.trans (Same.upd (o := .tup [wv, V.ref l2]) hl3')
        refine ⟨_, rfl, aa, _, rfl, .inl (SqL.of (u3 _ _ ha10)), fun l4 hl4 => ?_⟩
        have u4 := u3.trans (Same.upd (o := .lst as) hl4)
        refine ⟨sz (by simp), fun lh hlh => ?_⟩
        have v5' := Same.upd (o := .lst [V.ref l1, .ref l3, .ref l4]) hlh
        have u5 := u4.trans v5'
        have e4 := v5' _ _ (upd_same (H := upd (upd (upd H10 l1 (.lst os)) l2 (.lst ls)) l3 (.tup [wv, V.ref l2])) (a := l4) (o := .lst as))
        have e3 := v5' _ _ ((Same.upd (o := .lst as) hl4) _ _ (upd_same (H := upd (upd H10 l1 (.lst os)) l2 (.lst ls)) (a := l3) (o := .tup [wv, V.ref l2])))
        have e2 := v5' _ _ ((Same.upd (o := .lst as) hl4) _ _ ((Same.upd (o := .tup [wv, V.ref l2]) hl3') _ _ (upd_same (H := upd H10 l1 (.lst os)) (a := l2) (o := .lst ls))))
        have e1 := v5' _ _ ((Same.upd (o := .lst as) hl4) _ _ ((Same.upd (o := .tup [wv, V.ref l2]) hl3') _ _ ((Same.upd (o := .lst ls) hl2) _ _ (upd_same (H := H10) (a := l1) (o := .lst os)))))
        have eh := upd_same (H := upd (upd (upd (upd H10 l1 (.lst os)) l2 (.lst ls)) l3 (.tup [wv, V.ref l2])) l4 (.lst as)) (a := lh) (o := .lst [V.ref l1, .ref l3, .ref l4])
        generalize upd (upd (upd (upd (upd H10 l1 (.lst os)) l2 (.lst ls)) l3 (.tup [wv, V.ref l2])) l4 (.lst as)) lh (.lst [V.ref l1, .ref l3, .ref l4]) = H11 at *
        have hA11 := Paired.mapP hA10 fun _ _ f => FrV.same f u5
        have hO11 := Paired.mapP hO10 fun _ _ f => OfV.same f u5
        have hC11 : Paired (CdV H11) ls cs := Paired.mapP hC10 fun _ _ f => ⟨RepC.same u5 f.1, f.2⟩
        have f11 := f10.same u5
        refine ⟨_, rfl, lh, _, _, _, rfl, rfl, SqL.of eh, rfl, _, rfl, lh, _, _, _, rfl, rfl, SqL.of eh, rfl, _, rfl, _, rfl, lh, _, _, _, rfl, rfl, SqL.of eh, rfl, l1, l3, l2, l4, now, os, ls, as, zz, cs, wv, _, rfl, SqL.of e1, hO11, SqL.of e4, hA11, okz, z8, e3, f11, SqL.of e2, hC11, c8, fun H12 s12 => ?_⟩
        have ho12 := s12 _ _ (u5 _ _ ho10)
        have hl12 := s12 _ _ (u5 _ _ hl10)
        have ha12 := s12 _ _ (u5 _ _ ha10)
        refine ⟨_, rfl, _, rfl, _, rfl, sz (by simp), fun l5 hl5 => ?_⟩
        have v13 := Same.upd (o := .tup [wv, V.ref al]) hl5
        have s13 := s12.trans v13
        refine ⟨_, rfl, _, rfl, ao, l5, al, aa, now, os, ls, as, zz, cs, wv, _, rfl, SqL.of (v13 _ _ ho12), Paired.mapP hO11 fun _ _ f => OfV.same f s13, SqL.of (v13 _ _ ha12), Paired.mapP hA11 fun _ _ f => FrV.same f s13, okz, z8, upd_same, f11.same s13, SqL.of (v13 _ _ hl12), Paired.mapP hC11 fun _ _ f => ⟨RepC.same s13 f.1, f.2⟩, c8, fun H14 s14 => ?_⟩
        refine ⟨_, rfl, _, _, _, _, rfl, tyOf_of (n := "bool") rfl, kit_tt (by decide) (by decide), _, rfl, ?_⟩
        refine iteF ?_
        refine ⟨_, rfl, _, rfl, rfl, _, rfl, ?_⟩
        rw [decide_eq_true rfl]
        refine iteF ?_
        refine ⟨_, rfl, _, rfl, _, rfl, _, rfl, sz (by simp), fun l6 hl6 => ?_⟩
        have v15 := Same.upd (o := .tup [wv, V.ref al]) hl6
        refine ⟨_, rfl, sz (by simp), fun l7 hl7 => ?_⟩
        have v16 := Same.upd (o := .lst [V.ref ao, .ref l6, .ref aa]) hl7
        have s16 := s13.trans (s14.trans (v15.trans v16))
        have ro := refs_of (H := H11) hO11 fun v z f => (let ⟨a, _, _, e, _⟩ := f; ⟨a, e⟩)
        have ra := refs_of (H := H11) hA11 fun v z f => (let ⟨a, e, _⟩ := f; ⟨a, e⟩)
        have rl := refs_of (H := H11) hC11 fun v c f => repC_ref f.1
        refine ⟨⟨lh, l7, _, _, rfl, rfl, SqL.of (s16 _ _ eh), SqL.of upd_same, .cons ?_ (.cons ?_ (.cons ?_ .nil))⟩, _, rfl, ?_⟩
        · exact Or.inr ⟨l1, ao, os, os, rfl, rfl, .inl ⟨SqL.of (s16 _ _ e1), SqL.of ((s14.trans (v15.trans v16)) _ _ (v13 _ _ ho12))⟩, AlS.refls 2 ro⟩
        · refine Or.inr ⟨l3, l6, _, _, rfl, rfl, .inr ⟨SqT.of (s16 _ _ e3), SqT.of (v16 _ _ upd_same)⟩, .cons ?_ (.cons ?_ .nil)⟩
          · exact hrefl
          · exact Or.inr ⟨l2, al, ls, ls, rfl, rfl, .inl ⟨SqL.of (s16 _ _ e2), SqL.of ((s14.trans (v15.trans v16)) _ _ (v13 _ _ hl12))⟩, AlS.refls 1 rl⟩
        · exact Or.inr ⟨l4, aa, as, as, rfl, rfl, .inl ⟨SqL.of (s16 _ _ e4), SqL.of ((s14.trans (v15.trans v16)) _ _ (v13 _ _ ha12))⟩, AlS.refls 2 ra⟩
        refine iteF ?_
        exact ⟨_, _, _, _, _, _, rfl, s610.trans (u5.trans s16)⟩
    · rintro σ H7 ⟨v6, v7, v8, v9, v10, v11, rfl, s7⟩
      exact k H7
end
end T40
namespace T40
open PySem L2 Tc
theorem all_mk {l : PySem.W.OpenLaw} {w : World} {K : PySem.W.Frag} {h : Heap} {mg : Str → Option Value} {fa : Addr} (X : K.In h) (G : h.Ns mainGlobals mg) (hfa : mg "law" = some (.ref fa))
    {f0 : Addr} {oc0 kV0 dc0 pm0 cd0 ct0 : Value} {od0 an0 : Option Addr} {sl0 : Array (Option Value)}
    {f1 : Addr} {oc1 kV1 dc1 pm1 cd1 ct1 : Value} {od1 an1 : Option Addr} {sl1 : Array (Option Value)}
    {f2 : Addr} {oc2 kV2 dc2 pm2 cd2 ct2 : Value} {od2 an2 : Option Addr} {sl2 : Array (Option Value)}
    {f3 : Addr} {oc3 kV3 dc3 pm3 cd3 ct3 : Value} {od3 an3 : Option Addr} {sl3 : Array (Option Value)}
    {f4 : Addr} {oc4 kV4 dc4 pm4 cd4 ct4 : Value} {od4 an4 : Option Addr} {sl4 : Array (Option Value)}
    {f5 : Addr} {oc5 kV5 dc5 pm5 cd5 ct5 : Value} {od5 an5 : Option Addr} {sl5 : Array (Option Value)}
    {f6 : Addr} {oc6 kV6 dc6 pm6 cd6 ct6 : Value} {od6 an6 : Option Addr} {sl6 : Array (Option Value)}
    {f7 : Addr} {oc7 kV7 dc7 pm7 cd7 ct7 : Value} {od7 an7 : Option Addr} {sl7 : Array (Option Value)}
    {f8 : Addr} {oc8 kV8 dc8 pm8 cd8 ct8 : Value} {od8 an8 : Option Addr} {sl8 : Array (Option Value)}
    {f9 : Addr} {oc9 kV9 dc9 pm9 cd9 ct9 : Value} {od9 an9 : Option Addr} {sl9 : Array (Option Value)}
    {f10 : Addr} {oc10 kV10 dc10 pm10 cd10 ct10 : Value} {od10 an10 : Option Addr} {sl10 : Array (Option Value)}
    {f11 : Addr} {oc11 kV11 dc11 pm11 cd11 ct11 : Value} {od11 an11 : Option Addr} {sl11 : Array (Option Value)}
    {f12 : Addr} {oc12 kV12 dc12 pm12 cd12 ct12 : Value} {od12 an12 : Option Addr} {sl12 : Array (Option Value)}
    {f13 : Addr} {oc13 kV13 dc13 pm13 cd13 ct13 : Value} {od13 an13 : Option Addr} {sl13 : Array (Option Value)}
    {f14 : Addr} {oc14 kV14 dc14 pm14 cd14 ct14 : Value} {od14 an14 : Option Addr} {sl14 : Array (Option Value)}
    {f15 : Addr} {oc15 kV15 dc15 pm15 cd15 ct15 : Value} {od15 an15 : Option Addr} {sl15 : Array (Option Value)}
    {f16 : Addr} {oc16 kV16 dc16 pm16 cd16 ct16 : Value} {od16 an16 : Option Addr} {sl16 : Array (Option Value)}
    {f17 : Addr} {oc17 kV17 dc17 pm17 cd17 ct17 : Value} {od17 an17 : Option Addr} {sl17 : Array (Option Value)}
    {f18 : Addr} {oc18 kV18 dc18 pm18 cd18 ct18 : Value} {od18 an18 : Option Addr} {sl18 : Array (Option Value)}
    {f19 : Addr} {oc19 kV19 dc19 pm19 cd19 ct19 : Value} {od19 an19 : Option Addr} {sl19 : Array (Option Value)}
    {f20 : Addr} {oc20 kV20 dc20 pm20 cd20 ct20 : Value} {od20 an20 : Option Addr} {sl20 : Array (Option Value)}
    {f21 : Addr} {oc21 kV21 dc21 pm21 cd21 ct21 : Value} {od21 an21 : Option Addr} {sl21 : Array (Option Value)}
    {f22 : Addr} {oc22 kV22 dc22 pm22 cd22 ct22 : Value} {od22 an22 : Option Addr} {sl22 : Array (Option Value)}
    {f23 : Addr} {oc23 kV23 dc23 pm23 cd23 ct23 : Value} {od23 an23 : Option Addr} {sl23 : Array (Option Value)}
    {f24 : Addr} {oc24 kV24 dc24 pm24 cd24 ct24 : Value} {od24 an24 : Option Addr} {sl24 : Array (Option Value)}
    {f25 : Addr} {oc25 kV25 dc25 pm25 cd25 ct25 : Value} {od25 an25 : Option Addr} {sl25 : Array (Option Value)}
    {f26 : Addr} {oc26 kV26 dc26 pm26 cd26 ct26 : Value} {od26 an26 : Option Addr} {sl26 : Array (Option Value)}
    {f27 : Addr} {oc27 kV27 dc27 pm27 cd27 ct27 : Value} {od27 an27 : Option Addr} {sl27 : Array (Option Value)}
    {f28 : Addr} {oc28 kV28 dc28 pm28 cd28 ct28 : Value} {od28 an28 : Option Addr} {sl28 : Array (Option Value)}
    {f29 : Addr} {oc29 kV29 dc29 pm29 cd29 ct29 : Value} {od29 an29 : Option Addr} {sl29 : Array (Option Value)}
    {f30 : Addr} {oc30 kV30 dc30 pm30 cd30 ct30 : Value} {od30 an30 : Option Addr} {sl30 : Array (Option Value)}
    {f31 : Addr} {oc31 kV31 dc31 pm31 cd31 ct31 : Value} {od31 an31 : Option Addr} {sl31 : Array (Option Value)}
    {f32 : Addr} {oc32 kV32 dc32 pm32 cd32 ct32 : Value} {od32 an32 : Option Addr} {sl32 : Array (Option Value)}
    {f33 : Addr} {oc33 kV33 dc33 pm33 cd33 ct33 : Value} {od33 an33 : Option Addr} {sl33 : Array (Option Value)}
    (a0 : PySem.W.nsIn K mainGlobals "means" = some (some (.ref f0))) (l0 : K.lookup f0 = some ⟨oc0, od0, .func (PySem.W.fnOf "means" "means" (defArgs s_means) (defBody s_means) (defScope s_means) .none kV0 dc0 pm0 an0 cd0 ct0), sl0⟩) (c0 : PySem.W.codeIn K cd0 "means" = true) (k0 : PySem.W.keepIn K (.ref f0) = true)
    (a1 : PySem.W.nsIn K mainGlobals "common_divisor" = some (some (.ref f1))) (l1 : K.lookup f1 = some ⟨oc1, od1, .func (PySem.W.fnOf "common_divisor" "common_divisor" (defArgs s_common_divisor) (defBody s_common_divisor) (defScope s_common_divisor) .none kV1 dc1 pm1 an1 cd1 ct1), sl1⟩) (c1 : PySem.W.codeIn K cd1 "common_divisor" = true) (k1 : PySem.W.keepIn K (.ref f1) = true)
    (a2 : PySem.W.nsIn K mainGlobals "plus" = some (some (.ref f2))) (l2 : K.lookup f2 = some ⟨oc2, od2, .func (PySem.W.fnOf "plus" "plus" (defArgs s_plus) (defBody s_plus) (defScope s_plus) .none kV2 dc2 pm2 an2 cd2 ct2), sl2⟩) (c2 : PySem.W.codeIn K cd2 "plus" = true) (k2 : PySem.W.keepIn K (.ref f2) = true)
    (a3 : PySem.W.nsIn K mainGlobals "minus" = some (some (.ref f3))) (l3 : K.lookup f3 = some ⟨oc3, od3, .func (PySem.W.fnOf "minus" "minus" (defArgs s_minus) (defBody s_minus) (defScope s_minus) .none kV3 dc3 pm3 an3 cd3 ct3), sl3⟩) (c3 : PySem.W.codeIn K cd3 "minus" = true) (k3 : PySem.W.keepIn K (.ref f3) = true)
    (a4 : PySem.W.nsIn K mainGlobals "times" = some (some (.ref f4))) (l4 : K.lookup f4 = some ⟨oc4, od4, .func (PySem.W.fnOf "times" "times" (defArgs s_times) (defBody s_times) (defScope s_times) .none kV4 dc4 pm4 an4 cd4 ct4), sl4⟩) (c4 : PySem.W.codeIn K cd4 "times" = true) (k4 : PySem.W.keepIn K (.ref f4) = true)
    (a5 : PySem.W.nsIn K mainGlobals "over" = some (some (.ref f5))) (l5 : K.lookup f5 = some ⟨oc5, od5, .func (PySem.W.fnOf "over" "over" (defArgs s_over) (defBody s_over) (defScope s_over) .none kV5 dc5 pm5 an5 cd5 ct5), sl5⟩) (c5 : PySem.W.codeIn K cd5 "over" = true) (k5 : PySem.W.keepIn K (.ref f5) = true)
    (a6 : PySem.W.nsIn K mainGlobals "under" = some (some (.ref f6))) (l6 : K.lookup f6 = some ⟨oc6, od6, .func (PySem.W.fnOf "under" "under" (defArgs s_under) (defBody s_under) (defScope s_under) .none kV6 dc6 pm6 an6 cd6 ct6), sl6⟩) (c6 : PySem.W.codeIn K cd6 "under" = true) (k6 : PySem.W.keepIn K (.ref f6) = true)
    (a7 : PySem.W.nsIn K mainGlobals "sum_of" = some (some (.ref f7))) (l7 : K.lookup f7 = some ⟨oc7, od7, .func (PySem.W.fnOf "sum_of" "sum_of" (defArgs s_sum_of) (defBody s_sum_of) (defScope s_sum_of) .none kV7 dc7 pm7 an7 cd7 ct7), sl7⟩) (c7 : PySem.W.codeIn K cd7 "sum_of" = true) (k7 : PySem.W.keepIn K (.ref f7) = true)
    (a8 : PySem.W.nsIn K mainGlobals "total" = some (some (.ref f8))) (l8 : K.lookup f8 = some ⟨oc8, od8, .func (PySem.W.fnOf "total" "total" (defArgs s_total) (defBody s_total) (defScope s_total) .none kV8 dc8 pm8 an8 cd8 ct8), sl8⟩) (c8 : PySem.W.codeIn K cd8 "total" = true) (k8 : PySem.W.keepIn K (.ref f8) = true)
    (a9 : PySem.W.nsIn K mainGlobals "weight" = some (some (.ref f9))) (l9 : K.lookup f9 = some ⟨oc9, od9, .func (PySem.W.fnOf "weight" "weight" (defArgs s_weight) (defBody s_weight) (defScope s_weight) .none kV9 dc9 pm9 an9 cd9 ct9), sl9⟩) (c9 : PySem.W.codeIn K cd9 "weight" = true) (k9 : PySem.W.keepIn K (.ref f9) = true)
    (a10 : PySem.W.nsIn K mainGlobals "balance" = some (some (.ref f10))) (l10 : K.lookup f10 = some ⟨oc10, od10, .func (PySem.W.fnOf "balance" "balance" (defArgs s_balance) (defBody s_balance) (defScope s_balance) .none kV10 dc10 pm10 an10 cd10 ct10), sl10⟩) (c10 : PySem.W.codeIn K cd10 "balance" = true) (k10 : PySem.W.keepIn K (.ref f10) = true)
    (a11 : PySem.W.nsIn K mainGlobals "weights_in" = some (some (.ref f11))) (l11 : K.lookup f11 = some ⟨oc11, od11, .func (PySem.W.fnOf "weights_in" "weights_in" (defArgs s_weights_in) (defBody s_weights_in) (defScope s_weights_in) .none kV11 dc11 pm11 an11 cd11 ct11), sl11⟩) (c11 : PySem.W.codeIn K cd11 "weights_in" = true) (k11 : PySem.W.keepIn K (.ref f11) = true)
    (a12 : PySem.W.nsIn K mainGlobals "product_sum" = some (some (.ref f12))) (l12 : K.lookup f12 = some ⟨oc12, od12, .func (PySem.W.fnOf "product_sum" "product_sum" (defArgs s_product_sum) (defBody s_product_sum) (defScope s_product_sum) .none kV12 dc12 pm12 an12 cd12 ct12), sl12⟩) (c12 : PySem.W.codeIn K cd12 "product_sum" = true) (k12 : PySem.W.keepIn K (.ref f12) = true)
    (a13 : PySem.W.nsIn K mainGlobals "is_blend" = some (some (.ref f13))) (l13 : K.lookup f13 = some ⟨oc13, od13, .func (PySem.W.fnOf "is_blend" "is_blend" (defArgs s_is_blend) (defBody s_is_blend) (defScope s_is_blend) .none kV13 dc13 pm13 an13 cd13 ct13), sl13⟩) (c13 : PySem.W.codeIn K cd13 "is_blend" = true) (k13 : PySem.W.keepIn K (.ref f13) = true)
    (a14 : PySem.W.nsIn K mainGlobals "_law_cell_at" = some (some (.ref f14))) (l14 : K.lookup f14 = some ⟨oc14, od14, .func (PySem.W.fnOf "_law_cell_at" "_law_cell_at" (defArgs s__law_cell_at) (defBody s__law_cell_at) (defScope s__law_cell_at) .none kV14 dc14 pm14 an14 cd14 ct14), sl14⟩) (c14 : PySem.W.codeIn K cd14 "_law_cell_at" = true) (k14 : PySem.W.keepIn K (.ref f14) = true)
    (a15 : PySem.W.nsIn K mainGlobals "_law_mixed" = some (some (.ref f15))) (l15 : K.lookup f15 = some ⟨oc15, od15, .func (PySem.W.fnOf "_law_mixed" "_law_mixed" (defArgs s__law_mixed) (defBody s__law_mixed) (defScope s__law_mixed) .none kV15 dc15 pm15 an15 cd15 ct15), sl15⟩) (c15 : PySem.W.codeIn K cd15 "_law_mixed" = true) (k15 : PySem.W.keepIn K (.ref f15) = true)
    (a16 : PySem.W.nsIn K mainGlobals "_law_divisor" = some (some (.ref f16))) (l16 : K.lookup f16 = some ⟨oc16, od16, .func (PySem.W.fnOf "_law_divisor" "_law_divisor" (defArgs s__law_divisor) (defBody s__law_divisor) (defScope s__law_divisor) .none kV16 dc16 pm16 an16 cd16 ct16), sl16⟩) (c16 : PySem.W.codeIn K cd16 "_law_divisor" = true) (k16 : PySem.W.keepIn K (.ref f16) = true)
    (a17 : PySem.W.nsIn K mainGlobals "_law_lowest" = some (some (.ref f17))) (l17 : K.lookup f17 = some ⟨oc17, od17, .func (PySem.W.fnOf "_law_lowest" "_law_lowest" (defArgs s__law_lowest) (defBody s__law_lowest) (defScope s__law_lowest) .none kV17 dc17 pm17 an17 cd17 ct17), sl17⟩) (c17 : PySem.W.codeIn K cd17 "_law_lowest" = true) (k17 : PySem.W.keepIn K (.ref f17) = true)
    (a18 : PySem.W.nsIn K mainGlobals "_law_names" = some (some (.ref f18))) (l18 : K.lookup f18 = some ⟨oc18, od18, .func (PySem.W.fnOf "_law_names" "_law_names" (defArgs s__law_names) (defBody s__law_names) (defScope s__law_names) .none kV18 dc18 pm18 an18 cd18 ct18), sl18⟩) (c18 : PySem.W.codeIn K cd18 "_law_names" = true) (k18 : PySem.W.keepIn K (.ref f18) = true)
    (a19 : PySem.W.nsIn K mainGlobals "_law_wine" = some (some (.ref f19))) (l19 : K.lookup f19 = some ⟨oc19, od19, .func (PySem.W.fnOf "_law_wine" "_law_wine" (defArgs s__law_wine) (defBody s__law_wine) (defScope s__law_wine) .none kV19 dc19 pm19 an19 cd19 ct19), sl19⟩) (c19 : PySem.W.codeIn K cd19 "_law_wine" = true) (k19 : PySem.W.keepIn K (.ref f19) = true)
    (a20 : PySem.W.nsIn K mainGlobals "_law_pick" = some (some (.ref f20))) (l20 : K.lookup f20 = some ⟨oc20, od20, .func (PySem.W.fnOf "_law_pick" "_law_pick" (defArgs s__law_pick) (defBody s__law_pick) (defScope s__law_pick) .none kV20 dc20 pm20 an20 cd20 ct20), sl20⟩) (c20 : PySem.W.codeIn K cd20 "_law_pick" = true) (k20 : PySem.W.keepIn K (.ref f20) = true)
    (a21 : PySem.W.nsIn K mainGlobals "_law_condition" = some (some (.ref f21))) (l21 : K.lookup f21 = some ⟨oc21, od21, .func (PySem.W.fnOf "_law_condition" "_law_condition" (defArgs s__law_condition) (defBody s__law_condition) (defScope s__law_condition) .none kV21 dc21 pm21 an21 cd21 ct21), sl21⟩) (c21 : PySem.W.codeIn K cd21 "_law_condition" = true) (k21 : PySem.W.keepIn K (.ref f21) = true)
    (a22 : PySem.W.nsIn K mainGlobals "_law_meant" = some (some (.ref f22))) (l22 : K.lookup f22 = some ⟨oc22, od22, .func (PySem.W.fnOf "_law_meant" "_law_meant" (defArgs s__law_meant) (defBody s__law_meant) (defScope s__law_meant) .none kV22 dc22 pm22 an22 cd22 ct22), sl22⟩) (c22 : PySem.W.codeIn K cd22 "_law_meant" = true) (k22 : PySem.W.keepIn K (.ref f22) = true)
    (a23 : PySem.W.nsIn K mainGlobals "_law_factor" = some (some (.ref f23))) (l23 : K.lookup f23 = some ⟨oc23, od23, .func (PySem.W.fnOf "_law_factor" "_law_factor" (defArgs s__law_factor) (defBody s__law_factor) (defScope s__law_factor) .none kV23 dc23 pm23 an23 cd23 ct23), sl23⟩) (c23 : PySem.W.codeIn K cd23 "_law_factor" = true) (k23 : PySem.W.keepIn K (.ref f23) = true)
    (a24 : PySem.W.nsIn K mainGlobals "_law_units" = some (some (.ref f24))) (l24 : K.lookup f24 = some ⟨oc24, od24, .func (PySem.W.fnOf "_law_units" "_law_units" (defArgs s__law_units) (defBody s__law_units) (defScope s__law_units) .none kV24 dc24 pm24 an24 cd24 ct24), sl24⟩) (c24 : PySem.W.codeIn K cd24 "_law_units" = true) (k24 : PySem.W.keepIn K (.ref f24) = true)
    (a25 : PySem.W.nsIn K mainGlobals "_law_weighed" = some (some (.ref f25))) (l25 : K.lookup f25 = some ⟨oc25, od25, .func (PySem.W.fnOf "_law_weighed" "_law_weighed" (defArgs s__law_weighed) (defBody s__law_weighed) (defScope s__law_weighed) .none kV25 dc25 pm25 an25 cd25 ct25), sl25⟩) (c25 : PySem.W.codeIn K cd25 "_law_weighed" = true) (k25 : PySem.W.keepIn K (.ref f25) = true)
    (a26 : PySem.W.nsIn K mainGlobals "_law_offer" = some (some (.ref f26))) (l26 : K.lookup f26 = some ⟨oc26, od26, .func (PySem.W.fnOf "_law_offer" "_law_offer" (defArgs s__law_offer) (defBody s__law_offer) (defScope s__law_offer) .none kV26 dc26 pm26 an26 cd26 ct26), sl26⟩) (c26 : PySem.W.codeIn K cd26 "_law_offer" = true) (k26 : PySem.W.keepIn K (.ref f26) = true)
    (a27 : PySem.W.nsIn K mainGlobals "_law_total" = some (some (.ref f27))) (l27 : K.lookup f27 = some ⟨oc27, od27, .func (PySem.W.fnOf "_law_total" "_law_total" (defArgs s__law_total) (defBody s__law_total) (defScope s__law_total) .none kV27 dc27 pm27 an27 cd27 ct27), sl27⟩) (c27 : PySem.W.codeIn K cd27 "_law_total" = true) (k27 : PySem.W.keepIn K (.ref f27) = true)
    (a28 : PySem.W.nsIn K mainGlobals "_law_label" = some (some (.ref f28))) (l28 : K.lookup f28 = some ⟨oc28, od28, .func (PySem.W.fnOf "_law_label" "_law_label" (defArgs s__law_label) (defBody s__law_label) (defScope s__law_label) .none kV28 dc28 pm28 an28 cd28 ct28), sl28⟩) (c28 : PySem.W.codeIn K cd28 "_law_label" = true) (k28 : PySem.W.keepIn K (.ref f28) = true)
    (a29 : PySem.W.nsIn K mainGlobals "_law_sum" = some (some (.ref f29))) (l29 : K.lookup f29 = some ⟨oc29, od29, .func (PySem.W.fnOf "_law_sum" "_law_sum" (defArgs s__law_sum) (defBody s__law_sum) (defScope s__law_sum) .none kV29 dc29 pm29 an29 cd29 ct29), sl29⟩) (c29 : PySem.W.codeIn K cd29 "_law_sum" = true) (k29 : PySem.W.keepIn K (.ref f29) = true)
    (a30 : PySem.W.nsIn K mainGlobals "_law_kept" = some (some (.ref f30))) (l30 : K.lookup f30 = some ⟨oc30, od30, .func (PySem.W.fnOf "_law_kept" "_law_kept" (defArgs s__law_kept) (defBody s__law_kept) (defScope s__law_kept) .none kV30 dc30 pm30 an30 cd30 ct30), sl30⟩) (c30 : PySem.W.codeIn K cd30 "_law_kept" = true) (k30 : PySem.W.keepIn K (.ref f30) = true)
    (a31 : PySem.W.nsIn K mainGlobals "_law_is_blend" = some (some (.ref f31))) (l31 : K.lookup f31 = some ⟨oc31, od31, .func (PySem.W.fnOf "_law_is_blend" "_law_is_blend" (defArgs s__law_is_blend) (defBody s__law_is_blend) (defScope s__law_is_blend) .none kV31 dc31 pm31 an31 cd31 ct31), sl31⟩) (c31 : PySem.W.codeIn K cd31 "_law_is_blend" = true) (k31 : PySem.W.keepIn K (.ref f31) = true)
    (a32 : PySem.W.nsIn K mainGlobals "_law_amounts" = some (some (.ref f32))) (l32 : K.lookup f32 = some ⟨oc32, od32, .func (PySem.W.fnOf "_law_amounts" "_law_amounts" (defArgs s__law_amounts) (defBody s__law_amounts) (defScope s__law_amounts) .none kV32 dc32 pm32 an32 cd32 ct32), sl32⟩) (c32 : PySem.W.codeIn K cd32 "_law_amounts" = true) (k32 : PySem.W.keepIn K (.ref f32) = true)
    (a33 : PySem.W.nsIn K mainGlobals "law" = some (some (.ref f33))) (l33 : K.lookup f33 = some ⟨oc33, od33, .func (PySem.W.fnOf "law" "law" (defArgs s_law) (defBody s_law) (defScope s_law) .none kV33 dc33 pm33 an33 cd33 ct33), sl33⟩) (c33 : PySem.W.codeIn K cd33 "law" = true) (k33 : PySem.W.keepIn K (.ref f33) = true)
    (z_abs : PySem.W.nsIn K mainGlobals "abs" = some none)
    (z_all : PySem.W.nsIn K mainGlobals "all" = some none)
    (z_bool : PySem.W.nsIn K mainGlobals "bool" = some none)
    (z_int : PySem.W.nsIn K mainGlobals "int" = some none)
    (z_isinstance : PySem.W.nsIn K mainGlobals "isinstance" = some none)
    (z_len : PySem.W.nsIn K mainGlobals "len" = some none)
    (z_list : PySem.W.nsIn K mainGlobals "list" = some none)
    (z_max : PySem.W.nsIn K mainGlobals "max" = some none)
    (z_min : PySem.W.nsIn K mainGlobals "min" = some none)
    (z_range : PySem.W.nsIn K mainGlobals "range" = some none)
    (z_sum : PySem.W.nsIn K mainGlobals "sum" = some none)
    (z_zip : PySem.W.nsIn K mainGlobals "zip" = some none)
    : ∃ fd : FuncData, (∀ (s : Shared) (v : Value), BindsTo s fd ⟨[v], []⟩ [("_law_script", v)]) ∧ ∀ base : Heap, K.In base → base.Ns mainGlobals mg → FnOk l.prog w K mg base CX0 10 fa fd ["_law_script"] (spLaw K) := by
  have T : Txt K mg := ⟨PySem.W.mg_none_of X G z_abs, PySem.W.mg_none_of X G z_all, PySem.W.mg_none_of X G z_bool, PySem.W.mg_none_of X G z_int, PySem.W.mg_none_of X G z_isinstance, PySem.W.mg_none_of X G z_len, PySem.W.mg_none_of X G z_list, PySem.W.mg_none_of X G z_max, PySem.W.mg_none_of X G z_min, PySem.W.mg_none_of X G z_range, PySem.W.mg_none_of X G z_sum, PySem.W.mg_none_of X G z_zip⟩
  have D_means : DefAt K mg "means" s_means := DefAt.mk' X G a0 l0 c0 k0
  have D_common_divisor : DefAt K mg "common_divisor" s_common_divisor := DefAt.mk' X G a1 l1 c1 k1
  have D_plus : DefAt K mg "plus" s_plus := DefAt.mk' X G a2 l2 c2 k2
  have D_minus : DefAt K mg "minus" s_minus := DefAt.mk' X G a3 l3 c3 k3
  have D_times : DefAt K mg "times" s_times := DefAt.mk' X G a4 l4 c4 k4
  have D_over : DefAt K mg "over" s_over := DefAt.mk' X G a5 l5 c5 k5
  have D_under : DefAt K mg "under" s_under := DefAt.mk' X G a6 l6 c6 k6
  have D_sum_of : DefAt K mg "sum_of" s_sum_of := DefAt.mk' X G a7 l7 c7 k7
  have D_total : DefAt K mg "total" s_total := DefAt.mk' X G a8 l8 c8 k8
  have D_weight : DefAt K mg "weight" s_weight := DefAt.mk' X G a9 l9 c9 k9
  have D_balance : DefAt K mg "balance" s_balance := DefAt.mk' X G a10 l10 c10 k10
  have D_weights_in : DefAt K mg "weights_in" s_weights_in := DefAt.mk' X G a11 l11 c11 k11
  have D_product_sum : DefAt K mg "product_sum" s_product_sum := DefAt.mk' X G a12 l12 c12 k12
  have D_is_blend : DefAt K mg "is_blend" s_is_blend := DefAt.mk' X G a13 l13 c13 k13
  have D__law_cell_at : DefAt K mg "_law_cell_at" s__law_cell_at := DefAt.mk' X G a14 l14 c14 k14
  have D__law_mixed : DefAt K mg "_law_mixed" s__law_mixed := DefAt.mk' X G a15 l15 c15 k15
  have D__law_divisor : DefAt K mg "_law_divisor" s__law_divisor := DefAt.mk' X G a16 l16 c16 k16
  have D__law_lowest : DefAt K mg "_law_lowest" s__law_lowest := DefAt.mk' X G a17 l17 c17 k17
  have D__law_names : DefAt K mg "_law_names" s__law_names := DefAt.mk' X G a18 l18 c18 k18
  have D__law_wine : DefAt K mg "_law_wine" s__law_wine := DefAt.mk' X G a19 l19 c19 k19
  have D__law_pick : DefAt K mg "_law_pick" s__law_pick := DefAt.mk' X G a20 l20 c20 k20
  have D__law_condition : DefAt K mg "_law_condition" s__law_condition := DefAt.mk' X G a21 l21 c21 k21
  have D__law_meant : DefAt K mg "_law_meant" s__law_meant := DefAt.mk' X G a22 l22 c22 k22
  have D__law_factor : DefAt K mg "_law_factor" s__law_factor := DefAt.mk' X G a23 l23 c23 k23
  have D__law_units : DefAt K mg "_law_units" s__law_units := DefAt.mk' X G a24 l24 c24 k24
  have D__law_weighed : DefAt K mg "_law_weighed" s__law_weighed := DefAt.mk' X G a25 l25 c25 k25
  have D__law_offer : DefAt K mg "_law_offer" s__law_offer := DefAt.mk' X G a26 l26 c26 k26
  have D__law_total : DefAt K mg "_law_total" s__law_total := DefAt.mk' X G a27 l27 c27 k27
  have D__law_label : DefAt K mg "_law_label" s__law_label := DefAt.mk' X G a28 l28 c28 k28
  have D__law_sum : DefAt K mg "_law_sum" s__law_sum := DefAt.mk' X G a29 l29 c29 k29
  have D__law_kept : DefAt K mg "_law_kept" s__law_kept := DefAt.mk' X G a30 l30 c30 k30
  have D__law_is_blend : DefAt K mg "_law_is_blend" s__law_is_blend := DefAt.mk' X G a31 l31 c31 k31
  have D__law_amounts : DefAt K mg "_law_amounts" s__law_amounts := DefAt.mk' X G a32 l32 c32 k32
  have e := hfa.symm.trans (PySem.W.mg_of X G a33)
  cases e
  refine ⟨PySem.W.fnOf "law" "law" (defArgs s_law) (defBody s_law) (defScope s_law) .none kV33 dc33 pm33 an33 cd33 ct33, fun s v => .of_eq rfl, fun base _ _ => ?_⟩
  have G_means := ok_means (P := l.prog) (w := w) (base := base) D_means T  4
  have G_common_divisor := ok_common_divisor (P := l.prog) (w := w) (base := base) D_common_divisor T 
  have G_plus := ok_plus (P := l.prog) (w := w) (base := base) D_plus T G_common_divisor
  have G_minus := ok_minus (P := l.prog) (w := w) (base := base) D_minus T G_plus
  have G_times := ok_times (P := l.prog) (w := w) (base := base) D_times T G_common_divisor
  have G_over := ok_over (P := l.prog) (w := w) (base := base) D_over T G_times
  have G_under := ok_under (P := l.prog) (w := w) (base := base) D_under T 
  have G_sum_of := ok_sum_of (P := l.prog) (w := w) (base := base) D_sum_of T G_plus
  have G_total := ok_total (P := l.prog) (w := w) (base := base) D_total T G_sum_of
  have G_weight := ok_weight (P := l.prog) (w := w) (base := base) D_weight T G_minus G_means
  have G_balance := ok_balance (P := l.prog) (w := w) (base := base) D_balance T G_plus G_times G_weight
  have G_weights_in := ok_weights_in (P := l.prog) (w := w) (base := base) D_weights_in T G_over G_total G_balance
  have G_product_sum := ok_product_sum (P := l.prog) (w := w) (base := base) D_product_sum T G_sum_of G_times
  have G_is_blend := ok_is_blend (P := l.prog) (w := w) (base := base) D_is_blend T G_under G_total G_sum_of G_weights_in G_product_sum
  have G__law_cell_at := ok__law_cell_at (P := l.prog) (w := w) (base := base) D__law_cell_at T 
  have G__law_mixed := ok__law_mixed (P := l.prog) (w := w) (base := base) D__law_mixed T 
  have G__law_divisor := ok__law_divisor (P := l.prog) (w := w) (base := base) D__law_divisor T 
  have G__law_lowest := ok__law_lowest (P := l.prog) (w := w) (base := base) D__law_lowest T G__law_divisor
  have G__law_names := ok__law_names (P := l.prog) (w := w) (base := base) D__law_names T 
  have G__law_wine := ok__law_wine (P := l.prog) (w := w) (base := base) D__law_wine T G__law_mixed G__law_lowest
  have G__law_pick := ok__law_pick (P := l.prog) (w := w) (base := base) D__law_pick T 
  have G__law_condition := ok__law_condition (P := l.prog) (w := w) (base := base) D__law_condition T G__law_mixed G__law_lowest G__law_pick
  have G__law_meant := ok__law_meant (P := l.prog) (w := w) (base := base) D__law_meant T  4
  have G__law_factor := ok__law_factor (P := l.prog) (w := w) (base := base) D__law_factor T G__law_meant
  have G__law_units := ok__law_units (P := l.prog) (w := w) (base := base) D__law_units T 
  have G__law_weighed := ok__law_weighed (P := l.prog) (w := w) (base := base) D__law_weighed T G__law_units G__law_factor
  have G__law_offer := ok__law_offer (P := l.prog) (w := w) (base := base) D__law_offer T G__law_cell_at G__law_wine G__law_lowest G__law_mixed
  have G__law_total := ok__law_total (P := l.prog) (w := w) (base := base) D__law_total T G__law_units
  have G__law_label := ok__law_label (P := l.prog) (w := w) (base := base) D__law_label T G__law_cell_at G__law_condition
  have G__law_sum := ok__law_sum (P := l.prog) (w := w) (base := base) D__law_sum T G__law_lowest
  have G__law_kept := ok__law_kept (P := l.prog) (w := w) (base := base) D__law_kept T G__law_total G__law_weighed G__law_sum
  have G__law_is_blend := ok__law_is_blend (P := l.prog) (w := w) (base := base) D__law_is_blend T G__law_total G__law_kept G__law_sum
  have G__law_amounts := ok__law_amounts (P := l.prog) (w := w) (base := base) D__law_amounts T G__law_total G__law_lowest
  exact ok_law (fun_mk (st := s_law) l33 c33 k33) T G__law_cell_at G__law_names G__law_offer G__law_label G__law_amounts G__law_sum G__law_lowest G_is_blend G__law_is_blend
end T40
open PySem PySem.W PyProof.Rows
set_option maxRecDepth 100000 in
set_option maxHeartbeats 0 in
theorem PySem.Challenge.cw_tiercask_k40_what_is_a_blend_holds : PySem.Challenge.rw_tiercask_k40_what_is_a_blend.Holds := by
  w_on; o_law; k_head; (case hw => w_witness2)
  k_fill
  refine L2.walk_ofK (l := PySem.Challenge.rw_tiercask_k40_what_is_a_blend) (n := 63) (k := 10) (x := "_law_script") (CX := L2.CX0) (sp := Tc.spLaw) rfl (by decide) rfl ⟨rfl, by decide, by decide⟩ (fun w h Y => PySem.W.kIn_of Y) ?F ?S ?C
  case F =>
    intro w mg fa h KX G hmg
    refine' T40.all_mk KX G hmg ?a0 ?l0 ?c0 ?k0 ?a1 ?l1 ?c1 ?k1 ?a2 ?l2 ?c2 ?k2 ?a3 ?l3 ?c3 ?k3 ?a4 ?l4 ?c4 ?k4 ?a5 ?l5 ?c5 ?k5 ?a6 ?l6 ?c6 ?k6 ?a7 ?l7 ?c7 ?k7 ?a8 ?l8 ?c8 ?k8 ?a9 ?l9 ?c9 ?k9 ?a10 ?l10 ?c10 ?k10 ?a11 ?l11 ?c11 ?k11 ?a12 ?l12 ?c12 ?k12 ?a13 ?l13 ?c13 ?k13 ?a14 ?l14 ?c14 ?k14 ?a15 ?l15 ?c15 ?k15 ?a16 ?l16 ?c16 ?k16 ?a17 ?l17 ?c17 ?k17 ?a18 ?l18 ?c18 ?k18 ?a19 ?l19 ?c19 ?k19 ?a20 ?l20 ?c20 ?k20 ?a21 ?l21 ?c21 ?k21 ?a22 ?l22 ?c22 ?k22 ?a23 ?l23 ?c23 ?k23 ?a24 ?l24 ?c24 ?k24 ?a25 ?l25 ?c25 ?k25 ?a26 ?l26 ?c26 ?k26 ?a27 ?l27 ?c27 ?k27 ?a28 ?l28 ?c28 ?k28 ?a29 ?l29 ?c29 ?k29 ?a30 ?l30 ?c30 ?k30 ?a31 ?l31 ?c31 ?k31 ?a32 ?l32 ?c32 ?k32 ?a33 ?l33 ?c33 ?k33 ?z_abs ?z_all ?z_bool ?z_int ?z_isinstance ?z_len ?z_list ?z_max ?z_min ?z_range ?z_sum ?z_zip
    (case a0 => k_is); (case l0 => k_is); (case c0 => k_is); (case k0 => k_is); (case a1 => k_is); (case l1 => k_is); (case c1 => k_is); (case k1 => k_is)
    (case a2 => k_is); (case l2 => k_is); (case c2 => k_is); (case k2 => k_is); (case a3 => k_is); (case l3 => k_is); (case c3 => k_is); (case k3 => k_is)
    (case a4 => k_is); (case l4 => k_is); (case c4 => k_is); (case k4 => k_is); (case a5 => k_is); (case l5 => k_is); (case c5 => k_is); (case k5 => k_is)
    (case a6 => k_is); (case l6 => k_is); (case c6 => k_is); (case k6 => k_is); (case a7 => k_is); (case l7 => k_is); (case c7 => k_is); (case k7 => k_is)
    (case a8 => k_is); (case l8 => k_is); (case c8 => k_is); (case k8 => k_is); (case a9 => k_is); (case l9 => k_is); (case c9 => k_is); (case k9 => k_is)
    (case a10 => k_is); (case l10 => k_is); (case c10 => k_is); (case k10 => k_is); (case a11 => k_is); (case l11 => k_is); (case c11 => k_is); (case k11 => k_is)
    (case a12 => k_is); (case l12 => k_is); (case c12 => k_is); (case k12 => k_is); (case a13 => k_is); (case l13 => k_is); (case c13 => k_is); (case k13 => k_is)
    (case a14 => k_is); (case l14 => k_is); (case c14 => k_is); (case k14 => k_is); (case a15 => k_is); (case l15 => k_is); (case c15 => k_is); (case k15 => k_is)
    (case a16 => k_is); (case l16 => k_is); (case c16 => k_is); (case k16 => k_is); (case a17 => k_is); (case l17 => k_is); (case c17 => k_is); (case k17 => k_is)
    (case a18 => k_is); (case l18 => k_is); (case c18 => k_is); (case k18 => k_is); (case a19 => k_is); (case l19 => k_is); (case c19 => k_is); (case k19 => k_is)
    (case a20 => k_is); (case l20 => k_is); (case c20 => k_is); (case k20 => k_is); (case a21 => k_is); (case l21 => k_is); (case c21 => k_is); (case k21 => k_is)
    (case a22 => k_is); (case l22 => k_is); (case c22 => k_is); (case k22 => k_is); (case a23 => k_is); (case l23 => k_is); (case c23 => k_is); (case k23 => k_is)
    (case a24 => k_is); (case l24 => k_is); (case c24 => k_is); (case k24 => k_is); (case a25 => k_is); (case l25 => k_is); (case c25 => k_is); (case k25 => k_is)
    (case a26 => k_is); (case l26 => k_is); (case c26 => k_is); (case k26 => k_is); (case a27 => k_is); (case l27 => k_is); (case c27 => k_is); (case k27 => k_is)
    (case a28 => k_is); (case l28 => k_is); (case c28 => k_is); (case k28 => k_is); (case a29 => k_is); (case l29 => k_is); (case c29 => k_is); (case k29 => k_is)
    (case a30 => k_is); (case l30 => k_is); (case c30 => k_is); (case k30 => k_is); (case a31 => k_is); (case l31 => k_is); (case c31 => k_is); (case k31 => k_is)
    (case a32 => k_is); (case l32 => k_is); (case c32 => k_is); (case k32 => k_is); (case a33 => k_is); (case l33 => k_is); (case c33 => k_is); (case k33 => k_is)
    (case z_abs => k_is); (case z_all => k_is); (case z_bool => k_is); (case z_int => k_is); (case z_isinstance => k_is); (case z_len => k_is); (case z_list => k_is); (case z_max => k_is)
    (case z_min => k_is); (case z_range => k_is); (case z_sum => k_is); (case z_zip => k_is)
  case S => exact fun K H a ns hl hO hS => ⟨a, ns, rfl, hS, hl, fun _ => rfl⟩
  case C => exact fun H s e s' z => z

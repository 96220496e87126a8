import PyProof.Rows.All
import Wide.All
import OpenK.AllK
import Wide.FinOn
import Lean
import PyProof.EqAt
import PyProof.EqKinds
import PyProof.TupleCall
import PySem.Challenge.RW_tiercask_k34_whole_greatest_way
set_option Elab.async false
set_option linter.all false
set_option maxRecDepth 100000
set_option maxHeartbeats 4000000
set_option exponentiation.threshold 100000
/-! THE HAND LAYER, for ints, bools, texts, own classes, LISTS and tuples (index, slices, in, append, pop ..), calls, loops. Paste it whole ahead of your own text; what your proof does not reach may be deleted. -/
namespace L2
open PySem PySem.Spec PyProof.Rows

/-- a key: an int or a str -/
abbrev Key := Sum Int Str
def keyIs : Key → Value → Bool
  | .inl k, v => Value.isInt k v
  | .inr x, v => Value.isStrOf x v
def keyH (w : World) : Key → Int
  | .inl k => hashInt k
  | .inr x => hashStr w x
theorem keyIs_shape : ∀ {k : Key} {v : Value}, keyIs k v = true → (∃ i t, k = Sum.inl i ∧ v = Value.int i t) ∨ (∃ x t, k = Sum.inr x ∧ v = Value.str x t)
  | .inl i, v, h => by
    obtain ⟨t, e⟩ := Value.isInt_shape (k := i) (v := v) h
    exact .inl ⟨i, t, rfl, e⟩
  | .inr x, v, h => by
    obtain ⟨t, e⟩ := Value.isStrOf_shape (x := x) (v := v) h
    exact .inr ⟨x, t, rfl, e⟩
theorem keyIs_int (i : Int) (t : Tok) : keyIs (.inl i) (.int i t) = true := by simp [keyIs, Value.isInt]
theorem keyIs_str (x : Str) (t : Tok) : keyIs (.inr x) (.str x t) = true := by simp [keyIs, Value.isStrOf]
theorem key_ll (a b : Int) : decide ((Sum.inl a : Key) = Sum.inl b) = (a == b) := by
  by_cases e : a = b
  · subst e; simp
  · have h : ¬ (Sum.inl a : Key) = Sum.inl b := fun q => e (Sum.inl.inj q)
    rw [decide_eq_false h]
    exact (beq_eq_false_iff_ne.mpr e).symm
theorem key_rr (a b : Str) : decide ((Sum.inr a : Key) = Sum.inr b) = decide (a = b) := by
  by_cases e : a = b
  · subst e; simp
  · have h : ¬ (Sum.inr a : Key) = Sum.inr b := fun q => e (Sum.inr.inj q)
    rw [decide_eq_false h, decide_eq_false e]
theorem key_lr (a : Int) (b : Str) : decide ((Sum.inl a : Key) = Sum.inr b) = false := decide_eq_false (fun q => nomatch q)
theorem key_rl (a : Str) (b : Int) : decide ((Sum.inr a : Key) = Sum.inl b) = false := decide_eq_false (fun q => nomatch q)

def mixKind (prog : Program) (w : World) : PySem.KeyKind prog w Key where
  is := keyIs
  hash := keyH w
  inj := fun v a b ha hb => by
    rcases keyIs_shape ha with ⟨i, t, rfl, rfl⟩ | ⟨x, t, rfl, rfl⟩
    · rcases keyIs_shape hb with ⟨j, u, rfl, e⟩ | ⟨y, u, rfl, e⟩
      · injection e with e1 _; rw [e1]
      · exact nomatch e
    · rcases keyIs_shape hb with ⟨j, u, rfl, e⟩ | ⟨y, u, rfl, e⟩
      · exact nomatch e
      · injection e with e1 _; rw [e1]
  byValue := fun k v h => by
    rcases keyIs_shape h with ⟨i, t, rfl, rfl⟩ | ⟨x, t, rfl, rfl⟩ <;> rfl
  pyHash := fun hv h => by
    rcases keyIs_shape hv with ⟨i, t, rfl, rfl⟩ | ⟨x, t, rfl, rfl⟩
    · exact wpAny_pyHash_int h
    · exact wpAny_pyHash_str h
  eqBool := fun hu hv h => by
    rcases keyIs_shape hu with ⟨i, t, rfl, rfl⟩ | ⟨x, t, rfl, rfl⟩
    · rcases keyIs_shape hv with ⟨j, u, rfl, rfl⟩ | ⟨y, u, rfl, rfl⟩
      · rw [key_ll] at h; exact wpAny_eqBool_int h
      · rw [key_lr] at h; exact SeqAt.EqAt.int_str i t y u _ _ _ _ h
    · rcases keyIs_shape hv with ⟨j, u, rfl, rfl⟩ | ⟨y, u, rfl, rfl⟩
      · rw [key_rl] at h; exact SeqAt.EqAt.str_int x t j u _ _ _ _ h
      · rw [key_rr] at h; exact wpAny_eqBool_str h
  «strs» := fun k x t v h => by
    rcases keyIs_shape h with ⟨i, u, rfl, e⟩ | ⟨y, u, rfl, e⟩
    · exact nomatch e
    · injection e with e1 _
      subst e1
      cases v <;> rfl

theorem mixKind_int (prog : Program) (w : World) (i : Int) (t : Tok) : (mixKind prog w).is (.inl i) (.int i t) = true := keyIs_int i t
theorem mixKind_str (prog : Program) (w : World) (x : Str) (t : Tok) : (mixKind prog w).is (.inr x) (.str x t) = true := keyIs_str x t
end L2

namespace L2
open PySem PySem.Spec PyProof.Rows

/-- a value, without the heap -/
inductive V where
  | non | bl (b : Bool) | int (i : Int) | str (x : Str) | byt (b : Array UInt8) | flt (b : UInt64) | ref (a : Addr) | ty (n : String)
  deriving DecidableEq

def RelV : V → Value → Prop
  | .non, u => u = Value.none
  | .bl b, u => u = Value.bool b
  | .int i, u => ∃ t, u = Value.int i t
  | .str x, u => ∃ t, u = Value.str x t
  | .byt b, u => ∃ t, u = Value.bytes b t
  | .flt b, u => ∃ t, u = Value.float b t
  | .ref a, u => u = Value.ref a
  | .ty n, u => u = Value.type n

abbrev Vals : List V → List Value → Prop := Paired RelV
theorem Vals.length {xs : List V} {us : List Value} (r : Vals xs us) : xs.length = us.length := Paired.length r
theorem Vals.get : ∀ {xs : List V} {us : List Value} {i : Nat} {x : V}, Vals xs us → xs[i]? = some x → ∃ u, us[i]? = some u ∧ RelV x u
  | _, _, _, _, .nil, e => by simp at e
  | _, _, 0, _, .cons r _, e => by simp at e; subst e; exact ⟨_, rfl, r⟩
  | _, _, i + 1, x, .cons _ t, e => by
    obtain ⟨u, h1, h2⟩ := Vals.get (i := i) (x := x) t (by simpa using e)
    exact ⟨u, by simpa using h1, h2⟩
theorem Vals.set {x : V} {u : Value} (r : RelV x u) : ∀ {xs : List V} {us : List Value} (i : Nat), Vals xs us → Vals (xs.set i x) (us.set i u)
  | _, _, _, .nil => .nil
  | _, _, 0, .cons _ t => .cons r t
  | _, _, i + 1, .cons q t => .cons q (Vals.set r i t)
theorem Vals.append : ∀ {xs ys : List V} {us ws : List Value}, Vals xs us → Vals ys ws → Vals (xs ++ ys) (us ++ ws)
  | _, _, _, _, .nil, s => s
  | _, _, _, _, .cons r t, s => .cons r (Vals.append t s)
theorem Vals.take : ∀ {xs : List V} {us : List Value} (n : Nat), Vals xs us → Vals (xs.take n) (us.take n)
  | _, _, 0, _ => .nil
  | _, _, _ + 1, .nil => .nil
  | _, _, n + 1, .cons r t => .cons r (Vals.take n t)
theorem Vals.drop : ∀ {xs : List V} {us : List Value} (n : Nat), Vals xs us → Vals (xs.drop n) (us.drop n)
  | _, _, 0, r => r
  | _, _, _ + 1, .nil => .nil
  | _, _, n + 1, .cons _ t => Vals.drop n t
def RelO : Option V → Option Value → Prop
  | some v, some u => RelV v u
  | none, none => True
  | _, _ => False
def KV {κ : Type} : List (κ × V) → List (κ × Value) → Prop := Paired fun (p : κ × V) (q : κ × Value) => p.1 = q.1 ∧ RelV p.2 q.2

/-- a key of a dict (00_mix): an int or a text -/
def kV : Key → V
  | .inl i => .int i
  | .inr x => .str x

/-- what stands at a tracked address -/
inductive HO where
  /-- a list -/
  | lst (xs : List V)
  /-- a tuple (never changes) -/
  | tup (xs : List V)
  /-- a dict whose keys are ints and texts; one whose keys are tuples of ints and texts (the empty one is both) -/
  | dK (kvs : List (Key × V)) | dT (kvs : List (List Key × V))
  /-- a set of ints: its members, its size -/
  | set (S : Int → Bool) (n : Nat)
  /-- an instance of the class at C, its dict at dx, its attributes -/
  | ins (C dx : Addr) (fs : List (Str × V))
  /-- the dict of the instance at x -/
  | own (x : Addr)
  /-- the dict of an exception -/
  | xd (fs : List (Str × V))
  /-- a bound method, f of x -/
  | met (f x : Addr)
  /-- a range object lo, lo + 1, .. below hi -/
  | rng (lo hi : Int)
  /-- a thing that is known to the object (the script; a dict while a loop walks it): read, never written while it is so -/
  | frz (o : Obj) (u : HO)
  /-- a code object's table -/
  | tbl (ps : Array Value)
  /-- any other thing, by what is true of its one object (a def of one's own: SetO a S n := HO.ext fun h => ..) -/
  | ext (φ : Heap → Prop)

abbrev Hp := Addr → Option HO
def upd (H : Hp) (a : Addr) (o : HO) : Hp := fun b => if b = a then some o else H b
theorem upd_same {H : Hp} {a : Addr} {o : HO} : upd H a o a = some o := by unfold upd; rw [if_pos rfl]
theorem upd_ne {H : Hp} {a b : Addr} {o : HO} (h : b ≠ a) : upd H a o b = H b := by unfold upd; rw [if_neg h]
/-- two objects of different content stand apart -/
theorem ne_of {H : Hp} {a b : Addr} {o u : HO} (h : H a = some o) (h' : H b = some u) (d : o ≠ u) : a ≠ b := by
  intro e; subst e; rw [h] at h'; exact d (Option.some.inj h')
theorem ne_of_none {H : Hp} {a b : Addr} {o : HO} (h : H a = some o) (h' : H b = none) : a ≠ b := by
  intro e; subst e; rw [h] at h'; cases h'

section
variable (P : Program) (w : World)
def ObjOk (H : Hp) (h : Heap) (a : Addr) : HO → Prop
  | .lst xs => xs.length ≤ sizeLine ∧ ∃ (its : List Value) (n : Nat), Vals xs its ∧ h.get? a = some { cls := .type "list", data := .seq its.toArray n }
  | .tup xs => xs.length ≤ sizeLine ∧ ∃ its : List Value, Vals xs its ∧ IsTup h a its.toArray
  | .dK kvs => kvs.length ≤ sizeLine ∧ (a == sysModules) = false ∧ ∃ vs, KV kvs vs ∧ h.DictOf (mixKind P w) a vs
  | .dT kvs => kvs.length ≤ sizeLine ∧ (a == sysModules) = false ∧ ∃ xs : List (List Key × Addr × Value),
      Paired (fun (p : List Key × V) (q : List Key × Addr × Value) => p.1 = q.1 ∧ H q.2.1 = some (.tup (p.1.map kV)) ∧ RelV p.2 q.2.2) kvs xs ∧
      ∃ o es ep, h.get? a = some o ∧ o.ExactDict ∧ o.data = .dict es ep ∧ es.toList = xs.map (entryOfKey (tupleKind (mixKind P w))) ∧ (xs.map (·.1)).Nodup
  | .set S n => h.SetOf (intKind P w) a S n
  | .ins C dx fs => H dx = some (.own a) ∧ fs.length ≤ 1000 ∧ dx ≠ a ∧ h.get? a = some (PySem.W.instObj C dx) ∧
      ∃ mA, h.Ns1 dx mA ∧ (∀ f, RelO (fs.lookup f) (mA f)) ∧ PySem.Within mA (fs.map (·.1))
  | .own _ => ∃ o, h.get? a = some o
  | .xd fs => ∃ mA, h.Ns1 a mA ∧ ∀ f, RelO (fs.lookup f) (mA f)
  | .rng lo hi => ∃ t u v, h.get? a = some { cls := .type "range", data := .fields #[.int lo t, .int hi u, .int 1 v] }
  | .frz o u => h.get? a = some o ∧ ObjOk H h a u
  | .tbl ps => h.get? a = some { cls := .none, data := .fields ps }
  | .met f x => h.get? a = some (PySem.W.methodObj (.ref f) (.ref x))
  | .ext φ => φ h ∧ (∃ o, h.get? a = some o) ∧ ∀ h1 h2 : Heap, φ h1 → (∀ o, h1.get? a = some o → h2.get? a = some o) → φ h2
/-- the abstract heap is held -/
def HOk (H : Hp) (h : Heap) : Prop := ∀ a o, H a = some o → ObjOk P w H h a o
end

section
variable {P : Program} {w : World} {H H' : Hp} {h h' : Heap} {a : Addr} {o : HO}
theorem ObjOk.lt (x : ObjOk P w H h a o) : a < h.objs.size := by
  cases o with
  | lst xs => obtain ⟨_, _, _, _, e⟩ := x; exact Heap.lt_size e
  | tup xs => obtain ⟨_, _, _, p⟩ := x; exact p.lt
  | dK kvs => obtain ⟨_, _, _, _, o, _, _, e, _⟩ := x; exact Heap.lt_size e
  | dT kvs => obtain ⟨_, _, _, _, o, _, _, e, _⟩ := x; exact Heap.lt_size e
  | set S n => obtain ⟨o, _, _, _, e, _⟩ := x; exact Heap.lt_size e
  | ins C dx fs => obtain ⟨_, _, _, e, _⟩ := x; exact Heap.lt_size e
  | own y => obtain ⟨_, e⟩ := x; exact Heap.lt_size e
  | xd fs => obtain ⟨_, ⟨_, _, _, e, _⟩, _⟩ := x; exact Heap.lt_size e
  | rng lo hi => obtain ⟨_, _, _, e⟩ := x; exact Heap.lt_size e
  | frz ob u => obtain ⟨e, _⟩ := x; exact Heap.lt_size e
  | tbl ps => exact Heap.lt_size (show h.get? a = some _ from x)
  | met f y => exact Heap.lt_size (show h.get? a = some _ from x)
  | ext φ => obtain ⟨_, ⟨_, e⟩, _⟩ := x; exact Heap.lt_size e
theorem Paired.mapP {α β : Type} {F G : α → β → Prop} : ∀ {l₁ : List α} {l₂ : List β}, Paired F l₁ l₂ → (∀ a b, F a b → G a b) → Paired G l₁ l₂
  | _, _, .nil, _ => .nil
  | _, _, .cons r t, f => .cons (f _ _ r) (Paired.mapP t f)
/-- what an object's description leans on: its own object, its own dict, the tuples -/
theorem ObjOk.stay (x : ObjOk P w H h a o) (k : ∀ b u, (b = a ∨ H b = some (.own a)) → h.get? b = some u → h'.get? b = some u)
    (ho : ∀ b, H b = some (.own a) → H' b = some (.own a)) (ht : ∀ b xs, H b = some (.tup xs) → H' b = some (.tup xs)) : ObjOk P w H' h' a o := by
  induction o with
  | lst xs => obtain ⟨z, its, n, r, e⟩ := x; exact ⟨z, its, n, r, k _ _ (.inl rfl) e⟩
  | tup xs => obtain ⟨z, its, r, ob, e, c⟩ := x; exact ⟨z, its, r, ob, k _ _ (.inl rfl) e, c⟩
  | dK kvs => obtain ⟨z, y, vs, r, ob, es, ep, e, c⟩ := x; exact ⟨z, y, vs, r, ob, es, ep, k _ _ (.inl rfl) e, c⟩
  | dT kvs =>
    obtain ⟨z, y, xs, r, ob, es, ep, e, c⟩ := x
    exact ⟨z, y, xs, Paired.mapP r fun p q z => ⟨z.1, ht _ _ z.2.1, z.2.2⟩, ob, es, ep, k _ _ (.inl rfl) e, c⟩
  | set S n => obtain ⟨ob, es, ep, t, e, c⟩ := x; exact ⟨ob, es, ep, t, k _ _ (.inl rfl) e, c⟩
  | ins C dx fs =>
    obtain ⟨d, z, ne, e, mA, ⟨od, es, ep, e2, c⟩, r⟩ := x
    exact ⟨ho _ d, z, ne, k _ _ (.inl rfl) e, mA, ⟨od, es, ep, k _ _ (.inr d) e2, c⟩, r⟩
  | own y => obtain ⟨ob, e⟩ := x; exact ⟨ob, k _ _ (.inl rfl) e⟩
  | xd fs => obtain ⟨mA, ⟨od, es, ep, e, c⟩, r⟩ := x; exact ⟨mA, ⟨od, es, ep, k _ _ (.inl rfl) e, c⟩, r⟩
  | rng lo hi => obtain ⟨t, u, v, e⟩ := x; exact ⟨t, u, v, k _ _ (.inl rfl) e⟩
  | frz ob u ih => obtain ⟨e, q⟩ := x; exact ⟨k _ _ (.inl rfl) e, ih q⟩
  | tbl ps =>
    have e : h.get? a = some { cls := .none, data := .fields ps } := x
    show h'.get? a = some { cls := .none, data := .fields ps }
    exact k a _ (.inl rfl) e
  | met f y =>
    have e : h.get? a = some (PySem.W.methodObj (.ref f) (.ref y)) := x
    show h'.get? a = some (PySem.W.methodObj (.ref f) (.ref y))
    exact k a _ (.inl rfl) e
  | ext φ => obtain ⟨p, ⟨o, e⟩, st⟩ := x; exact ⟨st _ _ p fun o q => k _ _ (.inl rfl) q, ⟨o, k _ _ (.inl rfl) e⟩, st⟩
theorem HOk.lt (x : HOk P w H h) (e : H a = some o) : a < h.objs.size := (x a o e).lt
theorem HOk.fresh (x : HOk P w H h) (e : h.objs.size ≤ a) : H a = none := by
  cases q : H a with
  | none => rfl
  | some u => exact absurd (Nat.lt_of_lt_of_le (x.lt q) e) (Nat.lt_irrefl _)
/-- every object of the heap is kept -/
theorem HOk.kept (x : HOk P w H h) (k : ∀ b u, h.get? b = some u → h'.get? b = some u) : HOk P w H h' := fun a o e =>
  (x a o e).stay (fun b u _ q => k b u q) (fun _ q => q) fun _ _ q => q
/-- a new object is laid and tracked -/
theorem HOk.laid (x : HOk P w H h) (k : ∀ b u, h.get? b = some u → h'.get? b = some u) (hp : h.objs.size ≤ a) (new : ObjOk P w (upd H a o) h' a o) : HOk P w (upd H a o) h' := fun b u e => by
  have hn := x.fresh hp
  by_cases hb : b = a
  · subst hb; rw [upd_same] at e; cases e; exact new
  · rw [upd_ne hb] at e
    exact (x b u e).stay (fun c v _ q => k c v q) (fun c q => by rw [upd_ne (ne_of_none q hn)]; exact q) fun c xs q => by rw [upd_ne (ne_of_none q hn)]; exact q
end

/-- what may be read as u: it is u, or a known u -/
def Rd (H : Hp) (a : Addr) (u : HO) : Prop := H a = some u ∨ ∃ o, H a = some (.frz o u)
theorem Rd.of {H : Hp} {a : Addr} {u : HO} (h : H a = some u) : Rd H a u := .inl h
theorem Rd.ok {P : Program} {w : World} {H : Hp} {h : Heap} {a : Addr} {u : HO} (r : Rd H a u) (x : HOk P w H h) : ObjOk P w H h a u := by
  rcases r with r | ⟨o, r⟩
  · exact x a u r
  · obtain ⟨_, q⟩ := x a _ r
    exact q
/-- what may be written -/
def Mut : Option HO → Prop
  | some (.lst _) => True
  | some (.dK _) => True
  | some (.dT _) => True
  | some (.set _ _) => True
  | some (.ins _ _ _) => True
  | some (.ext _) => True
  | _ => False
section
variable {P : Program} {w : World} {H : Hp} {h h' : Heap} {x e : Addr} {o' : HO}
/-- the object at e is changed: x itself, or the dict of the instance x -/
theorem HOk.write (ok : HOk P w H h) (mu : Mut (H x)) (he : e = x ∨ H e = some (.own x)) (k : ∀ b u, b ≠ e → h.get? b = some u → h'.get? b = some u) (heo : ∃ u, h'.get? e = some u)
    (new : ObjOk P w (upd H x o') h' x o') : HOk P w (upd H x o') h' := fun b u q => by
  have nown : ∀ c y, H c = some (.own y) → c ≠ x := fun c y r z => by subst z; rw [r] at mu; exact mu
  have ntup : ∀ c xs, H c = some (.tup xs) → c ≠ x := fun c xs r z => by subst z; rw [r] at mu; exact mu
  by_cases hb : b = x
  · subst hb; rw [upd_same] at q; cases q; exact new
  · rw [upd_ne hb] at q
    by_cases hbe : b = e
    · have q' : H b = some (.own x) := by
        rcases he with z | z
        · exact absurd (hbe.trans z) hb
        · rw [hbe]; exact z
      rw [q] at q'; cases q'
      obtain ⟨v, hv⟩ := heo
      exact ⟨v, by rw [hbe]; exact hv⟩
    · refine (ok b u q).stay (fun c v hc r => k c v ?_ r) (fun c r => by rw [upd_ne (nown c b r)]; exact r) fun c xs r => by rw [upd_ne (ntup c xs r)]; exact r
      rcases hc with rfl | hc
      · exact hbe
      · rintro rfl
        rcases he with z | z
        · exact nown c b hc z
        · rw [hc] at z; cases z; exact hb rfl
end

/-! ### kept unless tracked; of the frames at fs (the callers') the slots may change (an exception that passes writes there); of the records at ex (iterators) nothing is said -/
structure Un (fs ex : List Addr) (H H' : Hp) (h h' : Heap) : Prop where
  keep : ∀ b o, h.get? b = some o → H b = none → b ∉ fs → b ∉ ex → h'.get? b = some o
  slot : ∀ b o, h.get? b = some o → H b = none → b ∈ fs → b ∉ ex → ∃ sl, h'.get? b = some { o with slots := sl }
  free : ∀ b o, h.get? b = some o → H b = none → b ∉ ex → H' b = none
  there : ∀ b o, h.get? b = some o → b ∉ ex → ∃ o', h'.get? b = some o'
  tups : ∀ b xs, H b = some (.tup xs) → H' b = some (.tup xs)
  frzs : ∀ b o u, H b = some (.frz o u) → H' b = some (.frz o u)
  tbls : ∀ b ps, H b = some (.tbl ps) → ∃ more, H' b = some (.tbl (ps ++ more))
section
variable {fs fs' ex ex' : List Addr} {H H1 H2 : Hp} {h h1 h2 h' : Heap} {a x e : Addr} {o : HO}
theorem Un.any (u : Un fs ex H H1 h h1) {b : Addr} {ob : Obj} (q : h.get? b = some ob) (n : H b = none) (hx : b ∉ ex) : ∃ sl, h1.get? b = some { ob with slots := sl } := by
  by_cases hb : b ∈ fs
  · exact u.slot b ob q n hb hx
  · exact ⟨ob.slots, u.keep b ob q n hb hx⟩
theorem Un.trans (a : Un fs ex H H1 h h1) (b : Un fs ex H1 H2 h1 h2) : Un fs ex H H2 h h2 where
  keep := fun c ob q n hc hx => b.keep c ob (a.keep c ob q n hc hx) (a.free c ob q n hx) hc hx
  slot := fun c ob q n hc hx => by
    obtain ⟨sl, e1⟩ := a.slot c ob q n hc hx
    obtain ⟨sl', e2⟩ := b.slot c _ e1 (a.free c ob q n hx) hc hx
    exact ⟨sl', e2⟩
  free := fun c ob q n hx => by
    obtain ⟨o', e1⟩ := a.there c ob q hx
    exact b.free c o' e1 (a.free c ob q n hx) hx
  there := fun c ob q hx => by
    obtain ⟨o', e1⟩ := a.there c ob q hx
    exact b.there c o' e1 hx
  tups := fun c xs q => b.tups c xs (a.tups c xs q)
  frzs := fun c ob xs q => b.frzs c ob xs (a.frzs c ob xs q)
  tbls := fun c ps q => by
    obtain ⟨m1, e1⟩ := a.tbls c ps q
    obtain ⟨m2, e2⟩ := b.tbls c _ e1
    exact ⟨m1 ++ m2, by rw [e2, Array.append_assoc]⟩
theorem Un.kept (k : ∀ b u, h.get? b = some u → h'.get? b = some u) : Un fs ex H H h h' :=
  ⟨fun b ob q _ _ _ => k b ob q, fun b ob q _ _ _ => ⟨ob.slots, k b ob q⟩, fun _ _ _ n _ => n, fun b ob q _ => ⟨ob, k b ob q⟩, fun _ _ q => q, fun _ _ _ q => q, fun _ ps q => ⟨#[], by rw [q]; simp⟩⟩
theorem Un.refl : Un fs ex H H h h := Un.kept fun _ _ q => q
theorem Un.laid (k : ∀ b u, h.get? b = some u → h'.get? b = some u) (hp : h.objs.size ≤ a) (hn : H a = none) : Un fs ex H (upd H a o) h h' where
  keep := fun b u q _ _ _ => k b u q
  slot := fun b u q _ _ _ => ⟨u.slots, k b u q⟩
  free := fun b u q n _ => by rw [upd_ne (Nat.ne_of_lt (Nat.lt_of_lt_of_le (Heap.lt_size q) hp))]; exact n
  there := fun b u q _ => ⟨u, k b u q⟩
  tups := fun b xs q => by rw [upd_ne (ne_of_none q hn)]; exact q
  frzs := fun b u xs q => by rw [upd_ne (ne_of_none q hn)]; exact q
  tbls := fun b ps q => ⟨#[], by rw [upd_ne (ne_of_none q hn), q]; simp⟩
theorem Un.write (mu : Mut (H x)) (he : e = x ∨ H e = some (.own x)) (k : ∀ b u, b ≠ e → h.get? b = some u → h'.get? b = some u) (heo : ∃ u, h'.get? e = some u) : Un fs ex H (upd H x o) h h' := by
  have hx : ∀ b, H b = none → b ≠ x := fun b n z => by subst z; rw [n] at mu; exact mu
  have hb : ∀ b, H b = none → b ≠ e := fun b n z => by
    subst z
    rcases he with r | r
    · exact hx b n r
    · rw [n] at r; cases r
  have hm : ∀ b u, H b = some u → ¬ Mut (some u) → b ≠ x := fun b u q nm z => by subst z; rw [q] at mu; exact nm mu
  refine ⟨fun b u q n _ _ => k b u (hb b n) q, fun b u q n _ _ => ⟨u.slots, k b u (hb b n) q⟩, fun b u q n _ => by rw [upd_ne (hx b n)]; exact n, fun b u q _ => ?_,
    fun b xs q => by rw [upd_ne (hm b _ q fun z => z)]; exact q, fun b u xs q => by rw [upd_ne (hm b _ q fun z => z)]; exact q, fun b ps q => ⟨#[], by rw [upd_ne (hm b _ q fun z => z), q]; simp⟩⟩
  by_cases hbe : b = e
  · subst hbe; exact heo
  · exact ⟨u, k b u hbe q⟩
theorem Un.mono (u : Un fs ex H H1 h h1) (hs : ∀ b ∈ fs, b ∈ fs') (hx : ∀ b ∈ ex, b ∈ ex') : Un fs' ex' H H1 h h1 :=
  ⟨fun b ob q n hb he => u.keep b ob q n (fun z => hb (hs b z)) fun z => he (hx b z), fun _ _ q n _ he => u.any q n fun z => he (hx _ z), fun b ob q n he => u.free b ob q n fun z => he (hx b z), fun b ob q he => u.there b ob q fun z => he (hx b z), u.tups, u.frzs, u.tbls⟩
end

/-! ### the heap without what is tracked -/
def trk (h : Heap) (H : Hp) : List Addr := (List.range h.objs.size).filter fun a => (H a).isSome
def hidT (h : Heap) (H : Hp) : Heap := PySem.W.hideAll h (trk h H)
theorem hidT_size (h : Heap) (H : Hp) : (hidT h H).objs.size = h.objs.size := PySem.W.hideAll_size _ _
theorem hidT_get {h : Heap} {H : Hp} {b : Addr} {o : Obj} (e : h.get? b = some o) (n : H b = none) : (hidT h H).get? b = some o :=
  PySem.W.hideAll_get _ e fun hm => by
    have q : (H b).isSome = true := (List.mem_filter.mp hm).2
    rw [n] at q; simp at q
theorem of_hidT {h : Heap} {H : Hp} {b : Addr} {o : Obj} (e : (hidT h H).get? b = some o) : h.get? b = some o ∧ H b = none := by
  have e' : h.get? b = some o := PySem.W.of_hideAll (trk h H) e
  refine ⟨e', ?_⟩
  cases q : H b with
  | none => rfl
  | some x =>
    have hm : b ∈ trk h H := List.mem_filter.mpr ⟨List.mem_range.mpr (Heap.lt_size e'), by simp [q]⟩
    have z : (hidT h H).get? b = none := PySem.W.hideAll_none (trk h H) hm
    rw [z] at e; cases e

/-! ### OpenK's ledger, filled with every new object but one -/
def allNews (g h : Heap) (L : Addr) : List (Addr × Obj) := (List.range h.objs.size).filterMap fun a => if a = L ∨ (g.get? a).isSome = true then none else (h.get? a).map fun o => (a, o)
def rest (g h : Heap) (L d : Addr) : List (Addr × Obj) := (allNews g h L).filter fun p => decide (p.1 ≠ d)
end L2

namespace L2
open PySem PySem.Spec PyProof.Rows

/-- the module's facts, over the base: the heap at the law's entry without what is tracked there -/
structure Mod (K : PySem.W.Frag) (mg : Str → Option Value) (base : Heap) : Prop where
  kin : K.In base
  glob : base.Ns mainGlobals mg
  blt : ∃ mb, base.Ns builtinsNs mb ∧ ∀ x : Str, x ≠ "__name__" → mb x = bootBuiltins x
  nolimit : base.NoLimit

/-- the context: a def's body (or a comprehension's block) running. base: fixed through the whole law; s₀, H₀: the entry; outer: the frames whose slots others may change (a def's callers); stack: all frames that run;
   ex: iterators that were made ahead of the entry and are walked here (a comprehension's); fn: the names whose cells were made at the entry (a def: all; a comprehension's block: its own); calm: not within an except suite; pn: pins that every state bears; xe: what is wanted of an exception that leaves the code -/
structure Cx where
  prog : Program
  w : World
  K : PySem.W.Frag
  mg : Str → Option Value
  base : Heap
  A : Around
  N : List Str
  s₀ : Shared
  H₀ : Hp
  env : Env
  outer : List Env
  stack : List Env
  ex : List Addr
  fn : Str → Bool
  calm : Bool
  pn : List (Addr × Obj)
  xe : Value → Shared → Prop
/-- the callers' frames -/
def frs (l : List Env) : List Addr := l.filterMap (·.frame)
abbrev Cx.fs (X : Cx) : List Addr := frs X.outer

def Vis (sc : Scope) (x : Str) : Prop := sc.names.lookup x = some .local ∨ sc.names.lookup x = some .cell ∨ sc.names.lookup x = some .free
def Loc (sc : Scope) (x : Str) : Prop := sc.names.lookup x = some .local ∨ sc.names.lookup x = some .cell
def Look (env : Env) (h : Heap) (m : Str → Option Value) (x : Str) (u : Value) : Prop :=
  (env.kindOf x = some .local ∧ m x = some u) ∨ ((env.kindOf x = some .cell ∨ env.kindOf x = some .free) ∧ ∃ c, env.cells.lookup x = some c ∧ h.IsCell c (some u))

structure Cx.Ok (X : Cx) : Prop where
  mod : Mod X.K X.mg X.base
  kind : X.env.scope.kind = .function
  glob : X.env.globals = mainGlobals
  blt : X.env.builtins = builtinsNs
  above : X.s₀.heap.objs.size ≤ X.env.locals
  inj : ∀ x y c, X.env.cells.lookup x = some c → X.env.cells.lookup y = some c → x = y
  has : ∀ x, (X.env.kindOf x = some .cell ∨ X.env.kindOf x = some .free) → ∃ c, X.env.cells.lookup x = some c
  cab : ∀ x c, X.fn x = true → X.env.cells.lookup x = some c → X.s₀.heap.objs.size ≤ c
  hd : X.calm = true → X.A.handled = none
  frames : X.A.frames = some X.stack
  stk : X.stack = X.outer ∨ (X.stack = X.env :: X.outer ∧ X.env.frame = some X.env.locals)
  exf : ∀ b ∈ X.ex, b ≠ X.env.locals ∧ ∀ x c, X.env.cells.lookup x = some c → c ≠ b
  bs : ∀ b o, X.base.get? b = some o → X.s₀.heap.get? b = some o ∧ X.H₀ b = none
  bsz : X.base.objs.size ≤ X.s₀.heap.objs.size
  noex : ∀ b o, X.base.get? b = some o → b ∉ X.ex
  exfs : ∀ b ∈ X.ex, b ∉ X.fs
  funs : X.s₀.heap.FunFrames X.base X.outer
  frf : ∀ b ∈ X.fs, X.H₀ b = none

structure Inv (X : Cx) (pins : List (Addr × Obj)) (σ : List (Option V)) (H : Hp) (s : Shared) : Prop where
  ok : X.Ok
  os : s.os = X.s₀.os
  bare : AllBare s.gens
  base : Un X.fs X.ex X.H₀ H X.s₀.heap s.heap
  loc : ∃ m, s.heap.Ns X.env.locals m ∧ ∀ (i : Nat) (x : Str) (v : V), X.N[i]? = some x → σ[i]? = some (some v) → Vis X.env.scope x → ∃ u, RelV v u ∧ Look X.env s.heap m x u
  cell : ∀ x c, X.env.cells.lookup x = some c → ∃ v, s.heap.IsCell c v
  free : H X.env.locals = none
  freeC : ∀ x c, X.env.cells.lookup x = some c → H c = none
  pin : ∀ p ∈ X.pn ++ pins, s.heap.get? p.1 = some p.2 ∧ H p.1 = none ∧ p.1 ≠ X.env.locals ∧ p.1 ∉ X.fs ∧ ∀ v, p.2.data ≠ .cell v
  hok : HOk X.prog X.w H s.heap
  len : σ.length = X.N.length

section
variable {X : Cx} {pins : List (Addr × Obj)} {σ : List (Option V)} {H H' : Hp} {s : Shared} {h' : Heap}

theorem Cx.Ok.nofr (ok : X.Ok) {b : Addr} {o : Obj} (e : X.base.get? b = some o) : b ∉ X.fs := fun hb => by
  have := (ok.funs.mem hb).1
  rw [e] at this; cases this
theorem Inv.bs (I : Inv X pins σ H s) : ∀ b o, X.base.get? b = some o → s.heap.get? b = some o ∧ H b = none := fun b o e =>
  ⟨I.base.keep b o (I.ok.bs b o e).1 (I.ok.bs b o e).2 (I.ok.nofr e) (I.ok.noex b o e), I.base.free b o (I.ok.bs b o e).1 (I.ok.bs b o e).2 (I.ok.noex b o e)⟩
theorem Inv.bk (I : Inv X pins σ H s) : ∀ b o, X.base.get? b = some o → s.heap.get? b = some o := fun b o e => (I.bs b o e).1
theorem Inv.mod (I : Inv X pins σ H s) : Mod X.K X.mg X.base := I.ok.mod
theorem Inv.kIn (I : Inv X pins σ H s) : X.K.In s.heap := I.ok.mod.kin.keeps I.bk
theorem Inv.nolimit (I : Inv X pins σ H s) : s.heap.NoLimit := I.ok.mod.nolimit.keeps I.bk
/-- the frame over the base: for OpenK's rules (K.In X.base is I.mod.kin) -/
theorem Inv.fr (I : Inv X pins σ H s) : ∃ m, Fr X.base X.env.locals s.heap m :=
  let ⟨m, hn, _⟩ := I.loc
  ⟨m, hn, I.bk, Nat.le_trans I.ok.bsz I.ok.above⟩
theorem Inv.lt (I : Inv X pins σ H s) : X.env.locals < s.heap.objs.size := let ⟨_, hn, _⟩ := I.loc; hn.lt
theorem Inv.sz (I : Inv X pins σ H s) : X.s₀.heap.objs.size ≤ s.heap.objs.size := Nat.le_trans I.ok.above (Nat.le_of_lt I.lt)
theorem Inv.nofs (I : Inv X pins σ H s) {a : Addr} (h : s.heap.objs.size ≤ a) : a ∉ X.fs := fun hb => by
  obtain ⟨_, o, ho, _⟩ := I.ok.funs.mem hb
  exact absurd (Nat.lt_of_lt_of_le (Heap.lt_size ho) (Nat.le_trans I.sz h)) (Nat.lt_irrefl _)
theorem Inv.cne (I : Inv X pins σ H s) : ∀ x c, X.env.cells.lookup x = some c → c ≠ X.env.locals := fun x c e z => by
  obtain ⟨v, o, ho, hd⟩ := I.cell x c e
  obtain ⟨m, ⟨o', es, ep, ho', hd', _⟩, _⟩ := I.loc
  rw [z, ho'] at ho; cases ho; rw [hd'] at hd; cases hd
theorem Inv.funs (I : Inv X pins σ H s) : s.heap.FunFrames X.base X.outer := by
  have all : ∀ (l : List Env), (∀ b ∈ frs l, b ∈ X.fs) → X.s₀.heap.FunFrames X.base l → s.heap.FunFrames X.base l := by
    intro l
    induction l with
    | nil => intro _ _; trivial
    | cons env r ih =>
      intro hs hl
      obtain ⟨hk, ⟨L, o, hf, hn, ho, hd⟩, hr⟩ := hl
      have hL : L ∈ X.fs := hs L (by unfold frs; rw [List.filterMap_cons, hf]; exact List.mem_cons_self)
      obtain ⟨sl, e⟩ := I.base.slot L o ho (I.ok.frf L hL) hL fun z => I.ok.exfs L z hL
      exact ⟨hk, ⟨L, _, hf, hn, e, hd⟩, ih (fun b hb => hs b (by unfold frs; rw [List.filterMap_cons, hf]; exact List.mem_cons_of_mem _ hb)) hr⟩
  exact all X.outer (fun _ hb => hb) I.ok.funs

/-- the frames that run, for a call -/
theorem Inv.stack (I : Inv X pins σ H s) : s.heap.FunFrames X.base X.stack := by
  rcases I.ok.stk with e | ⟨e, hf⟩
  · rw [e]; exact I.funs
  · rw [e]
    obtain ⟨m, hn, _⟩ := I.loc
    refine .cons (by rw [I.ok.kind]; decide) hf hn ?_ I.funs
    exact Heap.get?_none_of_le (Nat.le_trans I.ok.bsz I.ok.above)
theorem Inv.stkSub (I : Inv X pins σ H s) : ∀ b ∈ frs X.stack, b ∈ X.env.locals :: X.fs := fun b hb => by
  rcases I.ok.stk with e | ⟨e, hf⟩
  · rw [e] at hb; exact List.mem_cons_of_mem _ hb
  · rw [e] at hb
    unfold frs at hb
    rw [List.filterMap_cons, hf] at hb
    exact hb
theorem Inv.stkFree (I : Inv X pins σ H s) : ∀ b ∈ frs X.stack, H b = none := fun b hb => by
  rcases List.mem_cons.mp (I.stkSub b hb) with e | hb
  · rw [e]; exact I.free
  · obtain ⟨_, o, ho, _⟩ := I.ok.funs.mem hb
    exact I.base.free b o ho (I.ok.frf b hb) fun z => I.ok.exfs b z hb

/-- THE STEP: the untracked objects but the frame and the records at ch are kept (the callers' frames up to slots), the frame's map is kept, the new abstract heap is held -/
theorem Inv.step {g' : Array GenState} {t' : Nat} {d' : Drawn} {ch : List Addr} (I : Inv X pins σ H s)
    (hch : ∀ b ∈ ch, (b ∈ X.ex ∨ X.s₀.heap.objs.size ≤ b) ∧ b ≠ X.env.locals ∧ (∀ x c, X.env.cells.lookup x = some c → c ≠ b) ∧ ∀ p ∈ X.pn ++ pins, p.1 ≠ b)
    (keep : ∀ b o, b ≠ X.env.locals → b ∉ X.fs → b ∉ ch → s.heap.get? b = some o → H b = none → h'.get? b = some o)
    (slot : ∀ b o, b ≠ X.env.locals → b ∈ X.fs → b ∉ ch → s.heap.get? b = some o → H b = none → ∃ sl, h'.get? b = some { o with slots := sl }) (free : ∀ b o, b ∉ ch → s.heap.get? b = some o → H b = none → H' b = none)
    (there : ∀ b o, b ∉ ch → s.heap.get? b = some o → ∃ o', h'.get? b = some o')
    (tups : ∀ b xs, H b = some (.tup xs) → H' b = some (.tup xs)) (frzs : ∀ b o u, H b = some (.frz o u) → H' b = some (.frz o u)) (tbls : ∀ b ps, H b = some (.tbl ps) → ∃ more, H' b = some (.tbl (ps ++ more)))
    (ns : ∀ m, s.heap.Ns X.env.locals m → h'.Ns X.env.locals m) (hok : HOk X.prog X.w H' h') (hg : AllBare g') :
    Inv X pins σ H' { s with heap := h', gens := g', drawn := d', toks := t' } := by
  have neL : ∀ b o, X.s₀.heap.get? b = some o → b ≠ X.env.locals := fun b o e => Nat.ne_of_lt (Nat.lt_of_lt_of_le (Heap.lt_size e) I.ok.above)
  have neC : ∀ b o, X.s₀.heap.get? b = some o → b ∉ X.ex → b ∉ ch := fun b o e hx hb => by
    rcases (hch b hb).1 with z | z
    · exact hx z
    · exact absurd (Nat.lt_of_lt_of_le (Heap.lt_size e) z) (Nat.lt_irrefl _)
  have cellK : ∀ x c, X.env.cells.lookup x = some c → ∀ v, s.heap.IsCell c v → h'.IsCell c v := fun x c e v ⟨o, ho, hd⟩ => by
    have nch : c ∉ ch := fun z => (hch c z).2.2.1 x c e rfl
    by_cases hc : c ∈ X.fs
    · obtain ⟨sl, q⟩ := slot c o (I.cne x c e) hc nch ho (I.freeC x c e)
      exact ⟨_, q, hd⟩
    · exact ⟨o, keep c o (I.cne x c e) hc nch ho (I.freeC x c e), hd⟩
  refine ⟨I.ok, I.os, hg, ⟨fun b o e n hb hx => ?_, fun b o e n hb hx => ?_, fun b o e n hx => ?_, fun b o e hx => ?_, fun b xs e => tups b xs (I.base.tups b xs e), fun b o xs e => frzs b o xs (I.base.frzs b o xs e), fun b ps e => ?_⟩, ?_, fun x c e => ?_, ?_, fun x c e => ?_, fun p hp => ?_, hok, I.len⟩
  · exact keep b o (neL b o e) hb (neC b o e hx) (I.base.keep b o e n hb hx) (I.base.free b o e n hx)
  · obtain ⟨sl, e1⟩ := I.base.slot b o e n hb hx
    obtain ⟨sl', e2⟩ := slot b _ (neL b o e) hb (neC b o e hx) e1 (I.base.free b o e n hx)
    exact ⟨sl', e2⟩
  · obtain ⟨o', e1⟩ := I.base.there b o e hx
    exact free b o' (neC b o e hx) e1 (I.base.free b o e n hx)
  · obtain ⟨o', e1⟩ := I.base.there b o e hx
    exact there b o' (neC b o e hx) e1
  · obtain ⟨m1, e1⟩ := I.base.tbls b ps e
    obtain ⟨m2, e2⟩ := tbls b _ e1
    exact ⟨m1 ++ m2, by rw [e2, Array.append_assoc]⟩
  · obtain ⟨m, hn, hl⟩ := I.loc
    refine ⟨m, ns m hn, fun i x v e1 e2 e3 => ?_⟩
    obtain ⟨u, r, l⟩ := hl i x v e1 e2 e3
    refine ⟨u, r, ?_⟩
    rcases l with l | ⟨k, c, e, z⟩
    · exact .inl l
    · exact .inr ⟨k, c, e, cellK x c e _ z⟩
  · obtain ⟨v, z⟩ := I.cell x c e
    exact ⟨v, cellK x c e v z⟩
  · obtain ⟨m, ⟨o, _, _, ho, _⟩, _⟩ := I.loc
    exact free _ o (fun z => (hch _ z).2.1 rfl) ho I.free
  · obtain ⟨v, o, ho, hd⟩ := I.cell x c e
    exact free c o (fun z => (hch c z).2.2.1 x c e rfl) ho (I.freeC x c e)
  · obtain ⟨e, n, ne, nf, d⟩ := I.pin p hp
    have nch : p.1 ∉ ch := fun z => (hch p.1 z).2.2.2 p hp rfl
    exact ⟨keep p.1 p.2 ne nf nch e n, free p.1 p.2 nch e n, ne, nf, d⟩
/-- .. where the frame's own object is kept too -/
theorem Inv.un {t' : Nat} (I : Inv X pins σ H s) (u : Un X.fs [] H H' s.heap h') (hok : HOk X.prog X.w H' h') : Inv X pins σ H' { s with heap := h', toks := t' } := by
  obtain ⟨m, ⟨o, es, ep, ho, r⟩, _⟩ := id I.loc
  obtain ⟨sl, hL⟩ := u.any ho I.free (by simp)
  exact I.step (g' := s.gens) (d' := s.drawn) (ch := []) (fun _ z => nomatch z) (fun b o _ hb _ e n => u.keep b o e n hb (by simp)) (fun b o _ hb _ e n => u.slot b o e n hb (by simp)) (fun b o _ e n => u.free b o e n (by simp)) (fun b o _ e => u.there b o e (by simp)) u.tups u.frzs u.tbls (fun m' hm => by
    obtain ⟨o', es', ep', ho', r'⟩ := hm
    rw [ho] at ho'; cases ho'
    exact ⟨_, es', ep', hL, r'⟩) hok I.bare
/-- behind a call (or a comprehension's block): the slots of this frame may have changed too, the records at ch may have turned -/
theorem Inv.call {g' : Array GenState} {t' : Nat} {d' : Drawn} {ch : List Addr} (I : Inv X pins σ H s) (u : Un (frs X.stack) ch H H' s.heap h') (hok : HOk X.prog X.w H' h') (hg : AllBare g')
    (hch : ∀ b ∈ ch, (b ∈ X.ex ∨ X.s₀.heap.objs.size ≤ b) ∧ b ≠ X.env.locals ∧ (∀ x c, X.env.cells.lookup x = some c → c ≠ b) ∧ ∀ p ∈ X.pn ++ pins, p.1 ≠ b) :
    Inv X pins σ H' { s with heap := h', gens := g', drawn := d', toks := t' } := by
  obtain ⟨m, ⟨o, es, ep, ho, r⟩, _⟩ := id I.loc
  obtain ⟨sl, hL⟩ := u.any ho I.free fun z => (hch _ z).2.1 rfl
  exact I.step (ch := ch) hch (fun b o hL hb hc e n => u.keep b o e n (fun z => (List.mem_cons.mp (I.stkSub b z)).elim hL hb) hc) (fun b o _ _ hc e n => u.any e n hc) (fun b o hc e n => u.free b o e n hc) (fun b o hc e => u.there b o e hc) u.tups u.frzs u.tbls (fun m' hm => by
    obtain ⟨o', es', ep', ho', r'⟩ := hm
    rw [ho] at ho'; cases ho'
    exact ⟨_, es', ep', hL, r'⟩) hok hg
/-- an untracked record of ours (an iterator) has turned -/
theorem Inv.turned {t' : Nat} {it : Addr} (I : Inv X pins σ H s) (k : ∀ b o, b ≠ it → s.heap.get? b = some o → h'.get? b = some o) (hn : H it = none) (hL : it ≠ X.env.locals)
    (h1 : it ∈ X.ex ∨ X.s₀.heap.objs.size ≤ it) (h2 : ∀ x c, X.env.cells.lookup x = some c → c ≠ it) (h3 : ∀ p ∈ X.pn ++ pins, p.1 ≠ it) : Inv X pins σ H { s with heap := h', toks := t' } := by
  have nit : ∀ b u, H b = some u → b ≠ it := fun b u e z => by rw [z, hn] at e; cases e
  refine I.step (g' := s.gens) (d' := s.drawn) (ch := [it]) (fun b hb => ?_) (fun b o _ _ hc e _ => k b o (fun z => hc (by simp [z])) e) (fun b o _ _ hc e _ => ⟨o.slots, k b o (fun z => hc (by simp [z])) e⟩) (fun _ _ _ _ n => n)
    (fun b o hc e => ⟨o, k b o (fun z => hc (by simp [z])) e⟩) (fun _ _ e => e) (fun _ _ _ e => e) (fun b ps e => ⟨#[], by rw [e]; simp⟩) (fun m hm => ?_) (fun b u e => ?_) I.bare
  · have e : b = it := by simpa using hb
    subst e
    exact ⟨h1, hL, h2, h3⟩
  · obtain ⟨o, es, ep, ho, r⟩ := hm
    exact ⟨o, es, ep, k _ o (Ne.symm hL) ho, r⟩
  · refine (I.hok b u e).stay (fun c v hc q => k c v ?_ q) (fun _ q => q) fun _ _ q => q
    rcases hc with z | z
    · rw [z]; exact nit b u e
    · exact nit c _ z
theorem Inv.tok (I : Inv X pins σ H s) (t : Nat) : Inv X pins σ H { s with toks := t } := I.un (h' := s.heap) (t' := t) Un.refl I.hok
/-- all objects kept -/
theorem Inv.kept {t' : Nat} (I : Inv X pins σ H s) (k : ∀ b u, s.heap.get? b = some u → h'.get? b = some u) : Inv X pins σ H { s with heap := h', toks := t' } := I.un (Un.kept k) (I.hok.kept k)
/-- a new object laid and tracked -/
theorem Inv.laid {a : Addr} {o : HO} {t' : Nat} (I : Inv X pins σ H s) (k : ∀ b u, s.heap.get? b = some u → h'.get? b = some u) (hp : s.heap.objs.size ≤ a) (new : ObjOk X.prog X.w (upd H a o) h' a o) :
    Inv X pins σ (upd H a o) { s with heap := h', toks := t' } := I.un (Un.laid k hp (I.hok.fresh hp)) (I.hok.laid k hp new)
/-- an object written -/
theorem Inv.write {x e : Addr} {o : HO} {t' : Nat} (I : Inv X pins σ H s) (mu : Mut (H x)) (he : e = x ∨ H e = some (.own x)) (k : ∀ b u, b ≠ e → s.heap.get? b = some u → h'.get? b = some u) (heo : ∃ u, h'.get? e = some u)
    (new : ObjOk X.prog X.w (upd H x o) h' x o) : Inv X pins σ (upd H x o) { s with heap := h', toks := t' } := I.un (Un.write mu he k heo) (I.hok.write mu he k heo new)
theorem Inv.pins_of {pins' : List (Addr × Obj)} (I : Inv X pins σ H s) (h : ∀ p ∈ pins', s.heap.get? p.1 = some p.2 ∧ H p.1 = none ∧ p.1 ≠ X.env.locals ∧ p.1 ∉ X.fs ∧ ∀ v, p.2.data ≠ .cell v) : Inv X pins' σ H s :=
  ⟨I.ok, I.os, I.bare, I.base, I.loc, I.cell, I.free, I.freeC, fun p hp => (List.mem_append.mp hp).elim (fun z => I.pin p (List.mem_append_left _ z)) (h p), I.hok, I.len⟩

theorem nodup_ix {N : List Str} (hN : N.Nodup) {i j : Nat} {x : Str} (a : N[i]? = some x) (b : N[j]? = some x) : i = j := by
  obtain ⟨h1, e1⟩ := List.getElem?_eq_some_iff.mp a
  obtain ⟨h2, e2⟩ := List.getElem?_eq_some_iff.mp b
  exact (List.getElem_inj hN).mp (e1.trans e2.symm)

/-- a name is stored; what changed -/
theorem store_ok2 {M : Model} {A : Around} {E : Value → Shared → Prop} {i : Nat} {x : Str} {v : V} {u : Value} {Q : Unit → Shared → Prop} (I : Inv X pins σ H s) (hN : X.N.Nodup) (hi : X.N[i]? = some x) (hx : Loc X.env.scope x) (r : RelV v u)
    (h : ∀ s', Inv X pins (σ.set i (some v)) H s' → (∃ a, Heap.SameBut a s.heap s'.heap ∧ (a = X.env.locals ∨ X.env.cells.lookup x = some a)) → Q () s') (hf : X.fn x = true ∨ X.env.scope.names.lookup x = some .local := by first | exact .inl rfl | exact .inr rfl | assumption) : wpAny M A (storeName X.env x u) Q E s := by
  obtain ⟨m, hn, hl⟩ := id I.loc
  have hcls : (X.env.scope.kind == .class || (X.env.scope.kind == .module && X.env.locals != X.env.globals)) = false := by rw [I.ok.kind]; rfl
  have hiσ : i < σ.length := by rw [I.len]; exact (List.getElem?_eq_some_iff.mp hi).1
  have cne := I.cne
  have tracked : ∀ {a : Addr} {h' : Heap}, (∃ o, s.heap.get? a = some o ∧ H a = none) → Heap.SameBut a s.heap h' → HOk X.prog X.w H h' := fun {a h'} ha hs b ob e => by
    obtain ⟨_, _, hfree⟩ := ha
    refine (I.hok b ob e).stay (fun c w' hc q => (hs.2 c ?_).trans q) (fun _ q => q) fun _ _ q => q
    rintro rfl
    rcases hc with rfl | hc
    · rw [hfree] at e; cases e
    · rw [hfree] at hc; cases hc
  rcases hx with hk | hk
  · refine wpAny_storeName_local hk hn (fun h' hn' hs => ?_) hcls
    obtain ⟨oL, _, _, hoL, _⟩ := id hn
    refine h _ ⟨I.ok, I.os, I.bare, ⟨fun b o e n hb hx => ?_, fun b o e n hb hx => ?_, I.base.free, fun b o e hx => ?_, I.base.tups, I.base.frzs, I.base.tbls⟩, ⟨_, hn', fun j y v' e1 e2 e3 => ?_⟩, fun y c e => ?_, I.free, I.freeC, fun p hp => ?_, tracked ⟨oL, hoL, I.free⟩ hs, by simpa using I.len⟩ ⟨_, hs, .inl rfl⟩
    · exact (hs.2 b (Nat.ne_of_lt (Nat.lt_of_lt_of_le (Heap.lt_size e) I.ok.above))).trans (I.base.keep b o e n hb hx)
    · obtain ⟨sl, e1⟩ := I.base.slot b o e n hb hx
      exact ⟨sl, (hs.2 b (Nat.ne_of_lt (Nat.lt_of_lt_of_le (Heap.lt_size e) I.ok.above))).trans e1⟩
    · obtain ⟨o', e1⟩ := I.base.there b o e hx
      exact ⟨o', (hs.2 b (Nat.ne_of_lt (Nat.lt_of_lt_of_le (Heap.lt_size e) I.ok.above))).trans e1⟩
    · by_cases hj : j = i
      · subst hj
        rw [hi] at e1; cases e1
        rw [List.getElem?_set_self hiσ] at e2
        cases e2
        exact ⟨u, r, .inl ⟨hk, by simp⟩⟩
      · rw [List.getElem?_set_ne (Ne.symm hj)] at e2
        obtain ⟨u', r', q⟩ := hl j y v' e1 e2 e3
        refine ⟨u', r', ?_⟩
        rcases q with ⟨k, e⟩ | ⟨k, c, e, z⟩
        · refine .inl ⟨k, ?_⟩
          have : y ≠ x := fun e => hj (nodup_ix hN e1 (e ▸ hi))
          simp [this, e]
        · exact .inr ⟨k, c, e, z.sameBut hs (cne y c e)⟩
    · obtain ⟨w', z⟩ := I.cell y c e
      exact ⟨w', z.sameBut hs (cne y c e)⟩
    · obtain ⟨e, n, ne, nf, d⟩ := I.pin p hp
      exact ⟨(hs.2 p.1 ne).trans e, n, ne, nf, d⟩
  · have hfn : X.fn x = true := by
      rcases hf with z | z
      · exact z
      · rw [z] at hk; cases hk
    obtain ⟨c, hc⟩ := I.ok.has x (.inl hk)
    obtain ⟨w', z⟩ := I.cell x c hc
    refine wpAny_storeName_cell I.ok.kind hk hc z (fun h' hc' hs => ?_)
    obtain ⟨oc, hoc, hocd⟩ := id z
    refine h { s with heap := h' } ⟨I.ok, I.os, I.bare, ⟨fun b o e n hb hx => ?_, fun b o e n hb hx => ?_, I.base.free, fun b o e hx => ?_, I.base.tups, I.base.frzs, I.base.tbls⟩, ⟨m, hn.sameBut hs (Ne.symm (cne x c hc)), fun j y v' e1 e2 e3 => ?_⟩, fun y c' e => ?_, I.free, I.freeC, fun p hp => ?_, tracked ⟨oc, hoc, I.freeC x c hc⟩ hs, by simpa using I.len⟩ ⟨c, hs, .inr hc⟩
    · exact (hs.2 b (Nat.ne_of_lt (Nat.lt_of_lt_of_le (Heap.lt_size e) (I.ok.cab x c hfn hc)))).trans (I.base.keep b o e n hb hx)
    · obtain ⟨sl, e1⟩ := I.base.slot b o e n hb hx
      exact ⟨sl, (hs.2 b (Nat.ne_of_lt (Nat.lt_of_lt_of_le (Heap.lt_size e) (I.ok.cab x c hfn hc)))).trans e1⟩
    · obtain ⟨o', e1⟩ := I.base.there b o e hx
      exact ⟨o', (hs.2 b (Nat.ne_of_lt (Nat.lt_of_lt_of_le (Heap.lt_size e) (I.ok.cab x c hfn hc)))).trans e1⟩
    · by_cases hj : j = i
      · subst hj
        rw [hi] at e1; cases e1
        rw [List.getElem?_set_self hiσ] at e2
        cases e2
        exact ⟨u, r, .inr ⟨.inl hk, c, hc, hc'⟩⟩
      · rw [List.getElem?_set_ne (Ne.symm hj)] at e2
        obtain ⟨u', r', q⟩ := hl j y v' e1 e2 e3
        refine ⟨u', r', ?_⟩
        rcases q with q | ⟨k, c', e, z'⟩
        · exact .inl q
        · refine .inr ⟨k, c', e, z'.sameBut hs ?_⟩
          rintro rfl
          exact hj (nodup_ix hN e1 (I.ok.inj _ _ _ e hc ▸ hi))
    · by_cases hcc : c' = c
      · subst hcc; exact ⟨_, hc'⟩
      · obtain ⟨w2, z2⟩ := I.cell y c' e
        exact ⟨w2, z2.sameBut hs hcc⟩
    · obtain ⟨e, n, ne, nf, d⟩ := I.pin p hp
      refine ⟨(hs.2 p.1 ?_).trans e, n, ne, nf, d⟩
      intro q
      rw [q, hoc] at e
      have q' : oc = p.2 := Option.some.inj e
      exact d w' (by rw [← q']; exact hocd)
theorem store_ok {M : Model} {A : Around} {E : Value → Shared → Prop} {i : Nat} {x : Str} {v : V} {u : Value} {Q : Unit → Shared → Prop} (I : Inv X pins σ H s) (hN : X.N.Nodup) (hi : X.N[i]? = some x) (hx : Loc X.env.scope x) (r : RelV v u)
    (h : ∀ s', Inv X pins (σ.set i (some v)) H s' → Q () s') (hf : X.fn x = true ∨ X.env.scope.names.lookup x = some .local := by first | exact .inl rfl | exact .inr rfl | assumption) : wpAny M A (storeName X.env x u) Q E s :=
  store_ok2 I hN hi hx r (fun s' I' _ => h s' I') hf
/-- behind a call or a block, the state as it is -/
theorem Inv.call' {s' : Shared} {ch : List Addr} (I : Inv X pins σ H s) (ho : s'.os = s.os) (u : Un (frs X.stack) ch H H' s.heap s'.heap) (hok : HOk X.prog X.w H' s'.heap) (hg : AllBare s'.gens)
    (hch : ∀ b ∈ ch, (b ∈ X.ex ∨ X.s₀.heap.objs.size ≤ b) ∧ b ≠ X.env.locals ∧ (∀ x c, X.env.cells.lookup x = some c → c ≠ b) ∧ ∀ p ∈ X.pn ++ pins, p.1 ≠ b) : Inv X pins σ H' s' := by
  obtain ⟨h', g', d', t', o'⟩ := s'
  have e : o' = s.os := ho
  subst e
  exact I.call (g' := g') (t' := t') (d' := d') u hok hg hch
end

/-! ### the judgements -/
/-- an exception: its class, its own dict's address (where it has one), the abstract heap behind it -/
abbrev XK := Value → Option Addr → Hp → Prop
abbrev St := List (Option V)
abbrev VK := V → Hp → Prop
/-- an expression's reading; a test's; an argument list's -/
abbrev TE := St → Hp → VK → Prop
abbrev TT := St → Hp → (Bool → Hp → Prop) → Prop
abbrev TA := St → Hp → (List V → Hp → Prop) → Prop
/-- what is wanted behind a statement -/
structure Ends where
  nx : St → Hp → Prop
  rt : VK
  bk : St → Hp → Prop := fun _ _ => False
  ct : St → Hp → Prop := fun _ _ => False
abbrev TS := Ends → St → Hp → Prop

def EP (X : Cx) (pins : List (Addr × Obj)) (σ : St) (Q : VK) (u : Value) (s' : Shared) : Prop := ∃ v H', Inv X pins σ H' s' ∧ RelV v u ∧ Q v H'
def TP (X : Cx) (pins : List (Addr × Obj)) (σ : St) (Q : Bool → Hp → Prop) (b : Bool) (s' : Shared) : Prop := ∃ H', Inv X pins σ H' s' ∧ Q b H'
def AP (X : Cx) (pins : List (Addr × Obj)) (σ : St) (Q : List V → Hp → Prop) (us : List Value) (s' : Shared) : Prop := ∃ vs H', Inv X pins σ H' s' ∧ Vals vs us ∧ Q vs H'
def SP (X : Cx) (pins : List (Addr × Obj)) (D : Ends) (f : Flow) (s' : Shared) : Prop :=
  match f with
  | .next => ∃ σ' H', Inv X pins σ' H' s' ∧ D.nx σ' H'
  | .brk => ∃ σ' H', Inv X pins σ' H' s' ∧ D.bk σ' H'
  | .cont => ∃ σ' H', Inv X pins σ' H' s' ∧ D.ct σ' H'
  | .ret u => ∃ v σ' H', Inv X pins σ' H' s' ∧ RelV v u ∧ D.rt v H'

def PE (X : Cx) (e : Expr) (t : TE) : Prop :=
  ∀ (pins : List (Addr × Obj)) (s : Shared) (σ : St) (H : Hp) (Q : VK), Inv X pins σ H s → t σ H Q → wpAny (model X.prog X.w) X.A (eval e X.env) (EP X pins σ Q) X.xe s
def PT (X : Cx) (e : Expr) (t : TT) : Prop :=
  ∀ (pins : List (Addr × Obj)) (s : Shared) (σ : St) (H : Hp) (Q : Bool → Hp → Prop), Inv X pins σ H s → t σ H Q → wpAny (model X.prog X.w) X.A (isTrue e X.env (eval e X.env)) (TP X pins σ Q) X.xe s
/-- a test whatever its 'whole' is (and, or) -/
def PW (X : Cx) (e : Expr) (t : TT) : Prop :=
  ∀ (whole : Sem Value) (pins : List (Addr × Obj)) (s : Shared) (σ : St) (H : Hp) (Q : Bool → Hp → Prop), Inv X pins σ H s → t σ H Q → wpAny (model X.prog X.w) X.A (isTrue e X.env whole) (TP X pins σ Q) X.xe s
theorem PW.pt {X : Cx} {e : Expr} {t : TT} (h : PW X e t) : PT X e t := h _
/-- an argument list (no star), from the left -/
def PA (X : Cx) (es : List Expr) (t : TA) : Prop :=
  ∀ (pos : Pos) (pins : List (Addr × Obj)) (s : Shared) (σ : St) (H : Hp) (Q : List V → Hp → Prop), Inv X pins σ H s → t σ H Q → wpAny (model X.prog X.w) X.A (spliced (backTo pos (starEach es X.env))) (AP X pins σ Q) X.xe s
def PS (X : Cx) (st : Stmt) (t : TS) : Prop :=
  ∀ (pins : List (Addr × Obj)) (s : Shared) (σ : St) (H : Hp) (D : Ends), Inv X pins σ H s → t D σ H → wpAny (model X.prog X.w) X.A (exec st X.env) (SP X pins D) X.xe s
def PSs (X : Cx) (st : List Stmt) (t : TS) : Prop :=
  ∀ (pins : List (Addr × Obj)) (s : Shared) (σ : St) (H : Hp) (D : Ends), Inv X pins σ H s → t D σ H → wpAny (model X.prog X.w) X.A (execs st X.env) (SP X pins D) X.xe s
/-- weaken the end -/
theorem thn {α : Type} {t : Sem α} {Q Q' : α → Shared → Prop} {M : Model} {A : Around} {E : Value → Shared → Prop} {s : Shared} (h : wpAny M A t Q E s) (hQ : ∀ a s, Q a s → Q' a s) : wpAny M A t Q' E s := wpAny_mono h hQ fun _ _ x => x
end L2

namespace L2
open PySem PySem.Spec PyProof.Rows
section
variable {X : Cx}

/-! ### names and constants -/
def tVar (i : Nat) : TE := fun σ H Q => ∃ v, σ[i]? = some (some v) ∧ Q v H
def tC (v : V) : TE := fun _ H Q => Q v H
theorem pe_var {i : Nat} {x : Str} {pos : Pos} (hN : X.N[i]? = some x) (hv : Vis X.env.scope x) (hd : (x == ("__debug__" : Str)) = false := by decide) (hcd : (x == ("__classdict__" : Str)) = false := by decide) : PE X (.Name x pos) (tVar i) := by
  intro pins s σ H Q I h
  obtain ⟨v, e, h⟩ := h
  obtain ⟨m, hn, hl⟩ := I.loc
  obtain ⟨u, r, l⟩ := hl i x v hN e hv
  have fin : EP X pins σ Q u s := ⟨v, H, I, r, h⟩
  rcases l with ⟨hk, hm⟩ | ⟨hk, c, hc, hcell⟩
  · exact wpAny_Name (wpAny_loadName_local I.ok.kind hk hn hm fin) hd
  · rcases hk with hk | hk
    · exact wpAny_Name (wpAny_loadName_cell I.ok.kind hk hc hcell fin) hd
    · exact wpAny_Name (wpAny_loadName_free I.ok.kind hk hc hcell fin hcd) hd
theorem pe_int {i j pos} : PE X (.Constant (.int i) j pos) (tC (.int i)) := fun _ _ _ H _ I h => wpAny_Constant_int ⟨.int i, H, I.tok _, ⟨_, rfl⟩, h⟩
theorem pe_bl {b j pos} : PE X (.Constant (.bool b) j pos) (tC (.bl b)) := fun _ _ _ H _ I h => Constant_bool ⟨.bl b, H, I, rfl, h⟩
theorem pe_non {j pos} : PE X (.Constant .none j pos) (tC .non) := fun _ _ _ H _ I h => Constant_none ⟨.non, H, I, rfl, h⟩
theorem pe_str {x j pos} : PE X (.Constant (.str x) j pos) (tC (.str x)) := fun _ _ _ H _ I h => Calls.Constant_str ⟨.str x, H, I.tok _, ⟨_, rfl⟩, h⟩

/-- a global name of the def -/
def Gl (X : Cx) (x : Str) : Prop := X.env.kindOf x = some .globalImplicit
theorem ld_glob {E : Value → Shared → Prop} {pins : List (Addr × Obj)} {s : Shared} {σ : St} {H : Hp} {x : Str} {u : Value} {pos : Pos} {Q : Value → Shared → Prop} (I : Inv X pins σ H s) (hg : Gl X x) (hm : X.mg x = some u) (h : Q u s)
    (hd : (x == ("__debug__" : Str)) = false := by decide) : wpAny (model X.prog X.w) X.A (eval (.Name x pos) X.env) Q E s :=
  Calls.Name_function_global I.ok.kind hg (Calls.loadGlobal_global (by rw [I.ok.glob]; exact I.mod.glob.keeps I.bk) hm h) hd
theorem ld_blt {E : Value → Shared → Prop} {pins : List (Addr × Obj)} {s : Shared} {σ : St} {H : Hp} {x : Str} {u : Value} {pos : Pos} {Q : Value → Shared → Prop} (I : Inv X pins σ H s) (hg : Gl X x) (hm : X.mg x = none) (hv : bootBuiltins x = some u) (h : Q u s)
    (hn : x ≠ "__name__" := by decide) (hd : (x == ("__debug__" : Str)) = false := by decide) : wpAny (model X.prog X.w) X.A (eval (.Name x pos) X.env) Q E s := by
  obtain ⟨mb, h1, h2⟩ := I.mod.blt
  exact Calls.Name_function_global I.ok.kind hg (Calls.loadGlobal_builtin (by rw [I.ok.glob]; exact I.mod.glob.keeps I.bk) hm (by rw [I.ok.blt]; exact h1.keeps I.bk) ((h2 x hn).trans hv) h) hd
theorem pe_bltn {x : Str} {v : V} {u : Value} {pos : Pos} (hg : Gl X x) (hm : X.mg x = none) (hv : bootBuiltins x = some u) (r : RelV v u) (hn : x ≠ "__name__" := by decide) (hd : (x == ("__debug__" : Str)) = false := by decide) : PE X (.Name x pos) (tC v) :=
  fun _ _ _ H _ I h => ld_blt I hg hm hv ⟨v, H, I, r, h⟩ hn hd

/-! ### arithmetic -/
variable {a b : Expr} {ta tb : TE} {pos : Pos}
/-! ### comparisons -/
def PC (X : Cx) (op : CmpOp) (a b : Expr) (t : TE) : Prop :=
  ∀ (pins : List (Addr × Obj)) (s : Shared) (σ : St) (H : Hp) (Q : VK), Inv X pins σ H s → t σ H Q →
    wpAny (model X.prog X.w) X.A (eval a X.env) (fun v s₁ => wpAny (model X.prog X.w) X.A (eval b X.env) (fun u s₂ => wpAny (model X.prog X.w) X.A (compareOp op v u) (EP X pins σ Q) X.xe s₂) X.xe s₁) X.xe s
theorem nobehind (b : Expr) {op : CmpOp} (h : op ≠ .In) (h2 : op ≠ .NotIn) : behindInMarks op b = false := by
  have e1 : (op == CmpOp.In) = false := by cases op <;> first | rfl | exact absurd rfl h
  have e2 : (op == CmpOp.NotIn) = false := by cases op <;> first | rfl | exact absurd rfl h2
  cases b <;> simp [behindInMarks, e1, e2]
/-- a comparison as a value, as a test -/
def tB (t : TE) : TT := fun σ H Q => t σ H fun x H1 => ∃ c, x = .bl c ∧ Q c H1
theorem pt_cmp {op : CmpOp} {t : TE} (h : PC X op a b t) (h1 : behindInMarks op b = false := by first | exact nobehind _ (by decide) (by decide) | rfl) : PT X (.Compare a [op] [b] pos) (tB t) := by
  intro pins s σ H Q I hw
  refine wpAny_isTrue_Compare1 (thn (h pins s σ H _ I hw) fun v s1 h1 => thn h1 fun u s2 h2 => thn h2 fun c s3 ⟨x, H1, I1, r1, q1⟩ => ?_) h1
  obtain ⟨d, rfl, q⟩ := q1
  cases r1
  exact wpAny_truthy_bool ⟨H1, I1, q⟩
/-- an expression whose value is a bool, as a test -/
theorem pt_val {e : Expr} {t : TE} (h : PE X e t) (he : ∀ whole, isTrue e X.env whole = (do let v ← whole; standAt e.pos; holding [v] (truthy v)) := by intro _; rfl) : PT X e (tB t) := by
  intro pins s σ H Q I hw
  refine isTrue_plain (thn (h pins s σ H _ I hw) fun v s1 ⟨x, H1, I1, r1, q1⟩ => ?_) (he _)
  obtain ⟨d, rfl, q⟩ := q1
  cases r1
  exact wpAny_truthy_bool ⟨H1, I1, q⟩

/-! ### and, or, not -/
variable {tA tB' : TT} {rest : List Expr}
def tAnd (t u : TT) : TT := fun σ H Q => t σ H fun c H1 => if c = true then u σ H1 Q else Q false H1
def tOr (t u : TT) : TT := fun σ H Q => t σ H fun c H1 => if c = true then Q true H1 else u σ H1 Q
def tNot (t : TT) : TT := fun σ H Q => t σ H fun c H1 => Q (!c) H1
theorem pw_and1 (ha : PT X a tA) : PW X (.BoolOp .And [a] pos) tA := by
  intro wh pins s σ H Q I h
  refine isTrue_and (thn (ha pins s σ H Q I h) fun c s1 e => ?_)
  cases c with
  | true => exact isTrue_and_nil e
  | false => exact e
theorem pw_or1 (ha : PT X a tA) : PW X (.BoolOp .Or [a] pos) tA := by
  intro wh pins s σ H Q I h
  refine isTrue_or (thn (ha pins s σ H Q I h) fun c s1 e => ?_)
  cases c with
  | false => exact isTrue_or_nil e
  | true => exact e
theorem pw_and (ha : PT X a tA) (hb : PW X (.BoolOp .And (b :: rest) pos) tB') : PW X (.BoolOp .And (a :: b :: rest) pos) (tAnd tA tB') := by
  intro wh pins s σ H Q I h
  refine isTrue_and (thn (ha pins s σ H _ I h) fun c s1 ⟨H1, I1, q1⟩ => ?_)
  cases c with
  | true => exact hb wh pins s1 σ H1 Q I1 q1
  | false => exact ⟨H1, I1, q1⟩
theorem pw_or (ha : PT X a tA) (hb : PW X (.BoolOp .Or (b :: rest) pos) tB') : PW X (.BoolOp .Or (a :: b :: rest) pos) (tOr tA tB') := by
  intro wh pins s σ H Q I h
  refine isTrue_or (thn (ha pins s σ H _ I h) fun c s1 ⟨H1, I1, q1⟩ => ?_)
  cases c with
  | true => exact ⟨H1, I1, q1⟩
  | false => exact hb wh pins s1 σ H1 Q I1 q1
theorem pt_not (ha : PT X a tA) : PT X (.UnaryOp .Not a pos) (tNot tA) := by
  intro pins s σ H Q I h
  exact isTrue_not (ha pins s σ H (fun c H1 => Q (!c) H1) I h)
/-- .. as values (bools) -/
def tAndV (ta tb : TE) : TE := fun σ H Q => ta σ H fun x H1 => ∃ c, x = .bl c ∧ if c = true then tb σ H1 Q else Q (.bl false) H1
theorem pe_one {op} {t : TE} (h : PE X a t) : PE X (.BoolOp op [a] pos) t := fun pins s σ H Q I hw => BoolOp_one (h pins s σ H Q I hw)
theorem pe_and (ha : PE X a ta) (hb : PE X (.BoolOp .And (b :: rest) pos) tb) : PE X (.BoolOp .And (a :: b :: rest) pos) (tAndV ta tb) := by
  intro pins s σ H Q I h
  refine BoolOp_and (thn (ha pins s σ H _ I h) fun v s1 ⟨x, H1, I1, r1, q1⟩ => ?_)
  obtain ⟨c, rfl, q1⟩ := q1
  cases r1
  refine wpAny_truthy_bool ?_
  cases c with
  | true => exact hb pins s1 σ H1 Q I1 q1
  | false => exact ⟨.bl false, H1, I1, rfl, q1⟩
end
end L2

namespace L2
open PySem PySem.Spec PyProof.Rows

/-! ### a list, a tuple that is read: tracked, frozen, or an object of the module -/
def SqL (K : PySem.W.Frag) (H : Hp) (a : Addr) (xs : List V) : Prop :=
  Rd H a (.lst xs) ∨
    ∃ (o : Obj) (its : Array Value) (n : Nat), K.lookup a = some o ∧ o.cls = .type "list" ∧ o.dict = none ∧ o.data = .seq its n ∧ its.size ≤ sizeLine ∧ Vals xs its.toList
def SqT (K : PySem.W.Frag) (H : Hp) (a : Addr) (xs : List V) : Prop :=
  Rd H a (.tup xs) ∨
    ∃ (o : Obj) (its : Array Value) (n : Nat), K.lookup a = some o ∧ o.cls = .type "tuple" ∧ o.data = .seq its n ∧ its.size ≤ sizeLine ∧ Vals xs its.toList
def absV : Value → Option V
  | .none => some .non
  | .bool b => some (.bl b)
  | .int i _ => some (.int i)
  | .str x _ => some (.str x)
  | .bytes b _ => some (.byt b)
  | .float b _ => some (.flt b)
  | .ref a => some (.ref a)
  | .type n => some (.ty n)
  | _ => none
theorem RelV.abs {x : V} {u : Value} (r : RelV x u) : absV u = some x := by
  cases x with
  | non => cases r; rfl
  | bl _ => cases r; rfl
  | int _ => obtain ⟨t, rfl⟩ := r; rfl
  | str _ => obtain ⟨t, rfl⟩ := r; rfl
  | byt _ => obtain ⟨t, rfl⟩ := r; rfl
  | flt _ => obtain ⟨t, rfl⟩ := r; rfl
  | ref _ => cases r; rfl
  | ty _ => cases r; rfl
theorem RelV.inj {x y : V} {u : Value} (r : RelV x u) (q : RelV y u) : x = y := Option.some.inj (r.abs.symm.trans q.abs)
theorem Vals.inj : ∀ {xs ys : List V} {us : List Value}, Vals xs us → Vals ys us → xs = ys
  | _, _, _, .nil, .nil => rfl
  | _, _, _, .cons r t, .cons r' t' => by rw [r.inj r', Vals.inj t t']
section
variable {X : Cx} {pins : List (Addr × Obj)} {σ : St} {H : Hp} {s : Shared} {a : Addr} {xs ys : List V}
theorem SqL.of {K : PySem.W.Frag} (h : H a = some (.lst xs)) : SqL K H a xs := .inl (.inl h)
theorem SqT.of {K : PySem.W.Frag} (h : H a = some (.tup xs)) : SqT K H a xs := .inl (.inl h)
theorem Inv.list (I : Inv X pins σ H s) (h : SqL X.K H a xs) : ∃ its : List Value, Vals xs its ∧ PlainL s.heap a its.toArray ∧ xs.length ≤ sizeLine := by
  rcases h with h | ⟨o, its, n, hk, hc, hd, hs, hz, r⟩
  · obtain ⟨z, its, n, r, e⟩ := h.ok I.hok
    exact ⟨its, r, ⟨_, n, e, rfl, rfl, rfl⟩, z⟩
  · refine ⟨its.toList, r, ⟨o, n, I.kIn a o hk, hc, hd, by simpa using hs⟩, ?_⟩
    have e := r.length
    simp only [Array.length_toList] at e
    omega
theorem Inv.tuple (I : Inv X pins σ H s) (h : SqT X.K H a xs) : ∃ its : List Value, Vals xs its ∧ IsTup s.heap a its.toArray ∧ xs.length ≤ sizeLine := by
  rcases h with h | ⟨o, its, n, hk, hc, hs, hz, r⟩
  · obtain ⟨z, its, r, p⟩ := h.ok I.hok
    exact ⟨its, r, p, z⟩
  · refine ⟨its.toList, r, ⟨o, I.kIn a o hk, hc, n, by simpa using hs⟩, ?_⟩
    have e := r.length
    simp only [Array.length_toList] at e
    omega
theorem Inv.list_inj (I : Inv X pins σ H s) (h : SqL X.K H a xs) (h' : SqL X.K H a ys) : xs = ys := by
  obtain ⟨its, r, ⟨o, n, e, _, _, d⟩, _⟩ := I.list h
  obtain ⟨its', r', ⟨o', n', e', _, _, d'⟩, _⟩ := I.list h'
  rw [e] at e'; cases e'
  rw [d] at d'
  injection d' with d1 _
  have : its = its' := by simpa using congrArg Array.toList d1
  subst this
  exact r.inj r'
theorem Inv.tuple_inj (I : Inv X pins σ H s) (h : SqT X.K H a xs) (h' : SqT X.K H a ys) : xs = ys := by
  obtain ⟨its, r, ⟨o, e, _, n, d⟩, _⟩ := I.tuple h
  obtain ⟨its', r', ⟨o', e', _, n', d'⟩, _⟩ := I.tuple h'
  rw [e] at e'; cases e'
  rw [d] at d'
  injection d' with d1 _
  have : its = its' := by simpa using congrArg Array.toList d1
  subst this
  exact r.inj r'
end

/-! ### another wish about exceptions -/
abbrev Cx.wish (X : Cx) (E : Value → Shared → Prop) : Cx := { X with xe := E }
/-- no exception leaves -/
abbrev Cx.nox (X : Cx) : Cx := X.wish fun _ _ => False
theorem Cx.Ok.wish {X : Cx} (ok : X.Ok) (E : Value → Shared → Prop) : (X.wish E).Ok :=
  ⟨ok.mod, ok.kind, ok.glob, ok.blt, ok.above, ok.inj, ok.has, ok.cab, ok.hd, ok.frames, ok.stk, ok.exf, ok.bs, ok.bsz, ok.noex, ok.exfs, ok.funs, ok.frf⟩
theorem Cx.Ok.unwish {X : Cx} {E : Value → Shared → Prop} (ok : (X.wish E).Ok) : X.Ok :=
  ⟨ok.mod, ok.kind, ok.glob, ok.blt, ok.above, ok.inj, ok.has, ok.cab, ok.hd, ok.frames, ok.stk, ok.exf, ok.bs, ok.bsz, ok.noex, ok.exfs, ok.funs, ok.frf⟩
section
variable {X : Cx} {pins : List (Addr × Obj)} {σ : St} {H : Hp} {s : Shared} {E : Value → Shared → Prop}
theorem Inv.wish (I : Inv X pins σ H s) (E : Value → Shared → Prop) : Inv (X.wish E) pins σ H s := ⟨I.ok.wish E, I.os, I.bare, I.base, I.loc, I.cell, I.free, I.freeC, I.pin, I.hok, I.len⟩
theorem Inv.unwish (I : Inv (X.wish E) pins σ H s) : Inv X pins σ H s := ⟨I.ok.unwish, I.os, I.bare, I.base, I.loc, I.cell, I.free, I.freeC, I.pin, I.hok, I.len⟩
theorem SP.unwish {D : Ends} {f : Flow} {s' : Shared} (h : SP (X.wish E) pins D f s') : SP X pins D f s' := by
  cases f with
  | next => obtain ⟨σ', H', I, q⟩ := h; exact ⟨σ', H', I.unwish, q⟩
  | brk => obtain ⟨σ', H', I, q⟩ := h; exact ⟨σ', H', I.unwish, q⟩
  | cont => obtain ⟨σ', H', I, q⟩ := h; exact ⟨σ', H', I.unwish, q⟩
  | ret u => obtain ⟨v, σ', H', I, r, q⟩ := h; exact ⟨v, σ', H', I.unwish, r, q⟩
theorem PE.nox {e : Expr} {t : TE} (h : PE X.nox e t) : PE X e t := fun pins s σ H Q I hw =>
  wpAny_mono (h pins s σ H Q (I.wish _) hw) (fun _ _ ⟨v, H', I', r, q⟩ => ⟨v, H', I'.unwish, r, q⟩) fun _ _ z => False.elim z
theorem PT.nox {e : Expr} {t : TT} (h : PT X.nox e t) : PT X e t := fun pins s σ H Q I hw =>
  wpAny_mono (h pins s σ H Q (I.wish _) hw) (fun _ _ ⟨H', I', q⟩ => ⟨H', I'.unwish, q⟩) fun _ _ z => False.elim z
theorem PSs.nox {st : List Stmt} {t : TS} (h : PSs X.nox st t) : PSs X st t := fun pins s σ H D I hw =>
  wpAny_mono (h pins s σ H D (I.wish _) hw) (fun _ _ q => q.unwish) fun _ _ z => False.elim z
end

/-! ### blocks and small statements -/
section
variable {X : Cx} {st : Stmt} {rest : List Stmt} {t u : TS} {e : Expr} {te : TE} {pos : Pos}
def tNext : TS := fun D σ H => D.nx σ H
def tSeq (t u : TS) : TS := fun D σ H => t { D with nx := u D } σ H
theorem pss_nil : PSs X [] tNext := fun _ _ σ H _ I h => wpAny_execs_nil ⟨σ, H, I, h⟩
theorem pss_cons (h1 : PS X st t) (h2 : PSs X rest u) : PSs X (st :: rest) (tSeq t u) := by
  intro pins s σ H D I h
  refine wpAny_execs_cons (thn (h1 pins s σ H { D with nx := u D } I h) fun f s1 q => ?_)
  cases f with
  | next =>
    obtain ⟨σ', H', I', q⟩ := q
    exact h2 pins s1 σ' H' D I' q
  | ret v => exact q
  | brk => exact q
  | cont => exact q
theorem pss_one (h1 : PS X st t) : PSs X [st] t := by
  intro pins s σ H D I h
  refine wpAny_execs_cons (thn (h1 pins s σ H D I h) fun f s1 q => ?_)
  cases f with
  | next => exact wpAny_execs_nil q
  | ret v => exact q
  | brk => exact q
  | cont => exact q
/-- in a def's body nothing is shown -/
theorem Inv.quiet {pins : List (Addr × Obj)} {σ : St} {H : Hp} {s : Shared} (I : Inv X pins σ H s) : interactive X.env = false := by simp [interactive, I.ok.kind]
/-- an expression whose value is dropped -/
def tDrop (te : TE) : TS := fun D σ H => te σ H fun _ H1 => D.nx σ H1
theorem ps_expr (he : PE X e te) (hs : swapsWith e none pos.line X.env = pure false := by rfl) : PS X (.Expr e pos) (tDrop te) := by
  intro pins s σ H D I h
  exact wpAny_Expr_any (thn (he pins s σ H _ I h) fun v s1 ⟨x, H1, I1, r1, q1⟩ => ⟨σ, H1, I1, q1⟩) I.quiet hs
def tRet (te : TE) : TS := fun D σ H => te σ H D.rt
theorem ps_ret (he : PE X e te) : PS X (.Return (some e) pos) (tRet te) := by
  intro pins s σ H D I h
  exact wpAny_Return_some (thn (he pins s σ H _ I h) fun v s1 ⟨x, H1, I1, r1, q1⟩ => ⟨x, σ, H1, I1, r1, q1⟩)
def tIfS (c : TT) (t u : TS) : TS := fun D σ H => c σ H fun b H1 => if b = true then t D σ H1 else u D σ H1
theorem ps_if {c : Expr} {a b : List Stmt} {tc : TT} (hc : PT X c tc) (ha : PSs X a t) (hb : PSs X b u) : PS X (.If c a b pos) (tIfS tc t u) := by
  intro pins s σ H D I h
  refine wpAny_If (thn (hc pins s σ H _ I h) fun d s1 ⟨H1, I1, q1⟩ => ?_)
  cases d with
  | true => exact ha pins s1 σ H1 D I1 q1
  | false => exact hb pins s1 σ H1 D I1 q1
end

/-! ### targets -/
abbrev TG := V → St → Hp → (St → Hp → Prop) → Prop
abbrev TGs := List V → St → Hp → (St → Hp → Prop) → Prop
def PG (X : Cx) (target : Expr) (t : TG) : Prop :=
  ∀ (pins : List (Addr × Obj)) (s : Shared) (σ : St) (H : Hp) (v : V) (u : Value) (Q : St → Hp → Prop), Inv X pins σ H s → RelV v u → t v σ H Q →
    wpAny (model X.prog X.w) X.A (assign target X.env u) (fun _ s' => ∃ σ' H', Inv X pins σ' H' s' ∧ Q σ' H') X.xe s
/-- several targets, one after another -/
def PGs (X : Cx) (ts : List Expr) (t : TGs) : Prop :=
  ∀ (pins : List (Addr × Obj)) (s : Shared) (σ : St) (H : Hp) (vs : List V) (us : List Value) (Q : St → Hp → Prop), Inv X pins σ H s → Vals vs us → t vs σ H Q →
    wpAny (model X.prog X.w) X.A (assignInOrder ((assignEach ts X.env).map (·.2)) us) (fun _ s' => ∃ σ' H', Inv X pins σ' H' s' ∧ Q σ' H') X.xe s
section
variable {X : Cx} {pos : Pos}
def gName (i : Nat) : TG := fun v σ H Q => Q (σ.set i (some v)) H
theorem pg_name {i : Nat} {x : Str} (hN : X.N.Nodup) (hi : X.N[i]? = some x) (hx : Loc X.env.scope x) (hf : X.fn x = true ∨ X.env.scope.names.lookup x = some .local := by first | exact .inl rfl | exact .inr rfl | assumption) : PG X (.Name x pos) (gName i) := by
  intro pins s σ H v u Q I r h
  exact wpAny_assign_Name (store_ok I hN hi hx r (fun s' I' => ⟨_, H, I', h⟩) hf)
def gNil : TGs := fun vs σ H Q => vs = [] ∧ Q σ H
def gCons (t : TG) (u : TGs) : TGs := fun vs σ H Q => ∃ v r, vs = v :: r ∧ t v σ H fun σ' H' => u r σ' H' Q
theorem pgs_nil : PGs X [] gNil := by
  intro pins s σ H vs us Q I r h
  obtain ⟨e, h⟩ := h
  subst e
  cases r
  exact assignInOrder_nil ⟨σ, H, I, h⟩
theorem pgs_cons {e : Expr} {es : List Expr} {t : TG} {u : TGs} (h1 : PG X e t) (h2 : PGs X es u)
    (hs : (assignEach (e :: es) X.env).map (·.2) = assign e X.env :: (assignEach es X.env).map (·.2) := by rfl) : PGs X (e :: es) (gCons t u) := by
  intro pins s σ H vs us Q I r h
  obtain ⟨v, vr, e1, h⟩ := h
  subst e1
  cases r with
  | cons r rr =>
    rw [hs]
    refine assignInOrder_cons (thn (h1 pins s σ H _ _ _ I r h) fun _ s1 ⟨σ1, H1, I1, q1⟩ => ?_)
    exact h2 pins s1 σ1 H1 _ _ Q I1 rr q1
/-- (a, b, ..) = a tuple of that length -/
def gTup (K : PySem.W.Frag) (n : Nat) (t : TGs) : TG := fun v σ H Q => ∃ a xs, v = .ref a ∧ SqT K H a xs ∧ xs.length = n ∧ t xs σ H Q
theorem pg_tup {es : List Expr} {k : Nat} {t : TGs} {n : Nat} (hc : X.calm = true) (h : PGs X es t)
    (hn : (assignEach es X.env).length = n := by rfl) (hst : (assignEach es X.env).findIdx? (·.1) = none := by rfl) : PG X (.Tuple es k pos) (gTup X.K n t) := by
  intro pins s σ H v u Q I r hw
  obtain ⟨a, xs, e1, hq, hl, hw⟩ := hw
  subst e1
  cases r
  obtain ⟨its, rv, ht, hz⟩ := I.tuple hq
  refine assign_Tuple_tuple (I.ok.hd hc) ht (by simp [hn, ← hl, rv.length]) hst fun h' hx => ?_
  have I1 : Inv X pins σ H { s with heap := h' } := I.kept (t' := s.toks) fun b o e => hx b o (Nat.ne_of_lt (Heap.lt_size e)) e
  exact h pins _ σ H xs _ Q I1 (by simpa using rv) hw
/-- target = value -/
def tAsg (te : TE) (g : TG) : TS := fun D σ H => te σ H fun x H1 => g x σ H1 D.nx
theorem ps_asg {tg e : Expr} {te : TE} {g : TG} (he : PE X e te) (hg : PG X tg g) (hs : swapsWithSole [tg] e pos.line X.env = pure false := by rfl) (hw : swappedStores [tg] e X.env = pure none := by rfl)
    (h1 : (assignEach [tg] X.env).map (·.2) = [assign tg X.env] := by rfl) : PS X (.Assign [tg] e pos) (tAsg te g) := by
  intro pins s σ H D I h
  refine wpAny_Assign_stores (thn (he pins s σ H _ I h) fun v s1 ⟨x, H1, I1, r1, q1⟩ => ?_) hs hw
  rw [h1]
  exact thn (hg pins s1 σ H1 x v _ I1 r1 q1) fun _ s2 q => q
/-- name = value -/
theorem ps_set {i : Nat} {x : Str} {e : Expr} {te : TE} {pos' : Pos} (hN : X.N.Nodup) (hi : X.N[i]? = some x) (hx : Loc X.env.scope x) (he : PE X e te) (hs : swapsWith e (some (.Name x pos')) pos.line X.env = pure false := by rfl) (hf : X.fn x = true ∨ X.env.scope.names.lookup x = some .local := by first | exact .inl rfl | exact .inr rfl | assumption) :
    PS X (.Assign [.Name x pos'] e pos) (tAsg te (gName i)) := by
  intro pins s σ H D I h
  refine wpAny_Assign_Name (thn (he pins s σ H _ I h) fun v s1 ⟨y, H1, I1, r1, q1⟩ => ?_) hs
  exact store_ok I1 hN hi hx r1 (fun s2 I2 => ⟨_, H1, I2, q1⟩) hf
/-- a, b = x, y with plain local names: stored from the right; the pair itself is not tracked (the opening rows as in PyProof/Rows/TupAssign.lean:23) -/
def tPar (i j : Nat) (ta : TA) : TS := fun D σ H => ta σ H fun vs H1 => ∃ v w, vs = [v, w] ∧ D.nx ((σ.set i (some v)).set j (some w)) H1
theorem ps_par {i j : Nat} {x y : Str} {a b : Expr} {ta : TA} {px py pt : Pos} {kt k2 pt2} (hc : X.calm = true) (hN : X.N.Nodup) (hi : X.N[i]? = some x) (hj : X.N[j]? = some y) (hij : i ≠ j)
    (hx : X.env.scope.names.lookup x = some .local) (hy : X.env.scope.names.lookup y = some .local) (ha : PA X [a, b] ta)
    (hw : swappedStores [.Tuple [.Name x px, .Name y py] kt pt] (.Tuple [a, b] k2 pt2) X.env = pure (some [x, y]))
    (hs : swapsWithSole [.Tuple [.Name x px, .Name y py] kt pt] (.Tuple [a, b] k2 pt2) pos.line X.env = pure false := by rfl) :
    PS X (.Assign [.Tuple [.Name x px, .Name y py] kt pt] (.Tuple [a, b] k2 pt2) pos) (tPar i j ta) := by
  intro pins s σ H D I h
  rw [exec_Assign_arm]
  refine wpAny_bind (wpAny_standAt ?_)
  rw [hs]
  refine wpAny_bind (wpAny_pure ?_)
  rw [if_neg (by decide)]
  refine wpAny_bind (Tuple_ (thn (ha _ pins s σ H _ I h) fun us s1 ⟨vs, H1, I1, r1, q1⟩ => ?_))
  obtain ⟨v, w, e1, q1⟩ := q1
  subst e1
  obtain ⟨u1, u2, rfl, rv, rw'⟩ : ∃ u1 u2, us = [u1, u2] ∧ RelV v u1 ∧ RelV w u2 := by
    cases r1 with
    | cons p q =>
      cases q with
      | cons p' q' =>
        cases q'
        exact ⟨_, _, rfl, p, p'⟩
  refine wpAny_newObj_type ?_ (by show 2 ≤ sizeLine; decide)
  have I2 : Inv X pins σ H1 { s1 with heap := s1.heap.push { cls := .type "tuple", data := .seq [u1, u2].toArray } } := I1.kept (t' := s1.toks) fun b o e => Heap.get?_push_of_some _ e
  rw [hw]
  refine wpAny_bind (wpAny_pure ?_)
  show wpAny (model X.prog X.w) X.A (do rule "assign.swapped-stores"; let items ← unpackItems (.ref s1.heap.objs.size) 2 none; assignInOrder [fun v => bindName X.env y v, fun v => bindName X.env x v] items.reverse; pure Flow.next) _ _ _
  refine wpAny_bind (wpAny_rule (wpAny_bind (unpackItems_tuple (items := #[u1, u2]) (I.ok.hd hc) (IsTup.new s1.heap _) fun h' hx' => ?_)))
  have I3 := I2.kept (h' := h') (t' := s1.toks) fun b o e => hx' b o (Nat.ne_of_lt (Heap.lt_size e)) e
  show wpAny _ _ (assignInOrder [fun v => bindName X.env y v, fun v => bindName X.env x v] [u2, u1] >>= fun _ => pure Flow.next) _ _ _
  refine wpAny_bind (assignInOrder_cons (wpAny_bindName (store_ok I3 hN hj (.inl hy) rw' (fun s2 I4 => ?_) (.inr hy))))
  refine assignInOrder_cons (wpAny_bindName (store_ok I4 hN hi (.inl hx) rv (fun s3 I5 => assignInOrder_nil (wpAny_pure ?_)) (.inr hx)))
  rw [List.set_comm _ _ (Ne.symm hij)] at I5
  exact ⟨_, H1, I5, q1⟩
end

/-! ### while -/
section
variable {X : Cx} {pos : Pos}
/-- the invariant W with its measure -/
def tWhile (c : TT) (tb : TS) : TS := fun D σ H => ∃ W : Nat → St → Hp → Prop, (∃ m, W m σ H) ∧ ∀ m σ H, W m σ H →
  c σ H fun b H1 => if b = true then ∃ N : St → Hp → Prop, (∀ σ' H', N σ' H' → ∃ m', m' < m ∧ W m' σ' H') ∧ tb { D with nx := N, ct := N, bk := D.nx } σ H1 else D.nx σ H1
theorem ps_while {c : Expr} {body : List Stmt} {tc : TT} {tb : TS} (hp : PassesOwn (model X.prog X.w) X.A X.env X.xe) (hc : PT X c tc) (hb : PSs X body tb) : PS X (.While c body [] pos) (tWhile tc tb) := by
  intro pins s σ H D I h
  obtain ⟨W, ⟨m0, w0⟩, turn⟩ := h
  refine wpAny_While (codeAny_whileLoop (fun n s' => ∃ σ' H', Inv X pins σ' H' s' ∧ W n σ' H') ?_ m0 ⟨σ, H, I, w0⟩)
  rintro n s1 ⟨σ1, H1, I1, w1⟩
  refine wpAny_passesOwn hp (thn (hc pins s1 σ1 H1 _ I1 (turn n σ1 H1 w1)) fun b s2 ⟨H2, I2, q2⟩ => ?_)
  cases b with
  | true =>
    obtain ⟨N, hN, q2⟩ := q2
    rw [if_pos rfl]
    refine wpAny_passesOwn hp (thn (hb pins s2 σ1 H2 _ I2 q2) fun f s3 q3 => ?_)
    cases f with
    | next =>
      obtain ⟨σ3, H3, I3, n3⟩ := q3
      obtain ⟨m', hm, w3⟩ := hN σ3 H3 n3
      exact ⟨m', hm, σ3, H3, I3, w3⟩
    | cont =>
      obtain ⟨σ3, H3, I3, n3⟩ := q3
      obtain ⟨m', hm, w3⟩ := hN σ3 H3 n3
      exact ⟨m', hm, σ3, H3, I3, w3⟩
    | brk => exact q3
    | ret v => exact q3
  | false =>
    rw [if_neg Bool.false_ne_true]
    exact wpAny_execs_nil ⟨σ1, H2, I2, q2⟩
end

/-! ### what a loop or a comprehension walks -/
/-- at turn i: it yields x (the heap may grow), or it stops -/
structure It where
  go : Nat → Hp → Prop
  yld : Nat → Hp → V → Hp → Prop
  stop : Nat → Hp → Prop
/-- the iterator's own objects may turn: they are not the frame's, not pinned, younger than the entry (or a comprehension's own) -/
def FpOk (X : Cx) (pins : List (Addr × Obj)) (H : Hp) (b : Addr) : Prop :=
  H b = none ∧ b ≠ X.env.locals ∧ b ∉ X.fs ∧ (b ∈ X.ex ∨ X.s₀.heap.objs.size ≤ b) ∧ (∀ x c, X.env.cells.lookup x = some c → c ≠ b) ∧ ∀ p ∈ X.pn ++ pins, p.1 ≠ b
theorem Inv.fpOk {X : Cx} {pins : List (Addr × Obj)} {σ : St} {H H' : Hp} {s : Shared} {b : Addr} (I : Inv X pins σ H s) (hb : s.heap.objs.size ≤ b) (hn : H' b = none) : FpOk X pins H' b := by
  refine ⟨hn, Nat.ne_of_gt (Nat.lt_of_lt_of_le I.lt hb), I.nofs hb, .inr (Nat.le_trans I.sz hb), fun x c e z => ?_, fun p hp z => ?_⟩
  · obtain ⟨v, q⟩ := I.cell x c e
    exact absurd (Nat.lt_of_lt_of_le q.lt (by rw [z]; exact hb)) (Nat.lt_irrefl _)
  · exact absurd (Nat.lt_of_lt_of_le (Heap.lt_size (I.pin p hp).1) (by rw [z]; exact hb)) (Nat.lt_irrefl _)
structure Turn (P : Program) (w : World) (K : PySem.W.Frag) (tg : Expr) (J : It) (fp : List Addr) (it : Addr) (tn : Nat → Heap → Prop) : Prop where
  mem : it ∈ fp
  obj : ∀ i h, tn i h → ∀ b ∈ fp, ∃ o, h.get? b = some o ∧ ∀ v, o.data ≠ .cell v
  keep : ∀ i h h', tn i h → (∀ b ∈ fp, ∀ o, h.get? b = some o → h'.get? b = some o) → tn i h'
  item : ∀ (X : Cx), X.prog = P → X.w = w → X.K = K → X.calm = true → ∀ (i : Nat) (pins : List (Addr × Obj)) (s : Shared) (σ : St) (H : Hp) (E : Value → Shared → Prop), Inv X pins σ H s → (∀ b ∈ fp, FpOk X pins H b) → tn i s.heap → J.go i H →
    wpAny (model P w) X.A (pyNext (.ref it)) (fun r s1 => ∃ u, r = some u ∧
      wpAny (model P w) X.A (letOwnedTupleGo tg (.ref it) u) (fun _ s2 => ∃ x H', Inv X pins σ H' s2 ∧ RelV x u ∧ J.yld i H x H' ∧ tn (i + 1) s2.heap ∧ ∀ b ∈ fp, H' b = none) E s1) E s
  done : ∀ (X : Cx), X.prog = P → X.w = w → X.K = K → X.calm = true → ∀ (i : Nat) (pins : List (Addr × Obj)) (s : Shared) (σ : St) (H : Hp) (E : Value → Shared → Prop), Inv X pins σ H s → (∀ b ∈ fp, FpOk X pins H b) → tn i s.heap → J.stop i H →
    wpAny (model P w) X.A (pyNext (.ref it)) (fun r s1 => r = none ∧ Inv X pins σ H s1) E s
  self : ∀ (A : Around) (i : Nat) (s : Shared) (Q : Value → Shared → Prop) (E : Value → Shared → Prop), tn i s.heap → Q (.ref it) s → wpAny (model P w) A (pyIter (.ref it)) Q E s
abbrev TI := St → Hp → (It → Hp → Prop) → Prop
/-- an iterator has come -/
def PIE (X : Cx) (pins : List (Addr × Obj)) (σ : St) (tg : Expr) (R : It → Hp → Prop) (itv : Value) (s2 : Shared) : Prop :=
  ∃ (it : Addr) (fp : List Addr) (tn : Nat → Heap → Prop) (J : It) (H' : Hp), itv = .ref it ∧ Inv X pins σ H' s2 ∧ Turn X.prog X.w X.K tg J fp it tn ∧ tn 0 s2.heap ∧ (∀ b ∈ fp, FpOk X pins H' b) ∧ R J H'
def PI (X : Cx) (tg iter : Expr) (wi : TI) : Prop :=
  ∀ (pins : List (Addr × Obj)) (s : Shared) (σ : St) (H : Hp) (R : It → Hp → Prop), Inv X pins σ H s → wi σ H R →
    wpAny (model X.prog X.w) X.A (eval iter X.env) (fun v s1 => wpAny (model X.prog X.w) X.A (pyIter v) (PIE X pins σ tg R) X.xe s1) X.xe s

/-- the step ahead of the store is nothing for an iterator that keeps no tuple -/
theorem go_of {M : Model} {A : Around} {E : Value → Shared → Prop} {s : Shared} {tg : Expr} {it : Addr} {u : Value} {o : Obj} {n : String} {vs : Array Value} {Q : Unit → Shared → Prop} (ho : s.heap.get? it = some o) (hc : o.cls = .type n) (hd : o.data = .fields vs)
    (hn : ["enumerate", "zip", "dict_itemiterator", "dict_reverseitemiterator", "odict_iterator", "itertools.zip_longest", "itertools.pairwise"].contains n = false) (hQ : Q () s) : wpAny M A (letOwnedTupleGo tg (.ref it) u) Q E s := by
  unfold letOwnedTupleGo
  cases tg <;> first
    | exact wpAny_pure hQ
    | (cases u <;> first
        | exact wpAny_pure hQ
        | (refine wpAny_bind (wpAny_load ho ?_)
           rw [hc, hd]
           show wpAny M A (if (["enumerate", "zip", "dict_itemiterator", "dict_reverseitemiterator", "odict_iterator", "itertools.zip_longest", "itertools.pairwise"].contains n && vs[0]? == some (rawInt _)) = true then _ else _) Q E s
           rw [if_neg (by intro h; rw [hn, Bool.false_and] at h; cases h)]
           exact wpAny_pure hQ))

/-- the list at a, as it stands at each turn (a loop may append to it) -/
def Itl (K : PySem.W.Frag) (a : Addr) : It :=
  ⟨fun i H => ∃ xs x, SqL K H a xs ∧ xs[i]? = some x, fun i H x H' => H' = H ∧ ∀ xs, SqL K H a xs → xs[i]? = some x, fun i H => ∃ xs, SqL K H a xs ∧ xs.length ≤ i⟩
def Itt (K : PySem.W.Frag) (a : Addr) : It :=
  ⟨fun i H => ∃ xs x, SqT K H a xs ∧ xs[i]? = some x, fun i H x H' => H' = H ∧ ∀ xs, SqT K H a xs → xs[i]? = some x, fun i H => ∃ xs, SqT K H a xs ∧ xs.length ≤ i⟩
/-- lo, lo + 1, .. (n of them) -/
def Itr (lo : Int) (n : Nat) : It := ⟨fun i _ => i < n, fun i H x H' => H' = H ∧ x = .int (lo + i), fun i _ => n ≤ i⟩
theorem turn_list {P : Program} {w : World} {K : PySem.W.Frag} {tg : Expr} (a it : Addr) : Turn P w K tg (Itl K a) [it] it (fun i h => h.IsListIter it a i) where
  mem := by simp
  obj := fun i h st b hb => by
    have e : b = it := by simpa using hb
    subst e
    obtain ⟨o, e, c, d⟩ := st
    exact ⟨o, e, fun v z => by rw [d] at z; cases z⟩
  keep := fun i h h' st k => st.at fun o e => k it (by simp) o e
  item := by
    intro X hP hw hK hc i pins s σ H E I hf st hg
    subst hP hw hK
    obtain ⟨xs, x, hq, hx⟩ := hg
    obtain ⟨its, rv, p, hz⟩ := I.list hq
    obtain ⟨u, hu, ru⟩ := rv.get hx
    obtain ⟨f0, f1, f2, f3, f4, f5⟩ := hf it (by simp)
    refine wpAny_pyNext_list_item st p.isList (x := u) (by simpa using hu) fun h' st' sb => ?_
    have I1 : Inv X pins σ H { s with heap := h' } := I.turned (t' := s.toks) (fun b o hb e => (sb.2 b hb).trans e) f0 f1 f3 f4 f5
    obtain ⟨o, e, c, d⟩ := id st'
    exact ⟨u, rfl, go_of (s := { s with heap := h' }) e c d (by decide) ⟨x, H, I1, ru, ⟨rfl, fun ys hy => by rw [I.list_inj hy hq]; exact hx⟩, st', fun b hb => (hf b hb).1⟩⟩
  done := by
    intro X hP hw hK hc i pins s σ H E I hf st hg
    subst hP hw hK
    obtain ⟨xs, hq, hx⟩ := hg
    obtain ⟨its, rv, p, hz⟩ := I.list hq
    obtain ⟨f0, f1, f2, f3, f4, f5⟩ := hf it (by simp)
    have hl := rv.length
    exact wpAny_pyNext_list_end (I.ok.hd hc) st p.isList (by simp; omega) fun h' eb => ⟨rfl, I.turned (t' := s.toks) (fun b o hb e => eb b o hb e) f0 f1 f3 f4 f5⟩
  self := fun _ _ _ _ _ st h => wpAny_pyIter_listiter st h
theorem turn_tuple {P : Program} {w : World} {K : PySem.W.Frag} {tg : Expr} (a it : Addr) : Turn P w K tg (Itt K a) [it] it (fun i h => h.IsTupleIter it a i) where
  mem := by simp
  obj := fun i h st b hb => by
    have e : b = it := by simpa using hb
    subst e
    obtain ⟨o, e, c, d⟩ := st
    exact ⟨o, e, fun v z => by rw [d] at z; cases z⟩
  keep := fun i h h' st k => st.at fun o e => k it (by simp) o e
  item := by
    intro X hP hw hK hc i pins s σ H E I hf st hg
    subst hP hw hK
    obtain ⟨xs, x, hq, hx⟩ := hg
    obtain ⟨its, rv, p, hz⟩ := I.tuple hq
    obtain ⟨u, hu, ru⟩ := rv.get hx
    obtain ⟨f0, f1, f2, f3, f4, f5⟩ := hf it (by simp)
    refine wpAny_pyNext_tuple_item st (show s.heap.IsTuple a its.toArray from p) (x := u) (by simpa using hu) fun h' st' sb => ?_
    have I1 : Inv X pins σ H { s with heap := h' } := I.turned (t' := s.toks) (fun b o hb e => (sb.2 b hb).trans e) f0 f1 f3 f4 f5
    obtain ⟨o, e, c, d⟩ := id st'
    exact ⟨u, rfl, go_of (s := { s with heap := h' }) e c d (by decide) ⟨x, H, I1, ru, ⟨rfl, fun ys hy => by rw [I.tuple_inj hy hq]; exact hx⟩, st', fun b hb => (hf b hb).1⟩⟩
  done := by
    intro X hP hw hK hc i pins s σ H E I hf st hg
    subst hP hw hK
    obtain ⟨xs, hq, hx⟩ := hg
    obtain ⟨its, rv, p, hz⟩ := I.tuple hq
    obtain ⟨f0, f1, f2, f3, f4, f5⟩ := hf it (by simp)
    have hl := rv.length
    exact wpAny_pyNext_tuple_end (I.ok.hd hc) st (show s.heap.IsTuple a its.toArray from p) (by simp; omega) fun h' eb => ⟨rfl, I.turned (t' := s.toks) (fun b o hb e => eb b o hb e) f0 f1 f3 f4 f5⟩
  self := fun _ _ _ _ _ st h => wpAny_pyIter_tupleiter st h
theorem turn_range {P : Program} {w : World} {K : PySem.W.Frag} {tg : Expr} (it : Addr) (lo : Int) (n : Nat) : Turn P w K tg (Itr lo n) [it] it (fun i h => IsRangeIter h it (lo + (i : Nat) * 1) ((n : Int) - (i : Nat)) 1) where
  mem := by simp
  obj := fun i h st b hb => by
    have e : b = it := by simpa using hb
    subst e
    exact ⟨_, st, fun v z => by
      have z' : Data.fields _ = Data.cell v := z
      cases z'⟩
  keep := fun i h h' st k => k it (by simp) _ st
  item := by
    intro X hP hw hK hc i pins s σ H E I hf st hg
    subst hP hw hK
    obtain ⟨f0, f1, f2, f3, f4, f5⟩ := hf it (by simp)
    have W := Walks.range (prog := X.prog) (w := X.w) (I.ok.hd hc) it lo 1 n
    refine W.item i s _ _ hg st fun v h' tk hv st' kk => ?_
    obtain ⟨t, rfl⟩ := hv
    have I1 : Inv X pins σ H { s with heap := h', toks := tk } := I.turned (fun b o hb e => kk b o (by simpa using hb) e) f0 f1 f3 f4 f5
    refine ⟨_, rfl, go_of (s := { s with heap := h', toks := tk }) (n := "range_iterator") st' rfl rfl (by decide) ⟨.int (lo + i), H, I1, ⟨t, ?_⟩, ⟨rfl, rfl⟩, st', fun b hb => (hf b hb).1⟩⟩
    rw [Int.mul_one]
  done := by
    intro X hP hw hK hc i pins s σ H E I hf st hg
    subst hP hw hK
    obtain ⟨f0, f1, f2, f3, f4, f5⟩ := hf it (by simp)
    exact wpAny_pyNext_range_end (I.ok.hd hc) st (by have : n ≤ i := hg; omega) fun h' eb => ⟨rfl, I.turned (t' := s.toks) (fun b o hb e => eb b o hb e) f0 f1 f3 f4 f5⟩
  self := fun _ _ _ _ _ st h => wpAny_pyIter_rangeiter st h
end L2

namespace L2
open PySem PySem.Spec PyProof.Rows
section
variable {X : Cx} {tg : Expr}
def iList (K : PySem.W.Frag) (tl : TE) : TI := fun σ H R => tl σ H fun x H1 => ∃ a, x = .ref a ∧ (∃ xs, SqL K H1 a xs) ∧ R (Itl K a) H1
def iTup (K : PySem.W.Frag) (tl : TE) : TI := fun σ H R => tl σ H fun x H1 => ∃ a, x = .ref a ∧ (∃ xs, SqT K H1 a xs) ∧ R (Itt K a) H1
theorem pi_list {l : Expr} {tl : TE} (hl : PE X l tl) : PI X tg l (iList X.K tl) := by
  intro pins s σ H R I h
  refine thn (hl pins s σ H _ I h) fun v s1 ⟨x, H1, I1, r1, q1⟩ => ?_
  obtain ⟨a, e, ⟨xs, hq⟩, q⟩ := q1
  subst e
  cases r1
  obtain ⟨its, rv, p, hz⟩ := I1.list hq
  refine wpAny_pyIter_list p.isList ?_
  refine ⟨s1.heap.objs.size, [s1.heap.objs.size], _, _, H1, rfl, I1.kept (t' := s1.toks) fun b o e => Heap.get?_push_of_some _ e, turn_list a _, ⟨_, Heap.get?_push_size _ rfl, rfl, rfl⟩, fun b hb => ?_, q⟩
  have e : b = s1.heap.objs.size := by simpa using hb
  subst e
  exact I1.fpOk (Nat.le_refl _) (I1.hok.fresh (Nat.le_refl _))
theorem pi_tup {l : Expr} {tl : TE} (hl : PE X l tl) : PI X tg l (iTup X.K tl) := by
  intro pins s σ H R I h
  refine thn (hl pins s σ H _ I h) fun v s1 ⟨x, H1, I1, r1, q1⟩ => ?_
  obtain ⟨a, e, ⟨xs, hq⟩, q⟩ := q1
  subst e
  cases r1
  obtain ⟨its, rv, p, hz⟩ := I1.tuple hq
  refine wpAny_pyIter_tuple (show s1.heap.IsTuple a its.toArray from p) ?_
  refine ⟨s1.heap.objs.size, [s1.heap.objs.size], _, _, H1, rfl, I1.kept (t' := s1.toks) fun b o e => Heap.get?_push_of_some _ e, turn_tuple a _, ⟨_, Heap.get?_push_size _ rfl, rfl, rfl⟩, fun b hb => ?_, q⟩
  have e : b = s1.heap.objs.size := by simpa using hb
  subst e
  exact I1.fpOk (Nat.le_refl _) (I1.hok.fresh (Nat.le_refl _))
/-- a range object just made, walked -/
theorem range_it {pins : List (Addr × Obj)} {σ : St} {H : Hp} {s : Shared} {R : It → Hp → Prop} {E : Value → Shared → Prop} {lo hi : Int} {t u v : Tok} {tk : Nat} (I : Inv X pins σ H s) (h1 : -(2 ^ 62) ≤ lo) (h2 : lo < 2 ^ 62) (h3 : -(2 ^ 62) ≤ hi) (h4 : hi < 2 ^ 62)
    (q : R (Itr lo (hi - lo).toNat) H) : wpAny (model X.prog X.w) X.A (pyIter (.ref s.heap.objs.size)) (PIE X pins σ tg R) E { s with heap := s.heap.push { cls := .type "range", data := .fields #[.int lo t, .int hi u, .int 1 v] }, toks := tk } := by
  refine wpAny_pyIter_range (IsRange.new ..) (small_one h1 h2 h3 h4) ?_
  have I1 : Inv X pins σ H { s with heap := s.heap.push { cls := .type "range", data := .fields #[.int lo t, .int hi u, .int 1 v] }, toks := tk } := I.kept fun b o e => Heap.get?_push_of_some _ e
  refine ⟨(s.heap.push { cls := .type "range", data := .fields #[.int lo t, .int hi u, .int 1 v] }).objs.size, [(s.heap.push { cls := .type "range", data := .fields #[.int lo t, .int hi u, .int 1 v] }).objs.size], _, _, H, rfl,
    I1.kept (t' := tk) fun b o e => Heap.get?_push_of_some _ e, turn_range _ lo (hi - lo).toNat, ?_, fun b hb => ?_, q⟩
  · have e1 : lo + ((0 : Nat) : Int) * 1 = lo := by simp
    have e2 : (((hi - lo).toNat : Nat) : Int) - ((0 : Nat) : Int) = Builtin.Range.rangeSize lo hi 1 := by rw [rangeSize_one]; split <;> omega
    show IsRangeIter _ _ (lo + ((0 : Nat) : Int) * 1) ((((hi - lo).toNat : Nat) : Int) - ((0 : Nat) : Int)) 1
    rw [e1, e2]
    exact Heap.get?_push_size _ rfl
  · have e : b = (s.heap.push { cls := .type "range", data := .fields #[.int lo t, .int hi u, .int 1 v] }).objs.size := by simpa using hb
    subst e
    exact I1.fpOk (Nat.le_refl _) (I1.hok.fresh (Nat.le_refl _))
def iRng1 (ta : TA) : TI := fun σ H R => ta σ H fun vs H1 => ∃ j : Int, vs = [.int j] ∧ -(2 ^ 62) ≤ j ∧ j < 2 ^ 62 ∧ R (Itr 0 j.toNat) H1
def iRng2 (ta : TA) : TI := fun σ H R => ta σ H fun vs H1 => ∃ i j : Int, vs = [.int i, .int j] ∧ (-(2 ^ 62) ≤ i ∧ i < 2 ^ 62 ∧ -(2 ^ 62) ≤ j ∧ j < 2 ^ 62) ∧ R (Itr i (j - i).toNat) H1
theorem pi_range1 {a : Expr} {ta : TA} {p pos : Pos} (hg : Gl X "range") (hm : X.mg "range" = none) (ha : PA X [a] ta) (hs : starEach [a] X.env = [(false, eval a X.env)] := by rfl) : PI X tg (.Call (.Name "range" p) [a] [] pos) (iRng1 ta) := by
  intro pins s σ H R I h
  refine Call_ (ld_blt I hg hm boot_range (PyProof.Rows.callWith_type1 (thn (ha pos pins s σ H _ I h) fun us s1 ⟨vs, H1, I1, r1, q1⟩ => ?_) hs rfl))
  obtain ⟨j, e, q1, q2, q⟩ := q1
  subst e
  cases r1 with
  | cons r rr =>
    cases rr
    obtain ⟨t, rfl⟩ := r
    exact call_range_1 (range_it I1 (by omega) (by omega) q1 q2 (by simpa using q))
theorem pi_range2 {a b : Expr} {ta : TA} {p pos : Pos} (hg : Gl X "range") (hm : X.mg "range" = none) (ha : PA X [a, b] ta) (hs : starEach [a, b] X.env = [(false, eval a X.env), (false, eval b X.env)] := by rfl) (hs2 : starEach [b] X.env = [(false, eval b X.env)] := by rfl) :
    PI X tg (.Call (.Name "range" p) [a, b] [] pos) (iRng2 ta) := by
  intro pins s σ H R I h
  refine Call_ (ld_blt I hg hm boot_range (PyProof.Rows.callWith_type1 (thn (ha pos pins s σ H _ I h) fun us s1 ⟨vs, H1, I1, r1, q1⟩ => ?_) (by rw [hs, hs2]) (by rw [hs2]; rfl)))
  obtain ⟨i, j, e, ⟨q1, q2, q3, q4⟩, q⟩ := q1
  subst e
  cases r1 with
  | cons r rr =>
    cases rr with
    | cons r' rr =>
      cases rr
      obtain ⟨t, rfl⟩ := r
      obtain ⟨t', rfl⟩ := r'
      exact call_range_2 (range_it I1 q1 q2 q3 q4 q)

/-! ### for -/
/-- W: the invariant by the turn and a measure; N: what the body is to reach -/
def tFor (wi : TI) (g : TG) (tb : TS) : TS := fun D σ H => wi σ H fun J H1 => ∃ W : Nat → Nat → St → Hp → Prop, (∃ m, W 0 m σ H1) ∧ ∀ i m σ H, W i m σ H →
  (J.stop i H ∧ D.nx σ H) ∨ (J.go i H ∧ ∃ N : St → Hp → Prop, (∀ σ' H', N σ' H' → ∃ m', m' < m ∧ W (i + 1) m' σ' H') ∧ ∀ x H', J.yld i H x H' → g x σ H' fun σ2 H2 => tb { D with nx := N, ct := N, bk := D.nx } σ2 H2)
/-- the records at fp as they stand -/
def pinsAt (fp : List Addr) (h : Heap) : List (Addr × Obj) := fp.filterMap fun b => (h.get? b).map fun o => (b, o)
theorem mem_pinsAt {fp : List Addr} {h : Heap} {b : Addr} {o : Obj} (hb : b ∈ fp) (e : h.get? b = some o) : (b, o) ∈ pinsAt fp h := List.mem_filterMap.mpr ⟨b, hb, by rw [e]; rfl⟩
theorem of_pinsAt {fp : List Addr} {h : Heap} {p : Addr × Obj} (hp : p ∈ pinsAt fp h) : p.1 ∈ fp ∧ h.get? p.1 = some p.2 := by
  obtain ⟨b, hb, e⟩ := List.mem_filterMap.mp hp
  cases q : h.get? b with
  | none => rw [q] at e; cases e
  | some o =>
    rw [q] at e
    have e' : (b, o) = p := Option.some.inj e
    subst e'
    exact ⟨hb, q⟩
theorem Inv.pinned {pins : List (Addr × Obj)} {σ : St} {H : Hp} {s : Shared} {fp : List Addr} (I : Inv X pins σ H s) (hf : ∀ b ∈ fp, FpOk X pins H b) (ho : ∀ b ∈ fp, ∃ o, s.heap.get? b = some o ∧ ∀ v, o.data ≠ .cell v) : Inv X (pins ++ pinsAt fp s.heap) σ H s :=
  I.pins_of fun p hp => (List.mem_append.mp hp).elim (fun z => I.pin p (List.mem_append_right _ z)) fun z => by
    obtain ⟨hb, e⟩ := of_pinsAt z
    obtain ⟨f0, f1, f2, _⟩ := hf p.1 hb
    obtain ⟨o, e', d⟩ := ho p.1 hb
    rw [e] at e'; cases e'
    exact ⟨e, f0, f1, f2, d⟩
theorem Inv.unpinned {pins pl : List (Addr × Obj)} {σ : St} {H : Hp} {s : Shared} (I : Inv X (pins ++ pl) σ H s) : Inv X pins σ H s := I.pins_of fun p hp => I.pin p (List.mem_append_right _ (List.mem_append_left _ hp))
theorem ps_for {iter : Expr} {body : List Stmt} {wi : TI} {g : TG} {tb : TS} {pos : Pos} (hp : PassesOwn (model X.prog X.w) X.A X.env X.xe) (hc : X.calm = true) (hi : PI X tg iter wi) (hg : PG X tg g) (hb : PSs X body tb)
    (hs : ∀ x, foldedSetIterable iter X.env x = pure x := by intro _; rfl) : PS X (.For tg iter body [] pos) (tFor wi g tb) := by
  intro pins s σ H D I h
  refine wpAny_For (thn (hi pins s σ H _ I h) fun v s1 h1 => thn h1 fun itv s2 h2 => ?_) hs
  obtain ⟨it, fp, tn, J, H2, e, I2, T, st2, f2, W, ⟨m0, w0⟩, turn⟩ := h2
  subst e
  -- what stays true of the iterator's objects through the loop
  have stat : ∀ {H' : Hp}, (∀ b ∈ fp, H' b = none) → ∀ b ∈ fp, FpOk X pins H' b := fun hn b hb => ⟨hn b hb, (f2 b hb).2⟩
  refine codeAny_forLoop_any (fun n s' => ∃ i σ' H', Inv X pins σ' H' s' ∧ tn i s'.heap ∧ (∀ b ∈ fp, H' b = none) ∧ W i n σ' H') ?_ m0 ⟨0, σ, H2, I2, st2, fun b hb => (f2 b hb).1, w0⟩
  rintro n s3 ⟨i, σ3, H3, I3, st3, fr3, w3⟩
  rcases turn i n σ3 H3 w3 with ⟨stop, qn⟩ | ⟨go, N, hN, step⟩
  · refine wpAny_passesOwn hp (thn (T.done X rfl rfl rfl hc i pins s3 σ3 H3 X.xe I3 (stat fr3) st3 stop) fun r s4 ⟨hr, I4⟩ => ?_)
    subst hr
    exact wpAny_execs_nil ⟨σ3, H3, I4, qn⟩
  · refine wpAny_passesOwn hp (thn (T.item X rfl rfl rfl hc i pins s3 σ3 H3 X.xe I3 (stat fr3) st3 go) fun r s4 ⟨u, hr, h4⟩ => ?_)
    subst hr
    refine wpAny_passesOwn hp (thn h4 fun _ s5 ⟨x, H5, I5, r5, y5, st5, fr5⟩ => ?_)
    have I5' := I5.pinned (stat fr5) (T.obj _ _ st5)
    refine wpAny_passesOwn hp (thn (hg _ s5 σ3 H5 x u _ I5' r5 (step x H5 y5)) fun _ s6 ⟨σ6, H6, I6, q6⟩ => ?_)
    refine wpAny_passesOwn hp (thn (hb _ s6 σ6 H6 _ I6 q6) fun f s7 q7 => ?_)
    have again : ∀ {σ7 : St} {H7 : Hp}, Inv X (pins ++ pinsAt fp s5.heap) σ7 H7 s7 → N σ7 H7 → ∃ m, m < n ∧ ∃ i σ' H', Inv X pins σ' H' s7 ∧ tn i s7.heap ∧ (∀ b ∈ fp, H' b = none) ∧ W i m σ' H' := fun {σ7 H7} I7 n7 => by
      obtain ⟨m', hm, w7⟩ := hN σ7 H7 n7
      refine ⟨m', hm, i + 1, σ7, H7, I7.unpinned, T.keep _ _ _ st5 fun b hb o e => (I7.pin (b, o) (List.mem_append_right _ (List.mem_append_right _ (mem_pinsAt hb e)))).1, fun b hb => ?_, w7⟩
      obtain ⟨o, e, d⟩ := T.obj _ _ st5 b hb
      exact (I7.pin (b, o) (List.mem_append_right _ (List.mem_append_right _ (mem_pinsAt hb e)))).2.1
    cases f with
    | next => obtain ⟨σ7, H7, I7, n7⟩ := q7; exact again I7 n7
    | cont => obtain ⟨σ7, H7, I7, n7⟩ := q7; exact again I7 n7
    | brk => obtain ⟨σ7, H7, I7, q7⟩ := q7; exact ⟨σ7, H7, I7.unpinned, q7⟩
    | ret v => obtain ⟨x7, σ7, H7, I7, r7, q7⟩ := q7; exact ⟨x7, σ7, H7, I7.unpinned, r7, q7⟩
end

/-! ### the forms one uses -/
/-- over a list that the body leaves as it is -/
theorem for_list {K : PySem.W.Frag} {a : Addr} {xs : List V} {g : TG} {tb : TS} {D : Ends} {σ : St} {H : Hp} (Pv : Nat → St → Hp → Prop) (h0 : Pv 0 σ H) (hl : ∀ i σ H, i ≤ xs.length → Pv i σ H → SqL K H a xs)
    (hs : ∀ i x σ H, xs[i]? = some x → Pv i σ H → g x σ H fun σ2 H2 => tb { D with nx := Pv (i + 1), ct := Pv (i + 1), bk := D.nx } σ2 H2) (hd : ∀ σ H, Pv xs.length σ H → D.nx σ H) :
    ∃ W : Nat → Nat → St → Hp → Prop, (∃ m, W 0 m σ H) ∧ ∀ i m σ H, W i m σ H →
      ((Itl K a).stop i H ∧ D.nx σ H) ∨ ((Itl K a).go i H ∧ ∃ N : St → Hp → Prop, (∀ σ' H', N σ' H' → ∃ m', m' < m ∧ W (i + 1) m' σ' H') ∧ ∀ x H', (Itl K a).yld i H x H' → g x σ H' fun σ2 H2 => tb { D with nx := N, ct := N, bk := D.nx } σ2 H2) := by
  refine ⟨fun i m σ H => m = xs.length - i ∧ i ≤ xs.length ∧ Pv i σ H, ⟨xs.length, by simp, Nat.zero_le _, h0⟩, ?_⟩
  rintro i m σ H ⟨rfl, hi, p⟩
  have q := hl i σ H hi p
  by_cases hlt : i < xs.length
  · refine .inr ⟨⟨xs, xs[i], q, by simp [hlt]⟩, Pv (i + 1), fun σ' H' p' => ⟨xs.length - (i + 1), by omega, rfl, hlt, p'⟩, fun x H' y => ?_⟩
    obtain ⟨e, y⟩ := y
    subst e
    exact hs i x σ _ (y xs q) p
  · have e : i = xs.length := by omega
    subst e
    exact .inl ⟨⟨xs, q, Nat.le_refl _⟩, hd σ H p⟩
theorem for_tup {K : PySem.W.Frag} {a : Addr} {xs : List V} {g : TG} {tb : TS} {D : Ends} {σ : St} {H : Hp} (Pv : Nat → St → Hp → Prop) (h0 : Pv 0 σ H) (hl : ∀ i σ H, i ≤ xs.length → Pv i σ H → SqT K H a xs)
    (hs : ∀ i x σ H, xs[i]? = some x → Pv i σ H → g x σ H fun σ2 H2 => tb { D with nx := Pv (i + 1), ct := Pv (i + 1), bk := D.nx } σ2 H2) (hd : ∀ σ H, Pv xs.length σ H → D.nx σ H) :
    ∃ W : Nat → Nat → St → Hp → Prop, (∃ m, W 0 m σ H) ∧ ∀ i m σ H, W i m σ H →
      ((Itt K a).stop i H ∧ D.nx σ H) ∨ ((Itt K a).go i H ∧ ∃ N : St → Hp → Prop, (∀ σ' H', N σ' H' → ∃ m', m' < m ∧ W (i + 1) m' σ' H') ∧ ∀ x H', (Itt K a).yld i H x H' → g x σ H' fun σ2 H2 => tb { D with nx := N, ct := N, bk := D.nx } σ2 H2) := by
  refine ⟨fun i m σ H => m = xs.length - i ∧ i ≤ xs.length ∧ Pv i σ H, ⟨xs.length, by simp, Nat.zero_le _, h0⟩, ?_⟩
  rintro i m σ H ⟨rfl, hi, p⟩
  have q := hl i σ H hi p
  by_cases hlt : i < xs.length
  · refine .inr ⟨⟨xs, xs[i], q, by simp [hlt]⟩, Pv (i + 1), fun σ' H' p' => ⟨xs.length - (i + 1), by omega, rfl, hlt, p'⟩, fun x H' y => ?_⟩
    obtain ⟨e, y⟩ := y
    subst e
    exact hs i x σ _ (y xs q) p
  · have e : i = xs.length := by omega
    subst e
    exact .inl ⟨⟨xs, q, Nat.le_refl _⟩, hd σ H p⟩
theorem for_range {lo : Int} {n : Nat} {g : TG} {tb : TS} {D : Ends} {σ : St} {H : Hp} (Pv : Nat → St → Hp → Prop) (h0 : Pv 0 σ H)
    (hs : ∀ i σ H, i < n → Pv i σ H → g (.int (lo + i)) σ H fun σ2 H2 => tb { D with nx := Pv (i + 1), ct := Pv (i + 1), bk := D.nx } σ2 H2) (hd : ∀ σ H, Pv n σ H → D.nx σ H) :
    ∃ W : Nat → Nat → St → Hp → Prop, (∃ m, W 0 m σ H) ∧ ∀ i m σ H, W i m σ H →
      ((Itr lo n).stop i H ∧ D.nx σ H) ∨ ((Itr lo n).go i H ∧ ∃ N : St → Hp → Prop, (∀ σ' H', N σ' H' → ∃ m', m' < m ∧ W (i + 1) m' σ' H') ∧ ∀ x H', (Itr lo n).yld i H x H' → g x σ H' fun σ2 H2 => tb { D with nx := N, ct := N, bk := D.nx } σ2 H2) := by
  refine ⟨fun i m σ H => m = n - i ∧ i ≤ n ∧ Pv i σ H, ⟨n, by simp, Nat.zero_le _, h0⟩, ?_⟩
  rintro i m σ H ⟨rfl, hi, p⟩
  by_cases hlt : i < n
  · refine .inr ⟨hlt, Pv (i + 1), fun σ' H' p' => ⟨n - (i + 1), by omega, rfl, hlt, p'⟩, fun x H' y => ?_⟩
    obtain ⟨e, y⟩ := y
    subst e y
    exact hs i σ _ hlt p
  · have e : i = n := by omega
    subst e
    exact .inl ⟨Nat.le_refl _, hd σ H p⟩
/-- while, by a word and a measure of the state -/
theorem while_by {c : TT} {tb : TS} {D : Ends} {σ : St} {H : Hp} (Pv : St → Hp → Prop) (μ : St → Hp → Nat) (h0 : Pv σ H)
    (hs : ∀ σ H, Pv σ H → c σ H fun b H1 => if b = true then tb { D with nx := fun σ' H' => Pv σ' H' ∧ μ σ' H' < μ σ H, ct := fun σ' H' => Pv σ' H' ∧ μ σ' H' < μ σ H, bk := D.nx } σ H1 else D.nx σ H1)
    (mono : ∀ σ H Q Q', (∀ b H1, Q b H1 → Q' b H1) → c σ H Q → c σ H Q') : tWhile c tb D σ H := by
  refine ⟨fun m σ H => m = μ σ H ∧ Pv σ H, ⟨_, rfl, h0⟩, ?_⟩
  rintro m σ H ⟨rfl, p⟩
  refine mono σ H _ _ (fun b H1 q => ?_) (hs σ H p)
  cases b with
  | true => exact ⟨_, fun σ' H' ⟨p', l⟩ => ⟨_, l, rfl, p'⟩, q⟩
  | false => exact q
end L2

namespace L2
open PySem PySem.Spec PyProof.Rows

abbrev R2 := V → V → Hp → VK → Prop
/-- a two-place operation on values: f is binaryOp op, inplaceOp op or compareOp op -/
def OpR (X : Cx) (f : Value → Value → Sem Value) (r : R2) : Prop :=
  ∀ (pins : List (Addr × Obj)) (s : Shared) (σ : St) (H : Hp) (x y : V) (v u : Value) (Q : VK), Inv X pins σ H s → RelV x v → RelV y u → r x y H Q →
    wpAny (model X.prog X.w) X.A (f v u) (EP X pins σ Q) X.xe s
/-- a one-place operation -/
def UnR (X : Cx) (f : Value → Sem Value) (r : V → Hp → VK → Prop) : Prop :=
  ∀ (pins : List (Addr × Obj)) (s : Shared) (σ : St) (H : Hp) (x : V) (v : Value) (Q : VK), Inv X pins σ H s → RelV x v → r x H Q →
    wpAny (model X.prog X.w) X.A (f v) (EP X pins σ Q) X.xe s
/-- a call of a value that is known (a builtin, a type) with values -/
def CallR (X : Cx) (f : Value) (r : List V → Hp → VK → Prop) : Prop :=
  ∀ (pins : List (Addr × Obj)) (s : Shared) (σ : St) (H : Hp) (xs : List V) (us : List Value) (Q : VK), Inv X pins σ H s → Vals xs us → r xs H Q →
    wpAny (model X.prog X.w) X.A (call f us) (EP X pins σ Q) X.xe s
def tOp (r : R2) (ta tb : TE) : TE := fun σ H Q => ta σ H fun x H1 => tb σ H1 fun y H2 => r x y H2 Q
def tUn (r : V → Hp → VK → Prop) (ta : TE) : TE := fun σ H Q => ta σ H fun x H1 => r x H1 Q
/-- ints in, under C, and a value out -/
def rI (C : Int → Int → Prop) (g : Int → Int → V) : R2 := fun x y H Q => ∃ i j, x = .int i ∧ y = .int j ∧ C i j ∧ Q (g i j) H
def rI0 (g : Int → Int → V) : R2 := fun x y H Q => ∃ i j, x = .int i ∧ y = .int j ∧ Q (g i j) H
def rU (g : Int → V) : V → Hp → VK → Prop := fun x H Q => ∃ i, x = .int i ∧ Q (g i) H

section
variable {X : Cx} {a b c : Expr} {ta tb tc : TE} {pos : Pos}

theorem binT (ha : PE X a ta) (hb : PE X b tb) {pins : List (Addr × Obj)} {s : Shared} {σ : St} {H : Hp} {R : V → V → Hp → Prop} (I : Inv X pins σ H s)
    (h : ta σ H fun x H1 => tb σ H1 fun y H2 => R x y H2) {Q : Value → Shared → Prop} {f : Value → Value → Sem Value}
    (hf : ∀ v u s2 x y H2, Inv X pins σ H2 s2 → RelV x v → RelV y u → R x y H2 → wpAny (model X.prog X.w) X.A (f v u) Q X.xe s2) :
    wpAny (model X.prog X.w) X.A (eval a X.env) (fun v s₁ => wpAny (model X.prog X.w) X.A (eval b X.env) (fun u s₂ => wpAny (model X.prog X.w) X.A (f v u) Q X.xe s₂) X.xe s₁) X.xe s := by
  refine thn (ha pins s σ H _ I h) fun v s1 ⟨x, H1, I1, r1, q1⟩ => ?_
  refine thn (hb pins s1 σ H1 _ I1 q1) fun u s2 ⟨y, H2, I2, r2, q2⟩ => ?_
  exact hf v u s2 x y H2 I2 r1 r2 q2

theorem pe_op {op : Operator} {r : R2} (ho : OpR X (binaryOp op) r) (ha : PE X a ta) (hb : PE X b tb) : PE X (.BinOp a op b pos) (tOp r ta tb) := by
  intro pins s σ H Q I h
  exact wpAny_BinOp (binT ha hb I h fun v u s2 x y H2 I2 rx ry q => ho pins s2 σ H2 x y v u Q I2 rx ry q)
theorem pe_un {op : UnaryOp} {r : V → Hp → VK → Prop} (ho : UnR X (unaryOp op) r) (ha : PE X a ta) : PE X (.UnaryOp op a pos) (tUn r ta) := by
  intro pins s σ H Q I h
  exact UnaryOp_ (thn (ha pins s σ H _ I h) fun v s1 ⟨x, H1, I1, r1, q1⟩ => ho pins s1 σ H1 x v Q I1 r1 q1)
/-! ### ints -/
theorem opI {f : Value → Value → Sem Value} {C : Int → Int → Prop} {g : Int → Int → Int}
    (rule : ∀ (i j : Int) (t u : Tok) (s : Shared) (Q : Value → Shared → Prop) (E : Value → Shared → Prop), C i j → Q (.int (g i j) s.toks) { s with toks := s.toks + 1 } → wpAny (model X.prog X.w) X.A (f (.int i t) (.int j u)) Q E s) :
    OpR X f (rI C fun i j => .int (g i j)) := by
  intro pins s σ H x y v u Q I rx ry h
  obtain ⟨i, j, rfl, rfl, hc, q⟩ := h
  obtain ⟨t, rfl⟩ := rx
  obtain ⟨t', rfl⟩ := ry
  exact rule i j t t' s _ _ hc ⟨.int (g i j), H, I.tok _, ⟨_, rfl⟩, q⟩
theorem opI0 {f : Value → Value → Sem Value} {g : Int → Int → Int}
    (rule : ∀ (i j : Int) (t u : Tok) (s : Shared) (Q : Value → Shared → Prop) (E : Value → Shared → Prop), Q (.int (g i j) s.toks) { s with toks := s.toks + 1 } → wpAny (model X.prog X.w) X.A (f (.int i t) (.int j u)) Q E s) :
    OpR X f (rI0 fun i j => .int (g i j)) := by
  intro pins s σ H x y v u Q I rx ry h
  obtain ⟨i, j, rfl, rfl, q⟩ := h
  obtain ⟨t, rfl⟩ := rx
  obtain ⟨t', rfl⟩ := ry
  exact rule i j t t' s _ _ ⟨.int (g i j), H, I.tok _, ⟨_, rfl⟩, q⟩
theorem opB0 {f : Value → Value → Sem Value} {g : Int → Int → Bool}
    (rule : ∀ (i j : Int) (t u : Tok) (s : Shared) (Q : Value → Shared → Prop) (E : Value → Shared → Prop), Q (.bool (g i j)) s → wpAny (model X.prog X.w) X.A (f (.int i t) (.int j u)) Q E s) :
    OpR X f (rI0 fun i j => .bl (g i j)) := by
  intro pins s σ H x y v u Q I rx ry h
  obtain ⟨i, j, rfl, rfl, q⟩ := h
  obtain ⟨t, rfl⟩ := rx
  obtain ⟨t', rfl⟩ := ry
  exact rule i j t t' s _ _ ⟨.bl (g i j), H, I, rfl, q⟩

def CPow (i j : Int) : Prop := 0 ≤ j ∧ j ≤ 1000000 ∧ i.natAbs < 2 ^ 64
def CMul (i j : Int) : Prop := (-(2 ^ 64) < i ∧ i < 2 ^ 64) ∨ (-(2 ^ 64) < j ∧ j < 2 ^ 64)
theorem CMul.ok {i j : Int} (h : CMul i j) : IntMulOk i j := by
  rcases h with ⟨h1, h2⟩ | ⟨h1, h2⟩
  · exact .of_left (intBits_le_64 h1 h2)
  · exact .of_right (intBits_le_64 h1 h2)
theorem op_add : OpR X (binaryOp .Add) (rI0 fun i j => .int (i + j)) := opI0 fun _ _ _ _ _ _ _ q => add_int q
theorem op_sub : OpR X (binaryOp .Sub) (rI0 fun i j => .int (i - j)) := opI0 fun _ _ _ _ _ _ _ q => sub_int q
theorem op_modN : OpR X (binaryOp .Mod) (rI (fun _ j => j ≠ 0) fun i j => .int (i.fmod j)) := opI fun _ _ _ _ _ _ _ hc q => mod_int' hc q
theorem op_pow : OpR X (binaryOp .Pow) (rI CPow fun i j => .int (i ^ j.toNat)) := opI fun _ _ _ _ _ _ _ hc q => pow_int_small hc.1 hc.2.1 hc.2.2 q
theorem unI {f : Value → Sem Value} {g : Int → Int}
    (rule : ∀ (i : Int) (t : Tok) (s : Shared) (Q : Value → Shared → Prop) (E : Value → Shared → Prop), Q (.int (g i) s.toks) { s with toks := s.toks + 1 } → wpAny (model X.prog X.w) X.A (f (.int i t)) Q E s) :
    UnR X f (rU fun i => .int (g i)) := by
  intro pins s σ H x v Q I rx h
  obtain ⟨i, rfl, q⟩ := h
  obtain ⟨t, rfl⟩ := rx
  exact rule i t s _ _ ⟨.int (g i), H, I.tok _, ⟨_, rfl⟩, q⟩
theorem un_neg : UnR X (unaryOp .USub) (rU fun i => .int (-i)) := unI fun _ _ _ _ _ q => neg_int q
/-! ### bools among ints: n += (a < b) -/
end

/-! ### comparisons -/
/-- the scalars that == tells apart as data does -/
def scal : V → V → Bool
  | .non, .non => true | .non, .int _ => true | .int _, .non => true | .non, .bl _ => true | .bl _, .non => true | .non, .str _ => true | .str _, .non => true
  | .int _, .int _ => true | .bl _, .bl _ => true | .str _, .str _ => true | .byt _, .byt _ => true
  | .int _, .str _ => true | .str _, .int _ => true | .bl _, .str _ => true | .str _, .bl _ => true
  | _, _ => false
def rEq : R2 := fun x y H Q => scal x y = true ∧ Q (.bl (decide (x = y))) H
def rNe : R2 := fun x y H Q => scal x y = true ∧ Q (.bl (!decide (x = y))) H

theorem dec_int {i j : Int} : decide (V.int i = V.int j) = (i == j) := by
  rw [Bool.eq_iff_iff]
  simp
theorem dec_bl {i j : Bool} : decide (V.bl i = V.bl j) = (i == j) := by
  rw [Bool.eq_iff_iff]
  simp
theorem dec_str {i j : Str} : decide (V.str i = V.str j) = (i == j) := by
  rw [Bool.eq_iff_iff]
  simp
theorem dec_byt {i j : Array UInt8} : decide (V.byt i = V.byt j) = (i.toList == j.toList) := by
  rw [Bool.eq_iff_iff]
  cases i
  cases j
  simp

section
variable {X : Cx} {a b c : Expr} {ta tb tc : TE} {pos : Pos}
theorem fin_bl {pins : List (Addr × Obj)} {σ : St} {H : Hp} {s : Shared} {Q : VK} {k k' : Bool} (I : Inv X pins σ H s) (q : Q (.bl k) H) (e : k = k') : EP X pins σ Q (.bool k') s := by
  subst e
  exact ⟨.bl k, H, I, rfl, q⟩
theorem op_eq : OpR X (compareOp .Eq) rEq := by
  intro pins s σ H x y v u Q I rx ry h
  obtain ⟨hs, q⟩ := h
  cases x with
  | non =>
    cases rx
    cases y with
    | non => cases ry; exact PySem.EqNone.eq_none_none (fin_bl I q (by simp))
    | bl j => cases ry; exact PySem.EqNone.eq_none_bool (fin_bl I q (by simp))
    | int j => obtain ⟨t', rfl⟩ := ry; exact PySem.EqNone.eq_none_int (fin_bl I q (by simp))
    | str j => obtain ⟨t', rfl⟩ := ry; exact PySem.EqNone.eq_none_str (fin_bl I q (by simp))
    | _ => exact absurd (show false = true from hs) Bool.false_ne_true
  | bl i =>
    cases rx
    cases y with
    | non => cases ry; exact PySem.EqNone.eq_bool_none (fin_bl I q (by simp))
    | bl j => cases ry; exact eq_bool (fin_bl I q dec_bl)
    | str j => obtain ⟨t', rfl⟩ := ry; exact PySem.EqMixed.eq_bool_str (fin_bl I q (by simp))
    | _ => exact absurd (show false = true from hs) Bool.false_ne_true
  | int i =>
    obtain ⟨t, rfl⟩ := rx
    cases y with
    | non => cases ry; exact PySem.EqNone.eq_int_none (fin_bl I q (by simp))
    | int j => obtain ⟨t', rfl⟩ := ry; exact eq_int (fin_bl I q dec_int)
    | str j => obtain ⟨t', rfl⟩ := ry; exact PySem.EqMixed.eq_int_str (fin_bl I q (by simp))
    | _ => exact absurd (show false = true from hs) Bool.false_ne_true
  | str i =>
    obtain ⟨t, rfl⟩ := rx
    cases y with
    | non => cases ry; exact PySem.EqNone.eq_str_none (fin_bl I q (by simp))
    | bl j => cases ry; exact PySem.EqMixed.eq_str_bool (fin_bl I q (by simp))
    | int j => obtain ⟨t', rfl⟩ := ry; exact PySem.EqMixed.eq_str_int (fin_bl I q (by simp))
    | str j => obtain ⟨t', rfl⟩ := ry; exact eq_str (fin_bl I q dec_str)
    | _ => exact absurd (show false = true from hs) Bool.false_ne_true
  | byt i =>
    obtain ⟨t, rfl⟩ := rx
    cases y with
    | byt j => obtain ⟨t', rfl⟩ := ry; exact PySem.W.eq_bytes (fin_bl I q dec_byt)
    | _ => exact absurd (show false = true from hs) Bool.false_ne_true
  | _ => cases y <;> exact absurd (show false = true from hs) Bool.false_ne_true
theorem op_ne : OpR X (compareOp .NotEq) rNe := by
  intro pins s σ H x y v u Q I rx ry h
  obtain ⟨hs, q⟩ := h
  cases x with
  | non =>
    cases rx
    cases y with
    | non => cases ry; exact PySem.EqNone.ne_none_none (fin_bl I q (by simp))
    | bl j => cases ry; exact PySem.EqNone.ne_none_bool (fin_bl I q (by simp))
    | int j => obtain ⟨t', rfl⟩ := ry; exact PySem.EqNone.ne_none_int (fin_bl I q (by simp))
    | str j => obtain ⟨t', rfl⟩ := ry; exact PySem.EqNone.ne_none_str (fin_bl I q (by simp))
    | _ => exact absurd (show false = true from hs) Bool.false_ne_true
  | bl i =>
    cases rx
    cases y with
    | non => cases ry; exact PySem.EqNone.ne_bool_none (fin_bl I q (by simp))
    | bl j => cases ry; exact ne_bool (fin_bl I q (congrArg not dec_bl))
    | str j => obtain ⟨t', rfl⟩ := ry; exact PySem.EqMixed.ne_bool_str (fin_bl I q (by simp))
    | _ => exact absurd (show false = true from hs) Bool.false_ne_true
  | int i =>
    obtain ⟨t, rfl⟩ := rx
    cases y with
    | non => cases ry; exact PySem.EqNone.ne_int_none (fin_bl I q (by simp))
    | int j => obtain ⟨t', rfl⟩ := ry; exact ne_int (fin_bl I q (congrArg not dec_int))
    | str j => obtain ⟨t', rfl⟩ := ry; exact PySem.EqMixed.ne_int_str (fin_bl I q (by simp))
    | _ => exact absurd (show false = true from hs) Bool.false_ne_true
  | str i =>
    obtain ⟨t, rfl⟩ := rx
    cases y with
    | non => cases ry; exact PySem.EqNone.ne_str_none (fin_bl I q (by simp))
    | bl j => cases ry; exact PySem.EqMixed.ne_str_bool (fin_bl I q (by simp))
    | int j => obtain ⟨t', rfl⟩ := ry; exact PySem.EqMixed.ne_str_int (fin_bl I q (by simp))
    | str j => obtain ⟨t', rfl⟩ := ry; exact ne_str (fin_bl I q (congrArg not dec_str))
    | _ => exact absurd (show false = true from hs) Bool.false_ne_true
  | byt i =>
    obtain ⟨t, rfl⟩ := rx
    cases y with
    | byt j => obtain ⟨t', rfl⟩ := ry; exact PySem.W.ne_bytes (fin_bl I q (congrArg not dec_byt))
    | _ => exact absurd (show false = true from hs) Bool.false_ne_true
  | _ => cases y <;> exact absurd (show false = true from hs) Bool.false_ne_true

theorem op_lt : OpR X (compareOp .Lt) (rI0 fun i j => .bl (decide (i < j))) := opB0 fun _ _ _ _ _ _ _ q => lt_int q
theorem op_le : OpR X (compareOp .LtE) (rI0 fun i j => .bl (decide (i ≤ j))) := opB0 fun _ _ _ _ _ _ _ q => le_int q
theorem op_gt : OpR X (compareOp .Gt) (rI0 fun i j => .bl (decide (j < i))) := opB0 fun _ _ _ _ _ _ _ q => gt_int q
/-- is None, is not None: the right side a value none -/
theorem op_isN : OpR X (compareOp .Is) (fun x y H Q => y = .non ∧ Q (.bl (decide (x = .non))) H) := by
  intro pins s σ H x y v u Q I rx ry h
  obtain ⟨rfl, q⟩ := h
  cases ry
  refine is_none_gen (fin_bl I q ?_)
  cases x <;> first
    | (cases rx; rfl)
    | (obtain ⟨t, rfl⟩ := rx; rfl)
theorem op_notN : OpR X (compareOp .IsNot) (fun x y H Q => y = .non ∧ Q (.bl (!decide (x = .non))) H) := by
  intro pins s σ H x y v u Q I rx ry h
  obtain ⟨rfl, q⟩ := h
  cases ry
  refine isnot_none_gen (fin_bl I q ?_)
  cases x <;> first
    | (cases rx; rfl)
    | (obtain ⟨t, rfl⟩ := rx; rfl)

/-- two rules for one operation: by cases -/
theorem OpR.or {f : Value → Value → Sem Value} {r r' : R2} (h : OpR X f r) (h' : OpR X f r') : OpR X f (fun x y H Q => r x y H Q ∨ r' x y H Q) := by
  intro pins s σ H x y v u Q I rx ry q
  rcases q with q | q
  · exact h pins s σ H x y v u Q I rx ry q
  · exact h' pins s σ H x y v u Q I rx ry q

theorem nomark (b : Expr) {op : CmpOp} (h : op ≠ .In := by decide) (h2 : op ≠ .NotIn := by decide) : behindInMarks op b = false := by
  have e1 : (op == CmpOp.In) = false := by cases op <;> first | rfl | exact absurd rfl h
  have e2 : (op == CmpOp.NotIn) = false := by cases op <;> first | rfl | exact absurd rfl h2
  cases b <;> simp [behindInMarks, e1, e2]
/-- a comparison as a value; hm: nomark b, or (for in, not in) by with_unfolding_all rfl -/
theorem pe_cmpR {op : CmpOp} {r : R2} (ho : OpR X (compareOp op) r) (ha : PE X a ta) (hb : PE X b tb) (hm : behindInMarks op b = false) : PE X (.Compare a [op] [b] pos) (tOp r ta tb) := by
  intro pins s σ H Q I h
  exact wpAny_Compare1 (binT ha hb I h fun v u s2 x y H2 I2 rx ry q => ho pins s2 σ H2 x y v u Q I2 rx ry q) hm
/-- a reading of a value as a test -/
def tTest (t : TE) : TT := fun σ H Q => t σ H fun x H' => ∃ k, x = .bl k ∧ Q k H'
theorem pt_cmpR {op : CmpOp} {r : R2} (ho : OpR X (compareOp op) r) (ha : PE X a ta) (hb : PE X b tb) (hm : behindInMarks op b = false) : PT X (.Compare a [op] [b] pos) (tTest (tOp r ta tb)) := by
  intro pins s σ H Q I h
  refine wpAny_isTrue_Compare1 (thn (ha pins s σ H _ I h) fun v s1 ⟨x, H1, I1, r1, q1⟩ => thn (hb pins s1 σ H1 _ I1 q1) fun u s2 ⟨y, H2, I2, r2, q2⟩ =>
    thn (ho pins s2 σ H2 x y v u _ I2 r1 r2 q2) fun c s3 ⟨z, H3, I3, r3, k, e, q3⟩ => ?_) hm
  subst e
  cases r3
  exact wpAny_truthy_bool ⟨H3, I3, q3⟩
/-! ### truth -/
theorem line63 : (sizeLine : Nat) < 2 ^ 63 := by rw [sizeLine_eq]; decide
/-! ### strs and bytes -/
/-! ### scalar builtins, by CallR -/
theorem vals1 {x : V} {us : List Value} (r : Vals [x] us) : ∃ u, us = [u] ∧ RelV x u := by
  cases r with
  | cons r1 r2 => cases r2; exact ⟨_, rfl, r1⟩
theorem vals2 {x y : V} {us : List Value} (r : Vals [x, y] us) : ∃ u w', us = [u, w'] ∧ RelV x u ∧ RelV y w' := by
  cases r with
  | cons r1 r2 =>
    cases r2 with
    | cons r3 r4 => cases r4; exact ⟨_, _, rfl, r1, r3⟩
theorem call_abs : CallR X (.builtin "abs") (fun xs H Q => ∃ i, xs = [.int i] ∧ Q (.int (if i < 0 then -i else i)) H) := by
  intro pins s σ H xs us Q I r h
  obtain ⟨i, rfl, q⟩ := h
  obtain ⟨u, rfl, t, rfl⟩ := vals1 r
  exact call_abs_int fun u tk => ⟨.int (if i < 0 then -i else i), H, I.tok _, ⟨_, rfl⟩, q⟩
theorem call_int1 : CallR X (.type "int") (fun xs H Q => (∃ i, xs = [.int i] ∧ Q (.int i) H) ∨ ∃ k, xs = [.bl k] ∧ Q (.int (if k then 1 else 0)) H) := by
  intro pins s σ H xs us Q I r h
  rcases h with ⟨i, rfl, q⟩ | ⟨k, rfl, q⟩
  · obtain ⟨u, rfl, t, rfl⟩ := vals1 r
    exact call_int_int ⟨.int i, H, I, ⟨_, rfl⟩, q⟩
  · obtain ⟨u, rfl, r1⟩ := vals1 r
    cases r1
    exact call_int_bool ⟨.int (if k then 1 else 0), H, I.tok _, ⟨_, rfl⟩, q⟩
/-- len of a str, a bytes, a list, a tuple -/
def LenV (K : PySem.W.Frag) (x : V) (H : Hp) (n : Nat) : Prop :=
  match x with
  | .str y => y.length ≤ sizeLine ∧ n = y.length
  | .byt y => y.size ≤ sizeLine ∧ n = y.size
  | .ref p => (∃ xs, SqL K H p xs ∧ n = xs.length) ∨ ∃ xs, SqT K H p xs ∧ n = xs.length
  | _ => False
theorem call_len : CallR X (.builtin "len") (fun xs H Q => ∃ x n, xs = [x] ∧ LenV X.K x H n ∧ Q (.int n) H) := by
  intro pins s σ H xs us Q I r h
  obtain ⟨x, n, rfl, e, q⟩ := h
  obtain ⟨u, rfl, rx⟩ := vals1 r
  have hl := line63
  have hs : sizeLine = 16777216 := sizeLine_eq
  cases x with
  | str y =>
    obtain ⟨t, rfl⟩ := rx
    obtain ⟨hy, e'⟩ : y.length ≤ sizeLine ∧ n = y.length := e
    subst e'
    exact len_str (by omega) ⟨.int _, H, I.tok _, ⟨_, rfl⟩, q⟩
  | byt y =>
    obtain ⟨t, rfl⟩ := rx
    obtain ⟨hy, e'⟩ : y.size ≤ sizeLine ∧ n = y.size := e
    subst e'
    exact PySem.W.len_bytes (by omega) ⟨.int _, H, I.tok _, ⟨_, rfl⟩, q⟩
  | ref p =>
    cases rx
    have e' : (∃ xs, SqL X.K H p xs ∧ n = xs.length) ∨ ∃ xs, SqT X.K H p xs ∧ n = xs.length := e
    rcases e' with ⟨xs, hx, e'⟩ | ⟨xs, hx, e'⟩
    · subst e'
      obtain ⟨its, r', pl, hz⟩ := I.list hx
      have hlen := r'.length
      exact Calls.call_len_list pl.isList (by simp only [List.size_toArray]; omega) ⟨.int xs.length, H, I.tok _, ⟨_, by simp only [List.size_toArray]; rw [hlen]⟩, q⟩
    · subst e'
      obtain ⟨its, r', pl, hz⟩ := I.tuple hx
      have hlen := r'.length
      exact len_tuple pl (by simp only [List.size_toArray]; omega) ⟨.int xs.length, H, I.tok _, ⟨_, by simp only [List.size_toArray]; rw [hlen]⟩, q⟩
  | _ => exact (show False from e).elim
end
end L2

namespace L2
open PySem PySem.Spec PyProof.Rows

/-! ### an instance, its attributes a map -/
structure ObjM (h : Heap) (x dx C : Addr) (mA : Str → Option Value) : Prop where
  obj : h.get? x = some (PySem.W.instObj C dx)
  ns : h.Ns1 dx mA
  ne : dx ≠ x

theorem lookIn_ns {h : Heap} {dx : Addr} {mA : Str → Option Value} (n : h.Ns1 dx mA) : ∃ od, h.get? dx = some od ∧ ∀ name, PySem.W.lookIn name od = some (mA name) := by
  obtain ⟨o, es, ep, ho, hd, hk, _, hm⟩ := n
  refine ⟨o, ho, fun name => ?_⟩
  have e := hm name
  unfold nsFind findBy at e
  rw [← Array.find?_toList] at e
  unfold PySem.W.lookIn
  rw [hd]
  dsimp only
  split
  · rename_i y q
    rw [q] at e
    exact congrArg some e
  · rename_i q
    rw [q] at e
    have a : es.toList.any (·.refKey) = false := by
      rw [List.any_eq_false]
      intro y hy
      obtain ⟨z, t, hkey⟩ := hk y (Array.mem_toList_iff.mp hy)
      simp [DictEntry.refKey, hkey]
    have a' : ¬ es.toList.any (·.refKey) = true := by rw [a]; exact Bool.false_ne_true
    rw [if_neg a']
    exact congrArg some e

theorem ObjM.look {h : Heap} {x dx C : Addr} {mA : Str → Option Value} (I : ObjM h x dx C mA) : ∃ od, PySem.W.InstAt h x (PySem.W.instObj C dx) C (some od) ∧ ∀ name, PySem.W.lookIn name od = some (mA name) :=
  let ⟨od, ho, hl⟩ := lookIn_ns I.ns
  ⟨od, ⟨I.obj, rfl, rfl, ho⟩, hl⟩

section
variable {prog : Program} {w : World} {A : Around} {E : Value → Shared → Prop} {s : Shared} {K : PySem.W.Frag} {x dx C f : Addr} {mA : Str → Option Value} {name : Str} {v : Value}

end

/-! ### the attributes as a list of pairs -/
theorem RelO.some_of {v : V} {o : Option Value} (r : RelO (some v) o) : ∃ u, o = some u ∧ RelV v u := by
  cases o with
  | none => exact (show False from r).elim
  | some u => exact ⟨u, rfl, r⟩
section
variable {P : Program} {w : World} {H H' : Hp} {h h' : Heap} {a C dx : Addr} {fs fs' : List (Str × V)}
theorem ins_get (hok : HOk P w H h) (e : H a = some (.ins C dx fs)) : ∃ mA, ObjM h a dx C mA ∧ (∀ f, RelO (fs.lookup f) (mA f)) ∧ PySem.Within mA (fs.map (·.1)) ∧ fs.length ≤ 1000 ∧ H dx = some (.own a) := by
  obtain ⟨d, z, ne, ob, mA, n, r, q⟩ := (show ObjOk P w H h a (.ins C dx fs) from hok a _ e)
  exact ⟨mA, ⟨ob, n, ne⟩, r, q, z, d⟩
end

/-! ### what of the text a class must have -/
structure Cls (K : PySem.W.Frag) (C : Addr) : Prop where
  pg : PySem.W.plainGet K C Str.empty = true
  hd : PySem.W.hasDictIn K C = true
  po : PySem.W.plainOver K C = true
  sa : PySem.W.findIn K (.ref C) "__setattr__" = some (some (.builtin "object.__setattr__"))
theorem Cls.get {K : PySem.W.Frag} {C : Addr} (c : Cls K C) (f : Str) : PySem.W.plainGet K C f = true := c.pg
/-- a constant of the class -/
structure Con (K : PySem.W.Frag) (C : Addr) (f : Str) (v : V) (u : Value) : Prop where
  at_ : PySem.W.findIn K (.ref C) f = some (some u)
  rel : RelV v u
  get : PySem.W.specialIn K u "__get__" = some none
  cp : PySem.W.copiedNames.contains f = false
/-- a method: a plain def of the class or of one above it -/
structure Meth (K : PySem.W.Frag) (C : Addr) (m : Str) (f : Addr) : Prop where
  at_ : PySem.W.findIn K (.ref C) m = some (some (.ref f))
  fn : PySem.W.isFn K (.ref f) = true
  kp : PySem.W.keepIn K (.ref f) = true

section
variable {X : Cx} {pins : List (Addr × Obj)} {σ : St} {H : Hp} {s : Shared} {a C dx : Addr} {fs : List (Str × V)} {f : Str} {v : V} {A : Around} {E : Value → Shared → Prop}

/-- a new instance, tracked, without attributes -/
theorem Inv.made (I : Inv X pins σ H s) : Inv X pins σ (upd (upd H s.heap.objs.size (.own (s.heap.objs.size + 1))) (s.heap.objs.size + 1) (.ins C s.heap.objs.size []))
    { s with heap := (s.heap.push PySem.W.emptyDict).push (PySem.W.instObj C s.heap.objs.size) } := by
  have e1 : (s.heap.push PySem.W.emptyDict).get? s.heap.objs.size = some PySem.W.emptyDict := Heap.get?_push_size s.heap rfl
  have e2 : ((s.heap.push PySem.W.emptyDict).push (PySem.W.instObj C s.heap.objs.size)).get? (s.heap.objs.size + 1) = some (PySem.W.instObj C s.heap.objs.size) := by
    have := Heap.get?_push_size (s.heap.push PySem.W.emptyDict) (o := PySem.W.instObj C s.heap.objs.size) rfl
    rwa [Heap.size_push] at this
  have e3 : (s.heap.push PySem.W.emptyDict).Ns s.heap.objs.size (fun _ => none) := ⟨PySem.W.emptyDict, #[], _, e1, rfl, (fun e he => absurd he (by simp)), fun _ => rfl⟩
  have I1 := I.laid (a := s.heap.objs.size) (o := .own (s.heap.objs.size + 1)) (h' := s.heap.push PySem.W.emptyDict) (t' := s.toks) (fun b u q => Heap.get?_push_of_some _ q) (Nat.le_refl _) ⟨_, e1⟩
  refine I1.laid (a := s.heap.objs.size + 1) (o := .ins C s.heap.objs.size []) (t' := s.toks) (fun b u q => Heap.get?_push_of_some _ q) (Nat.le_of_eq (Heap.size_push _ _)) ?_
  have ne : s.heap.objs.size ≠ s.heap.objs.size + 1 := Nat.ne_of_lt (Nat.lt_succ_self _)
  refine ⟨by rw [upd_ne ne, upd_same], Nat.zero_le _, ne, e2, fun _ => none, (Heap.Ns1.of_empty e3).at fun o q => Heap.get?_push_of_some _ q, fun _ => True.intro, fun y hy => absurd rfl hy⟩

end

/-! ### readings and rules -/
section
variable {X : Cx} {o e value : Expr} {f : Str} {pos pos' tpos : Pos} {ta tv : TE}
end

/-! ### isinstance -/
section
variable {X : Cx} {pins : List (Addr × Obj)} {σ : St} {H : Hp} {s : Shared} {A : Around} {E : Value → Shared → Prop} {Q : Value → Shared → Prop} {c : Value} {b : Bool}
/-- the type of a value, as the fragment's deciders take it; for an instance its class -/
inductive TyOf (K : PySem.W.Frag) (H : Hp) : V → Value → Prop where
  | non : TyOf K H .non (.type "NoneType")
  | bl (x : Bool) : TyOf K H (.bl x) (.type "bool")
  | int (i : Int) : TyOf K H (.int i) (.type "int")
  | str (x : Str) : TyOf K H (.str x) (.type "str")
  | flt (x : UInt64) : TyOf K H (.flt x) (.type "float")
  | lst {a : Addr} {xs : List V} (e : H a = some (.lst xs)) : TyOf K H (.ref a) (.type "list")
  | frz {a : Addr} {o : Obj} {xs : List V} (e : H a = some (.frz o (.lst xs))) : TyOf K H (.ref a) (.type "list")
  | tup {a : Addr} {xs : List V} (e : H a = some (.tup xs)) : TyOf K H (.ref a) (.type "tuple")
  | dK {a : Addr} {kvs : List (Key × V)} (e : H a = some (.dK kvs)) : TyOf K H (.ref a) (.type "dict")
  | dT {a : Addr} {kvs : List (List Key × V)} (e : H a = some (.dT kvs)) : TyOf K H (.ref a) (.type "dict")
  | ins {a C dx : Addr} {fs : List (Str × V)} (e : H a = some (.ins C dx fs)) (cl : Cls K C) (ha : PySem.W.findIn K (.ref C) "__class__" = some (some (.builtin "object.__class__")))
      (hn : PySem.W.specialIn K (.builtin "object.__class__") "__get__" = some (some (.builtin "getset_descriptor.__get__"))) (htk : PySem.W.takesIn K (.builtin "object.__class__") = some true)
      (hm : PySem.W.mroIn K C (.type "object") = some true) : TyOf K H (.ref a) (.ref C)
/-- isinstance(x, c) for one class c, a built-in or an own one: kitOne's answer -/
theorem isinst_ok {x : V} {u t : Value} (I : Inv X pins σ H s) (rx : RelV x u) (ty : TyOf X.K H x t) (e : PySem.W.kitOne X.K t c = some b) (h : ∀ tk, Q (.bool b) { s with toks := tk }) :
    wpAny (model X.prog X.w) A (call (.builtin "isinstance") [u, c]) Q E s := by
  cases ty with
  | non => cases (show u = Value.none from rx); exact PySem.W.kia_one PySem.W.kitx_none I.kIn True.intro e (fun z => nomatch z) h
  | bl y => cases (show u = Value.bool y from rx); exact PySem.W.kia_one PySem.W.kitx_bool I.kIn True.intro e (fun z => nomatch z) h
  | int i => obtain ⟨t, q⟩ := (show ∃ t, u = Value.int i t from rx); cases q; exact PySem.W.kia_one PySem.W.kitx_int I.kIn True.intro e (fun z => nomatch z) h
  | str y => obtain ⟨t, q⟩ := (show ∃ t, u = Value.str y t from rx); cases q; exact PySem.W.kia_one PySem.W.kitx_str I.kIn True.intro e (fun z => nomatch z) h
  | flt y => obtain ⟨t, q⟩ := (show ∃ t, u = Value.float y t from rx); cases q; exact PySem.W.kia_one PySem.W.kitx_float I.kIn True.intro e (fun z => nomatch z) h
  | @lst a xs ea =>
    cases (show u = Value.ref a from rx)
    obtain ⟨_, _, n, _, h1⟩ := (show ObjOk X.prog X.w H s.heap a (.lst xs) from I.hok a _ ea)
    exact PySem.W.kia_one PySem.W.kitx_list I.kIn ⟨_, h1, rfl⟩ e (fun z => nomatch z) h
  | @frz a ob xs ea =>
    cases (show u = Value.ref a from rx)
    obtain ⟨_, _, _, n, _, h1⟩ := (show ObjOk X.prog X.w H s.heap a (.frz ob (.lst xs)) from I.hok a _ ea)
    exact PySem.W.kia_one PySem.W.kitx_list I.kIn ⟨_, h1, rfl⟩ e (fun z => nomatch z) h
  | @tup a xs ea =>
    cases (show u = Value.ref a from rx)
    obtain ⟨_, _, _, p⟩ := (show ObjOk X.prog X.w H s.heap a (.tup xs) from I.hok a _ ea)
    obtain ⟨o, h1, h2, _⟩ := p
    exact PySem.W.kia_one PySem.W.kitx_tuple I.kIn ⟨o, h1, h2⟩ e (fun z => nomatch z) h
  | @dK a kvs ea =>
    cases (show u = Value.ref a from rx)
    obtain ⟨_, _, vs, _, p⟩ := (show ObjOk X.prog X.w H s.heap a (.dK kvs) from I.hok a _ ea)
    obtain ⟨o, es, ep, h1, h2, _⟩ := p
    exact PySem.W.kia_one PySem.W.kitx_dict I.kIn ⟨o, h1, h2.1⟩ e (fun z => nomatch z) h
  | @dT a kvs ea =>
    cases (show u = Value.ref a from rx)
    obtain ⟨_, _, xs, _, o, es, ep, h1, h2, _⟩ := (show ObjOk X.prog X.w H s.heap a (.dT kvs) from I.hok a _ ea)
    exact PySem.W.kia_one PySem.W.kitx_dict I.kIn ⟨o, h1, h2.1⟩ e (fun z => nomatch z) h
  | @ins a C dx fs ea cl ha hn htk hm =>
    cases (show u = Value.ref a from rx)
    obtain ⟨mA, O, _⟩ := ins_get I.hok ea
    obtain ⟨od, J, _⟩ := O.look
    exact PySem.W.kia_one (PySem.W.kitx_own (cl.get _) cl.hd ha hn htk hm) I.kIn J e (fun z => nomatch z) h
end
end L2

namespace L2
open PySem PySem.Spec PyProof.Rows

/-! ### room -/
structure Room (k : Nat) (A : Around) : Prop where
  hd : A.handled = none
  dp : A.depth + 3 * k + 5 < recursionLimit
  un : A.units + 16 * k + 200 < cLine
theorem Room.mono {j k : Nat} {A : Around} (r : Room k A) (h : j ≤ k) : Room j A := ⟨r.hd, by have := r.dp; omega, by have := r.un; omega⟩
theorem Room.deeper {k : Nat} {A : Around} (r : Room (k + 1) A) (env : Env) : Room k (A.deeper env) :=
  ⟨r.hd, by have := r.dp; show A.depth + 1 + 3 * k + 5 < _; omega, by have := r.un; show A.units + 3 + 16 * k + 200 < _; omega⟩
theorem Room.in1 {k : Nat} {A : Around} (r : Room (k + 1) A) : Room k A.in1 :=
  ⟨r.hd, by have := r.dp; show A.depth + 3 * k + 5 < _; omega, by have := r.un; show A.units + 1 + 16 * k + 200 < _; omega⟩
theorem Room.depth {k : Nat} {A : Around} (r : Room k A) : A.depth < recursionLimit := by have := r.dp; omega
theorem Room.units {k : Nat} {A : Around} (r : Room k A) : A.units + 64 < cLine := by have := r.un; omega
/-! ### argument lists and displays -/
def tNil : TA := fun _ H Q => Q [] H
def tCons (ta : TE) (tr : TA) : TA := fun σ H Q => ta σ H fun x H1 => tr σ H1 fun xs H2 => Q (x :: xs) H2
section
variable {X : Cx} {e : Expr} {es : List Expr} {te : TE} {t : TA} {pos : Pos}
theorem pa_nil : PA X [] tNil := fun _ _ _ _ H Q I h => Calls.spliced_nil ⟨[], H, I, .nil, h⟩
theorem pa_cons (ha : PE X e te) (hr : PA X es t) (hs : starEach (e :: es) X.env = (false, eval e X.env) :: starEach es X.env := by rfl) : PA X (e :: es) (tCons te t) := by
  intro pos pins s σ H Q I h
  rw [hs]
  show wpAny _ _ (spliced ((false, eval e X.env) :: backTo pos (starEach es X.env))) _ _ s
  refine Calls.spliced_cons (thn (ha pins s σ H _ I h) fun u s1 ⟨x, H1, I1, r1, q1⟩ => ?_)
  exact thn (hr pos pins s1 σ H1 _ I1 q1) fun us s2 ⟨xs, H2, I2, r2, q2⟩ => ⟨x :: xs, H2, I2, .cons r1 r2, q2⟩

/-- a tuple, a list of written items -/
def tTup (t : TA) : TE := fun σ H Q => t σ H fun xs H1 => xs.length ≤ sizeLine ∧ ∀ p, H1 p = none → Q (.ref p) (upd H1 p (.tup xs))
def tLst (t : TA) : TE := fun σ H Q => t σ H fun xs H1 => xs.length ≤ sizeLine ∧ ∀ p, H1 p = none → Q (.ref p) (upd H1 p (.lst xs))
theorem pe_tup {x1} (h : PA X es t) : PE X (.Tuple es x1 pos) (tTup t) := by
  intro pins s σ H Q I hq
  refine wpAny_Tuple_spliced (thn (h pos pins s σ H _ I hq) fun us s1 ⟨xs, H1, I1, r, z, q⟩ => ⟨by rw [← r.length]; exact z, ?_⟩)
  have hf : H1 s1.heap.objs.size = none := I1.hok.fresh (Nat.le_refl _)
  refine ⟨.ref s1.heap.objs.size, upd H1 s1.heap.objs.size (.tup xs), I1.laid (t' := s1.toks) (fun b u e => Heap.get?_push_of_some _ e) (Nat.le_refl _) ?_, rfl, q _ hf⟩
  exact ⟨z, us, r, ⟨_, Heap.get?_push_size _ rfl, rfl, _, rfl⟩⟩
theorem pe_lst (h : PA X es t) : PE X (.List es pos) (tLst t) := by
  intro pins s σ H Q I hq
  refine wpAny_List_spliced (thn (h pos pins s σ H _ I hq) fun us s1 ⟨xs, H1, I1, r, z, q⟩ => ⟨by rw [← r.length]; exact z, ?_⟩)
  have hf : H1 s1.heap.objs.size = none := I1.hok.fresh (Nat.le_refl _)
  refine ⟨.ref s1.heap.objs.size, upd H1 s1.heap.objs.size (.lst xs), I1.laid (t' := s1.toks) (fun b u e => Heap.get?_push_of_some _ e) (Nat.le_refl _) ?_, rfl, q _ hf⟩
  exact ⟨z, us, 0, r, Heap.get?_push_size _ rfl⟩
end

/-! ### what a def promises -/
/-- a def's promise: the bound arguments in the parameters' order, the heap, the wanted end, the wanted exception -/
abbrev Sp := List V → Hp → VK → XK → Prop
/-- how an exception lies behind a call (file 08 gives it): the callers' frames, abstract heap and state ahead of the call, the wish, the exception, the state -/
abbrev CXT := List Env → Hp → Shared → XK → Value → Shared → Prop

/-- the state at a call -/
structure Env0 (P : Program) (w : World) (K : PySem.W.Frag) (mg : Str → Option Value) (base : Heap) (A : Around) (outer : List Env) (s : Shared) (H : Hp) : Prop where
  frames : A.frames = some outer
  mod : Mod K mg base
  bs : ∀ b o, base.get? b = some o → s.heap.get? b = some o ∧ H b = none
  bsz : base.objs.size ≤ s.heap.objs.size
  funs : s.heap.FunFrames base outer
  frf : ∀ b ∈ frs outer, H b = none
  hok : HOk P w H s.heap
  bare : AllBare s.gens
/-- a call's end -/
def CE (outer : List Env) (P : Program) (w : World) (H : Hp) (s : Shared) (Q : VK) (u : Value) (s' : Shared) : Prop :=
  ∃ v H', s'.os = s.os ∧ AllBare s'.gens ∧ Un (frs outer) [] H H' s.heap s'.heap ∧ HOk P w H' s'.heap ∧ RelV v u ∧ Q v H'
def CR (CX : CXT) (outer : List Env) (P : Program) (w : World) (H : Hp) (s : Shared) (Q : VK) (E : XK) (r : Result) (s' : Shared) : Prop :=
  match r with
  | .ok (.ret u) => CE outer P w H s Q u s'
  | .ok _ => False
  | .error e => CX outer H s E e s'
structure FnOk (P : Program) (w : World) (K : PySem.W.Frag) (mg : Str → Option Value) (base : Heap) (CX : CXT) (k : Nat) (f : Addr) (fd : FuncData) (ps : List Str) (sp : Sp) : Prop where
  len : ∀ vs H Q E, sp vs H Q E → vs.length = ps.length
  run : ∀ (A : Around) (outer : List Env) (s : Shared) (H : Hp) (args : Args) (us : List Value) (vs : List V) (Q : VK) (E : XK), Room k A → Env0 P w K mg base A outer s H → BindsTo s fd args (ps.zip us) → Vals vs us → sp vs H Q E →
    codeAny (model P w) A (.call (.ref f) args) (CR CX outer P w H s Q E) s
theorem FnOk.mono {P : Program} {w : World} {K : PySem.W.Frag} {mg : Str → Option Value} {base : Heap} {CX : CXT} {j k : Nat} {f : Addr} {fd : FuncData} {ps : List Str} {sp : Sp} (F : FnOk P w K mg base CX j f fd ps sp) (h : j ≤ k) :
    FnOk P w K mg base CX k f fd ps sp := ⟨F.len, fun A outer s H args us vs Q E hr => F.run A outer s H args us vs Q E (hr.mono h)⟩
theorem Env0.in1 {P : Program} {w : World} {K : PySem.W.Frag} {mg : Str → Option Value} {base : Heap} {A : Around} {outer : List Env} {s : Shared} {H : Hp} (e : Env0 P w K mg base A outer s H) :
    Env0 P w K mg base A.in1 outer s H := ⟨e.frames, e.mod, e.bs, e.bsz, e.funs, e.frf, e.hok, e.bare⟩

section
variable {X : Cx} {pins : List (Addr × Obj)} {σ : St} {H : Hp} {s s' : Shared}
/-- from a body: what a callee wants -/
theorem Inv.env0 (I : Inv X pins σ H s) : Env0 X.prog X.w X.K X.mg X.base X.A X.stack s H :=
  ⟨I.ok.frames, I.ok.mod, I.bs, Nat.le_trans I.ok.bsz I.sz, I.stack, I.stkFree, I.hok, I.bare⟩
/-- behind a call -/
theorem Inv.after {Q : VK} {u : Value} (I : Inv X pins σ H s) (h : CE X.stack X.prog X.w H s Q u s') : EP X pins σ Q u s' := by
  obtain ⟨v, H', os, bare, un, hok, r, q⟩ := h
  obtain ⟨hh, g, d, t, os'⟩ := s'
  obtain rfl : os' = s.os := os
  exact ⟨v, H', I.call (h' := hh) (g' := g) (d' := d) (t' := t) (ch := []) un hok bare (fun b z => absurd z (by simp)), r, q⟩
end

/-! ### calls -/
/-- f(..): the written arguments, then the defaults dvs; E: what is wanted of an exception -/
def tCall (sp : Sp) (dvs : List V) (E : XK) (t : TA) : TE := fun σ H Q => t σ H fun vs H1 => sp (vs ++ dvs) H1 Q E
/-- how the parameters are bound: us the positional arguments, kw the keywords' values by name, ds the defaults that fill up -/
def Binds (K : PySem.W.Frag) (fd : FuncData) (ps : List Str) (ds : List Value) : Prop :=
  ∀ (s : Shared) (us : List Value), K.In s.heap → (us ++ ds).length = ps.length → BindsTo s fd ⟨us, []⟩ (ps.zip (us ++ ds))
/-- every parameter is given -/
theorem Binds.all {K : PySem.W.Frag} {fd : FuncData} {ps : List Str} (h : ∀ us : List Value, us.length = ps.length → bindArgs fd ⟨us, []⟩ = pure (ps.zip us)) : Binds K fd ps [] := fun s us _ hl => by
  rw [List.append_nil] at hl ⊢
  exact .of_eq (h us hl)

/-- an exception of a callee reaches what this body wants of exceptions -/
def Passes (CX : CXT) (X : Cx) (E : XK) : Prop := ∀ (pins : List (Addr × Obj)) (σ : St) (H : Hp) (s : Shared) (e : Value) (s' : Shared), Inv X pins σ H s → CX X.stack H s E e s' → X.xe e s'

section
variable {X : Cx} {CX : CXT} {k : Nat} {f C : Addr} {fd : FuncData} {ps : List Str} {sp : Sp} {dvs : List V} {ds : List Value} {E : XK} {x m : Str} {p pos apos : Pos} {e o : Expr} {es : List Expr} {ta : TE} {t : TA}

/-- the callee runs -/
theorem run_fn {pins : List (Addr × Obj)} {σ : St} {H : Hp} {s : Shared} {Q : VK} {us : List Value} {vs : List V} (F : FnOk X.prog X.w X.K X.mg X.base CX k f fd ps sp) (hr : Room k X.A) (hb : Binds X.K fd ps ds) (hd : Vals dvs ds) (hx : Passes CX X E)
    (I : Inv X pins σ H s) (r : Vals vs us) (h : sp (vs ++ dvs) H Q E) : wpAny (model X.prog X.w) X.A (call (.ref f) us) (EP X pins σ Q) X.xe s := by
  have r2 : Vals (vs ++ dvs) (us ++ ds) := r.append hd
  have hl : (us ++ ds).length = ps.length := by rw [← r2.length]; exact F.len _ _ _ _ h
  refine wpAny_call (codeAny_mono (F.run X.A X.stack s H ⟨us, []⟩ (us ++ ds) (vs ++ dvs) Q E hr I.env0 (hb s us I.kIn hl) r2 h) fun r s' hq => ?_)
  cases r with
  | error e => exact hx pins σ H s e s' I hq
  | ok fl =>
    cases fl with
    | ret u => exact I.after hq
    | next => exact False.elim hq
    | brk => exact False.elim hq
    | cont => exact False.elim hq

theorem pe_call (F : FnOk X.prog X.w X.K X.mg X.base CX k f fd ps sp) (hr : Room k X.A) (hg : Gl X x) (hm : X.mg x = some (.ref f)) (hk : PySem.W.keepIn X.K (.ref f) = true) (hb : Binds X.K fd ps ds) (hd : Vals dvs ds) (hx : Passes CX X E)
    (ha : PA X (e :: es) t) (hdb : (x == ("__debug__" : Str)) = false := by decide) (he : starEach (e :: es) X.env = (false, eval e X.env) :: starEach es X.env := by rfl) (hpl : (backTo pos (starEach es X.env)).any (·.1) = false := by rfl) :
    PE X (.Call (.Name x p) (e :: es) [] pos) (tCall sp dvs E t) := by
  intro pins s σ H Q I h
  refine wpAny_Call_Name_kw (ld_glob I hg hm ?_ hdb)
  refine PySem.W.callWith_K (h₀ := X.base) I.ok.mod.kin hk (thn (ha pos pins s σ H _ I h) fun us s1 ⟨vs, H1, I1, r, q⟩ => ⟨I1.kIn, ?_⟩) he hpl
  exact run_fn F hr hb hd hx I1 r q
/-- what a class must have to be made -/
structure Mk (K : PySem.W.Frag) (C f : Addr) : Prop where
  makes : PySem.W.makesIn K C = true
  init : PySem.W.findIn K (.ref C) "__init__" = some (some (.ref f))
  fn : PySem.W.isFn K (.ref f) = true
  kp : PySem.W.keepIn K (.ref C) = true

end

/-! ### keywords -/
section
variable {X : Cx} {CX : CXT} {k : Nat} {f C : Addr} {fd : FuncData} {ps ks : List Str} {sp : Sp} {E : XK} {x m : Str} {p pos apos kpos : Pos} {e o : Expr} {es : List Expr} {kws : List Keyword} {te ta : TE} {t tk : TA} {nm : Option Str}
/-- how a call with keywords binds: g puts the positional values us and the keywords' values ws (names ks) in the parameters' order, defaults among them -/
structure KBinds (K : PySem.W.Frag) (fd : FuncData) (ps ks : List Str) (g : List Value → List Value → List Value) (gV : List V → List V → List V) : Prop where
  to : ∀ (s : Shared) (us ws : List Value), K.In s.heap → (g us ws).length = ps.length → BindsTo s fd ⟨us, ks.zip ws⟩ (ps.zip (g us ws))
  rel : ∀ {vs : List V} {us : List Value} {zs : List V} {ws : List Value}, Vals vs us → Vals zs ws → Vals (gV vs zs) (g us ws)
variable {g : List Value → List Value → List Value} {gV : List V → List V → List V}
end

/-! ### a def's body keeps its promise -/
/-- names: the parameters first -/
structure FnScope (N P : List Str) (sc : Scope) : Prop where
  kind : sc.kind = .function
  co : sc.isCoroutine = false
  gen : sc.isGenerator = false
  nd : N.Nodup
  pre : N.take P.length = P
  par : ∀ x ∈ P, sc.names.lookup x = some .local ∨ sc.names.lookup x = some .cell
  nofree : ∀ y ∈ sc.names, y.2 ≠ .free

theorem bindL_out {kindOf : Str → Option NameKind} {x : Str} : ∀ {binds : List (Str × Value)} {m : Str → Option Value}, (∀ v, (x, v) ∉ binds) → bindL kindOf binds m x = m x
  | [], _, _ => rfl
  | (n, v) :: r, m, h => by
    unfold bindL
    rw [bindL_out fun w hw => h w (List.mem_cons_of_mem _ hw)]
    split
    · have : x ≠ n := by rintro rfl; exact h v List.mem_cons_self
      simp [this]
    · rfl
theorem bindC_out {kindOf : Str → Option NameKind} {x : Str} : ∀ {binds : List (Str × Value)} {m : Str → Option Value}, (∀ v, (x, v) ∉ binds) → bindC kindOf binds m x = m x
  | [], _, _ => rfl
  | (n, v) :: r, m, h => by
    unfold bindC
    rw [bindC_out fun w hw => h w (List.mem_cons_of_mem _ hw)]
    split
    · rfl
    · have : x ≠ n := by rintro rfl; exact h v List.mem_cons_self
      simp [this]
theorem bindL_get {kindOf : Str → Option NameKind} {x : Str} {v : Value} : ∀ {P : List Str} {vs : List Value} {i : Nat} {m : Str → Option Value}, P.Nodup → P[i]? = some x → vs[i]? = some v → kindOf x = some .local →
    bindL kindOf (P.zip vs) m x = some v
  | [], _, _, _, _, h, _, _ => by simp at h
  | _ :: _, [], _, _, _, _, h, _ => by simp at h
  | p :: P, w :: vs, 0, m, nd, h1, h2, hk => by
    simp at h1 h2; subst h1; subst h2
    show bindL kindOf ((p, w) :: P.zip vs) m p = _
    unfold bindL
    rw [bindL_out fun v hv => (List.nodup_cons.mp nd).1 (List.of_mem_zip hv).1, if_pos hk]
    simp
  | p :: P, w :: vs, i + 1, m, nd, h1, h2, hk => by
    show bindL kindOf ((p, w) :: P.zip vs) m x = _
    unfold bindL
    exact bindL_get (i := i) (List.nodup_cons.mp nd).2 (by simpa using h1) (by simpa using h2) hk
theorem bindC_get {kindOf : Str → Option NameKind} {x : Str} {v : Value} : ∀ {P : List Str} {vs : List Value} {i : Nat} {m : Str → Option Value}, P.Nodup → P[i]? = some x → vs[i]? = some v → kindOf x ≠ some .local →
    bindC kindOf (P.zip vs) m x = some v
  | [], _, _, _, _, h, _, _ => by simp at h
  | _ :: _, [], _, _, _, _, h, _ => by simp at h
  | p :: P, w :: vs, 0, m, nd, h1, h2, hk => by
    simp at h1 h2; subst h1; subst h2
    show bindC kindOf ((p, w) :: P.zip vs) m p = _
    unfold bindC
    rw [bindC_out fun v hv => (List.nodup_cons.mp nd).1 (List.of_mem_zip hv).1, if_neg hk]
    simp
  | p :: P, w :: vs, i + 1, m, nd, h1, h2, hk => by
    show bindC kindOf ((p, w) :: P.zip vs) m x = _
    unfold bindC
    exact bindC_get (i := i) (List.nodup_cons.mp nd).2 (by simpa using h1) (by simpa using h2) hk

/-- the names' values at the entry -/
def start (N : List Str) (vs : List V) : St := vs.map some ++ List.replicate (N.length - vs.length) none

/-- the context of a def's body, at its entry; an exception leaves the frame, then lies as CX says -/
def cxOf (CX : CXT) (P : Program) (w : World) (K : PySem.W.Frag) (mg : Str → Option Value) (base : Heap) (N : List Str) (qual : Str) (scope : Scope) (f : Addr) (cd : Value) (A : Around) (outer : List Env) (s : Shared) (H : Hp) (E : XK) : Cx where
  prog := P
  w := w
  K := K
  mg := mg
  base := base
  A := A.deeper (envOfC qual scope s.heap.objs.size f cd)
  N := N
  s₀ := s
  H₀ := H
  env := envOfC qual scope s.heap.objs.size f cd
  outer := outer
  stack := envOfC qual scope s.heap.objs.size f cd :: outer
  ex := []
  calm := true
  fn := fun _ => true
  pn := []
  xe := fun e s' => wpAny (model P w) (A.deeper (envOfC qual scope s.heap.objs.size f cd)) (leaving (envOfC qual scope s.heap.objs.size f cd) e) (fun _ s'' => CX outer H s E e s'') (fun e' s'' => CX outer H s E e' s'') s'

theorem cell_has {sc : Scope} {n : Nat} {x : Str} (h : sc.names.lookup x = some .cell) : ∃ c, (cellsFrom n sc.names []).lookup x = some c := by
  have q := PySem.W.cellsFrom_some sc.names n [] (.inl h)
  exact Option.isSome_iff_exists.mp q

theorem inv_start {CX : CXT} {P : Program} {w : World} {K : PySem.W.Frag} {mg : Str → Option Value} {base : Heap} {N ps : List Str} {qual : Str} {scope : Scope} {f : Addr} {cd : Value} {A : Around} {outer : List Env} {s s1 : Shared} {H : Hp} {E : XK} {us : List Value} {vs : List V}
    (S : FnScope N ps scope) (hd : A.handled = none) (e0 : Env0 P w K mg base A outer s H) (hl : vs.length = ps.length) (r : Vals vs us)
    (x : InCallC s s.heap.objs.size (bindL (envOfC qual scope s.heap.objs.size f cd).kindOf (ps.zip us) fun _ => none) (cellsFrom (s.heap.objs.size + 1) scope.names []) (bindC (envOfC qual scope s.heap.objs.size f cd).kindOf (ps.zip us) fun _ => none) s1) :
    Inv (cxOf CX P w K mg base N qual scope f cd A outer s H E) [] (start N vs) H s1 := by
  have hpl : ps.length ≤ N.length := by have := congrArg List.length S.pre; rw [List.length_take] at this; omega
  obtain ⟨h1, tk, rfl, hk⟩ := x.done
  have noA : ∀ b : Addr, b ∉ (cxOf CX P w K mg base N qual scope f cd A outer s H E).ex := fun b z => absurd (show b ∈ ([] : List Addr) from z) (by simp)
  refine ⟨⟨e0.mod, S.kind, rfl, rfl, Nat.le_refl _, fun y z c h1 h2 => ?_, fun y hy => ?_, fun y c _ h => ?_, fun _ => hd, Around.frames_deeper e0.frames, .inr ⟨rfl, rfl⟩, fun b z => absurd z (noA b), e0.bs, e0.bsz, fun b _ _ => noA b, fun b z => absurd z (noA b), e0.funs, e0.frf⟩,
    rfl, e0.bare, Un.kept hk, ⟨_, x.toInCall.ns, fun i y v h1 h2 h3 => ?_⟩, fun y c h => ⟨_, x.cell y c h⟩, e0.hok.fresh (Nat.le_refl _), fun y c h => ?_, fun p hp => absurd (show p ∈ ([] : List (Addr × Obj)) from hp) (by simp), e0.hok.kept hk, ?_⟩
  · exact name_of_addr x.apart (PySem.mem_of_lookup h1) (PySem.mem_of_lookup h2)
  · have hy : scope.names.lookup y = some .cell ∨ scope.names.lookup y = some .free := hy
    rcases hy with hy | hy
    · exact cell_has hy
    · exact absurd rfl (S.nofree _ (PySem.mem_of_lookup hy))
  · exact Nat.le_of_lt (x.above y c (PySem.mem_of_lookup h))
  · have hi : i < vs.length := by
      unfold start at h2
      by_cases hi : i < vs.length
      · exact hi
      · rw [List.getElem?_append_right (by simpa using hi)] at h2
        rw [List.getElem?_replicate] at h2
        split at h2 <;> cases h2
    have ha : vs[i]? = some v := by
      unfold start at h2
      rw [List.getElem?_append_left (by simpa using hi), List.getElem?_map] at h2
      cases e : vs[i]? with
      | none => rw [e] at h2; cases h2
      | some a => rw [e] at h2; cases h2; rfl
    obtain ⟨u, hu, rv⟩ := r.get ha
    have hp : ps[i]? = some y := by
      rw [← S.pre, List.getElem?_take_of_lt (by omega)]; exact h1
    have ndP : ps.Nodup := by rw [← S.pre]; exact S.nd.sublist (List.take_sublist _ _)
    refine ⟨u, rv, ?_⟩
    rcases S.par y (List.mem_of_getElem? hp) with k | k
    · exact .inl ⟨k, bindL_get ndP hp hu k⟩
    · obtain ⟨c, e⟩ := cell_has (n := s.heap.objs.size + 1) k
      refine .inr ⟨.inl k, c, e, ?_⟩
      have q := x.cell y c e
      rw [bindC_get ndP hp hu (by show scope.names.lookup y ≠ _; rw [k]; decide)] at q
      exact q
  · exact e0.hok.fresh (Nat.le_of_lt (x.above y c (PySem.mem_of_lookup h)))
  · unfold start
    show _ = N.length
    rw [List.length_append, List.length_map, List.length_replicate]
    omega

/-- THE RULE: a def (or a method) of the text, by its body. The body's reading t is chosen for each entry; it is run at the parameters' values -/
theorem fn_of {CX : CXT} {P : Program} {w : World} {K : PySem.W.Frag} {mg : Str → Option Value} {base : Heap} {k : Nat} {f : Addr} {name qual : Str} {params : Arguments} {body : List Stmt} {scope : Scope} {dV kV doc pm cdv ct oc : Value} {an od : Option Addr}
    {osl : Array (Option Value)} {N ps : List Str} {sp : Sp} (lk : K.lookup f = some ⟨oc, od, .func (PySem.W.fnOf name qual params body scope dV kV doc pm an cdv ct), osl⟩) (hcd : PySem.W.codeIn K cdv qual = true) (S : FnScope N ps scope)
    (len : ∀ vs H Q E, sp vs H Q E → vs.length = ps.length)
    (hbody : ∀ (A : Around) (outer : List Env) (s : Shared) (H : Hp) (vs : List V) (Q : VK) (E : XK), Room k (A.deeper (envOfC qual scope s.heap.objs.size f cdv)) → sp vs H Q E →
      ∃ t, PSs (cxOf CX P w K mg base N qual scope f cdv A outer s H E) body t ∧ t { nx := fun _ H' => Q .non H', rt := Q } (start N vs) H) :
    FnOk P w K mg base CX (k + 1) f (PySem.W.fnOf name qual params body scope dV kV doc pm an cdv ct) ps sp := by
  refine ⟨len, fun A outer s H args us vs Q E hr e0 hb r hsp => ?_⟩
  have hl := len _ _ _ _ hsp
  have KX : K.In s.heap := e0.mod.kin.keeps fun b o e => (e0.bs b o e).1
  have lim : s.heap.NoLimit := e0.mod.nolimit.keeps fun b o e => (e0.bs b o e).1
  have hkind : ∀ y ∈ ps.zip us, scope.names.lookup y.1 = some .local ∨ (scope.names.lookup y.1 = some .cell ∧ ((cellsFrom (s.heap.objs.size + 1) scope.names []).lookup y.1).isSome = true) := fun ⟨n, v⟩ hy => by
    rcases S.par n (List.of_mem_zip hy).1 with q | q
    · exact .inl q
    · exact .inr ⟨q, PySem.W.cellsFrom_some _ _ _ (.inl q)⟩
  refine codeAny_call_function hr.depth (KX _ _ lk) rfl S.co S.gen rfl (PySem.W.codeRec_of KX hcd) (hb _ _ _ _ ?_)
  refine wpAny_newFunctionEnv_cells S.kind hkind fun env he s1 x => ?_
  subst he
  refine ⟨lim.keeps x.toInCall.keep, codeAny_func ?_⟩
  obtain ⟨t, ht, hq⟩ := hbody A outer s H vs Q E (hr.deeper _) hsp
  have I : Inv (cxOf CX P w K mg base N qual scope f cdv A outer s H E) [] (start N vs) H s1 := inv_start S hr.hd e0 hl r x
  refine wpAny_mono (ht [] s1 (start N vs) H _ I hq) (fun fl s' hs => ?_) fun e s' hs => hs
  have fin : ∀ {σ' : St} {H' : Hp} {v : V} {u : Value}, Inv (cxOf CX P w K mg base N qual scope f cdv A outer s H E) [] σ' H' s' → RelV v u → Q v H' → CE outer P w H s Q u s' :=
    fun {σ' H' v u} J rv q => ⟨v, H', J.os, J.bare, J.base, J.hok, rv, q⟩
  cases fl with
  | ret u =>
    obtain ⟨v, σ', H', J, rv, q⟩ := hs
    exact fin J rv q
  | next =>
    obtain ⟨σ', H', J, q⟩ := hs
    exact fin (v := V.non) (u := Value.none) J rfl q
  | brk =>
    obtain ⟨_, _, _, q⟩ := hs
    exact False.elim q
  | cont =>
    obtain ⟨_, _, _, q⟩ := hs
    exact False.elim q
end L2

namespace L2
open PySem PySem.Spec PyProof.Rows
section
variable {X : Cx} {x : Str} {p pos : Pos} {e : Expr} {es : List Expr} {t : TA} {id T : String} {r : List V → Hp → VK → Prop}

def tCB (r : List V → Hp → VK → Prop) (t : TA) : TE := fun σ H Q => t σ H fun vs H1 => r vs H1 Q
/-- f(e, ..), f a built-in function -/
theorem pe_callB (hc : CallR X (.builtin id) r) (hg : Gl X x) (hm : X.mg x = none) (hv : bootBuiltins x = some (.builtin id)) (ha : PA X (e :: es) t) (hn : x ≠ "__name__" := by decide) (hdb : (x == ("__debug__" : Str)) = false := by decide)
    (he : starEach (e :: es) X.env = (false, eval e X.env) :: starEach es X.env := by rfl) (hpl : (backTo pos (starEach es X.env)).any (·.1) = false := by rfl) : PE X (.Call (.Name x p) (e :: es) [] pos) (tCB r t) := by
  intro pins s σ H Q I h
  refine wpAny_Call_Name_kw (ld_blt I hg hm hv ?_ hn hdb)
  exact PyProof.Rows.callWith_builtin1 (thn (ha pos pins s σ H _ I h) fun us s1 ⟨vs, H1, I1, r1, q1⟩ => hc pins s1 σ H1 vs us Q I1 r1 q1) he hpl
/-- T(e, ..), T a built-in type -/
theorem pe_callTy (hc : CallR X (.type T) r) (hg : Gl X x) (hm : X.mg x = none) (hv : bootBuiltins x = some (.type T)) (ha : PA X (e :: es) t) (hn : x ≠ "__name__" := by decide) (hdb : (x == ("__debug__" : Str)) = false := by decide)
    (he : starEach (e :: es) X.env = (false, eval e X.env) :: starEach es X.env := by rfl) (hpl : (backTo pos (starEach es X.env)).any (·.1) = false := by rfl) : PE X (.Call (.Name x p) (e :: es) [] pos) (tCB r t) := by
  intro pins s σ H Q I h
  refine wpAny_Call_Name_kw (ld_blt I hg hm hv ?_ hn hdb)
  exact PyProof.Rows.callWith_type1 (thn (ha pos pins s σ H _ I h) fun us s1 ⟨vs, H1, I1, r1, q1⟩ => hc pins s1 σ H1 vs us Q I1 r1 q1) he hpl
end
end L2

namespace L2
open PySem PySem.Spec PyProof.Rows

/-! ### lists of pairs as tables -/
section
variable {κ : Type} [DecidableEq κ]
def valV (kvs : List (κ × V)) (k : κ) : Option V := (kvs.find? fun kv => decide (kv.1 = k)).map (·.2)
/-- in its place, or at the end -/
def putK (kvs : List (κ × V)) (k : κ) (v : V) : List (κ × V) :=
  if (kvs.any fun kv => decide (kv.1 = k)) = true then kvs.map (fun kv => if kv.1 = k then (kv.1, v) else kv) else kvs ++ [(k, v)]
def dropK (kvs : List (κ × V)) (k : κ) : List (κ × V) := kvs.filter fun kv => decide (kv.1 ≠ k)

theorem valV_pos {p : κ × V} {r : List (κ × V)} {k : κ} (e : p.1 = k) : valV (p :: r) k = some p.2 := by simp [valV, List.find?_cons, e]
theorem valV_neg {p : κ × V} {r : List (κ × V)} {k : κ} (e : ¬ p.1 = k) : valV (p :: r) k = valV r k := by simp [valV, List.find?_cons, e]
theorem valV_any (k : κ) : ∀ kvs : List (κ × V), (kvs.any fun kv => decide (kv.1 = k)) = (valV kvs k).isSome
  | [] => rfl
  | p :: r => by
    rw [List.any_cons]
    by_cases e : p.1 = k
    · simp only [valV_pos e, decide_eq_true e, Bool.true_or, Option.isSome_some]
    · rw [valV_neg e, decide_eq_false e, Bool.false_or]; exact valV_any k r
theorem valV_map (k j : κ) (y : V) : ∀ kvs : List (κ × V), valV (kvs.map fun kv => if kv.1 = k then (kv.1, y) else kv) j = (valV kvs j).map fun x => if j = k then y else x
  | [] => rfl
  | p :: r => by
    have ih := valV_map k j y r
    rw [List.map_cons]
    by_cases h : p.1 = k
    · rw [if_pos h]
      by_cases e : p.1 = j
      · rw [valV_pos (p := (p.1, y)) e, valV_pos e, Option.map_some, if_pos (e.symm.trans h)]
      · rw [valV_neg (p := (p.1, y)) e, valV_neg e, ih]
    · rw [if_neg h]
      by_cases e : p.1 = j
      · rw [valV_pos (p := p) e, valV_pos e, Option.map_some, if_neg (fun z => h (e.trans z))]
      · rw [valV_neg (p := p) e, valV_neg e, ih]
theorem valV_snoc (k j : κ) (y : V) : ∀ kvs : List (κ × V), valV kvs k = none → valV (kvs ++ [(k, y)]) j = if j = k then some y else valV kvs j
  | [], _ => by
    by_cases e : k = j
    · rw [if_pos e.symm]; exact valV_pos (p := (k, y)) e
    · rw [if_neg (fun z => e z.symm)]; exact valV_neg (p := (k, y)) e
  | p :: r, hn => by
    rw [List.cons_append]
    have hk : ¬ p.1 = k := fun z => by rw [valV_pos z] at hn; cases hn
    rw [valV_neg hk] at hn
    have ih := valV_snoc k j y r hn
    by_cases e : p.1 = j
    · rw [valV_pos e, valV_pos e, if_neg (fun z => hk (e.trans z))]
    · rw [valV_neg e, valV_neg e, ih]
theorem valV_put (kvs : List (κ × V)) (k j : κ) (y : V) : valV (putK kvs k y) j = if j = k then some y else valV kvs j := by
  unfold putK
  by_cases a : (kvs.any fun kv => decide (kv.1 = k)) = true
  · rw [if_pos a, valV_map]
    rw [valV_any] at a
    by_cases e : j = k
    · obtain ⟨x, hx⟩ := Option.isSome_iff_exists.mp a
      rw [if_pos e, e, hx, Option.map_some, if_pos rfl]
    · rw [if_neg e]
      cases valV kvs j with
      | none => rfl
      | some x => rw [Option.map_some, if_neg e]
  · rw [if_neg a]
    refine valV_snoc k j y kvs ?_
    rw [valV_any] at a
    cases q : valV kvs k with
    | none => rfl
    | some x => rw [q] at a; exact (a rfl).elim
theorem length_putK (kvs : List (κ × V)) (k : κ) (v : V) : (putK kvs k v).length ≤ kvs.length + 1 := by
  unfold putK
  split
  · rw [List.length_map]; omega
  · rw [List.length_append, List.length_cons, List.length_nil]; omega
theorem RelO.isSome_eq {o : Option V} {u : Option Value} (r : RelO o u) : o.isSome = u.isSome := by
  cases o with
  | none => cases u with
    | none => rfl
    | some _ => exact (show False from r).elim
  | some _ => cases u with
    | none => exact (show False from r).elim
    | some _ => rfl
theorem RelO.getD {o : Option V} {u : Option Value} {d : V} {d' : Value} (r : RelO o u) (rd : RelV d d') : RelV (o.getD d) (u.getD d') := by
  cases o with
  | none => cases u with
    | none => exact rd
    | some _ => exact (show False from r).elim
  | some _ => cases u with
    | none => exact (show False from r).elim
    | some _ => exact r

/-- raw tables of the same keys -/
theorem KV.val {kvs : List (κ × V)} {vs : List (κ × Value)} (r : KV kvs vs) (k : κ) : RelO (valV kvs k) (valueAt vs k) := by
  unfold KV at r
  induction r with
  | nil => exact True.intro
  | @cons p q ps qs h t ih =>
    obtain ⟨h1, h2⟩ := h
    by_cases e : p.1 = k
    · have e' : q.1 = k := h1.symm.trans e
      have b : valueAt (q :: qs) k = some q.2 := by simp [valueAt, List.find?_cons, e']
      rw [valV_pos e, b]; exact h2
    · have e' : ¬ q.1 = k := fun z => e (h1.trans z)
      have b : valueAt (q :: qs) k = valueAt qs k := by simp [valueAt, List.find?_cons, e']
      rw [valV_neg e, b]; exact ih
theorem KV.any {kvs : List (κ × V)} {vs : List (κ × Value)} (r : KV kvs vs) (k : κ) : (kvs.any fun kv => decide (kv.1 = k)) = vs.any fun kv => decide (kv.1 = k) := by
  unfold KV at r
  induction r with
  | nil => rfl
  | cons h t ih => rw [List.any_cons, List.any_cons, ih, h.1]
theorem KV.repl {kvs : List (κ × V)} {vs : List (κ × Value)} (r : KV kvs vs) (k : κ) {y : V} {u : Value} (ry : RelV y u) :
    KV (kvs.map fun kv => if kv.1 = k then (kv.1, y) else kv) (vs.map fun kv => if kv.1 = k then (kv.1, u) else kv) := by
  unfold KV at r ⊢
  induction r with
  | nil => exact .nil
  | @cons p q ps qs h t ih =>
    rw [List.map_cons, List.map_cons]
    refine .cons ?_ ih
    obtain ⟨h1, h2⟩ := h
    by_cases e : p.1 = k
    · rw [if_pos e, if_pos (h1.symm.trans e)]; exact ⟨h1, ry⟩
    · rw [if_neg e, if_neg (fun z => e (h1.trans z))]; exact ⟨h1, h2⟩
theorem KV.put {kvs : List (κ × V)} {vs : List (κ × Value)} (r : KV kvs vs) (k : κ) {y : V} {u : Value} (ry : RelV y u) : KV (putK kvs k y) (stored vs k u) := by
  unfold putK stored
  rw [r.any k]
  by_cases e : (vs.any fun kv => decide (kv.1 = k)) = true
  · rw [if_pos e, if_pos e]; exact r.repl k ry
  · rw [if_neg e, if_neg e]; exact Paired.snoc r ⟨rfl, ry⟩
theorem KV.drop {kvs : List (κ × V)} {vs : List (κ × Value)} (r : KV kvs vs) (k : κ) : KV (dropK kvs k) (without vs k) := by
  unfold KV at r ⊢
  unfold dropK without
  induction r with
  | nil => exact .nil
  | @cons p q ps qs h t ih =>
    obtain ⟨h1, h2⟩ := h
    rw [List.filter_cons, List.filter_cons]
    by_cases e : p.1 = k
    · have a : ¬ decide (p.1 ≠ k) = true := by simp [e]
      have b : ¬ decide (q.1 ≠ k) = true := by simp [h1.symm.trans e]
      rw [if_neg a, if_neg b]; exact ih
    · have e' : ¬ q.1 = k := fun z => e (h1.trans z)
      have a : decide (p.1 ≠ k) = true := by simp [e]
      have b : decide (q.1 ≠ k) = true := by simp [e']
      rw [if_pos a, if_pos b]; exact .cons ⟨h1, h2⟩ ih
theorem KV.keys {kvs : List (κ × V)} {vs : List (κ × Value)} (r : KV kvs vs) : kvs.map (·.1) = vs.map (·.1) := by
  unfold KV at r
  induction r with
  | nil => rfl
  | cons h t ih => rw [List.map_cons, List.map_cons, ih, h.1]
theorem KV.length {kvs : List (κ × V)} {vs : List (κ × Value)} (r : KV kvs vs) : kvs.length = vs.length := Paired.length r
end


/-! ### a tracked dict, its keys ints and texts or tuples of these -/
theorem kV_is {P : Program} {w : World} {k : Key} {u : Value} (r : RelV (kV k) u) : (mixKind P w).is k u = true := by
  cases k with
  | inl i => obtain ⟨t, e⟩ := (show ∃ t, u = Value.int i t from r); subst e; exact mixKind_int P w i t
  | inr x => obtain ⟨t, e⟩ := (show ∃ t, u = Value.str x t from r); subst e; exact mixKind_str P w x t
theorem items_are {P : Program} {w : World} : ∀ {ks : List Key} {us : List Value}, Vals (ks.map kV) us → ItemsAre (mixKind P w) ks us
  | [], _, r => by rw [List.map_nil] at r; cases r; exact .nil
  | k :: ks, _, r => by
    rw [List.map_cons] at r
    cases r with
    | cons h t => exact .cons (kV_is h) (items_are t)

/-- raw entries of a dict with tuple keys -/
abbrev KT (H : Hp) : List (List Key × V) → List (List Key × Addr × Value) → Prop := Paired fun p q => p.1 = q.1 ∧ H q.2.1 = some (.tup (p.1.map kV)) ∧ RelV p.2 q.2.2
theorem KT.val {H : Hp} {kvs : List (List Key × V)} {xs : List (List Key × Addr × Value)} (r : KT H kvs xs) (k : List Key) : RelO (valV kvs k) ((atKey xs k).map (·.2)) := by
  induction r with
  | nil => exact True.intro
  | @cons p q ps qs h t ih =>
    obtain ⟨h1, _, h2⟩ := h
    by_cases e : p.1 = k
    · have e' : q.1 = k := h1.symm.trans e
      have b : atKey (q :: qs) k = some q.2 := by simp [atKey, List.find?_cons, e']
      rw [valV_pos e, b]; exact h2
    · have e' : ¬ q.1 = k := fun z => e (h1.trans z)
      have b : atKey (q :: qs) k = atKey qs k := by simp [atKey, List.find?_cons, e']
      rw [valV_neg e, b]; exact ih
theorem KT.repl {H : Hp} {kvs : List (List Key × V)} {xs : List (List Key × Addr × Value)} (r : KT H kvs xs) (k : List Key) {y : V} {u : Value} (ry : RelV y u) :
    KT H (kvs.map fun kv => if kv.1 = k then (kv.1, y) else kv) (xs.map (putAt k u)) := by
  induction r with
  | nil => exact .nil
  | @cons p q ps qs h t ih =>
    rw [List.map_cons, List.map_cons]
    refine .cons ?_ ih
    obtain ⟨h1, h2, h3⟩ := h
    unfold putAt
    by_cases e : p.1 = k
    · rw [if_pos e, if_pos (h1.symm.trans e)]; exact ⟨h1, h2, ry⟩
    · rw [if_neg e, if_neg (fun z => e (h1.trans z))]; exact ⟨h1, h2, h3⟩
theorem KT.put {H : Hp} {kvs : List (List Key × V)} {xs : List (List Key × Addr × Value)} (r : KT H kvs xs) (k : List Key) {b : Addr} {y : V} {u : Value} (hb : H b = some (.tup (k.map kV))) (ry : RelV y u) :
    KT H (putK kvs k y) (storedH xs k b u) := by
  have e : (kvs.any fun kv => decide (kv.1 = k)) = (atKey xs k).isSome := by
    rw [valV_any, (r.val k).isSome_eq, Option.isSome_map]
  unfold putK storedH
  rw [e]
  by_cases q : (atKey xs k).isSome = true
  · rw [if_pos q, if_pos q]; exact r.repl k ry
  · rw [if_neg q, if_neg q]; exact Paired.snoc r ⟨rfl, hb, ry⟩
theorem KT.keeps {H H' : Hp} {kvs : List (List Key × V)} {xs : List (List Key × Addr × Value)} (r : KT H kvs xs) (ht : ∀ b ys, H b = some (.tup ys) → H' b = some (.tup ys)) : KT H' kvs xs :=
  Paired.mapP r fun _ _ z => ⟨z.1, ht _ _ z.2.1, z.2.2⟩

section
variable {P : Program} {w : World} {H : Hp} {h : Heap} {a : Addr}
theorem rd_of {u : HO} (ok : HOk P w H h) (e : Rd H a u) : ObjOk P w H h a u := e.ok ok
theorem dk_rd {kvs : List (Key × V)} (ok : HOk P w H h) (e : Rd H a (.dK kvs)) : kvs.length ≤ sizeLine ∧ (a == sysModules) = false ∧ ∃ vs, KV kvs vs ∧ h.DictOf (mixKind P w) a vs :=
  show ObjOk P w H h a (.dK kvs) from rd_of ok e
theorem dk_of {kvs : List (Key × V)} (ok : HOk P w H h) (e : H a = some (.dK kvs)) : kvs.length ≤ sizeLine ∧ (a == sysModules) = false ∧ ∃ vs, KV kvs vs ∧ h.DictOf (mixKind P w) a vs := dk_rd ok (.inl e)
/-- a tracked tuple of ints and texts is a key -/
theorem key_of {ks : List Key} (ok : HOk P w H h) (e : H a = some (.tup (ks.map kV))) : (tupleKind (mixKind P w)).is h ks a := by
  obtain ⟨_, its, r, o, h1, h2, n, h3⟩ := (show ObjOk P w H h a (.tup (ks.map kV)) from ok a _ e)
  exact ⟨o, its.toArray, n, h1, h2, h3, by simpa using items_are r⟩
theorem dt_rd {kvs : List (List Key × V)} (ok : HOk P w H h) (e : Rd H a (.dT kvs)) : kvs.length ≤ sizeLine ∧ (a == sysModules) = false ∧
    ∃ xs, KT H kvs xs ∧ h.DictOfH (tupleKind (mixKind P w)) a xs := by
  obtain ⟨z, y, xs, r, o, es, ep, h1, h2, h3, h4, h5⟩ := (show ObjOk P w H h a (.dT kvs) from rd_of ok e)
  refine ⟨z, y, xs, r, o, es, ep, h1, h2, h3, h4, fun x hx => ?_, h5⟩
  have all : ∀ {l : List (List Key × V)} {m : List (List Key × Addr × Value)}, KT H l m → ∀ x ∈ m, (tupleKind (mixKind P w)).is h x.1 x.2.1 := by
    intro l m q
    induction q with
    | nil => intro x hx; exact nomatch hx
    | @cons p q ps qs hq t ih =>
      intro x hx
      rcases List.mem_cons.mp hx with e | hx
      · subst e
        exact key_of ok (by rw [← hq.1]; exact hq.2.1)
      · exact ih x hx
  exact all r x hx
theorem dt_of {kvs : List (List Key × V)} (ok : HOk P w H h) (e : H a = some (.dT kvs)) : kvs.length ≤ sizeLine ∧ (a == sysModules) = false ∧
    ∃ xs, KT H kvs xs ∧ h.DictOfH (tupleKind (mixKind P w)) a xs := dt_rd ok (.inl e)
end

/-- what the dict at a holds at the key y -/
def DGet (H : Hp) (a : Addr) (y : V) (r : Option V) : Prop :=
  (∃ kvs k, Rd H a (.dK kvs) ∧ y = kV k ∧ r = valV kvs k) ∨ ∃ kvs k b, Rd H a (.dT kvs) ∧ y = .ref b ∧ H b = some (.tup (k.map kV)) ∧ r = valV kvs k
/-- the heap behind a[y] = v -/
def DPut (H : Hp) (a : Addr) (y v : V) (H' : Hp) : Prop :=
  (∃ kvs k, H a = some (.dK kvs) ∧ y = kV k ∧ kvs.length < sizeLine ∧ H' = upd H a (.dK (putK kvs k v))) ∨
  ∃ kvs k b, H a = some (.dT kvs) ∧ y = .ref b ∧ H b = some (.tup (k.map kV)) ∧ kvs.length < sizeLine ∧ H' = upd H a (.dT (putK kvs k v))
theorem DGet.k {H : Hp} {a : Addr} {kvs : List (Key × V)} {k : Key} (e : H a = some (.dK kvs)) : DGet H a (kV k) (valV kvs k) := .inl ⟨kvs, k, .inl e, rfl, rfl⟩
theorem DGet.t {H : Hp} {a b : Addr} {kvs : List (List Key × V)} {k : List Key} (e : H a = some (.dT kvs)) (eb : H b = some (.tup (k.map kV))) : DGet H a (.ref b) (valV kvs k) := .inr ⟨kvs, k, b, .inl e, rfl, eb, rfl⟩
theorem DPut.k {H : Hp} {a : Addr} {kvs : List (Key × V)} {k : Key} {v : V} (e : H a = some (.dK kvs)) (hl : kvs.length < sizeLine) : DPut H a (kV k) v (upd H a (.dK (putK kvs k v))) := .inl ⟨kvs, k, e, rfl, hl, rfl⟩
theorem DPut.t {H : Hp} {a b : Addr} {kvs : List (List Key × V)} {k : List Key} {v : V} (e : H a = some (.dT kvs)) (eb : H b = some (.tup (k.map kV))) (hl : kvs.length < sizeLine) :
    DPut H a (.ref b) v (upd H a (.dT (putK kvs k v))) := .inr ⟨kvs, k, b, e, rfl, eb, hl, rfl⟩


section
variable {X : Cx} {pins : List (Addr × Obj)} {σ : St} {H : Hp} {s : Shared} {a : Addr} {y v : V} {u r : Value} {o : Option V} {A : Around} {E : Value → Shared → Prop}

theorem Inv.big (I : Inv X pins σ H s) : sysModules < s.heap.objs.size := by
  have h : mainGlobals < s.heap.objs.size := (I.mod.glob.keeps I.bk).lt
  exact Nat.lt_trans (by decide) h

/-- d[y], there -/
theorem d_getItem {Q : Value → Shared → Prop} (hu : A.units + 1 < cLine) (I : Inv X pins σ H s) (g : DGet H a y (some v)) (ry : RelV y u) (h : ∀ w' s', Inv X pins σ H s' → RelV v w' → Q w' s') :
    wpAny (model X.prog X.w) A (getItem (.ref a) u) Q E s := by
  rcases g with ⟨kvs, k, e, ey, l⟩ | ⟨kvs, k, b, e, ey, eb, l⟩
  · subst ey
    obtain ⟨z, hd, vs, rel, dd⟩ := dk_rd I.hok e
    obtain ⟨w', hw, rw'⟩ := RelO.some_of (v := v) (o := valueAt vs k) (by rw [l]; exact rel.val k)
    exact wpAny_getItem_of (kV_is ry) dd.mapOf hw (h w' _ (I.tok _) rw')
  · subst ey
    cases (show u = Value.ref b from ry)
    obtain ⟨z, hd, xs, rel, dd⟩ := dt_rd I.hok e
    obtain ⟨w', hw, rw'⟩ := RelO.some_of (v := v) (o := (atKey xs k).map (·.2)) (by rw [l]; exact rel.val k)
    obtain ⟨p, hp, hp2⟩ := Option.map_eq_some_iff.mp hw
    refine wpAny_getItem_heap (tupleKind_room_in1 hu) (key_of I.hok eb) dd hp ?_
    rw [hp2]
    exact h w' _ (I.tok _) rw'
/-- y in d -/
theorem d_in {Q : Value → Shared → Prop} (hu : A.units + 1 < cLine) (I : Inv X pins σ H s) (g : DGet H a y o) (ry : RelV y u) (h : ∀ s', Inv X pins σ H s' → Q (.bool o.isSome) s') :
    wpAny (model X.prog X.w) A (compareOp .In u (.ref a)) Q E s := by
  rcases g with ⟨kvs, k, e, ey, l⟩ | ⟨kvs, k, b, e, ey, eb, l⟩
  · subst ey
    obtain ⟨z, hd, vs, rel, dd⟩ := dk_rd I.hok e
    refine wpAny_in_of (kV_is ry) hd dd.mapOf ?_
    rw [← (rel.val k).isSome_eq, ← l]
    exact h _ (I.tok _)
  · subst ey
    cases (show u = Value.ref b from ry)
    obtain ⟨z, hd, xs, rel, dd⟩ := dt_rd I.hok e
    refine wpAny_in_heap (tupleKind_room_in1 hu) (key_of I.hok eb) hd dd ?_
    have q := (rel.val k).isSome_eq
    rw [Option.isSome_map] at q
    rw [← q, ← l]
    exact h _ (I.tok _)
theorem d_notIn {Q : Value → Shared → Prop} (hu : A.units + 1 < cLine) (I : Inv X pins σ H s) (g : DGet H a y o) (ry : RelV y u) (h : ∀ s', Inv X pins σ H s' → Q (.bool (!o.isSome)) s') :
    wpAny (model X.prog X.w) A (compareOp .NotIn u (.ref a)) Q E s := by
  rcases g with ⟨kvs, k, e, ey, l⟩ | ⟨kvs, k, b, e, ey, eb, l⟩
  · subst ey
    obtain ⟨z, hd, vs, rel, dd⟩ := dk_rd I.hok e
    refine wpAny_notIn_of (kV_is ry) hd dd.mapOf ?_
    rw [← (rel.val k).isSome_eq, ← l]
    exact h _ (I.tok _)
  · subst ey
    cases (show u = Value.ref b from ry)
    obtain ⟨z, hd, xs, rel, dd⟩ := dt_rd I.hok e
    refine wpAny_notIn_heap (tupleKind_room_in1 hu) (key_of I.hok eb) hd dd ?_
    have q := (rel.val k).isSome_eq
    rw [Option.isSome_map] at q
    rw [← q, ← l]
    exact h _ (I.tok _)
/-- a dict's object is replaced -/
theorem d_write {h' : Heap} {t' : Nat} {ob : HO} (I : Inv X pins σ H s) (mu : Mut (H a)) (hs : Heap.SameBut a s.heap h') (he : ∃ q, h'.get? a = some q) (new : ObjOk X.prog X.w (upd H a ob) h' a ob) :
    Inv X pins σ (upd H a ob) { s with heap := h', toks := t' } :=
  I.write (x := a) (e := a) mu (.inl rfl) (fun b q hb z => (hs.2 b hb).trans z) he new
theorem dk_new {P : Program} {w : World} {H' : Hp} {h' : Heap} {kvs : List (Key × V)} {vs : List (Key × Value)} (z : kvs.length ≤ sizeLine) (hd : (a == sysModules) = false) (rel : KV kvs vs) (dd : h'.DictOf (mixKind P w) a vs) :
    ObjOk P w H' h' a (.dK kvs) := ⟨z, hd, vs, rel, dd⟩
/-- d[y] = v -/
theorem d_setItem {H' : Hp} {Q : Unit → Shared → Prop} (hu : A.units + 1 < cLine) (I : Inv X pins σ H s) (g : DPut H a y v H') (ry : RelV y u) (rv : RelV v r) (h : ∀ s', Inv X pins σ H' s' → Q () s') :
    wpAny (model X.prog X.w) A (setItem (.ref a) u r) Q E s := by
  rcases g with ⟨kvs, k, e, ey, l, eH⟩ | ⟨kvs, k, b, e, ey, eb, l, eH⟩
  · subst ey eH
    obtain ⟨z, hd, vs, rel, dd⟩ := dk_of I.hok e
    have hz : vs.length ≤ sizeLine := by rw [← rel.length]; exact z
    have hl : (putK kvs k v).length ≤ sizeLine := by have := length_putK kvs k v; omega
    refine wpAny_setItem_pairs (hsz := hz) (kV_is ry) dd fun h' dd' hs => h _ ?_
    have he : ∃ q, h'.get? a = some q := let ⟨q, _, _, hq, _⟩ := dd'; ⟨q, hq⟩
    exact d_write I (by rw [e]; exact True.intro) hs he (dk_new hl hd (rel.put k rv) dd')
  · subst ey eH
    cases (show u = Value.ref b from ry)
    obtain ⟨z, hd, xs, rel, dd⟩ := dt_of I.hok e
    have hz : xs.length ≤ sizeLine := by rw [← Paired.length rel]; exact z
    have hl : (putK kvs k v).length ≤ sizeLine := by have := length_putK kvs k v; omega
    refine wpAny_setItem_heap (hsz := hz) (tupleKind_room_in1 hu) (key_of I.hok eb) dd fun h' dd' hs => h _ ?_
    obtain ⟨q, es, ep, hq, h2, h3, h4, _, h5⟩ := dd'
    refine d_write I (by rw [e]; exact True.intro) hs ⟨q, hq⟩ ⟨hl, hd, _, (rel.put k eb rv).keeps fun c ys ec => ?_, q, es, ep, hq, h2, h3, h4, h5⟩
    rw [upd_ne (ne_of ec e (fun z => nomatch z))]
    exact ec
end

section
variable {X : Cx} {pins : List (Addr × Obj)} {σ : St} {H : Hp} {s : Shared} {a : Addr} {kvs : List (Key × V)} {k : Key} {u : Value} {A : Around} {E : Value → Shared → Prop}
end


/-! ### readings and rules -/
/-- the element of a subscription, not a slice -/
def NoSl (i : Expr) : Prop := ∀ ov iv, subscripted i false ov iv = operate [ov, iv] (getItem ov iv)
theorem subD_of {prog : Program} {w : World} {A : Around} {E : Value → Shared → Prop} {s : Shared} {env : Env} {value slice : Expr} {pos : Pos} {T id : String} {Q : Value → Shared → Prop}
    (hl : typeLookup (.type T) "__getitem__" = pure (some (.builtin id))) (hs : NoSl slice)
    (h : wpAny (model prog w) A (eval value env) (fun o s₁ => wpAny (model prog w) A (eval slice env) (fun i s₂ => s₂.TypeIs o T ∧ wpAny (model prog w) A (getItem o i) Q E s₂) E s₁) E s) :
    wpAny (model prog w) A (eval (.Subscript value slice pos) env) Q E s := by
  refine Subscript_ (wpAny_mono h (fun o s₁ h₁ => wpAny_mono h₁ (fun i s₂ h₂ => ?_) fun _ _ x => x) fun _ _ x => x)
  obtain ⟨hT, h₂⟩ := h₂
  unfold subscriptTail
  refine wpAny_bind ?_
  rw [getitemInPython_of_ne hT.not_modules]
  refine wpAny_bind (wpAny_specialOf hT hl ?_)
  have fin : wpAny (model prog w) A (subscripted slice false o i) (fun r s₃ => wpAny (model prog w) A (letTemporaryGo value o r >>= fun _ => pure r) Q E s₃) E s₂ := by
    rw [hs o i]
    exact wpAny_operating (wpAny_mono h₂ (fun r s₃ h₃ => wpAny_bind (wpAny_letTemporaryGo (wpAny_pure h₃))) fun _ _ x => x)
  first
    | exact wpAny_pure (wpAny_bind fin)
    | exact wpAny_bind (wpAny_pure (wpAny_bind fin))
    | exact wpAny_bind fin

theorem dict_typeIs {X : Cx} {pins : List (Addr × Obj)} {σ : St} {H : Hp} {s : Shared} {a : Addr} {y : V} {o : Option V} (I : Inv X pins σ H s) (g : DGet H a y o) : s.TypeIs (.ref a) "dict" := by
  rcases g with ⟨kvs, k, e, _, _⟩ | ⟨kvs, k, b, e, _, _, _⟩
  · obtain ⟨_, _, vs, _, dd⟩ := dk_rd I.hok e
    exact dd.typeIs
  · obtain ⟨_, _, xs, _, dd⟩ := dt_rd I.hok e
    exact dd.typeIs
/-- d[y] -/
def tDGet (td ty : TE) : TE := fun σ H Q => td σ H fun x H1 => ty σ H1 fun y H2 => ∃ a v, x = .ref a ∧ DGet H2 a y (some v) ∧ Q v H2
/-- y in d, y not in d -/
def tDIn (ty td : TE) : TE := fun σ H Q => ty σ H fun y H1 => td σ H1 fun x H2 => ∃ a o, x = .ref a ∧ DGet H2 a y o ∧ Q (.bl o.isSome) H2
def tDNotIn (ty td : TE) : TE := fun σ H Q => ty σ H fun y H1 => td σ H1 fun x H2 => ∃ a o, x = .ref a ∧ DGet H2 a y o ∧ Q (.bl (!o.isSome)) H2
/-- d[y] = v -/
def sDPut (td ty tv : TE) : TS := fun D σ H => tv σ H fun v H1 => td σ H1 fun x H2 => ty σ H2 fun y H3 => ∃ a H4, x = .ref a ∧ DPut H3 a y v H4 ∧ D.nx σ H4
section
variable {X : Cx} {o i e value : Expr} {pos pos' tpos : Pos} {td ty tv : TE}
theorem pe_dget (hu : X.A.units + 1 < cLine) (ho : PE X o td) (hi : PE X i ty) (hs : NoSl i) : PE X (.Subscript o i pos) (tDGet td ty) := by
  intro pins s σ H Q I h
  refine subD_of PySem.F.slot_dict_getitem.lookup hs (thn (ho pins s σ H _ I h) fun u s1 ⟨x, H1, I1, rx, q1⟩ => thn (hi pins s1 σ H1 _ I1 q1) fun iv s2 ⟨y, H2, I2, ry, a, v, ex, g, q2⟩ => ?_)
  subst ex
  obtain rfl : u = Value.ref a := rx
  exact ⟨dict_typeIs I2 g, d_getItem hu I2 g ry fun w' s3 I3 rw' => ⟨v, H2, I3, rw', q2⟩⟩
theorem pc_din (hu : X.A.units + 1 < cLine) (hi : PE X i ty) (ho : PE X o td) : PC X .In i o (tDIn ty td) := by
  intro pins s σ H Q I h
  refine thn (hi pins s σ H _ I h) fun iv s1 ⟨y, H1, I1, ry, q1⟩ => thn (ho pins s1 σ H1 _ I1 q1) fun u s2 ⟨x, H2, I2, rx, a, ov, ex, g, q2⟩ => ?_
  subst ex
  obtain rfl : u = Value.ref a := rx
  exact d_in hu I2 g ry fun s3 I3 => ⟨.bl ov.isSome, H2, I3, rfl, q2⟩
theorem pc_dnotin (hu : X.A.units + 1 < cLine) (hi : PE X i ty) (ho : PE X o td) : PC X .NotIn i o (tDNotIn ty td) := by
  intro pins s σ H Q I h
  refine thn (hi pins s σ H _ I h) fun iv s1 ⟨y, H1, I1, ry, q1⟩ => thn (ho pins s1 σ H1 _ I1 q1) fun u s2 ⟨x, H2, I2, rx, a, ov, ex, g, q2⟩ => ?_
  subst ex
  obtain rfl : u = Value.ref a := rx
  exact d_notIn hu I2 g ry fun s3 I3 => ⟨.bl (!ov.isSome), H2, I3, rfl, q2⟩
theorem ps_dput (hu : X.A.units + 1 < cLine) (ho : PE X o td) (hi : PE X i ty) (hv : PE X value tv) (hs : swapsWith value (some (.Subscript o i pos')) pos.line X.env = pure false) :
    PS X (.Assign [.Subscript o i pos'] value pos) (sDPut td ty tv) := by
  intro pins s σ H D I h
  refine wpAny_Assign_Subscript (thn (hv pins s σ H _ I h) fun r s1 ⟨v, H1, I1, rv, q1⟩ => thn (ho pins s1 σ H1 _ I1 q1) fun u s2 ⟨x, H2, I2, rx, q2⟩ => thn (hi pins s2 σ H2 _ I2 q2) fun iv s3 ⟨y, H3, I3, ry, a, H4, ex, g, q3⟩ => ?_) hs
  subst ex
  obtain rfl : u = Value.ref a := rx
  exact d_setItem hu I3 g ry rv fun s4 I4 => ⟨σ, H4, I4, q3⟩
end


/-! ### displays -/
theorem dk_empty {P : Program} {w : World} {H : Hp} (h : Heap) (hb : sysModules < h.objs.size) : ObjOk P w H (h.push { cls := .type "dict", data := .dict #[] }) h.objs.size (.dK []) :=
  ⟨Nat.zero_le _, beq_eq_false_iff_ne.mpr (Ne.symm (Nat.ne_of_lt hb)), [], .nil, Heap.DictOf.new h⟩
/-- {}, to be a dict of the kind that is wanted -/
def tDNewK : TE := fun _ H Q => ∀ p, H p = none → Q (.ref p) (upd H p (.dK []))
section
variable {X : Cx} {pos : Pos}
theorem pe_dnewK : PE X (.Dict [] [] pos) tDNewK := fun pins s σ H Q I h =>
  wpAny_Dict_empty ⟨.ref s.heap.objs.size, _, I.laid (a := s.heap.objs.size) (o := .dK []) (t' := s.toks) (fun _ _ q => Heap.get?_push_of_some _ q) (Nat.le_refl _) (dk_empty s.heap I.big), rfl, h _ (I.hok.fresh (Nat.le_refl _))⟩
end

/-- the pairs of a display, from the left -/
def tPairs : List (TE × TE) → St → Hp → (List (V × V) → Hp → Prop) → Prop
  | [], _, H, Q => Q [] H
  | (tk, tv) :: r, σ, H, Q => tk σ H fun x H1 => tv σ H1 fun y H2 => tPairs r σ H2 fun ps H3 => Q ((x, y) :: ps) H3
abbrev VV : List (V × V) → List (Value × Value) → Prop := Paired fun p q => RelV p.1 q.1 ∧ RelV p.2 q.2
def PPs (X : Cx) (pos : Pos) (keys : List (Option Expr)) (values : List Expr) (trs : List (TE × TE)) : Prop :=
  ∀ (pins : List (Addr × Obj)) (s : Shared) (σ : St) (H : Hp) (Q : List (V × V) → Hp → Prop), Inv X pins σ H s → tPairs trs σ H Q →
    wpAny (model X.prog X.w) X.A (evalPairs (pairTrees keys values X.env pos)) (fun vs s' => ∃ ps H', Inv X pins σ H' s' ∧ VV ps vs ∧ Q ps H') X.xe s
theorem pps_nil {X : Cx} {pos : Pos} : PPs X pos [] [] [] := fun pins s σ H Q I h => pairTrees_nil_walk ⟨[], H, I, .nil, h⟩
theorem pps_cons {X : Cx} {pos : Pos} {k v : Expr} {ks : List (Option Expr)} {vs : List Expr} {tk tv : TE} {trs : List (TE × TE)} (hk : PE X k tk) (hv : PE X v tv) (hr : PPs X pos ks vs trs) :
    PPs X pos (some k :: ks) (v :: vs) ((tk, tv) :: trs) := fun pins s σ H Q I h =>
  pairTrees_cons_walk (thn (hk pins s σ H _ I h) fun u s1 ⟨x, H1, I1, rx, q1⟩ => thn (hv pins s1 σ H1 _ I1 q1) fun w2 s2 ⟨y, H2, I2, ry, q2⟩ =>
    thn (hr pins s2 σ H2 _ I2 q2) fun ws s3 ⟨ps, H3, I3, rel, q3⟩ => ⟨(x, y) :: ps, H3, I3, .cons ⟨rx, ry⟩ rel, q3⟩)

def mergeK (kvs more : List (Key × V)) : List (Key × V) := more.foldl (fun acc kv => putK acc kv.1 kv.2) kvs
theorem KV.merge : ∀ {more : List (Key × V)} {rs : List (Key × Value)} {kvs : List (Key × V)} {vs : List (Key × Value)}, KV more rs → KV kvs vs → KV (mergeK kvs more) (merged vs rs) := by
  intro more rs kvs vs r
  unfold KV at r
  induction r generalizing kvs vs with
  | nil => intro q; exact q
  | @cons p q ps qs h t ih =>
    intro r0
    have e : KV (putK kvs p.1 p.2) (stored vs q.1 q.2) := by
      have := r0.put p.1 h.2
      rw [← h.1]; exact this
    exact ih e
theorem length_mergeK : ∀ (more kvs : List (Key × V)), (mergeK kvs more).length ≤ kvs.length + more.length
  | [], kvs => by show kvs.length ≤ kvs.length + 0; omega
  | p :: r, kvs => by
    have h1 := length_mergeK r (putK kvs p.1 p.2)
    have h2 := length_putK kvs p.1 p.2
    show (mergeK (putK kvs p.1 p.2) r).length ≤ _
    rw [List.length_cons]; omega
theorem carries_of {P : Program} {w : World} : ∀ {kvs : List (Key × V)} {ws : List (Value × Value)}, VV (kvs.map fun kv => (kV kv.1, kv.2)) ws → ∃ rs, Carries (mixKind P w) ws rs ∧ KV kvs rs
  | [], _, r => by rw [List.map_nil] at r; cases r; exact ⟨[], True.intro, .nil⟩
  | p :: kvs, _, r => by
    rw [List.map_cons] at r
    cases r with
    | @cons a b as bs h t =>
      obtain ⟨rs, c, q⟩ := carries_of (P := P) (w := w) t
      obtain ⟨b1, b2⟩ := b
      exact ⟨(p.1, b2) :: rs, ⟨kV_is h.1, rfl, c⟩, .cons ⟨rfl, h.2⟩ q⟩
/-- {k: v, ..} with keys ints and texts; the new dict stands empty while the pairs are made -/
def tDisp (trs : List (TE × TE)) : TE := fun σ H Q => ∀ p, H p = none → tPairs trs σ (upd H p (.dK [])) fun ps H2 => H2 p = some (.dK []) ∧ ∃ kvs : List (Key × V), ps = kvs.map (fun kv => (kV kv.1, kv.2)) ∧ kvs.length ≤ 15 ∧ Q (.ref p) (upd H2 p (.dK (mergeK [] kvs)))
theorem pe_disp {X : Cx} {pos : Pos} {keys : List (Option Expr)} {values : List Expr} {trs : List (TE × TE)} (h : PPs X pos keys values trs) (hall : keys.all (·.isSome) = true) (hl : keys.length = values.length) (h0 : keys ≠ [])
    (h15 : keys.length ≤ 15) : PE X (.Dict keys values pos) (tDisp trs) := by
  intro pins s σ H Q I q
  have hn := I.hok.fresh (Nat.le_refl s.heap.objs.size)
  have I1 := I.laid (a := s.heap.objs.size) (o := .dK []) (h' := s.heap.push { cls := .type "dict", data := .dict #[] }) (t' := s.toks) (fun _ _ q => Heap.get?_push_of_some _ q) (Nat.le_refl _) (dk_empty s.heap I.big)
  refine wpAny_Dict_walk (knd := mixKind X.prog X.w) hall hl h0 h15 (thn (h pins _ σ _ _ I1 (q _ hn)) fun ws s2 ⟨ps, H2, I2, rel, e, kvs, ep, lk, q2⟩ => ?_)
  subst ep
  obtain ⟨rs, c, rk⟩ := carries_of (P := X.prog) (w := X.w) rel
  obtain ⟨z, hd, vs0, r0, dd⟩ := dk_of I2.hok e
  cases r0
  refine ⟨rs, c, dd, fun h' dd' hs => ⟨.ref s.heap.objs.size, _, ?_, rfl, q2⟩⟩
  have hz : (mergeK [] kvs).length ≤ sizeLine := by
    have h1 := length_mergeK kvs []
    rw [List.length_nil] at h1
    rw [sizeLine_eq]; omega
  have he : ∃ q, h'.get? s.heap.objs.size = some q := let ⟨q, _, _, hq, _⟩ := dd'; ⟨q, hq⟩
  exact d_write I2 (by rw [e]; exact True.intro) hs he (dk_new hz hd (rk.merge .nil) dd')


/-! ### methods -/
/-- a method call o.m(e) of a built-in, with one argument: what must be seen of the text -/
structure M1 (X : Cx) (o : Expr) (m : Str) (apos : Pos) (e : Expr) (cpos : Pos) : Prop where
  base : attributeBase o m X.env (eval o X.env) = eval o X.env
  few : ((backTo cpos (starEach [e] X.env)).all (fun x => !x.1) && (backToKw cpos (keywordEach [] X.env)).all (fun x => x.1.isSome)
    && decide (([e] : List Expr).length + ([] : List Keyword).length + (if ([] : List Keyword).isEmpty then 0 else 1) < 30)) = true
  line : (apos.endLine == cpos.line) = true
  trees : backTo cpos (starEach [e] X.env) = [(false, eval e X.env)]
structure M2 (X : Cx) (o : Expr) (m : Str) (apos : Pos) (e f : Expr) (cpos : Pos) : Prop where
  base : attributeBase o m X.env (eval o X.env) = eval o X.env
  few : ((backTo cpos (starEach [e, f] X.env)).all (fun x => !x.1) && (backToKw cpos (keywordEach [] X.env)).all (fun x => x.1.isSome)
    && decide (([e, f] : List Expr).length + ([] : List Keyword).length + (if ([] : List Keyword).isEmpty then 0 else 1) < 30)) = true
  line : (apos.endLine == cpos.line) = true
  trees : backTo cpos (starEach [e, f] X.env) = [(false, eval e X.env), (false, eval f X.env)]

/-- a is a dict, whatever its keys -/
def IsD (H : Hp) (a : Addr) : Prop := (∃ kvs, Rd H a (.dK kvs)) ∨ ∃ kvs, Rd H a (.dT kvs)
theorem isD_at {X : Cx} {pins : List (Addr × Obj)} {σ : St} {H : Hp} {s : Shared} {a : Addr} (I : Inv X pins σ H s) (d : IsD H a) :
    s.TypeIs (.ref a) "dict" ∧ (∀ b, Value.ref a = .ref b → ∃ ob, s.heap.get? b = some ob ∧ ob.dict = none) ∧ (a == sysModules) = false := by
  rcases d with ⟨kvs, e⟩ | ⟨kvs, e⟩
  · obtain ⟨_, hd, vs, _, dd⟩ := dk_rd I.hok e
    refine ⟨dd.typeIs, fun b q => ?_, hd⟩
    cases q
    obtain ⟨ob, _, _, h1, h2, _⟩ := dd
    exact ⟨ob, h1, h2.2.1⟩
  · obtain ⟨_, hd, xs, _, dd⟩ := dt_rd I.hok e
    refine ⟨dd.typeIs, fun b q => ?_, hd⟩
    cases q
    obtain ⟨ob, _, _, h1, h2, _⟩ := dd
    exact ⟨ob, h1, h2.2.1⟩

section
variable {X : Cx} {pins : List (Addr × Obj)} {σ : St} {H : Hp} {s : Shared} {a : Addr} {y d : V} {u r : Value} {o : Option V} {A : Around} {E : Value → Shared → Prop}
/-- d.get(y, x) -/
theorem d_get2 {Q : Value → Shared → Prop} (hu : A.units + 1 < cLine) (I : Inv X pins σ H s) (g : DGet H a y o) (ry : RelV y u) (rd : RelV d r) (h : ∀ w' s', Inv X pins σ H s' → RelV (o.getD d) w' → Q w' s') :
    wpAny (model X.prog X.w) A (call (.builtin "dict.get") [.ref a, u, r]) Q E s := by
  rcases g with ⟨kvs, k, e, ey, l⟩ | ⟨kvs, k, b, e, ey, eb, l⟩
  · subst ey
    obtain ⟨z, hd, vs, rel, dd⟩ := dk_rd I.hok e
    refine call_meetsIn PySem.F.slot_dict_get dd.typeIs PySem.F.entry_dict_get (PySem.F.args_dict_get_3 _ _ _) (meets_dict_get_default (mixKind X.prog X.w) a (kV_is ry) hd r) ⟨_, dd.mapOf, h _ _ (I.tok _) ?_⟩
    rw [l]
    exact (rel.val k).getD rd
  · subst ey
    cases (show u = Value.ref b from ry)
    obtain ⟨z, hd, xs, rel, dd⟩ := dt_rd I.hok e
    refine call_meetsIn PySem.F.slot_dict_get dd.typeIs PySem.F.entry_dict_get (PySem.F.args_dict_get_3 _ _ _) (meetsH_dict_get_default (tupleKind (mixKind X.prog X.w)) a b hd r) ⟨tupleKind_room_in1 hu, k, xs, key_of I.hok eb, dd, h _ _ (I.tok _) ?_⟩
    rw [l]
    exact (rel.val k).getD rd
end

def tDGet2 (td ty tx : TE) : TE := fun σ H Q => td σ H fun x H1 => ∃ a, x = .ref a ∧ IsD H1 a ∧ ty σ H1 fun y H2 => tx σ H2 fun z H3 => ∃ o, DGet H3 a y o ∧ Q (o.getD z) H3
section
variable {X : Cx} {o e f : Expr} {apos cpos : Pos} {td ty tx : TE}
theorem pe_dget2 (hu : X.A.units + 1 < cLine) (ho : PE X o td) (he : PE X e ty) (hf : PE X f tx) (m : M2 X o "get" apos e f cpos) : PE X (.Call (.Attribute o "get" apos) [e, f] [] cpos) (tDGet2 td ty tx) := by
  intro pins s σ H Q I h
  refine wpAny_Call_method m.base m.few m.line PySem.F.plainAttrs_dict PySem.F.slot_dict_get PySem.F.type_dict_get (thn (ho pins s σ H _ I h) fun u s1 ⟨x, H1, I1, rx, a, ex, d, q1⟩ => ?_)
  subst ex
  obtain rfl : u = Value.ref a := rx
  obtain ⟨t1, t2, _⟩ := isD_at I1 d
  refine ⟨t1, t2, ?_⟩
  rw [m.trees]
  refine Calls.callWith_builtin rfl (Calls.evalArgs_plain (Calls.spliced_cons (thn (he pins s1 σ H1 _ I1 q1) fun iv s2 ⟨y, H2, I2, ry, q2⟩ =>
    Calls.spliced_cons (thn (hf pins s2 σ H2 _ I2 q2) fun fv s3 ⟨z, H3, I3, rz, ov, g, q3⟩ => Calls.spliced_nil ?_))))
  exact d_get2 hu I3 g ry rz fun w' s4 I4 rw' => ⟨_, H3, I4, rw', q3⟩
end

/-! ### dict(d): a copy -/
section
variable {X : Cx} {pins : List (Addr × Obj)} {σ : St} {H : Hp} {s : Shared} {a : Addr} {kvs : List (Key × V)} {A : Around} {E : Value → Shared → Prop}
end


section
variable {X : Cx} {pins : List (Addr × Obj)} {σ : St} {H : Hp} {s : Shared} {a : Addr} {y : V} {u : Value} {A : Around} {E : Value → Shared → Prop}
end
end L2

namespace HT
open PySem PyProof.Rows

section
open PySem.SeqAt
open PySem.AutoSeq1 (wpAny_loadPart')
open PySem.MeetsSeq PySem.MeetsSeq2 PySem.MeetsSeq3

end

section
variable {prog : Program} {w : World} {A : Around} {E : Value → Shared → Prop} {s : Shared}

/-! ### t[a:b], not the whole -/
/-- a slice's bound as a place among n (d where it is left out) -/
def sIx (n d : Nat) : Option Int → Nat
  | none => d
  | some v => if v < 0 then (v + (n : Int)).toNat else min v.toNat n
theorem sIx_none (n d : Nat) : sIx n d none = d := rfl
theorem sIx_nat (n d k : Nat) : sIx n d (some (k : Int)) = min k n := by
  show (if (k : Int) < 0 then ((k : Int) + (n : Int)).toNat else min (k : Int).toNat n) = min k n
  rw [if_neg (by omega), Int.toNat_natCast]
end
end HT

namespace L2
open PySem PySem.Spec PyProof.Rows

/-! ### the parts of a slice -/
abbrev TO := St → Hp → (Option Int → Hp → Prop) → Prop
/-- a slice's part (left out, or an int) -/
def PO (X : Cx) (e : Option Expr) (t : TO) : Prop :=
  ∀ (pins : List (Addr × Obj)) (s : Shared) (σ : St) (H : Hp) (Q : Option Int → Hp → Prop), Inv X pins σ H s → t σ H Q →
    wpAny (model X.prog X.w) X.A (evalPart e X.env) (fun u s' => ∃ o H', Inv X pins σ H' s' ∧ IsPart u o ∧ Q o H') X.xe s
def tNoPart : TO := fun _ H Q => Q none H
def tPart (t : TE) : TO := fun σ H Q => t σ H fun x H1 => ∃ i, x = .int i ∧ Q (some i) H1

section
variable {X : Cx} {e : Expr} {te : TE} {lo hi : Option Expr} {tl th : TO} {pos p2 : Pos}

theorem po_none : PO X none tNoPart := by
  intro pins s σ H Q I h
  rw [evalPart_none]
  exact wpAny_pure ⟨none, H, I, .none, h⟩
theorem po_some (h : PE X e te) : PO X (some e) (tPart te) := by
  intro pins s σ H Q I hw
  rw [evalPart_some]
  refine thn (h pins s σ H _ I hw) fun u s1 ⟨x, H1, I1, r1, q1⟩ => ?_
  obtain ⟨i, rfl, q⟩ := q1
  obtain ⟨t, rfl⟩ := r1
  exact ⟨some i, H1, I1, .int i t, q⟩

/-- what a slice of a value is, by values: the slice object stands at sl -/
def SlR (X : Cx) (r : V → Option Int → Option Int → Hp → VK → Prop) : Prop :=
  ∀ (pins : List (Addr × Obj)) (s : Shared) (σ : St) (H : Hp) (x : V) (v vl vu : Value) (lo hi : Option Int) (sl : Addr) (Q : VK), Inv X pins σ H s → RelV x v → s.heap.IsSliceOf sl vl vu .none → IsPart vl lo → IsPart vu hi → r x lo hi H Q →
    ∃ T id, typeLookup (.type T) "__getitem__" = pure (some (.builtin id)) ∧ s.TypeIs v T ∧ wpAny (model X.prog X.w) X.A (getItem v (.ref sl)) (EP X pins σ Q) X.xe s
theorem SlR.or {r r' : V → Option Int → Option Int → Hp → VK → Prop} (h : SlR X r) (h' : SlR X r') : SlR X (fun x lo hi H Q => r x lo hi H Q ∨ r' x lo hi H Q) := by
  intro pins s σ H x v vl vu lo hi sl Q I rx hs pl pu q
  rcases q with q | q
  · exact h pins s σ H x v vl vu lo hi sl Q I rx hs pl pu q
  · exact h' pins s σ H x v vl vu lo hi sl Q I rx hs pl pu q
def tSl (r : V → Option Int → Option Int → Hp → VK → Prop) (te : TE) (tl th : TO) : TE := fun σ H Q => te σ H fun x H1 => tl σ H1 fun l H2 => th σ H2 fun u H3 => r x l u H3 Q
/-- a[lo:hi], any a -/
theorem pe_slice {r : V → Option Int → Option Int → Hp → VK → Prop} (hr : SlR X r) (he : PE X e te) (hl : PO X lo tl) (hu : PO X hi th) : PE X (.Subscript e (.Slice lo hi none p2) pos) (tSl r te tl th) := by
  intro pins s σ H Q I h
  refine Subscript_ (thn (he pins s σ H _ I h) fun v s1 ⟨x, H1, I1, r1, q1⟩ => ?_)
  refine wpAny_Slice (thn (hl pins s1 σ H1 _ I1 q1) fun vl s2 ⟨l, H2, I2, pl, q2⟩ => thn (hu pins s2 σ H2 _ I2 q2) fun vu s3 ⟨u, H3, I3, pu, q3⟩ => ?_)
  rw [evalPart_none]
  refine wpAny_pure ?_
  have I4 : Inv X pins σ H3 { s3 with heap := s3.heap.push { cls := .type "slice", data := .fields #[vl, vu, .none] } } := I3.kept (t' := s3.toks) fun b ob q => Heap.get?_push_of_some _ q
  obtain ⟨T, id, hT, ht, hg⟩ := hr pins { s3 with heap := s3.heap.push { cls := .type "slice", data := .fields #[vl, vu, .none] } } σ H3 x v vl vu l u s3.heap.objs.size Q I4 r1 (Heap.IsSliceOf.new ..) pl pu q3
  show wpAny (model X.prog X.w) X.A (subscriptTail e (.Slice lo hi none p2) v (.ref s3.heap.objs.size)) (EP X pins σ Q) X.xe { s3 with heap := s3.heap.push { cls := .type "slice", data := .fields #[vl, vu, .none] } }
  exact tail_any (ops := [.ref s3.heap.objs.size, v]) ht hT hg (by with_unfolding_all rfl)

/-- the items of xs[lo:hi] -/
def cutV (xs : List V) (lo hi : Option Int) : List V := (xs.drop (HT.sIx xs.length 0 lo)).take (HT.sIx xs.length xs.length hi - HT.sIx xs.length 0 lo)
theorem cutV_length (xs : List V) (lo hi : Option Int) : (cutV xs lo hi).length ≤ xs.length := by
  unfold cutV
  rw [List.length_take, List.length_drop]
  omega
/-! ### t < u, t + u -/
end
end L2

namespace L2
open PySem PySem.Spec PyProof.Rows

/-! ### places -/
/-- the place that an index of any sign means -/
def ixN (n : Nat) (i : Int) : Option Nat := if 0 ≤ i then (if i < n then some i.toNat else none) else if -(n : Int) ≤ i then some (i + n).toNat else none
def atI {α : Type} (xs : List α) (i : Int) : Option α := (ixN xs.length i).bind fun j => xs[j]?
theorem ixN_seq {n : Nat} {i : Int} {j : Nat} (h : ixN n i = some j) : seqIndex? i n = some j ∧ j < n ∧ -(n : Int) ≤ i ∧ i < n := by
  unfold ixN at h
  by_cases h0 : 0 ≤ i
  · rw [if_pos h0] at h
    by_cases h1 : i < n
    · rw [if_pos h1] at h
      have e : i.toNat = j := Option.some.inj h
      exact ⟨by rw [seqIndex_of h0 h1, e], by omega, by omega, h1⟩
    · rw [if_neg h1] at h; cases h
  · rw [if_neg h0] at h
    by_cases h1 : -(n : Int) ≤ i
    · rw [if_pos h1] at h
      have e : (i + n).toNat = j := Option.some.inj h
      exact ⟨by rw [seqIndex_neg (by omega) h1, e], by omega, h1, by omega⟩
    · rw [if_neg h1] at h; cases h
theorem atI_get {α : Type} {xs : List α} {i : Int} {v : α} (h : atI xs i = some v) : ∃ j, seqIndex? i xs.length = some j ∧ xs[j]? = some v ∧ j < xs.length ∧ -(xs.length : Int) ≤ i ∧ i < xs.length := by
  unfold atI at h
  cases e : ixN xs.length i with
  | none => rw [e] at h; cases h
  | some j =>
    rw [e] at h
    obtain ⟨h1, h2, h3, h4⟩ := ixN_seq e
    exact ⟨j, h1, h, h2, h3, h4⟩
theorem atI_nat {α : Type} {xs : List α} {j : Nat} {v : α} (h : xs[j]? = some v) : atI xs (j : Int) = some v := by
  have hj : j < xs.length := (List.getElem?_eq_some_iff.mp h).1
  have e : ixN xs.length (j : Int) = some j := by
    unfold ixN
    rw [if_pos (by omega), if_pos (by omega)]; simp
  unfold atI; rw [e]; exact h
theorem atI_last {α : Type} (xs : List α) (v : α) : atI (xs ++ [v]) (-1) = some v := by
  have hl : (xs ++ [v]).length = xs.length + 1 := by simp
  have e : ixN (xs ++ [v]).length (-1) = some xs.length := by
    unfold ixN
    rw [hl, if_neg (by decide), if_pos (by omega)]
    congr 1
    omega
  unfold atI
  rw [e]
  show (xs ++ [v])[xs.length]? = some v
  simp

/-! ### what may be subscripted -/
/-- what stands as an index of a plain subscript -/
def PlainIx (b : Expr) : Prop := ∀ o i, subscripted b false o i = operate [o, i] (getItem o i)
/-- a subscript by values -/
def IxR (X : Cx) (r : R2) : Prop :=
  ∀ (value slice : Expr) (pins : List (Addr × Obj)) (s : Shared) (σ : St) (H : Hp) (x y : V) (v u : Value) (Q : VK), Inv X pins σ H s → RelV x v → RelV y u → r x y H Q →
    subscripted slice false v u = operate [v, u] (getItem v u) → wpAny (model X.prog X.w) X.A (subscriptTail value slice v u) (EP X pins σ Q) X.xe s
/-- a call of a builtin's method by values: the receiver, the arguments -/
def MtR (X : Cx) (id : String) (r : V → List V → Hp → VK → Prop) : Prop :=
  ∀ (pins : List (Addr × Obj)) (s : Shared) (σ : St) (H : Hp) (x : V) (xs : List V) (v : Value) (us : List Value) (Q : VK), Inv X pins σ H s → RelV x v → Vals xs us → r x xs H Q →
    wpAny (model X.prog X.w) X.A (call (.builtin id) (v :: us)) (EP X pins σ Q) X.xe s
section
variable {X : Cx} {a b : Expr} {ta tb : TE} {pos : Pos}
theorem IxR.or {r r' : R2} (h : IxR X r) (h' : IxR X r') : IxR X (fun x y H Q => r x y H Q ∨ r' x y H Q) := by
  intro value slice pins s σ H x y v u Q I rx ry q hs
  rcases q with q | q
  · exact h value slice pins s σ H x y v u Q I rx ry q hs
  · exact h' value slice pins s σ H x y v u Q I rx ry q hs
theorem MtR.or {id : String} {r r' : V → List V → Hp → VK → Prop} (h : MtR X id r) (h' : MtR X id r') : MtR X id (fun x xs H Q => r x xs H Q ∨ r' x xs H Q) := by
  intro pins s σ H x xs v us Q I rx rs q
  rcases q with q | q
  · exact h pins s σ H x xs v us Q I rx rs q
  · exact h' pins s σ H x xs v us Q I rx rs q
/-- a[b] -/
theorem pe_ix {r : R2} (hr : IxR X r) (ha : PE X a ta) (hb : PE X b tb) (hs : PlainIx b) : PE X (.Subscript a b pos) (tOp r ta tb) := by
  intro pins s σ H Q I h
  exact Subscript_ (binT ha hb I h fun v u s2 x y H2 I2 rx ry q => hr a b pins s2 σ H2 x y v u Q I2 rx ry q (hs _ _))

def rIxL (K : PySem.W.Frag) : R2 := fun x y H Q => ∃ p xs i v, x = .ref p ∧ y = .int i ∧ SqL K H p xs ∧ atI xs i = some v ∧ Q v H
def rIxT (K : PySem.W.Frag) : R2 := fun x y H Q => ∃ p xs i v, x = .ref p ∧ y = .int i ∧ SqT K H p xs ∧ atI xs i = some v ∧ Q v H
def rIxS : R2 := fun x y H Q => ∃ z i c, x = .str z ∧ y = .int i ∧ z.length ≤ sizeLine ∧ atI z.cps.toList i = some c ∧ Q (.str ⟨#[c]⟩) H
theorem ix_list : IxR X (rIxL X.K) := by
  intro value slice pins s σ H x y v u Q I rx ry h hs
  obtain ⟨p, xs, i, z, rfl, rfl, hq, he, q⟩ := h
  cases rx
  obtain ⟨t, rfl⟩ := ry
  obtain ⟨its, r, pl, hz⟩ := I.list hq
  obtain ⟨j, h1, h2, h3, h4, h5⟩ := atI_get he
  obtain ⟨w, ew, rw'⟩ := r.get h2
  have hl := r.length
  have hn := line63
  have fin : EP X pins σ Q w s := ⟨z, H, I, rw', q⟩
  by_cases h0 : 0 ≤ i
  · have hj : i.toNat = j := by
      rw [seqIndex_of h0 h5] at h1
      exact Option.some.inj h1
    exact item_listR pl.isList h0 (by omega) (by rw [hj]; simpa using ew) fin hs
  · have hj : (i + (its.toArray.size : Int)).toNat = j := by
      rw [seqIndex_neg (by omega) h4] at h1
      rw [List.size_toArray, ← hl]
      exact Option.some.inj h1
    exact subscriptTail_builtinR (x := w) pl.isList.typeIs slot_list_getitem.lookup
      (wpAny_getItem_list_neg (Q := fun r s' => r = w ∧ EP X pins σ Q r s') pl.isList (by omega) (by rw [List.size_toArray] <;> omega) (by omega) (by rw [hj]; simpa using ew) ⟨rfl, fin⟩) hs
theorem ix_tup : IxR X (rIxT X.K) := by
  intro value slice pins s σ H x y v u Q I rx ry h hs
  obtain ⟨p, xs, i, z, rfl, rfl, hq, he, q⟩ := h
  cases rx
  obtain ⟨t, rfl⟩ := ry
  obtain ⟨its, r, pl, hz⟩ := I.tuple hq
  obtain ⟨j, h1, h2, h3, h4, h5⟩ := atI_get he
  obtain ⟨w, ew, rw'⟩ := r.get h2
  have hl := r.length
  have hn := line63
  have fin : EP X pins σ Q w s := ⟨z, H, I, rw', q⟩
  exact subscriptTail_builtinR (x := w) pl.typeIs slot_tuple_getitem.lookup
    (getItem_tuple (j := j) (Q := fun r s' => r = w ∧ EP X pins σ Q r s') pl (by omega) (by omega) (by rw [List.size_toArray, ← hl]; exact h1) (by simpa using ew) ⟨rfl, fin⟩) hs
theorem ix_str : IxR X rIxS := by
  intro value slice pins s σ H x y v u Q I rx ry h hs
  obtain ⟨z, i, c, rfl, rfl, hz, he, q⟩ := h
  obtain ⟨t, rfl⟩ := rx
  obtain ⟨t', rfl⟩ := ry
  obtain ⟨j, h1, h2, h3, h4, h5⟩ := atI_get he
  have hl : z.cps.toList.length = z.length := by simp [Str.length]
  rw [hl] at h1 h4 h5
  have hn := line63
  exact tail_any (typeIs_str s z t) slot_str_getitem.lookup (getItem_str (c := c) (by
    have e1 : decide (i < -(2 ^ 63 : Int)) = false := decide_eq_false (by omega)
    have e2 : decide (i ≥ 2 ^ 63) = false := decide_eq_false (by omega)
    rw [e1, e2, Bool.or_false]) (by rw [h1]; simpa using h2) ⟨.str ⟨#[c]⟩, H, I.tok _, ⟨_, rfl⟩, q⟩) hs
/-! ### xs[i] = v, any sign -/
theorem Inv.lst {pins : List (Addr × Obj)} {σ : St} {H : Hp} {s : Shared} {p : Addr} {xs : List V} (I : Inv X pins σ H s) (h : H p = some (.lst xs)) :
    ∃ (its : List Value) (n : Nat), Vals xs its ∧ s.heap.get? p = some { cls := .type "list", data := .seq its.toArray n } ∧ xs.length ≤ sizeLine := by
  obtain ⟨z, its, n, r, e⟩ := I.hok p _ h
  exact ⟨its, n, r, e, z⟩
/-! ### slices -/
theorem slice_bounds (lo hi : Option Int) (n : Nat) : (sliceBounds lo hi none n).1 = ((HT.sIx n 0 lo : Nat) : Int) ∧ (sliceBounds lo hi none n).2.1 = ((HT.sIx n n hi : Nat) : Int) ∧ (sliceBounds lo hi none n).2.2 = 1 := by
  refine ⟨?_, ?_, rfl⟩
  · cases lo with
    | none => simp [sliceBounds, HT.sIx]
    | some i =>
      simp only [sliceBounds, HT.sIx, Option.getD_none, show (1 : Int) > 0 by decide, if_true]
      by_cases h : i < 0
      · simp only [h, if_true] <;> omega
      · simp only [h, if_false] <;> omega
  · cases hi with
    | none => simp [sliceBounds, HT.sIx]
    | some i =>
      simp only [sliceBounds, HT.sIx, Option.getD_none, show (1 : Int) > 0 by decide, if_true]
      by_cases h : i < 0
      · simp only [h, if_true] <;> omega
      · simp only [h, if_false] <;> omega
theorem slicePick_cut (its : List Value) (lo hi : Option Int) : slicePick its.toArray lo hi none = ((its.drop (HT.sIx its.length 0 lo)).take (HT.sIx its.length its.length hi - HT.sIx its.length 0 lo)).toArray := by
  obtain ⟨h1, h2, h3⟩ := slice_bounds lo hi its.toArray.size
  unfold slicePick
  rw [h1, h2, h3]
  simp only [sliceRange_one, pick_run, List.size_toArray] <;> rfl
/-- xs[lo:hi] of a list: a new list -/
def rSlL (K : PySem.W.Frag) : V → Option Int → Option Int → Hp → VK → Prop := fun x lo hi H Q => ∃ a xs, x = .ref a ∧ SqL K H a xs ∧ ∀ p, H p = none → Q (.ref p) (upd H p (.lst (cutV xs lo hi)))
theorem sl_list : SlR X (rSlL X.K) := by
  intro pins s σ H x v vl vu lo hi sl Q I rx hs pl pu h
  obtain ⟨a, xs, rfl, hx, q⟩ := h
  cases rx
  obtain ⟨its, r, ht, hz⟩ := I.list hx
  have hlen := r.length
  refine ⟨"list", _, slot_list_getitem.lookup, ht.isList.typeIs, ?_⟩
  refine wpAny_getItem_list_slice ht.isList hs pl pu .none (by simp) ?_ (by rw [List.size_toArray] <;> omega)
  rw [slicePick_cut, ← hlen]
  refine ⟨.ref s.heap.objs.size, _, I.laid (t' := s.toks) (o := .lst (cutV xs lo hi)) (fun b ob q => Heap.get?_push_of_some _ q) (Nat.le_refl _) ?_, rfl, q _ (I.hok.fresh (Nat.le_refl _))⟩
  exact ⟨Nat.le_trans (cutV_length xs lo hi) hz, _, 0, (r.drop (HT.sIx xs.length 0 lo)).take (HT.sIx xs.length xs.length hi - HT.sIx xs.length 0 lo), Heap.get?_push_size _ rfl⟩

/-! ### in, not in: flat items -/
/-! ### len, list(x), tuple(x) of any list or tuple that is read -/
theorem CallR.or {f : Value} {r r' : List V → Hp → VK → Prop} (h : CallR X f r) (h' : CallR X f r') : CallR X f (fun xs H Q => r xs H Q ∨ r' xs H Q) := by
  intro pins s σ H xs us Q I rs q
  rcases q with q | q
  · exact h pins s σ H xs us Q I rs q
  · exact h' pins s σ H xs us Q I rs q
theorem call_list_of : CallR X (.type "list") (fun xs H Q => ∃ p ys, xs = [.ref p] ∧ (SqL X.K H p ys ∨ SqT X.K H p ys) ∧ ∀ l, H l = none → Q (.ref l) (upd H l (.lst ys))) := by
  intro pins s σ H xs us Q I r h
  obtain ⟨p, ys, rfl, hq, q⟩ := h
  obtain ⟨u, rfl, rx⟩ := vals1 r
  cases rx
  have fin : ∀ (its : List Value), Vals ys its → ys.length ≤ sizeLine → ∀ (h' : Heap) (c' : Nat), (∀ b o', s.heap.get? b = some o' → h'.get? b = some o') →
      h'.get? s.heap.objs.size = some { cls := .type "list", dict := none, data := .seq its.toArray c', slots := #[] } → EP X pins σ Q (.ref s.heap.objs.size) { s with heap := h' } := fun its r' hz h' c' kp e =>
    ⟨.ref s.heap.objs.size, _, I.laid (t' := s.toks) kp (Nat.le_refl _) (show ObjOk X.prog X.w _ h' _ (.lst ys) from ⟨hz, its, c', r', e⟩), rfl, q _ (I.hok.fresh (Nat.le_refl _))⟩
  rcases hq with hq | hq
  · obtain ⟨its, r', pl, hz⟩ := I.list hq
    have hlen := r'.length
    obtain ⟨o, ho, hc, n, hd⟩ := pl.isList
    exact call_list_seq p (.inl rfl) ho hc hd (fun h' c' kp e => fin its r' hz h' c' kp e) (by simp only [List.size_toArray] <;> omega)
  · obtain ⟨its, r', pl, hz⟩ := I.tuple hq
    have hlen := r'.length
    obtain ⟨o, ho, hc, n, hd⟩ := pl
    exact call_list_seq p (.inr rfl) ho hc hd (fun h' c' kp e => fin its r' hz h' c' kp e) (by simp only [List.size_toArray] <;> omega)
/-! ### the call of a builtin's method: o.m(..) -/
/-- the value is of that builtin type -/
def tyV (K : PySem.W.Frag) (T : String) (x : V) (H : Hp) : Prop := match x with
  | .str _ => T = "str"
  | .int _ => T = "int"
  | .ref p => (T = "list" ∧ ∃ xs, SqL K H p xs) ∨ (T = "tuple" ∧ ∃ o, K.lookup p = some o ∧ o.cls = .type "tuple" ∧ o.dict = none) ∨
      (T = "dict" ∧ ((∃ kvs, H p = some (.dK kvs)) ∨ ∃ kvs, H p = some (.dT kvs))) ∨ (T = "set" ∧ ∃ S n, H p = some (.set S n))
  | _ => False
theorem tyV_is {pins : List (Addr × Obj)} {σ : St} {H : Hp} {s : Shared} {T : String} {x : V} {v : Value} (I : Inv X pins σ H s) (r : RelV x v) (ty : tyV X.K T x H) :
    s.TypeIs v T ∧ ∀ a, v = .ref a → ∃ ob, s.heap.get? a = some ob ∧ ob.dict = none := by
  cases x with
  | str z =>
    obtain ⟨t, rfl⟩ := r
    cases (show T = "str" from ty)
    exact ⟨typeIs_str s z t, fun _ e => nomatch e⟩
  | int i =>
    obtain ⟨t, rfl⟩ := r
    cases (show T = "int" from ty)
    exact ⟨typeIs_int s i t, fun _ e => nomatch e⟩
  | ref p =>
    cases r
    rcases ty with ⟨rfl, xs, hq⟩ | ⟨rfl, o, hk, hc, hd⟩ | ⟨rfl, hk⟩ | ⟨rfl, S, n, hk⟩
    · obtain ⟨its, _, pl, _⟩ := I.list hq
      refine ⟨pl.isList.typeIs, fun a e => ?_⟩
      cases e
      obtain ⟨o, n, e, c, hd, _⟩ := pl
      exact ⟨o, e, hd⟩
    · refine ⟨⟨o, I.kIn p o hk, hc⟩, fun a e => ?_⟩
      cases e
      exact ⟨o, I.kIn _ o hk, hd⟩
    · have z : ∃ o, s.heap.get? p = some o ∧ o.ExactDict := by
        rcases hk with ⟨kvs, hk⟩ | ⟨kvs, hk⟩
        · obtain ⟨_, _, _, _, o, _, _, e, ex, _⟩ := I.hok p _ hk
          exact ⟨o, e, ex⟩
        · obtain ⟨_, _, _, _, o, _, _, e, ex, _⟩ := I.hok p _ hk
          exact ⟨o, e, ex⟩
      obtain ⟨o, e, ex⟩ := z
      refine ⟨⟨o, e, ex.1⟩, fun a e2 => ?_⟩
      cases e2
      exact ⟨o, e, ex.2.1⟩
    · obtain ⟨o, _, _, _, e, ex, _⟩ := I.hok p _ hk
      refine ⟨⟨o, e, ex.1⟩, fun a e2 => ?_⟩
      cases e2
      exact ⟨o, e, ex.2.1⟩
  | _ => exact False.elim ty
def tBM0 (K : PySem.W.Frag) (T : String) (r : V → List V → Hp → VK → Prop) (to : TE) : TE := fun σ H Q => to σ H fun x H1 => tyV K T x H1 ∧ r x [] H1 Q
def tBM (K : PySem.W.Frag) (T : String) (r : V → List V → Hp → VK → Prop) (to : TE) (t : TA) : TE := fun σ H Q => to σ H fun x H1 => tyV K T x H1 ∧ t σ H1 fun xs H2 => r x xs H2 Q
variable {o e : Expr} {es : List Expr} {to : TE} {t : TA} {name : Str} {apos cpos : Pos} {T id : String} {r : V → List V → Hp → VK → Prop}
theorem pe_bm0 (pa : PlainAttrs T) (slot : Slot T name id) (hty : typeOf (.builtin id) = pure (.type "method_descriptor")) (hm : MtR X id r) (ho : PE X o to)
    (hbase : attributeBase o name X.env (eval o X.env) = eval o X.env := by rfl) (hline : (apos.endLine == cpos.line) = true := by rfl) : PE X (.Call (.Attribute o name apos) [] [] cpos) (tBM0 X.K T r to) := by
  intro pins s σ H Q I h
  refine wpAny_Call_method0_late hbase hline (thn (ho pins s σ H _ I h) fun v s1 ⟨x, H1, I1, r1, ty, q1⟩ => ?_)
  obtain ⟨h1, h2⟩ := tyV_is I1 r1 ty
  exact ⟨T, id, pa, slot, hty, h1, h2, Calls.callWith_builtin rfl (PySem.evalArgs_none (hm pins s1 σ H1 x [] v [] Q I1 r1 .nil q1))⟩
theorem pe_bm (pa : PlainAttrs T) (slot : Slot T name id) (hty : typeOf (.builtin id) = pure (.type "method_descriptor")) (hm : MtR X id r) (ho : PE X o to) (ha : PA X (e :: es) t)
    (hbase : attributeBase o name X.env (eval o X.env) = eval o X.env := by rfl)
    (hfew : ((backTo cpos (starEach (e :: es) X.env)).all (fun x => !x.1) && (backToKw cpos (keywordEach [] X.env)).all (fun x => x.1.isSome)
      && decide ((e :: es).length + ([] : List Keyword).length + (if ([] : List Keyword).isEmpty then 0 else 1) < 30)) = true := by rfl)
    (hline : (apos.endLine == cpos.line) = true := by rfl) (hs : starEach (e :: es) X.env = (false, eval e X.env) :: starEach es X.env := by rfl) (hplain : (backTo cpos (starEach es X.env)).any (·.1) = false := by rfl) :
    PE X (.Call (.Attribute o name apos) (e :: es) [] cpos) (tBM X.K T r to t) := by
  intro pins s σ H Q I h
  refine wpAny_Call_method_late hbase hfew hline rfl (thn (ho pins s σ H _ I h) fun v s1 ⟨x, H1, I1, r1, ty, q1⟩ => ?_)
  obtain ⟨h1, h2⟩ := tyV_is I1 r1 ty
  refine ⟨T, id, pa, slot, hty, h1, h2, ?_⟩
  have hA := ha cpos pins s1 σ H1 _ I1 q1
  rw [hs] at hA ⊢
  refine Calls.callWith_builtin (by show (false || (backTo cpos (starEach es X.env)).any (·.1)) = false; rw [hplain] <;> rfl) (Calls.evalArgs_plain ?_)
  exact thn hA fun us s2 ⟨vs, H2, I2, r2, q2⟩ => hm pins s2 σ H2 x vs v us Q I2 r1 r2 q2
/- xs.append(e), list.index on a module's tuple .. are MtR facts of 06m -/
end
end L2

namespace L2
open PySem PySem.Spec PyProof.Rows

def MtM (X : Cx) (id : String) (r : V → List V → Hp → VK → Prop) : Prop :=
  ∀ (pins : List (Addr × Obj)) (s : Shared) (σ : St) (H : Hp) (x : V) (xs : List V) (v : Value) (us : List Value) (Q : VK), Inv X pins σ H s → RelV x v → Vals xs us → r x xs H Q →
    wpAny (model X.prog X.w) X.A (call (.builtin id) (v :: us)) (EP X pins σ Q) X.xe s

/-! ### lists of values -/
theorem Vals.one : ∀ {x : V} {us : List Value}, Vals [x] us → ∃ u, us = [u] ∧ RelV x u
  | _, _, .cons r .nil => ⟨_, rfl, r⟩
theorem Vals.two : ∀ {x y : V} {us : List Value}, Vals [x, y] us → ∃ u v, us = [u, v] ∧ RelV x u ∧ RelV y v
  | _, _, _, .cons r (.cons q .nil) => ⟨_, _, rfl, r, q⟩
theorem Vals.zero : ∀ {us : List Value}, Vals [] us → us = []
  | _, .nil => rfl
theorem Vals.dropLast {xs : List V} {us : List Value} (h : Vals xs us) : Vals xs.dropLast us.dropLast := by
  induction h with
  | nil => exact .nil
  | cons r t ih =>
    cases t with
    | nil => exact .nil
    | cons q t' => exact .cons r ih
theorem Vals.reverse {xs : List V} {us : List Value} (h : Vals xs us) : Vals xs.reverse us.reverse := by
  induction h with
  | nil => exact .nil
  | cons r t ih => rw [List.reverse_cons, List.reverse_cons]; exact Vals.append ih (.cons r .nil)
theorem Vals.rep {xs : List V} {us : List Value} (h : Vals xs us) : ∀ k : Nat, Vals (List.replicate k xs).flatten (List.replicate k us).flatten
  | 0 => .nil
  | k + 1 => by
    rw [List.replicate_succ, List.replicate_succ, List.flatten_cons, List.flatten_cons]
    exact Vals.append h (Vals.rep h k)
section
variable {X : Cx} {pins : List (Addr × Obj)} {σ : St} {H : Hp} {s : Shared} {l b : Addr} {xs ys zs : List V}

/-! ### the two steps: a tracked list is rewritten, a new list is laid -/
theorem Inv.lset {its its' : List Value} {n : Nat} {f : Array Value → Array Value} {t' : Nat} (I : Inv X pins σ H s) (hH : H l = some (.lst xs))
    (e : s.heap.get? l = some { cls := .type "list", data := .seq its.toArray n }) (hf : f its.toArray = its'.toArray) (hv : Vals ys its') (hz : ys.length ≤ sizeLine) :
    Inv X pins σ (upd H l (.lst ys)) { s with heap := s.heap.update l (Obj.mapSeq f), toks := t' } := by
  have q := PySem.IsL.update e f
  rw [hf] at q
  refine I.write (x := l) (e := l) (by rw [hH]; exact trivial) (.inl rfl) (fun b' u hb hu => (Heap.get?_update_other s.heap (Obj.mapSeq f) (Ne.symm hb)).trans hu) ⟨_, q⟩ ?_
  exact ⟨hz, its', _, hv, q⟩
theorem Inv.lnew {its : List Value} {t' : Nat} (I : Inv X pins σ H s) (hv : Vals ys its) (hz : ys.length ≤ sizeLine) :
    Inv X pins σ (upd H s.heap.objs.size (.lst ys)) { s with heap := s.heap.push { cls := .type "list", data := .seq its.toArray }, toks := t' } :=
  I.laid (fun _ _ q => Heap.get?_push_of_some _ q) (Nat.le_refl _) ⟨hz, its, 0, hv, Heap.get?_push_size _ rfl⟩
theorem Inv.fresh (I : Inv X pins σ H s) : H s.heap.objs.size = none := I.hok.fresh (Nat.le_refl _)
theorem Inv.lstM (I : Inv X pins σ H s) (hH : H l = some (.lst xs)) : xs.length ≤ sizeLine ∧ ∃ (its : List Value) (n : Nat), Vals xs its ∧ xs.length = its.length ∧ s.heap.get? l = some { cls := .type "list", data := .seq its.toArray n } := by
  obtain ⟨z, its, n, r, e⟩ := I.hok l _ hH
  exact ⟨z, its, n, r, r.length, e⟩

end

section
variable {X : Cx}

/-! ### methods -/
def rAppend : V → List V → Hp → VK → Prop := fun x vs H Q => ∃ l xs y, x = .ref l ∧ vs = [y] ∧ H l = some (.lst xs) ∧ xs.length < sizeLine ∧ Q .non (upd H l (.lst (xs ++ [y])))
theorem mt_append : MtM X "list.append" rAppend := by
  intro pins s σ H x vs v us Q I rx rv h
  obtain ⟨l, xs, y, rfl, rfl, hH, hz, q⟩ := h
  cases rx
  obtain ⟨u, rfl, ru⟩ := rv.one
  obtain ⟨z, its, n, r, hl, e⟩ := I.lstM hH
  refine call_meets F.slot_list_append ⟨_, e, rfl⟩ F.entry_list_append (F.args_list_append_2 _ _) (PySem.list_append l its.toArray n u (by rw [List.size_toArray]; omega)) ⟨e, ?_⟩
  refine ⟨.non, _, I.lset (its' := its ++ [u]) hH e (by simp) (r.append (.cons ru .nil)) ?_, rfl, q⟩
  rw [List.length_append, List.length_singleton]
  omega

def rReverse : V → List V → Hp → VK → Prop := fun x vs H Q => ∃ l xs, x = .ref l ∧ vs = [] ∧ H l = some (.lst xs) ∧ Q .non (upd H l (.lst xs.reverse))
theorem mt_reverse : MtM X "list.reverse" rReverse := by
  intro pins s σ H x vs v us Q I rx rv h
  obtain ⟨l, xs, rfl, rfl, hH, q⟩ := h
  cases rx
  have hus := rv.zero
  subst hus
  obtain ⟨z, its, n, r, hl, e⟩ := I.lstM hH
  refine call_meets F.slot_list_reverse ⟨_, e, rfl⟩ F.entry_list_reverse (F.args_list_reverse_1 _) (AutoSeq1.list_reverse_list_0 l its.toArray n (by rw [List.size_toArray]; omega)) ⟨e, ?_⟩
  refine ⟨.non, _, I.lset (its' := its.reverse) hH e (by simp) r.reverse ?_, rfl, q⟩
  rw [List.length_reverse]
  omega

def rClear : V → List V → Hp → VK → Prop := fun x vs H Q => ∃ l xs, x = .ref l ∧ vs = [] ∧ H l = some (.lst xs) ∧ Q .non (upd H l (.lst []))
theorem mt_clear : MtM X "list.clear" rClear := by
  intro pins s σ H x vs v us Q I rx rv h
  obtain ⟨l, xs, rfl, rfl, hH, q⟩ := h
  cases rx
  have hus := rv.zero
  subst hus
  obtain ⟨z, its, n, r, hl, e⟩ := I.lstM hH
  refine call_meets F.slot_list_clear ⟨_, e, rfl⟩ F.entry_list_clear (F.args_list_clear_1 _) (AutoSeq1.list_clear_list_0 l its.toArray n (by rw [List.size_toArray]; omega)) ⟨e, ?_⟩
  exact ⟨.non, _, I.lset (its' := []) (ys := []) hH e rfl .nil (Nat.zero_le _), rfl, q⟩

/-! ### list + list, list += list, list * int -/
def rCat : R2 := fun x y H Q => ∃ l b xs zs, x = .ref l ∧ y = .ref b ∧ H l = some (.lst xs) ∧ H b = some (.lst zs) ∧ xs.length + zs.length ≤ sizeLine ∧ ∀ p, H p = none → Q (.ref p) (upd H p (.lst (xs ++ zs)))
theorem op_cat : OpR X (binaryOp .Add) rCat := by
  intro pins s σ H x y v u Q I rx ry h
  obtain ⟨l, b, xs, zs, rfl, rfl, hH, hB, hz, q⟩ := h
  cases rx
  cases ry
  obtain ⟨z, its, n, r, hl, e⟩ := I.lstM hH
  obtain ⟨z2, its2, n2, r2, hl2, e2⟩ := I.lstM hB
  refine PySem.P.add_list e e2 ?_ (by rw [List.size_toArray, List.size_toArray]; omega)
  have ea : its.toArray ++ its2.toArray = (its ++ its2).toArray := by simp
  rw [ea]
  exact ⟨.ref _, _, I.lnew (t' := s.toks) (r.append r2) (by rw [List.length_append]; omega), rfl, q _ I.fresh⟩
/-! ### del xs[i] -/
end

/-! ### xs[a:b] = ys -/
section
variable {prog : Program} {w : World} {A : Around} {E : Value → Shared → Prop} {s : Shared}
end

section
variable {X : Cx}
end
end L2

namespace Att
open PySem PySem.W PySem.Calls PyProof.Rows

/-! ### the script -/
theorem ints_of_wellAll {P : Params} {h : Heap} : ∀ (ns : List Int) (vs : List Value), WellAll P h vs (ns.map WData.int) → IntsAre vs ns := by
  intro ns
  induction ns with
  | nil =>
    intro vs w
    rw [List.map_nil] at w
    cases w
    exact .nil
  | cons n ns ih =>
    intro vs w
    rw [List.map_cons] at w
    cases w with
    | cons a b =>
      cases a
      exact .cons _ _ (ih _ b)

theorem script_of {l : OpenLaw} {n : Nat} (hn : l.most = some n) {P : Params} {h : Heap} {args : List WData} {vals : List Value}
    (hpre : l.row.toRowW.claim.pre args = true) (hwl : WellAll P h vals args) :
    ∃ a vs ns, vals = [Value.ref a] ∧ args = [WData.list (ns.map WData.int)] ∧ h.get? a = some { cls := .type "list", data := .seq vs.toArray } ∧ IntsAre vs ns ∧ ns.length ≤ n := by
  have hsh : WShape.hasAll [] args [.list .int] = true := (pre_splitW hpre).1
  have hc : l.pre.holds [] { args := args } = true := (pre_splitW hpre).2
  obtain ⟨d, r, rfl, h1, h2⟩ := hasAllW_cons hsh
  obtain rfl := hasAllW_nil h2
  obtain ⟨xs, rfl, h3⟩ := hasW_list h1
  obtain ⟨ns, rfl⟩ := items_int h3
  have hlen : ns.length ≤ n := by
    unfold OpenLaw.pre at hc
    have h4 : (WTm.not (.lt (.lit (.int (n : Int))) (.len (.arg 0)))).holds [] { args := [.list (ns.map .int)] } = true := by
      have h4 := (holds_andW hc).1
      rw [hn] at h4
      exact h4
    have h5 := condW_of h4 (w_not (w_lt w_lit (w_len_list (w_arg rfl))))
    rw [List.length_map] at h5
    refine Nat.le_of_not_lt fun q => ?_
    have q' : (n : Int) < ((ns.length : Nat) : Int) := by omega
    first
      | (rw [decide_eq_true q'] at h5; exact absurd h5 (by decide))
      | (simp at h5; omega)
  cases hwl with
  | cons w1 w2 =>
    cases w2
    cases w1 with
    | list ho hall => exact ⟨_, _, ns, rfl, rfl, ho, ints_of_wellAll ns _ hall, hlen⟩

theorem post_true (l : OpenLaw) (args : List WData) : l.row.toRowW.claim.post args (.bool true) args = true :=
  postW_of (r := l.row.toRowW) (X := (true == true))
    (show WShape.has [] (.bool true) .bool = true by first | rfl | decide | simp [WShape.has, WShape.arms, WShape.armsAll])
    (show (WTm.eq .res (.lit (.bool true))).value [] { args := args, res := some (.bool true), after := args } = some (.bool (true == true)) from w_eq_bool (w_res rfl) w_lit) rfl

/-! ### the attachment: holds_open's last premise (the goal 'hc' behind k_head) from a wpAny of the law's body -/
/-- the same from a codeAny of the CALL (for a layer whose function contracts speak of calls) -/
theorem attach_call {l : OpenLaw} {n : Nat} {q : Program} {loose : List Str} {XP : (Str → Option Value) → Heap → Prop} {YP : World → Heap → Prop} {d : DefRec}
    (hn : l.most = some n) (hdf : d.params.defaults = [])
    (call : ∀ (w : World) (s₀ s₁ : Shared) (mg mb : Str → Option Value) (fa : Addr) (o : Obj) (pm cd doc : Value) (a : Addr) (vs : List Value) (ns : List Int),
      Ground q loose [] XP w s₀ mg mb s₁.heap → YP w s₁.heap →
      s₁.heap.get? fa = some o → o.data = .func (docDef d.name d.params d.body d.scope pm cd doc) → s₁.heap.CodeRec cd d.name → mg d.name = some (.ref fa) →
      s₁.heap.get? a = some { cls := .type "list", data := .seq vs.toArray } → IntsAre vs ns → ns.length ≤ n → s₁.gens = #[] →
      codeAny (model l.prog w) callerA (.call (.ref fa) ⟨[.ref a], []⟩) (fun r s' => r = .ok (.ret (.bool true)) ∧ OldK s₁.heap s'.heap ∧ s'.os = s₁.os ∧ AllBare s'.gens) s₁) :
    WalkO q loose XP YP l.row.toRowW d [] (fun f vs => PySem.call f vs) := by
  intro w s₀ s₁ mg mb G Y fa o pm cd doc dV kV ho hd hcd hD hmg hg args vals as hpre hlay hrd hwl hlo
  obtain rfl : dV = .none := Dflts.none hD hdf
  obtain rfl : kV = .none := Dflts.noKw hD
  obtain ⟨a, vs, ns, rfl, rfl, hobj, hints, hlen⟩ := script_of hn hpre hwl
  refine enter_call (codeAny_mono (call w s₀ s₁ mg mb fa o pm cd doc a vs ns G Y ho (fd_plain hd) hcd hmg hobj hints hlen hg) fun r s' hq => ?_)
  obtain ⟨rfl, h2, h3, h4⟩ := hq
  exact ⟨.inl ⟨.bool true, .bool true, [], rfl, fun _ => rfl, .bool true, post_true l _, fun _ => ⟨List.Pairwise.nil, fun _ hm => (nomatch hm)⟩⟩, h2, h3, h4⟩

/-! ### rules over ANY heap (no ledger) from facts about the written part K: the library's own take a ledger (News) for what they write -/
section
variable {prog : Program} {w : World} {A : Around} {E : Value → Shared → Prop} {s : Shared} {K : Frag}

/-! the whole heap as the ledger: makes every rule that writes through a ledger a rule over any heap -/
def ledger (h : Heap) (L d : Addr) : List (Addr × Obj) := (List.range h.objs.size).filterMap fun a => if a = L ∨ a = d then none else (h.get? a).map fun o => (a, o)
end
end Att

namespace L2
open PySem PySem.Spec PyProof.Rows

theorem vals_ints : ∀ {vs : List Value} {ns : List Int}, IntsAre vs ns → Vals (ns.map V.int) vs
  | _, _, .nil => .nil
  | _, _, .cons n t h => .cons ⟨t, rfl⟩ (vals_ints h)

/-- nothing is tracked but the script, known to the object (or it is an object of the module) -/
def Only (H : Hp) : Prop := ∀ b, H b = none ∨ ∃ o xs, H b = some (.frz o (.lst xs))

/-- THE HEAD: the law's promise, at the heap behind the top. F, the promise of the law's def, may use that base is part of the heap (so K.In base, base.Ns mainGlobals mg stand in Mod) -/
theorem law_call {P : Program} {w : World} {K : PySem.W.Frag} {mg mb : Str → Option Value} {CX : CXT} {k : Nat} {fa a : Addr} {fd : FuncData} {x : Str} {sp : Sp} {s₁ : Shared} {vs : List Value} {ns : List Int}
    (KX : K.In s₁.heap) (hns : s₁.heap.Ns mainGlobals mg) (hb : s₁.heap.Ns builtinsNs mb) (hbb : ∀ x : Str, x ≠ "__name__" → mb x = bootBuiltins x) (hlim : s₁.heap.NoLimit) (hg : s₁.gens = #[])
    (ha : s₁.heap.get? a = some { cls := .type "list", data := .seq vs.toArray }) (hi : IntsAre vs ns) (hl : ns.length ≤ sizeLine) (hr : Room k callerA)
    (F : ∀ base : Heap, K.In base → base.Ns mainGlobals mg → FnOk P w K mg base CX k fa fd [x] sp) (hbind : ∀ (s : Shared) (u : Value), BindsTo s fd ⟨[u], []⟩ [(x, u)])
    (hsp : ∀ H : Hp, Only H → SqL K H a (ns.map V.int) → sp [.ref a] H (fun v _ => v = .bl true) fun _ _ _ => False)
    (hCX : ∀ H e s', CX [] H s₁ (fun _ _ _ => False) e s' → False) :
    codeAny (model P w) callerA (.call (.ref fa) ⟨[.ref a], []⟩) (fun r s' => r = .ok (.ret (.bool true)) ∧ OldK s₁.heap s'.heap ∧ s'.os = s₁.os ∧ AllBare s'.gens) s₁ := by
  have rv := vals_ints hi
  have lenV := hi.length
  -- from an abstract heap in which nothing but the script may be tracked
  have core : ∀ H : Hp, Only H → SqL K H a (ns.map V.int) → HOk P w H s₁.heap → (∀ b, H b ≠ none → b = a) → (H a ≠ none → K.lookup a = none) →
      codeAny (model P w) callerA (.call (.ref fa) ⟨[.ref a], []⟩) (fun r s' => r = .ok (.ret (.bool true)) ∧ OldK s₁.heap s'.heap ∧ s'.os = s₁.os ∧ AllBare s'.gens) s₁ := by
    intro H hO hS hok hA hK
    have base_of : ∀ {b : Addr} {o : Obj}, s₁.heap.get? b = some o → H b = none → (hidT s₁.heap H).get? b = some o := fun e n => hidT_get e n
    have noA : ∀ {b : Addr} {o : Obj} {es : Array DictEntry} {ep : Nat}, s₁.heap.get? b = some o → o.data = .dict es ep → H b = none := fun {b o es ep} e d => by
      cases q : H b with
      | none => rfl
      | some u =>
        have e' : b = a := hA b (by rw [q]; simp)
        subst e'
        rw [ha] at e; cases e
        have d' : Data.seq vs.toArray _ = Data.dict es ep := d
        cases d'
    have nsK : ∀ {b : Addr} {m : Str → Option Value}, s₁.heap.Ns b m → (hidT s₁.heap H).Ns b m := fun {b m} ⟨o, es, ep, e, d, r⟩ => ⟨o, es, ep, base_of e (noA e d), d, r⟩
    have hKb : K.In (hidT s₁.heap H) := fun b o e => base_of (KX b o e) (by
      cases q : H b with
      | none => rfl
      | some u =>
        have e' : b = a := hA b (by rw [q]; simp)
        subst e'
        rw [hK (by rw [q]; simp)] at e; cases e)
    have hM : Mod K mg (hidT s₁.heap H) := ⟨hKb, nsK hns, ⟨mb, nsK hb, hbb⟩, let ⟨mc, h1, h2⟩ := hlim; ⟨mc, nsK h1, h2⟩⟩
    have e0 : Env0 P w K mg (hidT s₁.heap H) callerA [] s₁ H := ⟨rfl, hM, fun b o e => of_hidT e, Nat.le_of_eq (hidT_size _ _), trivial, fun b hb => absurd (show b ∈ ([] : List Addr) from hb) (by simp), hok, .of_eq hg⟩
    refine codeAny_mono ((F _ hKb (nsK hns)).run callerA [] s₁ H ⟨[.ref a], []⟩ [.ref a] [.ref a] _ _ hr e0 (hbind s₁ (.ref a)) (.cons rfl .nil) (hsp H hO hS)) fun r s' h => ?_
    cases r with
    | error e => exact (hCX H e s' h).elim
    | ok fl =>
      cases fl with
      | next => exact False.elim h
      | brk => exact False.elim h
      | cont => exact False.elim h
      | ret u =>
        obtain ⟨v, H', os, bare, un, hok', r', q⟩ := h
        have q' : v = .bl true := q
        subst q'
        obtain rfl : u = Value.bool true := r'
        refine ⟨rfl, OldK.of_keep fun b o e => ?_, os, bare⟩
        cases q : H b with
        | none => exact un.keep b o e q (by intro z; exact absurd (show b ∈ ([] : List Addr) from z) (by simp)) (by simp)
        | some u =>
          rcases hO b with z | ⟨ob, xs, z⟩
          · rw [q] at z; cases z
          · have z2 := un.frzs b ob _ z
            obtain ⟨e1, _⟩ := hok b _ z
            obtain ⟨e2, _⟩ := hok' b _ z2
            rw [e] at e1; cases e1
            exact e2
  cases hk : K.lookup a with
  | some o =>
    -- the script is one of the module's own objects
    have e := KX a o hk
    rw [ha] at e
    cases e
    refine core (fun _ => none) (fun _ => .inl rfl) (.inr ⟨_, vs.toArray, _, hk, rfl, rfl, rfl, by rw [List.size_toArray, lenV]; exact hl, by simpa using rv⟩) (fun b u z => by have z' : (none : Option HO) = some u := z; cases z') (fun b z => absurd rfl z) fun z => absurd rfl z
  | none =>
    refine core (fun b => if b = a then some (.frz { cls := .type "list", data := .seq vs.toArray } (.lst (ns.map V.int))) else none) (fun b => ?_) (.inl (.inr ⟨{ cls := .type "list", data := .seq vs.toArray }, if_pos rfl⟩)) (fun b u z => ?_) (fun b z => ?_) fun _ => hk
    · by_cases hb : b = a
      · exact .inr ⟨_, _, if_pos hb⟩
      · exact .inl (if_neg hb)
    · by_cases hb : b = a
      · have z' := (if_pos hb).symm.trans z
        cases z'
        subst hb
        exact ⟨ha, by rw [List.length_map]; exact hl, vs, _, rv, ha⟩
      · have z' := (if_neg hb).symm.trans z
        cases z'
    · by_cases hb : b = a
      · exact hb
      · exact absurd (if_neg hb) z
end L2

namespace L2
open PySem PySem.Spec PyProof.Rows

abbrev KOf {K : PySem.W.Frag} {h : Heap} (_ : K.In h) : PySem.W.Frag := K

/-- the goal that k_head leaves (case hc), from the law's promise. F gives the function object fd (K's own) once, then the promise over every base -/
theorem walk_of {l : PySem.W.OpenLaw} {n k : Nat} {q : Program} {loose : List Str} {XP : (Str → Option Value) → Heap → Prop} {YP : World → Heap → Prop} {d : DefRec} {K : Params → PySem.W.Frag} {CX : World → CXT} {sp : World → Sp} {x : Str}
    (hn : l.most = some n) (hn2 : n ≤ sizeLine) (hdf : d.params.defaults = []) (hr : Room k callerA)
    (hY : ∀ (w : World) (h : Heap), YP w h → (K w.params).In h)
    (F : ∀ (w : World) (mg : Str → Option Value) (fa : Addr) (h : Heap), (K w.params).In h → h.Ns mainGlobals mg → mg d.name = some (.ref fa) →
      ∃ fd : FuncData, (∀ (s : Shared) (u : Value), BindsTo s fd ⟨[u], []⟩ [(x, u)]) ∧
        ∀ base : Heap, (K w.params).In base → base.Ns mainGlobals mg → FnOk l.prog w (K w.params) mg base (CX w) k fa fd [x] (sp w))
    (hsp : ∀ (w : World) (H : Hp) (a : Addr) (ns : List Int), ns.length ≤ n → Only H → SqL (K w.params) H a (ns.map V.int) → sp w [.ref a] H (fun v _ => v = .bl true) fun _ _ _ => False)
    (hCX : ∀ (w : World) (H : Hp) (s : Shared) (e : Value) (s' : Shared), CX w [] H s (fun _ _ _ => False) e s' → False) :
    PySem.W.WalkO q loose XP YP l.row.toRowW d [] (fun f vs => PySem.call f vs) := by
  refine Att.attach_call hn hdf fun w s₀ s₁ mg mb fa o pm cd doc a vs ns G Y ho hd hcd hmg hobj hints hlen hg => ?_
  have KX := hY w _ Y
  obtain ⟨fd, hb, hF⟩ := F w mg fa _ KX G.T.g hmg
  exact law_call KX G.T.g G.T.b G.T.builtins G.T.nolimit hg hobj hints (Nat.le_trans hlen hn2) hr hF hb (fun H hO hS => hsp w H a ns hlen hO hS) fun H e s' => hCX w H s₁ e s'
/-- the same where the promise hangs on the written part alone: (sp := My.sp_law), no hole under a binder -/
theorem walk_ofK {l : PySem.W.OpenLaw} {n k : Nat} {q : Program} {loose : List Str} {XP : (Str → Option Value) → Heap → Prop} {YP : World → Heap → Prop} {d : DefRec} {K : Params → PySem.W.Frag} {CX : CXT} {sp : PySem.W.Frag → Sp} {x : Str}
    (hn : l.most = some n) (hn2 : n ≤ sizeLine) (hdf : d.params.defaults = []) (hr : Room k callerA)
    (hY : ∀ (w : World) (h : Heap), YP w h → (K w.params).In h)
    (F : ∀ (w : World) (mg : Str → Option Value) (fa : Addr) (h : Heap), (K w.params).In h → h.Ns mainGlobals mg → mg d.name = some (.ref fa) →
      ∃ fd : FuncData, (∀ (s : Shared) (u : Value), BindsTo s fd ⟨[u], []⟩ [(x, u)]) ∧
        ∀ base : Heap, (K w.params).In base → base.Ns mainGlobals mg → FnOk l.prog w (K w.params) mg base CX k fa fd [x] (sp (K w.params)))
    (hsp : ∀ (K : PySem.W.Frag) (H : Hp) (a : Addr) (ns : List Int), ns.length ≤ n → Only H → SqL K H a (ns.map V.int) → sp K [.ref a] H (fun v _ => v = .bl true) fun _ _ _ => False)
    (hCX : ∀ (H : Hp) (s : Shared) (e : Value) (s' : Shared), CX [] H s (fun _ _ _ => False) e s' → False) :
    PySem.W.WalkO q loose XP YP l.row.toRowW d [] (fun f vs => PySem.call f vs) :=
  walk_of (K := K) (CX := fun _ => CX) (sp := fun w => sp (K w.params)) hn hn2 hdf hr hY F (fun w H a ns h1 h2 h3 => hsp (K w.params) H a ns h1 h2 h3) fun _ H s e s' => hCX H s e s'
end L2

/- THE LAST THEOREM (shape; LID, My.* are yours):
   My.Adr: a structure of the addresses that your layer names (classes, functions); My.Txt K t: a structure (Prop) of the equations over K;
   My.txt_mk : {K} {implicit addresses ..} (e1 : nsIn K mainGlobals "law" = some (some (.ref f))) (e2 : K.lookup f = some ⟨oc, od, .func (fnOf "law" "law" params body scope dV kV doc pm an cdv ct), sl⟩) (e3 : codeIn K cdv "law" = true) .. : ∃ t, My.Txt K t

set_option maxRecDepth 100000 in
set_option maxHeartbeats 0 in
theorem PySem.Challenge.cw_LID_holds : PySem.Challenge.rw_LID.Holds := by
  w_on; o_law; k_head; (case hw => w_witness2)
  k_fill
  refine L2.walk_of (l := PySem.Challenge.rw_LID) (n := 63) (k := 40) (x := "script") (CX := fun w => ..) (sp := fun _ => My.sp_law) rfl (by decide) rfl ⟨rfl, by decide, by decide⟩ (fun w h Y => PySem.W.kIn_of Y) ?F ?S ?C
  case F =>
    intro w mg fa h KX G hmg
    have T : ∃ t, My.Txt (L2.KOf KX) t := by
      dsimp only [L2.KOf]                          -- K must stand as «<heap const> w.params» for k_is
      refine' My.txt_mk ?e1 ?e2 ?e3 ..
      (case e1 => PySem.W.k_is)                    -- in the order: a name -> its address -> its object -> its parts
      (case e2 => PySem.W.k_is)
      ..
    obtain ⟨t, T⟩ := T
    have e0 := hmg.symm.trans (PySem.W.mg_of KX G T.law)
    cases e0                                       -- fa is the law's own address
    exact ⟨_, fun s u => .of_eq rfl, fun base kb nb => My.law_fn T kb nb⟩     -- if «.of_eq rfl» comes too early: refine' ⟨_, ?b, fun base kb nb => My.law_fn T kb nb⟩; exact fun s u => .of_eq rfl
  case S => exact fun w H a ns hl hO hS => ..
  case C => exact ..
(the tactic k_is has no namespace: write k_is) -/

/-! SHORT WORDS over the layer: a def of the text, its body, what a loop and a test want. -/
namespace L2
open PySem PySem.Spec PyProof.Rows

/-! ### the text by places -/
def defArgs (s : Stmt) : Arguments := match s with
  | .FunctionDef _ a _ _ _ _ _ _ _ _ => a
  | _ => { posonlyargs := [], args := [], vararg := none, kwonlyargs := [], kw_defaults := [], kwarg := none, defaults := [] }
def defBody (s : Stmt) : List Stmt := match s with
  | .FunctionDef _ _ b _ _ _ _ _ _ _ => b
  | _ => []
def defScope (s : Stmt) : Scope := match s with
  | .FunctionDef _ _ _ _ _ _ sc _ _ _ => sc
  | _ => { kind := .function, names := [], isGenerator := false, isCoroutine := false }

/-! ### no exception leaves a def -/
abbrev CX0 : CXT := fun _ _ _ _ _ _ => False
abbrev E0 : XK := fun _ _ _ => False
theorem pass0 {X : Cx} : Passes CX0 X E0 := fun _ _ _ _ _ _ _ h => h.elim

/-! ### a def (or method) of the text as it stands behind the top -/
structure Fun (K : PySem.W.Frag) (x qual : Str) (st : Stmt) (f : Addr) (fd : FuncData) : Prop where
  ex : ∃ (oc : Value) (od : Option Addr) (kV doc pm : Value) (an : Option Addr) (cdv ct : Value) (osl : Array (Option Value)),
    fd = PySem.W.fnOf x qual (defArgs st) (defBody st) (defScope st) .none kV doc pm an cdv ct ∧ K.lookup f = some ⟨oc, od, .func fd, osl⟩ ∧ PySem.W.codeIn K cdv qual = true
  kp : PySem.W.keepIn K (.ref f) = true
section
variable {P : Program} {w : World} {K : PySem.W.Frag} {mg : Str → Option Value} {base : Heap}
/-- THE RULE for a def: its body as a term of rules, and the reading of that term -/
theorem Fun.ok {x qual : Str} {st : Stmt} {f : Addr} {fd : FuncData} {N ps : List Str} {k : Nat} {sp : Sp} (F : Fun K x qual st f fd) (S : FnScope N ps (defScope st)) (len : ∀ vs H Q E, sp vs H Q E → vs.length = ps.length)
    (hbody : ∀ (cdv : Value) (A : Around) (outer : List Env) (s : Shared) (H : Hp) (vs : List V) (Q : VK) (E : XK), Room k (A.deeper (envOfC qual (defScope st) s.heap.objs.size f cdv)) → sp vs H Q E →
      ∃ t, PSs (cxOf CX0 P w K mg base N qual (defScope st) f cdv A outer s H E).nox (defBody st) t ∧ t { nx := fun _ H' => Q .non H', rt := Q } (start N vs) H) : FnOk P w K mg base CX0 (k + 1) f fd ps sp := by
  obtain ⟨oc, od, kV, doc, pm, an, cdv, ct, osl, rfl, lk, hcd⟩ := F.ex
  refine fn_of lk hcd S len fun A outer s H vs Q E hr hsp => ?_
  obtain ⟨t, h, q⟩ := hbody cdv A outer s H vs Q E hr hsp
  exact ⟨t, h.nox, q⟩
/-- how its arguments bind (no defaults): h is «fun _ _ _ _ _ _ us hl => match us, hl with | [_, _], _ => rfl», one _ a parameter -/
theorem Fun.binds {x qual : Str} {st : Stmt} {f : Addr} {fd : FuncData} {ps : List Str} (F : Fun K x qual st f fd)
    (h : ∀ (kV doc pm : Value) (an : Option Addr) (cdv ct : Value) (us : List Value), us.length = ps.length → bindArgs (PySem.W.fnOf x qual (defArgs st) (defBody st) (defScope st) .none kV doc pm an cdv ct) ⟨us, []⟩ = pure (ps.zip us)) : Binds K fd ps [] := by
  obtain ⟨oc, od, kV, doc, pm, an, cdv, ct, osl, rfl, lk, hcd⟩ := F.ex
  exact .all (h kV doc pm an cdv ct)
theorem fun_mk {x qual : Str} {st : Stmt} {f : Addr} {oc : Value} {od an : Option Addr} {osl : Array (Option Value)} {kV doc pm cdv ct : Value} (l : K.lookup f = some ⟨oc, od, .func (PySem.W.fnOf x qual (defArgs st) (defBody st) (defScope st) .none kV doc pm an cdv ct), osl⟩)
    (c : PySem.W.codeIn K cdv qual = true) (k : PySem.W.keepIn K (.ref f) = true) : Fun K x qual st f (PySem.W.fnOf x qual (defArgs st) (defBody st) (defScope st) .none kV doc pm an cdv ct) := ⟨⟨oc, od, kV, doc, pm, an, cdv, ct, osl, rfl, l, c⟩, k⟩
end
theorem hu_of {A : Around} {k : Nat} (hr : Room k A) : A.units + 1 < cLine := Nat.lt_of_le_of_lt (Nat.add_le_add_left (by decide : 1 ≤ 64) _) hr.units
theorem small1000 {n : Nat} (h : n ≤ 1000) : n < sizeLine := Nat.lt_of_le_of_lt h (by decide)

/-! ### expressions in short: the name that stands in the i-th slot -/
section
variable {X : Cx}
theorem pv (i : Nat) {x : Str} {pos : Pos} (hN : X.N[i]? = some x := by rfl) (hv : Vis X.env.scope x := by first | exact Or.inl rfl | exact Or.inr (Or.inl rfl) | exact Or.inr (Or.inr rfl)) (hd : (x == ("__debug__" : Str)) = false := by decide)
    (hcd : (x == ("__classdict__" : Str)) = false := by decide) : PE X (.Name x pos) (tVar i) := pe_var hN hv hd hcd
end

/-! ### tests -/
theorem iteF {A B : Prop} (h : B) : if false = true then A else B := by
  rw [if_neg Bool.false_ne_true]
  exact h
theorem iteT {A B : Prop} (h : A) : if true = true then A else B := by
  rw [if_pos rfl]
  exact h
theorem ite2 {c A B : Prop} [Decidable c] (h1 : c → A) (h2 : ¬ c → B) : if c then A else B := by
  by_cases h : c
  · rw [if_pos h]
    exact h1 h
  · rw [if_neg h]
    exact h2 h
/-! ### heaps -/
/-- all that was tracked is as it was -/
def Same (H H' : Hp) : Prop := ∀ b o, H b = some o → H' b = some o
theorem Same.refl (H : Hp) : Same H H := fun _ _ h => h
theorem Same.trans {H H1 H2 : Hp} (a : Same H H1) (b : Same H1 H2) : Same H H2 := fun c o h => b c o (a c o h)
theorem Same.free {H H' : Hp} (e : Same H H') {l : Addr} (h : H' l = Option.none) : H l = Option.none := by
  cases q : H l with
  | none => rfl
  | some o =>
    rw [e l o q] at h
    cases h
theorem Same.seq {K : PySem.W.Frag} {H H' : Hp} {a : Addr} {xs : List V} (e : Same H H') (h : SqL K H a xs) : SqL K H' a xs := by
  rcases h with (h | ⟨o, h⟩) | h
  · exact .inl (.inl (e _ _ h))
  · exact .inl (.inr ⟨o, e _ _ h⟩)
  · exact .inr h

/-! ### a dict's pairs: keys that differ -/
section
variable {κ : Type} [DecidableEq κ]
end
end L2

namespace Tc
/-- the divisor with the sign of the bottom -/
def dv (t b : Int) : Int := if b < 0 then -(Int.gcd t b : Int) else (Int.gcd t b : Int)

theorem fmod_pos {t b : Int} (h : 0 < b) : 0 ≤ t.fmod b ∧ t.fmod b < b := by
  rw [Int.fmod_eq_emod_of_nonneg _ (Int.le_of_lt h)]
  exact ⟨Int.emod_nonneg _ (by omega), Int.emod_lt_of_pos _ h⟩
theorem fmod_neg {t b : Int} (h : b < 0) : b < t.fmod b ∧ t.fmod b ≤ 0 := by
  have e : t.fmod b = -((-t).fmod (-b)) := by
    have h1 := Int.mul_fdiv_add_fmod t b
    have h2 := Int.mul_fdiv_add_fmod (-t) (-b)
    rw [Int.neg_fdiv_neg] at h2
    have h3 : -b * t.fdiv b = -(b * t.fdiv b) := Int.neg_mul _ _
    rw [h3] at h2
    omega
  have p := fmod_pos (t := -t) (b := -b) (by omega)
  omega
theorem gcd_fmod (t b : Int) : Int.gcd b (t.fmod b) = Int.gcd t b := by
  have h1 := Int.mul_fdiv_add_fmod t b
  have e : t.fmod b = t + b * (-(t.fdiv b)) := by
    rw [Int.mul_neg]; omega
  rw [e, Int.gcd_comm, Int.gcd_add_mul_left_left]
/-- between two turns of the loop: g is the gcd, the sign is that of the first bottom -/
structure Dv (t₀ b₀ t b : Int) : Prop where
  g : Int.gcd t b = Int.gcd t₀ b₀
  p : 0 < b₀ → 0 ≤ b ∧ (b = 0 → 0 < t)
  n : b₀ < 0 → b ≤ 0 ∧ (b = 0 → t < 0)
theorem Dv.start {t b : Int} (h : b ≠ 0) : Dv t b t b := ⟨rfl, fun p => ⟨Int.le_of_lt p, fun e => absurd e h⟩, fun p => ⟨Int.le_of_lt p, fun e => absurd e h⟩⟩
theorem Dv.turn {t₀ b₀ t b : Int} (d : Dv t₀ b₀ t b) (h : b ≠ 0) : Dv t₀ b₀ b (t.fmod b) := by
  refine ⟨(gcd_fmod t b).trans d.g, fun p => ?_, fun p => ?_⟩
  · have q := d.p p
    have r := fmod_pos (t := t) (b := b) (by omega)
    exact ⟨r.1, fun _ => by omega⟩
  · have q := d.n p
    have r := fmod_neg (t := t) (b := b) (by omega)
    exact ⟨r.2, fun _ => by omega⟩
theorem Dv.less {t b : Int} (h : b ≠ 0) : (t.fmod b).natAbs < b.natAbs := by
  rcases Int.lt_or_gt_of_ne h with q | q
  · have r := fmod_neg (t := t) q; omega
  · have r := fmod_pos (t := t) q; omega
theorem Dv.done {t₀ b₀ t b : Int} (d : Dv t₀ b₀ t b) (h : b = 0) (h0 : b₀ ≠ 0) : t = dv t₀ b₀ := by
  subst h
  have g := d.g
  rw [Int.gcd_zero_right] at g
  unfold dv
  rw [← g]
  split
  · rename_i q; have := (d.n q).2 rfl; omega
  · have := (d.p (by omega)).2 rfl; omega
theorem gcd_pos {t b : Int} (h : b ≠ 0) : 0 < Int.gcd t b := Nat.pos_of_ne_zero fun e => h (Int.gcd_eq_zero_iff.mp e).2
theorem dv_ne {t b : Int} (h : b ≠ 0) : dv t b ≠ 0 := by
  have := gcd_pos (t := t) h
  unfold dv; split <;> omega
theorem dv_dvd_left (t b : Int) : dv t b ∣ t := by
  have := Int.gcd_dvd_left t b
  unfold dv; split
  · exact Int.neg_dvd.mpr this
  · exact this
theorem dv_dvd_right (t b : Int) : dv t b ∣ b := by
  have := Int.gcd_dvd_right t b
  unfold dv; split
  · exact Int.neg_dvd.mpr this
  · exact this
theorem dv_abs (t b : Int) : (dv t b).natAbs = Int.gcd t b := by
  unfold dv; split <;> omega
theorem dv_le {t b : Int} (h : b ≠ 0) : (dv t b).natAbs ≤ b.natAbs := by
  rw [dv_abs]
  have := Int.gcd_dvd_right t b
  exact Nat.le_of_dvd (by omega) (Int.natAbs_dvd_natAbs.mpr this |> (by simpa using ·))
/-- lowest terms are those of the rational number -/
theorem dv_num {t b : Int} (h : b ≠ 0) : t.fdiv (dv t b) = (Rat.divInt t b).num := by
  rw [Int.fdiv_eq_ediv_of_dvd (dv_dvd_left t b), Rat.num_divInt, Int.gcd_comm]
  unfold dv
  rcases Int.lt_or_gt_of_ne h with q | q
  · rw [if_pos q, Int.sign_eq_neg_one_of_neg q, Int.ediv_neg, Int.neg_one_mul, Int.neg_ediv_of_dvd (Int.gcd_dvd_left t b)]
  · rw [if_neg (by omega), Int.sign_eq_one_of_pos q, Int.one_mul]
theorem dv_den {t b : Int} (h : b ≠ 0) : b.fdiv (dv t b) = ((Rat.divInt t b).den : Int) := by
  rw [Int.fdiv_eq_ediv_of_dvd (dv_dvd_right t b), Rat.den_divInt, if_neg h, Int.gcd_comm]
  unfold dv
  rw [Int.natCast_ediv]
  rcases Int.lt_or_gt_of_ne h with q | q
  · rw [if_pos q, Int.ediv_neg, ← Int.neg_ediv_of_dvd (Int.gcd_dvd_right t b)]
    congr 1; omega
  · rw [if_neg (by omega)]
    congr 1; omega
end Tc
namespace Tc
theorem dv_pos {t b : Int} (h : 0 < b) : dv t b = (Int.gcd t b : Int) := by unfold dv; rw [if_neg (by omega)]
/-- what is in lowest terms is the rational number's -/
theorem low {n d : Int} (hd : 0 < d) (hg : Int.gcd n d = 1) : (Rat.divInt n d).num = n ∧ ((Rat.divInt n d).den : Int) = d := by
  have h1 := dv_num (t := n) (b := d) (by omega)
  have h2 := dv_den (t := n) (b := d) (by omega)
  rw [dv_pos hd, hg] at h1 h2
  constructor
  · rw [← h1]; simp
  · rw [← h2]; simp
theorem rat_den_pos (r : Rat) : (0 : Int) < r.den := by have := r.den_pos; omega
theorem rat_gcd (r : Rat) : Int.gcd r.num r.den = 1 := by
  have := r.reduced
  unfold Nat.Coprime at this
  unfold Int.gcd
  simpa using this
theorem plus_ok (r q : Rat) {s rest top d : Int} (hs : s = dv r.den q.den) (hr : rest = (r.den : Int).fdiv s) (ht : top = r.num * ((q.den : Int).fdiv s) + q.num * rest) (hd : d = dv top s) :
    top.fdiv d = (r + q).num ∧ rest * ((q.den : Int).fdiv d) = ((r + q).den : Int) := by
  have p1 := r.den_pos
  have p2 := q.den_pos
  have gp : 0 < Nat.gcd r.den q.den := Nat.gcd_pos_of_pos_left _ p1
  have es : s = ((Nat.gcd r.den q.den : Nat) : Int) := by
    rw [hs, dv_pos (by omega)]; unfold Int.gcd; simp
  have e1 : (r.den : Int).fdiv s = ((r.den / Nat.gcd r.den q.den : Nat) : Int) := by
    rw [es, Int.fdiv_eq_ediv_of_nonneg _ (by omega), Int.natCast_ediv]
  have e2 : (q.den : Int).fdiv s = ((q.den / Nat.gcd r.den q.den : Nat) : Int) := by
    rw [es, Int.fdiv_eq_ediv_of_nonneg _ (by omega), Int.natCast_ediv]
  have er : rest = ((r.den / Nat.gcd r.den q.den : Nat) : Int) := hr.trans e1
  have et : top = r.num * ((q.den / Nat.gcd r.den q.den : Nat) : Int) + q.num * ((r.den / Nat.gcd r.den q.den : Nat) : Int) := by rw [ht, e2, er]
  have key : top.natAbs.gcd (Nat.gcd r.den q.den) = top.natAbs.gcd ((r.den / Nat.gcd r.den q.den) * q.den) := by
    rw [et]
    exact Rat.add.aux r q rfl rfl rfl
  have ed : d = ((top.natAbs.gcd (Nat.gcd r.den q.den) : Nat) : Int) := by
    rw [hd, es, dv_pos (by omega)]; unfold Int.gcd; simp
  have hrd : Nat.gcd r.den q.den ∣ r.den := Nat.gcd_dvd_left _ _
  have hqd : Nat.gcd r.den q.den ∣ q.den := Nat.gcd_dvd_right _ _
  have rp : 0 < r.den / Nat.gcd r.den q.den := Nat.div_pos (Nat.le_of_dvd p1 hrd) gp
  have sum : r + q = Rat.divInt top (((r.den / Nat.gcd r.den q.den) * q.den : Nat) : Int) := by
    have h := Rat.divInt_add_divInt r.num q.num (d₁ := r.den) (d₂ := q.den) (by omega) (by omega)
    rw [Rat.num_divInt_den, Rat.num_divInt_den] at h
    rw [h]
    rw [Rat.divInt_eq_divInt_iff (Int.mul_ne_zero (by omega) (by omega)) (by have := Nat.mul_pos rp p2; omega)]
    rw [et]
    obtain ⟨a, ha⟩ := hrd
    obtain ⟨b, hb⟩ := hqd
    generalize Nat.gcd r.den q.den = g at *
    have a1 : r.den / g = a := by rw [ha]; exact Nat.mul_div_cancel_left _ gp
    have b1 : q.den / g = b := by rw [hb]; exact Nat.mul_div_cancel_left _ gp
    rw [a1, b1]
    rw [ha, hb]
    push_cast
    grind
  have dp : (0 : Int) < (((r.den / Nat.gcd r.den q.den) * q.den : Nat) : Int) := by have := Nat.mul_pos rp p2; omega
  have n1 := dv_num (t := top) (b := (((r.den / Nat.gcd r.den q.den) * q.den : Nat) : Int)) (by omega)
  have n2 := dv_den (t := top) (b := (((r.den / Nat.gcd r.den q.den) * q.den : Nat) : Int)) (by omega)
  have edd : dv top (((r.den / Nat.gcd r.den q.den) * q.den : Nat) : Int) = d := by
    rw [ed, dv_pos dp, key]; unfold Int.gcd; rw [Int.natAbs_natCast]
  rw [← sum, edd] at n1 n2
  refine ⟨n1, ?_⟩
  rw [← n2, er]
  have dq : d ∣ (q.den : Int) := by
    rw [ed]
    exact Int.natCast_dvd_natCast.mpr (Nat.dvd_trans (Nat.gcd_dvd_right _ _) hqd)
  have dpos : 0 < d := by
    rw [ed]; have := Nat.gcd_pos_of_pos_right top.natAbs gp; omega
  rw [Int.fdiv_eq_ediv_of_nonneg _ (by omega), Int.fdiv_eq_ediv_of_nonneg _ (by omega)]
  push_cast
  exact (Int.mul_ediv_assoc _ dq).symm
theorem cop_dvd {a d t b : Int} (h : Int.gcd t b = 1) (ha : a ∣ t) (hd : d ∣ b) : Int.gcd a d = 1 :=
  Nat.Coprime.coprime_dvd_left (Int.natAbs_dvd_natAbs.mpr ha) (Nat.Coprime.coprime_dvd_right (Int.natAbs_dvd_natAbs.mpr hd) h)
theorem cop_mul {a b c d : Int} (h1 : Int.gcd a d = 1) (h2 : Int.gcd a b = 1) (h3 : Int.gcd c d = 1) (h4 : Int.gcd c b = 1) : Int.gcd (a * c) (d * b) = 1 := by
  show Nat.Coprime (a * c).natAbs (d * b).natAbs
  rw [Int.natAbs_mul, Int.natAbs_mul]
  exact Nat.coprime_mul_iff_left.mpr ⟨Nat.coprime_mul_iff_right.mpr ⟨h1, h2⟩, Nat.coprime_mul_iff_right.mpr ⟨h3, h4⟩⟩
/-- the product, crosswise cut: (t2, b2) need not be with b2 > 0 -/
theorem times_ok {t1 b1 t2 b2 : Int} (h1 : 0 < b1) (h2 : b2 ≠ 0) (c1 : Int.gcd t1 b1 = 1) (c2 : Int.gcd t2 b2 = 1) {l r : Int} (hl : l = dv t1 b2) (hr : r = dv t2 b1) :
    (t1.fdiv l) * (t2.fdiv r) = (Rat.divInt (t1 * t2) (b1 * b2)).num ∧ (b1.fdiv r) * (b2.fdiv l) = ((Rat.divInt (t1 * t2) (b1 * b2)).den : Int) := by
  have l0 : l ≠ 0 := by rw [hl]; exact dv_ne h2
  have r0 : 0 < r := by rw [hr, dv_pos h1]; have := gcd_pos (t := t2) (b := b1) (by omega); omega
  obtain ⟨a, ha⟩ : l ∣ t1 := by rw [hl]; exact dv_dvd_left _ _
  obtain ⟨b, hb⟩ : l ∣ b2 := by rw [hl]; exact dv_dvd_right _ _
  obtain ⟨c, hc⟩ : r ∣ t2 := by rw [hr]; exact dv_dvd_left _ _
  obtain ⟨d, hd⟩ : r ∣ b1 := by rw [hr]; exact dv_dvd_right _ _
  have e1 : t1.fdiv l = a := by rw [ha, Int.mul_fdiv_cancel_left _ l0]
  have e2 : b2.fdiv l = b := by rw [hb, Int.mul_fdiv_cancel_left _ l0]
  have e3 : t2.fdiv r = c := by rw [hc, Int.mul_fdiv_cancel_left _ (by omega)]
  have e4 : b1.fdiv r = d := by rw [hd, Int.mul_fdiv_cancel_left _ (by omega)]
  have gl : Int.gcd t1 b2 = l.natAbs := by rw [hl, dv_abs]
  have gr : Int.gcd t2 b1 = r.natAbs := by rw [hr, dv_abs]
  have la : 0 < l.natAbs := by omega
  have ra : 0 < r.natAbs := by omega
  have cab : Int.gcd a b = 1 := by
    rw [ha, hb, Int.gcd_mul_left] at gl
    exact Nat.eq_of_mul_eq_mul_left la (by omega)
  have ccd : Int.gcd c d = 1 := by
    rw [hc, hd, Int.gcd_mul_left] at gr
    exact Nat.eq_of_mul_eq_mul_left ra (by omega)
  have cad : Int.gcd a d = 1 := cop_dvd c1 ⟨l, by rw [ha, Int.mul_comm]⟩ ⟨r, by rw [hd, Int.mul_comm]⟩
  have cbc : Int.gcd c b = 1 := cop_dvd c2 ⟨r, by rw [hc, Int.mul_comm]⟩ ⟨l, by rw [hb, Int.mul_comm]⟩
  have dp : 0 < d := by
    rcases Int.lt_trichotomy d 0 with z | z | z
    · have := Int.mul_neg_of_pos_of_neg r0 z; omega
    · subst z; omega
    · exact z
  have bp : 0 < b := by
    rcases Int.lt_or_gt_of_ne h2 with z | z
    · have ln : l < 0 := by
        rw [hl]; unfold dv; rw [if_pos z]; have := gcd_pos (t := t1) h2; omega
      rcases Int.lt_trichotomy b 0 with y | y | y
      · have := Int.mul_pos_of_neg_of_neg ln y; omega
      · subst y; omega
      · exact y
    · have lp : 0 < l := by
        rw [hl, dv_pos z]; have := gcd_pos (t := t1) h2; omega
      rcases Int.lt_trichotomy b 0 with y | y | y
      · have := Int.mul_neg_of_pos_of_neg lp y; omega
      · subst y; omega
      · exact y
  have lw := low (n := a * c) (d := d * b) (Int.mul_pos dp bp) ?_
  · have ee : Rat.divInt (t1 * t2) (b1 * b2) = Rat.divInt (a * c) (d * b) := by
      rw [Rat.divInt_eq_divInt_iff (Int.mul_ne_zero (by omega) h2) (Int.mul_ne_zero (by omega) (by omega))]
      rw [ha, hb, hc, hd]; grind
    rw [e1, e2, e3, e4, ee]
    exact ⟨lw.1.symm, lw.2.symm⟩
  · exact cop_mul cad cab ccd cbc
theorem mul_eq (r q : Rat) : Rat.divInt (r.num * q.num) (r.den * q.den) = r * q := by
  rw [← Rat.divInt_mul_divInt, Rat.num_divInt_den, Rat.num_divInt_den]
theorem neg_ok (r : Rat) : (0 - r.num) = (-r).num ∧ (r.den : Int) = ((-r).den : Int) := by
  constructor
  · rw [Rat.neg_num]; omega
  · rw [Rat.neg_den]
theorem sub_eq (r q : Rat) : r + -q = r - q := (Rat.sub_eq_add_neg r q).symm
theorem lt_ok (r q : Rat) : decide (r.num * q.den < q.num * r.den) = decide (r < q) := by
  rw [decide_eq_decide, Rat.lt_iff]
theorem fq_inj {r q : Rat} (h1 : r.num = q.num) (h2 : (r.den : Int) = q.den) : r = q := Rat.ext h1 (by omega)
end Tc
namespace L2
open PySem PySem.Spec PyProof.Rows
/-! ### own rules: large ints, isinstance, steps of a range, calls by a bundled fact -/
theorem bt_abs : bootBuiltins "abs" = some (.builtin "abs") := by decide +kernel
theorem bt_isinstance : bootBuiltins "isinstance" = some (.builtin "isinstance") := by decide +kernel
theorem bt_int : bootBuiltins "int" = some (.type "int") := by decide +kernel
theorem bt_bool : bootBuiltins "bool" = some (.type "bool") := by decide +kernel
theorem bt_str : bootBuiltins "str" = some (.type "str") := by decide +kernel
theorem bt_list : bootBuiltins "list" = some (.type "list") := by decide +kernel
theorem bt_tuple : bootBuiltins "tuple" = some (.type "tuple") := by decide +kernel
theorem bt_dict : bootBuiltins "dict" = some (.type "dict") := by decide +kernel
section
variable {X : Cx}
/-- a product: the bits of both are few -/
theorem op_mulB : OpR X (binaryOp .Mult) (rI IntMulOk fun i j => .int (i * j)) := opI fun _ _ _ _ _ _ _ hc q => mul_int q hc
def CDivB (_ j : Int) : Prop := j ≠ 0 ∧ j.natAbs.log2 < 9000
theorem op_fdivB : OpR X (binaryOp .FloorDiv) (rI CDivB fun i j => .int (i.fdiv j)) := opI fun _ _ _ _ _ _ _ hc q => floordiv_int hc.1 q (.inl (PyProof.noPylong_of_log2 hc.2))
theorem log2_lt {n k : Nat} (h : n < 2 ^ k) (hk : 0 < k) : n.log2 < k := by
  rcases Nat.eq_zero_or_pos n with h0 | hp
  · subst h0
    have : Nat.log2 0 = 0 := by decide
    omega
  · exact (Nat.log2_lt (Nat.ne_of_gt hp)).mpr h
theorem mulOk_of {a b : Int} (k : Nat) (ha : a.natAbs < 2 ^ k) (hb : b.natAbs < 2 ^ k) (h : k ≤ 67108864) : IntMulOk a b := by
  have bits : ∀ x : Int, x.natAbs < 2 ^ k → Builtin.Int.intBits x ≤ k := fun x hx => by
    unfold Builtin.Int.intBits
    split
    · exact Nat.zero_le _
    · rename_i hx0
      rcases Nat.eq_zero_or_pos k with h0 | hp
      · subst h0
        have : x = 0 := by
          have : x.natAbs < 1 := hx
          omega
        simp [this] at hx0
      · have := log2_lt hx hp
        omega
  exact IntMulOk.of_le (bits a ha) (bits b hb) (by omega)
theorem divB_of {i j : Int} (h : j ≠ 0) (hb : j.natAbs < 2 ^ 9000) : CDivB i j := ⟨h, log2_lt hb (by decide)⟩

/-- isinstance(x, T), T a built-in type -/
theorem call_isi : CallR X (.builtin "isinstance") (fun xs H Q => ∃ x n t b, xs = [x, .ty n] ∧ TyOf X.K H x t ∧ PySem.W.kitOne X.K t (.type n) = some b ∧ Q (.bl b) H) := by
  intro pins s σ H xs us Q I r h
  obtain ⟨x, n, t, b, rfl, ty, e, q⟩ := h
  obtain ⟨u, u', rfl, ru, ru'⟩ := vals2 r
  cases ru'
  exact isinst_ok I ru ty e fun tk => ⟨.bl b, H, I.tok tk, rfl, q⟩
/-! ### a range with a step -/
def ItrS (lo c : Int) (n : Nat) : It := ⟨fun i _ => i < n, fun i H x H' => H' = H ∧ x = .int (lo + (i : Int) * c), fun i _ => n ≤ i⟩
theorem turn_rangeS {P : Program} {w : World} {K : PySem.W.Frag} {tg : Expr} (it : Addr) (lo c : Int) (n : Nat) : Turn P w K tg (ItrS lo c n) [it] it (fun i h => IsRangeIter h it (lo + (i : Nat) * c) ((n : Int) - (i : Nat)) c) where
  mem := by simp
  obj := fun i h st b hb => by
    have e : b = it := by simpa using hb
    subst e
    exact ⟨_, st, fun v z => by
      have z' : Data.fields _ = Data.cell v := z
      cases z'⟩
  keep := fun i h h' st k => k it (by simp) _ st
  item := by
    intro X hP hw hK hc i pins s σ H E I hf st hg
    subst hP hw hK
    obtain ⟨f0, f1, f2, f3, f4, f5⟩ := hf it (by simp)
    have W := Walks.range (prog := X.prog) (w := X.w) (I.ok.hd hc) it lo c n
    refine W.item i s _ _ hg st fun v h' tk hv st' kk => ?_
    obtain ⟨t, rfl⟩ := hv
    have I1 : Inv X pins σ H { s with heap := h', toks := tk } := I.turned (fun b o hb e => kk b o (by simpa using hb) e) f0 f1 f3 f4 f5
    exact ⟨_, rfl, go_of (s := { s with heap := h', toks := tk }) (n := "range_iterator") st' rfl rfl (by decide) ⟨.int (lo + (i : Int) * c), H, I1, ⟨t, rfl⟩, ⟨rfl, rfl⟩, st', fun b hb => (hf b hb).1⟩⟩
  done := by
    intro X hP hw hK hc i pins s σ H E I hf st hg
    subst hP hw hK
    obtain ⟨f0, f1, f2, f3, f4, f5⟩ := hf it (by simp)
    exact wpAny_pyNext_range_end (I.ok.hd hc) st (by have : n ≤ i := hg; omega) fun h' eb => ⟨rfl, I.turned (t' := s.toks) (fun b o hb e => eb b o hb e) f0 f1 f3 f4 f5⟩
  self := fun _ _ _ _ _ st h => wpAny_pyIter_rangeiter st h
theorem for_rangeS {lo c : Int} {n : Nat} {g : TG} {tb : TS} {D : Ends} {σ : St} {H : Hp} (Pv : Nat → St → Hp → Prop) (h0 : Pv 0 σ H)
    (hs : ∀ i σ H, i < n → Pv i σ H → g (.int (lo + (i : Int) * c)) σ H fun σ2 H2 => tb { D with nx := Pv (i + 1), ct := Pv (i + 1), bk := D.nx } σ2 H2) (hd : ∀ σ H, Pv n σ H → D.nx σ H) :
    ∃ W : Nat → Nat → St → Hp → Prop, (∃ m, W 0 m σ H) ∧ ∀ i m σ H, W i m σ H →
      ((ItrS lo c n).stop i H ∧ D.nx σ H) ∨ ((ItrS lo c n).go i H ∧ ∃ N : St → Hp → Prop, (∀ σ' H', N σ' H' → ∃ m', m' < m ∧ W (i + 1) m' σ' H') ∧ ∀ x H', (ItrS lo c n).yld i H x H' → g x σ H' fun σ2 H2 => tb { D with nx := N, ct := N, bk := D.nx } σ2 H2) := by
  refine ⟨fun i m σ H => m = n - i ∧ i ≤ n ∧ Pv i σ H, ⟨n, by simp, Nat.zero_le _, h0⟩, ?_⟩
  rintro i m σ H ⟨rfl, hi, p⟩
  by_cases hlt : i < n
  · refine .inr ⟨hlt, Pv (i + 1), fun σ' H' p' => ⟨n - (i + 1), by omega, rfl, hlt, p'⟩, fun x H' y => ?_⟩
    obtain ⟨e, y⟩ := y
    subst e y
    exact hs i σ _ hlt p
  · have e : i = n := by omega
    subst e
    exact .inl ⟨Nat.le_refl _, hd σ H p⟩
end

/-! ### a def of the top, as a caller wants it -/
/-- the def called x keeps the promise sp, at k frames -/
structure FnAt (P : Program) (w : World) (K : PySem.W.Frag) (mg : Str → Option Value) (base : Heap) (CX : CXT) (k : Nat) (x : Str) (ps : List Str) (sp : Sp) : Prop where
  ex : ∃ (f : Addr) (fd : FuncData), FnOk P w K mg base CX k f fd ps sp ∧ mg x = some (.ref f) ∧ PySem.W.keepIn K (.ref f) = true ∧ Binds K fd ps []
/-- the def called x stands in the text as st -/
structure DefAt (K : PySem.W.Frag) (mg : Str → Option Value) (x : Str) (st : Stmt) : Prop where
  ex : ∃ (f : Addr) (fd : FuncData), Fun K x x st f fd ∧ mg x = some (.ref f)
theorem DefAt.mk' {K : PySem.W.Frag} {h : Heap} {mg : Str → Option Value} {x : Str} {st : Stmt} {f : Addr} {oc : Value} {od an : Option Addr} {osl : Array (Option Value)} {kV doc pm cdv ct : Value} (X : K.In h) (G : h.Ns mainGlobals mg)
    (a : PySem.W.nsIn K mainGlobals x = some (some (.ref f))) (l : K.lookup f = some ⟨oc, od, .func (PySem.W.fnOf x x (defArgs st) (defBody st) (defScope st) .none kV doc pm an cdv ct), osl⟩)
    (c : PySem.W.codeIn K cdv x = true) (k : PySem.W.keepIn K (.ref f) = true) : DefAt K mg x st := ⟨f, _, fun_mk (st := st) l c k, PySem.W.mg_of X G a⟩
section
variable {P : Program} {w : World} {K : PySem.W.Frag} {mg : Str → Option Value} {base : Heap}
/-- THE RULE for a def of the top -/
theorem DefAt.ok {x : Str} {st : Stmt} {N ps : List Str} {k : Nat} {sp : Sp} (D : DefAt K mg x st) (S : FnScope N ps (defScope st)) (len : ∀ vs H Q E, sp vs H Q E → vs.length = ps.length)
    (hb : ∀ (kV doc pm : Value) (an : Option Addr) (cdv ct : Value) (us : List Value), us.length = ps.length → bindArgs (PySem.W.fnOf x x (defArgs st) (defBody st) (defScope st) .none kV doc pm an cdv ct) ⟨us, []⟩ = pure (ps.zip us))
    (hbody : ∀ (f : Addr) (cdv : Value) (A : Around) (outer : List Env) (s : Shared) (H : Hp) (vs : List V) (Q : VK) (E : XK), Room k (A.deeper (envOfC x (defScope st) s.heap.objs.size f cdv)) → sp vs H Q E →
      ∃ t, PSs (cxOf CX0 P w K mg base N x (defScope st) f cdv A outer s H E).nox (defBody st) t ∧ t { nx := fun _ H' => Q .non H', rt := Q } (start N vs) H) : FnAt P w K mg base CX0 (k + 1) x ps sp := by
  obtain ⟨f, fd, F, m⟩ := D.ex
  exact ⟨f, fd, F.ok S len fun cdv A outer s H vs Q E hr h => hbody f cdv A outer s H vs Q E hr h, m, F.kp, F.binds hb⟩
end
section
variable {X : Cx} {CX : CXT} {k j : Nat} {ps : List Str} {sp : Sp} {E : XK} {x : Str} {p pos : Pos} {e : Expr} {es : List Expr} {t : TA}
theorem pe_fn (F : FnAt X.prog X.w X.K X.mg X.base CX j x ps sp) (hr : Room k X.A) (hg : Gl X x) (hx : Passes CX X E) (ha : PA X (e :: es) t) (hj : j ≤ k := by decide)
    (hdb : (x == ("__debug__" : Str)) = false := by decide) (he : starEach (e :: es) X.env = (false, eval e X.env) :: starEach es X.env := by rfl) (hpl : (backTo pos (starEach es X.env)).any (·.1) = false := by rfl) :
    PE X (.Call (.Name x p) (e :: es) [] pos) (tCall sp [] E t) := by
  obtain ⟨f, fd, G, m, kp, b⟩ := F.ex
  exact pe_call G (hr.mono hj) hg m kp b .nil hx ha hdb he hpl
end
end L2
namespace L2
open PySem PySem.Spec PyProof.Rows
/-! ### kinds of values, for isinstance -/
/-- the name of a tracked thing's type -/
def tyH : Option HO → Option String
  | some (.lst _) => some "list"
  | some (.frz _ (.lst _)) => some "list"
  | some (.tup _) => some "tuple"
  | some (.dK _) => some "dict"
  | some (.dT _) => some "dict"
  | _ => none
/-- the name of a value's type, as far as the abstract heap knows it -/
def tyS (H : Hp) : V → Option String
  | .non => some "NoneType"
  | .bl _ => some "bool"
  | .int _ => some "int"
  | .str _ => some "str"
  | .ref a => tyH (H a)
  | _ => none
theorem tyH_cases {o : Option HO} {n : String} (h : tyH o = some n) :
    (n = "list" ∧ ((∃ xs, o = some (.lst xs)) ∨ ∃ ob xs, o = some (.frz ob (.lst xs)))) ∨ (n = "tuple" ∧ ∃ xs, o = some (.tup xs)) ∨ (n = "dict" ∧ ((∃ kvs, o = some (.dK kvs)) ∨ ∃ kvs, o = some (.dT kvs))) := by
  cases o with
  | none => cases h
  | some u =>
    cases u with
    | lst xs => cases h; exact .inl ⟨rfl, .inl ⟨xs, rfl⟩⟩
    | tup xs => cases h; exact .inr (.inl ⟨rfl, xs, rfl⟩)
    | dK kvs => cases h; exact .inr (.inr ⟨rfl, .inl ⟨kvs, rfl⟩⟩)
    | dT kvs => cases h; exact .inr (.inr ⟨rfl, .inr ⟨kvs, rfl⟩⟩)
    | frz ob v =>
      cases v with
      | lst xs => cases h; exact .inl ⟨rfl, .inr ⟨ob, xs, rfl⟩⟩
      | _ => cases h
    | _ => cases h
theorem tyOf_of {K : PySem.W.Frag} {H : Hp} {v : V} {n : String} (h : tyS H v = some n) : TyOf K H v (.type n) := by
  cases v with
  | non => cases h; exact .non
  | bl b => cases h; exact .bl b
  | int i => cases h; exact .int i
  | str x => cases h; exact .str x
  | byt b => cases h
  | flt b => cases h
  | ty b => cases h
  | ref a =>
    rcases tyH_cases (show tyH (H a) = some n from h) with ⟨rfl, ⟨xs, e⟩ | ⟨ob, xs, e⟩⟩ | ⟨rfl, xs, e⟩ | ⟨rfl, ⟨kvs, e⟩ | ⟨kvs, e⟩⟩
    · exact .lst e
    · exact .frz e
    · exact .tup e
    · exact .dK e
    · exact .dT e
def subS (n m : String) : Bool := n == m || (n == "bool" && m == "int")
theorem kit_tt {K : PySem.W.Frag} {n m : String} (hn : n ∈ ["NoneType", "bool", "int", "str", "list", "tuple", "dict"]) (hm : m ∈ ["int", "bool", "str", "list", "tuple", "dict"]) :
    PySem.W.kitOne K (.type n) (.type m) = some (subS n m) := by
  simp only [List.mem_cons, List.not_mem_nil, or_false] at hn hm
  rcases hn with rfl | rfl | rfl | rfl | rfl | rfl | rfl <;> rcases hm with rfl | rfl | rfl | rfl | rfl | rfl <;> first | rfl | (with_unfolding_all rfl) | decide +kernel
theorem Same.upd {H : Hp} {p : Addr} {o : HO} (h : H p = none) : Same H (upd H p o) := fun b u e => by
  rw [upd_ne (ne_of_none e h)]; exact e
end L2
namespace L2
open PySem PySem.Spec PyProof.Rows
/-! ### exceptions: what lies behind a call that raises -/
section
variable {P : Program} {w : World} {H H' : Hp} {h h' : Heap} {a : Addr} {o : HO}
theorem ObjOk.there (x : ObjOk P w H h a o) : ∃ ob, h.get? a = some ob := by
  cases o with
  | lst xs => obtain ⟨_, _, _, _, e⟩ := x; exact ⟨_, e⟩
  | tup xs => obtain ⟨_, _, _, ob, e, _⟩ := x; exact ⟨ob, e⟩
  | dK kvs => obtain ⟨_, _, _, _, ob, _, _, e, _⟩ := x; exact ⟨ob, e⟩
  | dT kvs => obtain ⟨_, _, _, _, ob, _, _, e, _⟩ := x; exact ⟨ob, e⟩
  | set S n => obtain ⟨ob, _, _, _, e, _⟩ := x; exact ⟨ob, e⟩
  | ins C dx fs => obtain ⟨_, _, _, e, _⟩ := x; exact ⟨_, e⟩
  | own y => obtain ⟨ob, e⟩ := x; exact ⟨ob, e⟩
  | xd fs => obtain ⟨_, ⟨ob, _, _, e, _⟩, _⟩ := x; exact ⟨ob, e⟩
  | rng lo hi => obtain ⟨_, _, _, e⟩ := x; exact ⟨_, e⟩
  | frz ob u => obtain ⟨e, _⟩ := x; exact ⟨_, e⟩
  | tbl ps => exact ⟨_, (show h.get? a = some _ from x)⟩
  | met f y => exact ⟨_, (show h.get? a = some _ from x)⟩
  | ext φ => obtain ⟨_, ⟨ob, e⟩, _⟩ := x; exact ⟨ob, e⟩
theorem HOk.via (x : HOk P w H h) (k : ∀ b u ob, H b = some u → h.get? b = some ob → h'.get? b = some ob) : HOk P w H h' := fun b u e =>
  (x b u e).stay (fun c ob hc q => by
    rcases hc with z | z
    · subst z; exact k c u ob e q
    · exact k c _ ob z q) (fun _ q => q) fun _ _ q => q
end
/-- all but the exception's own records is as it was; B holds it all -/
structure Kp (P : Program) (w : World) (outer : List Env) (H : Hp) (h : Heap) (H' : Hp) (h' : Heap) (B : Heap) : Prop where
  hok : HOk P w H' h'
  un : Un (frs outer) [] H H' h h'
  old : ∀ b o, h.get? b = some o → H b = none → b ∉ frs outer → B.get? b = some o
  has : ∀ b o, h.get? b = some o → b ∉ frs outer → ∃ o', B.get? b = some o'
  trk : ∀ b u, H' b = some u → ∃ o, h'.get? b = some o ∧ B.get? b = some o
section
variable {X : Cx} {pins : List (Addr × Obj)} {σ : St} {H1 H2 : Hp} {s1 : Shared} {h2 h3 B : Heap} {a : Addr} {C a0 : Value} {vs : List Value}
/-- made and thrown here -/
theorem Kp.raise (I : Inv X pins σ H1 s1) (hx : Heap.MadeExcOf s1.heap h2 a C vs) : Kp X.prog X.w X.stack H1 s1.heap H1 h2 (PySem.W.hideAll s1.heap (frs X.stack)) where
  hok := I.hok.kept hx.keeps
  un := Un.kept hx.keeps
  old := fun b o e _ hb => PySem.W.hideAll_get _ e hb
  has := fun b o e hb => ⟨o, PySem.W.hideAll_get _ e hb⟩
  trk := fun b u e => by
    obtain ⟨o, q⟩ := (I.hok b u e).there
    refine ⟨o, hx.keeps b o q, PySem.W.hideAll_get _ q fun hb => ?_⟩
    rw [I.stkFree b hb] at e; cases e
/-- up to slots, and B kept: the same state for the frame at hand -/
theorem Kp.slots (I : Inv X pins σ H1 s1) (K : Kp X.prog X.w X.stack H1 s1.heap H2 h2 B) (st : B.StaysIn h3) (sl : h2.UpToSlots h3) : Kp X.prog X.w X.stack H1 s1.heap H2 h3 B := by
  have trk3 : ∀ b u, H2 b = some u → ∃ o, h3.get? b = some o ∧ B.get? b = some o := fun b u e => by
    obtain ⟨o, _, q⟩ := K.trk b u e
    exact ⟨o, st b o q, q⟩
  have fr : ∀ b o, s1.heap.get? b = some o → H1 b = none → b ∈ frs X.stack → ∃ sl, h3.get? b = some { o with slots := sl } := fun b o e n hb => by
    obtain ⟨sl1, e1⟩ := K.un.slot b o e n hb (by simp)
    obtain ⟨_, o', e', d⟩ := I.stack.mem hb
    rw [e] at e'
    cases e'
    obtain ⟨sl2, e2⟩ := sl b _ e1 d
    exact ⟨sl2, e2⟩
  refine ⟨K.hok.via fun b u ob e q => ?_, ⟨fun b o e n hb _ => st b o (K.old b o e n hb), fun b o e n hb _ => fr b o e n hb, K.un.free, fun b o e hx => ?_, K.un.tups, K.un.frzs, K.un.tbls⟩, K.old, K.has, trk3⟩
  · obtain ⟨o, q1, q2⟩ := K.trk b u e
    rw [q] at q1
    cases q1
    exact st b ob q2
  · by_cases hb : b ∈ frs X.stack
    · obtain ⟨sl1, e1⟩ := fr b o e (I.stkFree b hb) hb
      exact ⟨_, e1⟩
    · obtain ⟨o', e'⟩ := K.has b o e hb
      exact ⟨o', st b o' e'⟩
end
section
variable {P : Program} {w : World} {K : PySem.W.Frag} {mg : Str → Option Value} {base : Heap} {N : List Str} {qual : Str} {scope : Scope} {f : Addr} {cd : Value} {A : Around} {outer : List Env} {s : Shared} {H : Hp} {E : XK}
end
/-! ### raise C(..), C a class of the text under a built-in error, without an __init__ -/
section
variable {X : Cx} {E : XK} {C : Addr} {B newId initId : String} {bmB : List Value} {x : Str} {np cpos pos : Pos} {e₀ : Expr} {rest : List Expr} {t : TA}
end
end L2
namespace L2
open PySem PySem.Spec PyProof.Rows
/-! ### try: .. except C as n: .. -/
section
variable {X : Cx} {pins : List (Addr × Obj)} {σ : St} {H H1 H2 : Hp} {s s1 s2 : Shared} {B : Heap}
/-- the context of an except suite -/
abbrev Cx.hand (X : Cx) (a : Addr) : Cx := { X with A := X.A.mark (some (.ref a)), calm := false, xe := fun _ _ => False }
theorem Inv.hand (I : Inv X pins σ H s) (a : Addr) : Inv (X.hand a) pins σ H s :=
  ⟨⟨I.ok.mod, I.ok.kind, I.ok.glob, I.ok.blt, I.ok.above, I.ok.inj, I.ok.has, I.ok.cab, fun z => (Bool.false_ne_true z).elim, I.ok.frames, I.ok.stk, I.ok.exf, I.ok.bs, I.ok.bsz, I.ok.noex, I.ok.exfs, I.ok.funs, I.ok.frf⟩,
    I.os, I.bare, I.base, I.loc, I.cell, I.free, I.freeC, I.pin, I.hok, I.len⟩
end
/-- an exception as a tracked thing: of the class C -/
def excO (a : Addr) (C : Value) : HO := .ext fun h => ∃ oe vs, h.get? a = some oe ∧ oe.cls = C ∧ oe.data = .fields vs
section
variable {X : Cx} {k j : Nat} {ps : List Str} {sp : Sp} {x : Str} {p pos : Pos} {e : Expr} {es : List Expr} {t : TA}
theorem PA.nox {es : List Expr} {t : TA} (h : PA X.nox es t) : PA X es t := fun pos pins s σ H Q I hw =>
  wpAny_mono (h pos pins s σ H Q (I.wish _) hw) (fun us s' ⟨vs, H', I', r, q⟩ => ⟨vs, H', I'.unwish, r, q⟩) fun _ _ z => z.elim
end
section
variable {X : Cx} {pins : List (Addr × Obj)} {σ : St} {H : Hp} {s : Shared} {a : Addr} {o : HO}
/-- a thing that lies in the heap, younger than the entry, is tracked from here on -/
theorem Inv.track (I : Inv X pins σ H s) (hn : H a = none) (hnew : X.s₀.heap.get? a = none) (hL : a ≠ X.env.locals) (hC : ∀ x c, X.env.cells.lookup x = some c → c ≠ a) (hP : ∀ p ∈ X.pn ++ pins, p.1 ≠ a)
    (ho : ObjOk X.prog X.w (upd H a o) s.heap a o) : Inv X pins σ (upd H a o) s := by
  have ne : ∀ b u, H b = some u → b ≠ a := fun b u e z => by rw [z, hn] at e; cases e
  refine ⟨I.ok, I.os, I.bare, ⟨I.base.keep, I.base.slot, fun b ob e n hx => ?_, I.base.there, fun b xs e => ?_, fun b ob u e => ?_, fun b ps e => ?_⟩, I.loc, I.cell, ?_, fun x c e => ?_, fun p hp => ?_, fun b u e => ?_, I.len⟩
  · rw [upd_ne (fun z => by rw [z, hnew] at e; cases e)]
    exact I.base.free b ob e n hx
  · have q := I.base.tups b xs e
    rw [upd_ne (ne b _ q)]; exact q
  · have q := I.base.frzs b ob u e
    rw [upd_ne (ne b _ q)]; exact q
  · obtain ⟨m, q⟩ := I.base.tbls b ps e
    exact ⟨m, by rw [upd_ne (ne b _ q)]; exact q⟩
  · rw [upd_ne (Ne.symm hL)]; exact I.free
  · rw [upd_ne (hC x c e)]; exact I.freeC x c e
  · obtain ⟨e1, e2, e3⟩ := I.pin p hp
    exact ⟨e1, by rw [upd_ne (hP p hp)]; exact e2, e3⟩
  · by_cases z : b = a
    · subst z; rw [upd_same] at e; cases e; exact ho
    · rw [upd_ne z] at e
      exact (I.hok b u e).stay (fun _ _ _ q => q) (fun c q => by rw [upd_ne (ne c _ q)]; exact q) fun c xs q => by rw [upd_ne (ne c _ q)]; exact q
end
/-- the ends of a suite whose own name goes -/
def handEnds (i : Nat) (D : Ends) : Ends where
  nx := fun σ' H' => D.nx (σ'.set i none) H'
  rt := D.rt
  bk := fun σ' H' => D.bk (σ'.set i none) H'
  ct := fun σ' H' => D.ct (σ'.set i none) H'
section
variable {X : Cx} {x n : Str} {C' : Addr} {i : Nat} {np pos : Pos} {b₀ : Stmt} {suite : List Stmt} {rest : List ExceptHandler} {ts : TS} {tr : Value → TS}
def hAs (K : PySem.W.Frag) (C' : Addr) (i : Nat) (ts : TS) (tr : Value → TS) : Value → TS := fun C D σ H => ∃ b, PySem.W.exmOne K C (.ref C') = some b ∧
  if b = true then ∀ a, H a = none → ts (handEnds i D) (σ.set i (some (.ref a))) (upd H a (excO a C)) else tr C D σ H
end
end L2
namespace L2
open PySem PySem.Spec PyProof.Rows PySem.W PySem.Builtin PySem.Builtin.ObjectAttr PySem.Builtin.Getset_descriptor
/-! ### isinstance of a caught exception -/
section
variable {prog : Program} {w : World} {A : Around} {E : Value → Shared → Prop}
/-- what isinstance asks of the class of a caught exception -/
structure ExcK (K : Frag) (C : Addr) : Prop where
  ga : findIn K (.ref C) "__getattribute__" = some (some (.builtin "BaseException.__getattribute__"))
  g2 : findIn K (.ref C) "__getattr__" = some none
  cl : findIn K (.ref C) "__class__" = some (some (.builtin "object.__class__"))
  mB : mroIn K C (.type "BaseException") = some true
  mO : mroIn K C (.type "object") = some true
theorem ExcK.cls {K : Frag} {C : Addr} (k : ExcK K C) : ∃ c d cd sl, K.lookup C = some ⟨c, d, .cls cd, sl⟩ := by
  have h := k.mO
  unfold mroIn clsIn at h
  split at h
  · rename_i c d cd sl e; exact ⟨c, d, cd, sl, e⟩
  · cases h
end
section
variable {X : Cx}
end
end L2
namespace L2
open PySem PySem.Spec PyProof.Rows
/-! ### a list comprehension of one for, with at most one if: its block is a context of its own within the def's -/
/-- the cells that a block takes from around it -/
def closOf (cells : List (Str × Addr)) : List (Str × NameKind) → List (Str × Addr) → List (Str × Addr)
  | [], cs => cs
  | x :: r, cs => closOf cells r (if x.2 == .free then (match cells.lookup x.1 with | some a => (x.1, a) :: cs | none => cs) else cs)
theorem closureFor_eq {scope : Scope} {env : Env} (h : ∀ x ∈ scope.names, x.2 = .free → ∃ a, env.cells.lookup x.1 = some a) : closureFor scope env = pure (closOf env.cells scope.names []) := by
  have aux : ∀ (names : List (Str × NameKind)) (cs : List (Str × Addr)), (∀ x ∈ names, x.2 = .free → ∃ a, env.cells.lookup x.1 = some a) →
      (forIn (m := Sem) names cs fun x r => do
        if (x.2 == NameKind.free) = true then do
          let a ← cellOf env x.1
          pure (ForInStep.yield ((x.1, a) :: r))
        else pure (ForInStep.yield r)) = pure (closOf env.cells names cs) := by
    intro names
    induction names with
    | nil => intro cs _; rfl
    | cons x r ih =>
      intro cs hx
      rw [List.forIn_cons]
      cases hk : (x.2 == NameKind.free) with
      | false =>
        simp only [Bool.false_eq_true, if_false, pure_bind]
        rw [ih cs fun y hy => hx y (List.mem_cons_of_mem _ hy)]
        show _ = pure (closOf env.cells r (if x.2 == .free then _ else cs))
        rw [hk]; rfl
      | true =>
        obtain ⟨a, ha⟩ := hx x List.mem_cons_self (by simpa using hk)
        have e : cellOf env x.1 = pure a := by unfold cellOf; rw [ha]
        simp only [if_true, e, pure_bind]
        rw [ih _ fun y hy => hx y (List.mem_cons_of_mem _ hy)]
        show _ = pure (closOf env.cells r (if x.2 == .free then (match env.cells.lookup x.1 with | some a => (x.1, a) :: cs | none => cs) else cs))
        rw [hk, ha]; rfl
  have h1 := aux scope.names [] h
  unfold closureFor
  simp only [bind_pure]
  exact h1
theorem closOf_sub {cells : List (Str × Addr)} : ∀ {names : List (Str × NameKind)} {cs : List (Str × Addr)}, (∀ p ∈ cs, cells.lookup p.1 = some p.2) → ∀ p ∈ closOf cells names cs, cells.lookup p.1 = some p.2
  | [], _, h => h
  | x :: r, cs, h => closOf_sub (names := r) fun p hp => by
    split at hp
    · split at hp
      · rename_i a ha
        rcases List.mem_cons.mp hp with rfl | hp
        · exact ha
        · exact h p hp
      · exact h p hp
    · exact h p hp
theorem closOf_mono {cells : List (Str × Addr)} : ∀ {names : List (Str × NameKind)} {cs : List (Str × Addr)} {p : Str × Addr}, p ∈ cs → p ∈ closOf cells names cs
  | [], _, _, h => h
  | x :: r, cs, p, h => closOf_mono (names := r) (by
    split
    · split
      · exact List.mem_cons_of_mem _ h
      · exact h
    · exact h)
theorem closOf_has {cells : List (Str × Addr)} {x : Str} {a : Addr} (ha : cells.lookup x = some a) : ∀ {names : List (Str × NameKind)} {cs : List (Str × Addr)}, (x, NameKind.free) ∈ names → (x, a) ∈ closOf cells names cs
  | y :: r, cs, h => by
    rcases List.mem_cons.mp h with rfl | h
    · refine closOf_mono (names := r) ?_
      simp [ha]
    · exact closOf_has ha (names := r) h
theorem lookup_mem {α : Type} {x : Str} {v : α} : ∀ {l : List (Str × α)}, l.lookup x = some v → (x, v) ∈ l
  | [], h => by simp at h
  | (y, u) :: r, h => by
    rw [List.lookup_cons] at h
    cases e : x == y with
    | true => rw [e] at h; cases h; rw [beq_iff_eq.mp e]; exact List.mem_cons_self
    | false => rw [e] at h; exact List.mem_cons_of_mem _ (lookup_mem h)
theorem mem_lookup {α : Type} {x : Str} {v : α} : ∀ {l : List (Str × α)}, (x, v) ∈ l → ∃ u, l.lookup x = some u
  | (y, u) :: r, h => by
    rw [List.lookup_cons]
    cases e : x == y with
    | true => exact ⟨u, rfl⟩
    | false =>
      rcases List.mem_cons.mp h with z | z
      · cases z; simp at e
      · exact mem_lookup z
/-- a block's scope within the scope osc of names N: Tn its own names, Fn those that it takes, which stand at js -/
def compOk (osc scope : Scope) (N Tn Fn : List Str) (js : List Nat) : Bool :=
  (scope.kind == .function) && (osc.kind == .function) && (scope.names.all fun y => match y.2 with
    | .cell => false
    | .local => scope.names.lookup y.1 == some .local
    | .free => osc.names.lookup y.1 == some .cell && scope.names.lookup y.1 == some .free
    | _ => true) && (js.map (fun j => N[j]?) == Fn.map some) && (Fn.all fun x => scope.names.lookup x == some .free) && (Tn.all fun x => scope.names.lookup x == some .local) && decide (Tn ++ Fn).Nodup
structure CompScope (osc scope : Scope) (N Tn Fn : List Str) (js : List Nat) : Prop where
  kind : scope.kind = .function
  okind : osc.kind = .function
  nocell : ∀ y ∈ scope.names, y.2 ≠ .cell
  loc : ∀ y ∈ scope.names, y.2 = .local → scope.names.lookup y.1 = some .local
  fre : ∀ y ∈ scope.names, y.2 = .free → osc.names.lookup y.1 = some .cell
  idx : js.map (fun j => N[j]?) = Fn.map some
  fn : ∀ x ∈ Fn, scope.names.lookup x = some .free
  tn : ∀ x ∈ Tn, scope.names.lookup x = some .local
  nd : (Tn ++ Fn).Nodup
theorem CompScope.of {osc scope : Scope} {N Tn Fn : List Str} {js : List Nat} (h : compOk osc scope N Tn Fn js = true) : CompScope osc scope N Tn Fn js := by
  unfold compOk at h
  simp only [Bool.and_eq_true, beq_iff_eq, decide_eq_true_eq, List.all_eq_true] at h
  obtain ⟨⟨⟨⟨⟨⟨h1, h1'⟩, h2⟩, h3⟩, h4⟩, h5⟩, h6⟩ := h
  refine ⟨h1, h1', fun y hy e => ?_, fun y hy e => ?_, fun y hy e => ?_, h3, h4, h5, h6⟩
  · have := h2 y hy; rw [e] at this; cases this
  · have := h2 y hy; rw [e] at this; simpa using this
  · have := h2 y hy; rw [e] at this; simp only [Bool.and_eq_true, beq_iff_eq] at this; exact this.1
def cxIn (X : Cx) (N : List Str) (scope : Scope) (cl : List (Str × Addr)) (C : Addr) (s : Shared) (H : Hp) (fp : List Addr) : Cx :=
  { X with N := N, s₀ := s, H₀ := H, env := compEnvC scope cl C X.env, outer := X.stack, ex := fp, fn := fun _ => false, pn := [], xe := fun _ _ => False }
def innS (k : Nat) (js : List Nat) (σ : St) : St := List.replicate k none ++ js.map fun j => (σ[j]?).join
/-- the names of the block as they come to be within the def -/
theorem lookup_relabel {env : Env} (hk : env.scope.kind = .function) : ∀ {names : List (Str × NameKind)} {x : Str} {k : NameKind}, (∀ y ∈ names, y.2 = .free → env.kindOf y.1 = some .cell) → names.lookup x = some k →
    (names.map fun (n, k) => if (k == NameKind.free && env.scope.kind == .function && env.kindOf n == some .cell) then (n, NameKind.cell) else (n, k)).lookup x = some (if k = .free then .cell else k)
  | [], _, _, _, h => by simp at h
  | (n, k') :: r, x, k, hf, h => by
    have ih := @lookup_relabel env hk r x k fun y hy => hf y (List.mem_cons_of_mem _ hy)
    have h0 := hf (n, k') List.mem_cons_self
    rw [List.map_cons]
    show List.lookup x ((if (k' == NameKind.free && env.scope.kind == .function && env.kindOf n == some .cell) = true then (n, NameKind.cell) else (n, k')) :: _) = _
    rw [List.lookup_cons] at h
    by_cases hk' : k' = .free
    · subst hk'
      have e : (NameKind.free == NameKind.free && env.scope.kind == .function && env.kindOf n == some .cell) = true := by rw [h0 rfl, hk]; decide
      rw [if_pos e, List.lookup_cons]
      cases hx : x == n with
      | true => rw [hx] at h; cases h; rfl
      | false => rw [hx] at h; exact ih h
    · have e : ¬ (k' == NameKind.free && env.scope.kind == .function && env.kindOf n == some .cell) = true := by
        intro z; simp only [Bool.and_eq_true, beq_iff_eq] at z; exact hk' z.1.1
      rw [if_neg e, List.lookup_cons]
      cases hx : x == n with
      | true => rw [hx] at h; cases h; simp [hk']
      | false => rw [hx] at h; exact ih h
theorem relabel_of {env : Env} : ∀ {names : List (Str × NameKind)} {x : Str} {k : NameKind}, (names.map fun (n, k) => if (k == NameKind.free && env.scope.kind == .function && env.kindOf n == some .cell) then (n, NameKind.cell) else (n, k)).lookup x = some k →
    ∃ k', (x, k') ∈ names ∧ (k' = k ∨ (k' = .free ∧ k = .cell))
  | [], _, _, h => by simp at h
  | (n, k') :: r, x, k, h => by
    have ih := @relabel_of env r x k
    rw [List.map_cons] at h
    have h : List.lookup x ((if (k' == NameKind.free && env.scope.kind == .function && env.kindOf n == some .cell) = true then (n, NameKind.cell) else (n, k')) :: _) = some k := h
    by_cases e : (k' == NameKind.free && env.scope.kind == .function && env.kindOf n == some .cell) = true
    · rw [if_pos e, List.lookup_cons] at h
      cases hx : x == n with
      | true =>
        rw [hx] at h; cases h
        simp only [Bool.and_eq_true, beq_iff_eq] at e
        refine ⟨.free, ?_, .inr ⟨rfl, rfl⟩⟩
        rw [beq_iff_eq.mp hx, ← e.1.1]; exact List.mem_cons_self
      | false => rw [hx] at h; obtain ⟨q, m, z⟩ := ih h; exact ⟨q, List.mem_cons_of_mem _ m, z⟩
    · rw [if_neg e, List.lookup_cons] at h
      cases hx : x == n with
      | true => rw [hx] at h; cases h; refine ⟨k', ?_, .inl rfl⟩; rw [beq_iff_eq.mp hx]; exact List.mem_cons_self
      | false => rw [hx] at h; obtain ⟨q, m, z⟩ := ih h; exact ⟨q, List.mem_cons_of_mem _ m, z⟩
section
variable {X : Cx} {pins : List (Addr × Obj)} {σ : St} {H : Hp} {s : Shared} {scope : Scope} {Tn Fn : List Str} {js : List Nat} {fp : List Addr}
theorem inv_in {C : Addr} {h1 : Heap} {tk : Nat} {mC : Str → Option Value} (cs : CompScope X.env.scope scope X.N Tn Fn js) (I : Inv X pins σ H s) (hC : C = s.heap.objs.size) (hn : h1.Ns C mC) (k1 : ∀ b o, s.heap.get? b = some o → h1.get? b = some o)
    (hf : ∀ b ∈ fp, FpOk X pins H b) (ho : ∀ b ∈ fp, ∃ o, s.heap.get? b = some o) :
    Inv (cxIn X (Tn ++ Fn) scope (closOf X.env.cells scope.names []) C s H fp) (X.pn ++ pins) (innS Tn.length js σ) H { s with heap := h1, toks := tk } := by
  have hcl : ∀ x c, (closOf X.env.cells scope.names []).lookup x = some c → X.env.cells.lookup x = some c := fun x c e => closOf_sub (names := scope.names) (cs := []) (fun _ z => nomatch z) _ (lookup_mem e)
  have hlen : (js.map fun j => X.N[j]?).length = (Fn.map some).length := congrArg List.length cs.idx
  rw [List.length_map, List.length_map] at hlen
  have hfr : ∀ y ∈ scope.names, y.2 = .free → X.env.kindOf y.1 = some .cell := cs.fre
  subst hC
  refine ⟨⟨I.ok.mod, cs.kind, I.ok.glob, I.ok.blt, Nat.le_refl _, fun x y c e1 e2 => I.ok.inj x y c (hcl x c e1) (hcl y c e2), fun x hx => ?_, fun x c z => absurd z Bool.false_ne_true, I.ok.hd, I.ok.frames, .inl rfl, fun b hb => ⟨?_, fun x c e => (hf b hb).2.2.2.2.1 x c (hcl x c e)⟩, I.bs,
    Nat.le_trans I.ok.bsz I.sz, fun b o e hb => ?_, fun b hb z => ?_, I.stack, I.stkFree⟩, rfl, I.bare, Un.kept k1, ⟨mC, hn, fun i x v e1 e2 e3 => ?_⟩, fun x c e => ?_, I.fresh, fun x c e => I.freeC x c (hcl x c e), fun p hp => ?_, I.hok.kept k1, ?_⟩
  · -- has
    have hx : (relabel scope X.env).names.lookup x = some .cell ∨ (relabel scope X.env).names.lookup x = some .free := hx
    have key : (x, NameKind.free) ∈ scope.names := by
      rcases hx with hx | hx
      · obtain ⟨k', m, z⟩ := relabel_of hx
        rcases z with z | ⟨z, _⟩
        · subst z; exact absurd rfl (cs.nocell _ m)
        · subst z; exact m
      · obtain ⟨k', m, z⟩ := relabel_of hx
        rcases z with z | ⟨_, z⟩
        · subst z; exact m
        · cases z
    obtain ⟨a, ha⟩ := I.ok.has x (.inl (hfr _ key rfl))
    exact mem_lookup (closOf_has ha key)
  · obtain ⟨o, e⟩ := ho b hb
    exact Nat.ne_of_lt (Heap.lt_size e)
  · rcases (hf b hb).2.2.2.1 with z | z
    · exact I.ok.noex b o e z
    · exact absurd (Nat.lt_of_lt_of_le (Heap.lt_size (I.ok.bs b o e).1) z) (Nat.lt_irrefl _)
  · rcases List.mem_cons.mp (I.stkSub b z) with q | q
    · exact (hf b hb).2.1 q
    · exact (hf b hb).2.2.1 q
  · -- names
    have e1 : (Tn ++ Fn)[i]? = some x := e1
    have e2 : (List.replicate Tn.length none ++ js.map fun j => (σ[j]?).join)[i]? = some (some v) := e2
    by_cases hi : i < Tn.length
    · rw [List.getElem?_append_left (by simpa using hi), List.getElem?_replicate] at e2
      split at e2 <;> cases e2
    · rw [List.getElem?_append_right (by simpa using hi)] at e2
      rw [List.getElem?_append_right (by simpa using hi)] at e1
      rw [List.length_replicate, List.getElem?_map] at e2
      cases ej : js[i - Tn.length]? with
      | none => rw [ej] at e2; cases e2
      | some j =>
        rw [ej] at e2
        have e2 : (σ[j]?).join = some v := by simpa using e2
        have e2' : σ[j]? = some (some v) := by
          cases q : σ[j]? with
          | none => rw [q] at e2; cases e2
          | some o => rw [q] at e2; cases o with
            | none => cases e2
            | some v' => cases e2; rfl
        have ej' : X.N[j]? = some x := by
          have h0 : (js.map fun j => X.N[j]?)[i - Tn.length]? = (Fn.map some)[i - Tn.length]? := by rw [cs.idx]
          rw [List.getElem?_map, ej, List.getElem?_map, e1] at h0
          simpa using h0
        have hx : scope.names.lookup x = some .free := cs.fn x (List.mem_of_getElem? e1)
        have hox : X.env.kindOf x = some .cell := hfr _ (lookup_mem hx) rfl
        obtain ⟨m, hm, hl⟩ := I.loc
        obtain ⟨u, r, l⟩ := hl j x v ej' e2' (.inr (.inl hox))
        refine ⟨u, r, .inr ⟨.inl ?_, ?_⟩⟩
        · show (relabel scope X.env).names.lookup x = some .cell
          have z := lookup_relabel (env := X.env) cs.okind (names := scope.names) hfr hx
          rw [if_pos rfl] at z
          exact z
        · rcases l with ⟨k, _⟩ | ⟨_, c, ec, z⟩
          · rw [hox] at k; cases k
          · obtain ⟨c', e'⟩ := mem_lookup (closOf_has (cs := []) ec (lookup_mem hx))
            have : c' = c := Option.some.inj ((hcl x c' e').symm.trans ec)
            subst this
            obtain ⟨o, q1, q2⟩ := z
            exact ⟨c', e', o, k1 _ _ q1, q2⟩
  · obtain ⟨v, o, q1, q2⟩ := I.cell x c (hcl x c e)
    exact ⟨v, o, k1 _ _ q1, q2⟩
  · have hp : p ∈ ([] : List (Addr × Obj)) ++ (X.pn ++ pins) := hp
    rw [List.nil_append] at hp
    obtain ⟨e, n, ne, nf, d⟩ := I.pin p hp
    refine ⟨k1 _ _ e, n, Nat.ne_of_lt (Heap.lt_size e), fun z => ?_, d⟩
    rcases List.mem_cons.mp (I.stkSub p.1 z) with q | q
    · exact ne q
    · exact nf q
  · show (List.replicate Tn.length none ++ js.map fun j => (σ[j]?).join).length = (Tn ++ Fn).length
    rw [List.length_append, List.length_append, List.length_replicate, List.length_map, hlen]
/-- the block's own names may be let go -/
structure CFree (X : Cx) (pins : List (Addr × Obj)) (C : Addr) : Prop where
  nl : C ≠ X.env.locals
  yg : X.s₀.heap.objs.size ≤ C
  nc : ∀ x c, X.env.cells.lookup x = some c → c ≠ C
  np : ∀ p ∈ X.pn ++ pins, p.1 ≠ C
theorem Inv.letgo {C : Addr} {h2 : Heap} (I : Inv X pins σ H s) (hn : H C = none) (c : CFree X pins C) (sb : Heap.SameBut C s.heap h2) : Inv X pins σ H { s with heap := h2 } :=
  I.turned (t' := s.toks) (it := C) (fun b o hb e => (sb.2 b hb).trans e) hn c.nl (.inr c.yg) c.nc c.np
theorem Inv.cfree {C : Addr} (I : Inv X pins σ H s) (hC : C = s.heap.objs.size) : CFree X pins C := by
  refine ⟨by rw [hC]; exact Nat.ne_of_gt I.lt, by rw [hC]; exact I.sz, fun x c e z => ?_, fun p hp z => ?_⟩
  · obtain ⟨v, q⟩ := I.cell x c e
    have := q.lt
    rw [z, hC] at this; exact absurd this (Nat.lt_irrefl _)
  · have := Heap.lt_size (I.pin p hp).1
    rw [z, hC] at this; exact absurd this (Nat.lt_irrefl _)
/-- out of the block again -/
theorem inv_out {C : Addr} {cl : List (Str × Addr)} {N : List Str} {σ' : St} {H' : Hp} {pins' : List (Addr × Obj)} {s' : Shared} (I : Inv X pins σ H s) (hf : ∀ b ∈ fp, FpOk X pins H b) (J : Inv (cxIn X N scope cl C s H fp) pins' σ' H' s') : Inv X pins σ H' s' :=
  I.call' (ch := fp) J.os J.base J.hok J.bare fun b hb => ⟨(hf b hb).2.2.2.1, (hf b hb).2.1, (hf b hb).2.2.2.2.1, (hf b hb).2.2.2.2.2⟩
end
/-! the loop of the block -/
section
variable {prog : Program} {w : World} {A : Around} {s : Shared}
theorem compLoop_go {elt target iter : Expr} {ifs : List Expr} {scope : Scope} {pos : Pos} {it acc : Value} {env : Env} {R : Result → Shared → Prop} (I : Nat → Shared → Prop)
    (turn : ∀ n s, I n s → wpAny (model prog w) A (pyNext it) (fun r s₁ => match r with
      | none => R (.ok .next) s₁
      | some v => wpAny (model prog w) A (letOwnedTupleGo target it v) (fun _ s₀ => wpAny (model prog w) A (assign target env v) (fun _ s₂ =>
          wpAny (model prog w) A (forIn ifs true fun c r => if r = true then do let ok ← isTrue c env (eval c env); pure (ForInStep.yield ok) else pure (ForInStep.yield r)) (fun ok s₃ =>
            if ok = true then wpAny (model prog w) A (eval elt env) (fun x s₄ =>
              wpAny (model prog w) A (call (.builtin "list.append") [acc, x]) (fun _ s₅ => ∃ m, m < n ∧ I m s₅) (fun _ _ => False) s₄) (fun _ _ => False) s₃
            else ∃ m, m < n ∧ I m s₃) (fun _ _ => False) s₂) (fun _ _ => False) s₀) (fun _ _ => False) s₁) (fun _ _ => False) s)
    (n : Nat) (h : I n s) : codeAny (model prog w) A (.compLoop (.ListComp elt [⟨target, iter, ifs, 0⟩] scope pos) 0 it acc env) R s := by
  refine codeAny_loop rfl I (fun n s hI => ?_) n h
  show wpAny _ A ((compTurn (.ListComp elt [⟨target, iter, ifs, 0⟩] scope pos) 0 it acc env).onRaise (fun x => do noteFrame x env; theTreesLotGoes x)) _ _ s
  refine wpAny_noted ?_
  rw [compTurn_list]
  refine wpAny_bind (wpAny_standAt (wpAny_bind (wpAny_mono (turn n s hI) (fun r s₁ h₁ => ?_) fun _ _ h' => h'.elim)))
  cases r with
  | none => exact wpAny_pure h₁
  | some v =>
    refine wpAny_bind (wpAny_mono h₁ (fun _ s₀ h₀' => ?_) fun _ _ h' => h'.elim)
    refine wpAny_bind (wpAny_mono h₀' (fun _ s₂ h₂ => wpAny_bind (wpAny_mono h₂ (fun ok s₃ h₃ => ?_) fun _ _ h' => h'.elim)) fun _ _ h' => h'.elim)
    cases ok with
    | false => exact wpAny_pure ⟨rfl, h₃⟩
    | true =>
      exact wpAny_bind (wpAny_bind (wpAny_mono h₃ (fun x s₄ h₄ => wpAny_bind (wpAny_mono h₄ (fun _ s₅ h₅ => wpAny_pure (wpAny_pure ⟨rfl, h₅⟩)) fun _ _ h' => h'.elim)) fun _ _ h' => h'.elim))
end
/-- the tests of a block: none, or one -/
def PIfs (X : Cx) (ifs : List Expr) (t : TT) : Prop :=
  ∀ (pins : List (Addr × Obj)) (s : Shared) (σ : St) (H : Hp) (Q : Bool → Hp → Prop), Inv X pins σ H s → t σ H Q →
    wpAny (model X.prog X.w) X.A (forIn ifs true fun c r => if r = true then do let ok ← isTrue c X.env (eval c X.env); pure (ForInStep.yield ok) else pure (ForInStep.yield r)) (TP X pins σ Q) X.xe s
abbrev tTrue : TT := fun _ H Q => Q true H
theorem pif_none {X : Cx} : PIfs X [] tTrue := fun _ _ _ H _ I h => wpAny_tests_nil ⟨H, I, h⟩
theorem pif_one {X : Cx} {c : Expr} {t : TT} (h : PT X c t) : PIfs X [c] t := fun pins s σ H Q I hq => wpAny_tests_one (h pins s σ H Q I hq)
/-- what a block does: the iterator's turns, the list at D grows -/
def tBlock (J : It) (g : TG) (tc : TT) (te : TE) (D : Addr) (Z : Hp → Prop) (σ : St) (H : Hp) : Prop :=
  ∃ W : Nat → Nat → St → Hp → Prop, (∃ m, W 0 m σ H) ∧ ∀ i m σ H, W i m σ H →
    (J.stop i H ∧ Z H) ∨ (J.go i H ∧ ∃ N : St → Hp → Prop, (∀ σ' H', N σ' H' → ∃ m', m' < m ∧ W (i + 1) m' σ' H') ∧
      ∀ x H', J.yld i H x H' → g x σ H' fun σ2 H2 => tc σ2 H2 fun b H3 => if b = true then te σ2 H3 fun y H4 => ∃ ys, H4 D = some (.lst ys) ∧ ys.length < sizeLine ∧ N σ2 (upd H4 D (.lst (ys ++ [y]))) else N σ2 H3)
section
variable {X : Cx} {scope : Scope} {Tn Fn : List Str} {js : List Nat} {tg iter elt : Expr} {ifs : List Expr} {wi : TI} {g : TG} {tc : TT} {te : TE} {pos : Pos}
theorem block_run {pins : List (Addr × Obj)} {σ : St} {H2 : Hp} {s2 : Shared} {it : Addr} {fp : List Addr} {tn : Nat → Heap → Prop} {J : It} {Z : Addr → Hp → Prop} {RR : Value → Addr → Result → Shared → Prop} {E : Value → Shared → Prop} (hc : X.calm = true)
    (cs : CompScope X.env.scope scope X.N Tn Fn js)
    (hg : ∀ C s H fp, PG (cxIn X (Tn ++ Fn) scope (closOf X.env.cells scope.names []) C s H fp) tg g) (ht : ∀ C s H fp, PIfs (cxIn X (Tn ++ Fn) scope (closOf X.env.cells scope.names []) C s H fp) ifs tc)
    (he : ∀ C s H fp, PE (cxIn X (Tn ++ Fn) scope (closOf X.env.cells scope.names []) C s H fp) elt te)
    (I2 : Inv X pins σ H2 s2) (T : Turn X.prog X.w X.K tg J fp it tn) (st2 : tn 0 s2.heap) (f2 : ∀ b ∈ fp, FpOk X pins H2 b)
    (hb : ∀ D, H2 D = none → tBlock J g tc te D (Z D) (innS Tn.length js σ) (upd H2 D (.lst [])))
    (fin : ∀ D C s' H' m, s'.heap.Ns C m → Inv X pins σ H' s' → H' C = none → CFree X pins C → Z D H' → RR (.ref D) C (.ok .next) s') :
    wpAny (model X.prog X.w) X.A (newList []) (fun acc s₃ => wpAny (model X.prog X.w) X.A (newFunctionEnv scope X.env.globals (closOf X.env.cells scope.names []) [] X.env.qual none .none (some X.env)) (fun cenv s₄ =>
      codeAny (model X.prog X.w) X.A (.compStart (.ListComp elt [⟨tg, iter, ifs, 0⟩] scope pos) 0 (.ref it) acc { cenv with scope := relabel scope X.env }) (RR acc cenv.locals) s₄) E s₃) E s2 := by
  refine wpAny_newObj_type (wpAny_newFunctionEnv cs.nocell (by intro y hy; simp at hy) (fun h₁ hns₁ hsb₁ => ?_) cs.kind)
  dsimp only at hns₁ hsb₁ ⊢
  have I3 := I2.lnew (its := []) (ys := []) (t' := s2.toks) .nil (Nat.zero_le _)
  have fD : H2 s2.heap.objs.size = none := I2.fresh
  obtain ⟨W, ⟨m0, w0⟩, turn⟩ := hb _ fD
  generalize hH2 : s2.heap.push { cls := .type "list", dict := none, data := .seq ([] : List Value).toArray } = g2 at hns₁ hsb₁ I3 ⊢
  have up2 : ∀ b o, s2.heap.get? b = some o → g2.get? b = some o := fun b o e => hH2 ▸ Heap.get?_push_of_some _ e
  generalize hD : s2.heap.objs.size = D at *
  have up3 : ∀ b o, g2.get? b = some o → h₁.get? b = some o := fun b o e => hsb₁.extBut b o (Nat.ne_of_lt (Heap.lt_size e)) (Heap.get?_push_of_some _ e)
  have hob : ∀ b ∈ fp, ∃ o, s2.heap.get? b = some o := fun b hb => let ⟨o, e, _⟩ := T.obj 0 _ st2 b hb; ⟨o, e⟩
  have neD : ∀ b ∈ fp, b ≠ D := fun b hb => by
    obtain ⟨o, e⟩ := hob b hb
    rw [← hD]; exact Nat.ne_of_lt (Heap.lt_size e)
  have f3 : ∀ b ∈ fp, FpOk X pins (upd H2 D (.lst [])) b := fun b hb => ⟨by rw [upd_ne (neD b hb)]; exact (f2 b hb).1, (f2 b hb).2⟩
  have J0 := inv_in (fp := fp) (tk := s2.toks + ([] : List (Str × Value)).length) cs I3 rfl hns₁ up3 f3 fun b hb => let ⟨o, e⟩ := hob b hb; ⟨o, up2 b o e⟩
  have tn0 : tn 0 h₁ := T.keep _ _ _ st2 fun b hb o e => up3 b o (up2 b o e)
  have cf : CFree X pins g2.objs.size := I3.cfree rfl
  generalize hX' : cxIn X (Tn ++ Fn) scope (closOf X.env.cells scope.names []) g2.objs.size { s2 with heap := g2, toks := s2.toks } (upd H2 D (.lst [])) fp = X' at J0
  have eP : X'.prog = X.prog := by rw [← hX']; rfl
  have ew : X'.w = X.w := by rw [← hX']; rfl
  have eK : X'.K = X.K := by rw [← hX']; rfl
  have eA : X'.A = X.A := by rw [← hX']; rfl
  have ec : X'.calm = true := by rw [← hX']; exact hc
  have ee : X'.env = compEnvC scope (closOf X.env.cells scope.names []) g2.objs.size X.env := by rw [← hX']; rfl
  have ex : X'.xe = fun _ _ => False := by rw [← hX']; rfl
  have Hg : PG X' tg g := by rw [← hX']; exact hg _ _ _ _
  have Ht : PIfs X' ifs tc := by rw [← hX']; exact ht _ _ _ _
  have He : PE X' elt te := by rw [← hX']; exact he _ _ _ _
  have out : ∀ {pins' σ' H' s'}, Inv X' pins' σ' H' s' → Inv X pins σ H' s' := by
    intro pins' σ' H' s' J
    rw [← hX'] at J
    exact inv_out I3 f3 J
  have fsX : ∀ b ∈ fp, b ∉ X'.fs := by
    intro b hb z
    rw [← hX'] at z
    rcases List.mem_cons.mp (I3.stkSub b z) with q | q
    · exact (f3 b hb).2.1 q
    · exact (f3 b hb).2.2.1 q
  have stat : ∀ {H' : Hp}, (∀ b ∈ fp, H' b = none) → ∀ b ∈ fp, FpOk X' (X.pn ++ pins) H' b := fun {H'} hn b hb => by
    refine ⟨hn b hb, ?_, fsX b hb, .inl (by rw [← hX']; exact hb), ?_, ?_⟩
    · rw [ee]
      obtain ⟨o, e⟩ := hob b hb
      exact Nat.ne_of_lt (Heap.lt_size (up2 b o e))
    · intro x c e
      rw [ee] at e
      exact (f3 b hb).2.2.2.2.1 x c (closOf_sub (names := scope.names) (cs := []) (fun _ z => nomatch z) _ (lookup_mem e))
    · intro p hp
      have hp : p ∈ X.pn ++ pins := by rw [← hX'] at hp; simpa [cxIn] using hp
      exact (f3 b hb).2.2.2.2.2 p hp
  have loop : ∀ s4 : Shared, s4 = { s2 with heap := h₁, toks := s2.toks + ([] : List (Str × Value)).length } →
      codeAny (model X.prog X.w) X.A (.compLoop (.ListComp elt [⟨tg, iter, ifs, 0⟩] scope pos) 0 (.ref it) (.ref D) (compEnvC scope (closOf X.env.cells scope.names []) g2.objs.size X.env)) (RR (.ref D) g2.objs.size) s4 := by
    rintro s4 rfl
    refine compLoop_go (fun n s' => ∃ i σ' H', Inv X' (X.pn ++ pins) σ' H' s' ∧ tn i s'.heap ∧ (∀ b ∈ fp, H' b = none) ∧ W i n σ' H') ?_ m0 ⟨0, _, _, J0, tn0, fun b hb => (f3 b hb).1, w0⟩
    rintro n s5 ⟨i, σ5, H5, I5, st5, fr5, w5⟩
    rw [← ee, ← eA, ← eP, ← ew, ← ex]
    rcases turn i n σ5 H5 w5 with ⟨stop, qz⟩ | ⟨go, N, hN, step⟩
    · have td := T.done X' eP ew eK ec i (X.pn ++ pins) s5 σ5 H5 X'.xe I5 (stat fr5) st5 stop
      rw [← eP, ← ew] at td
      refine thn td fun r s6 ⟨hr, I6⟩ => ?_
      subst hr
      obtain ⟨m, hm, _⟩ := id I6.loc
      rw [ee] at hm
      have hfr := I6.free
      rw [ee] at hfr
      exact fin D _ s6 H5 m hm (out I6) hfr cf qz
    · have ti := T.item X' eP ew eK ec i (X.pn ++ pins) s5 σ5 H5 X'.xe I5 (stat fr5) st5 go
      rw [← eP, ← ew] at ti
      refine thn ti fun r s6 ⟨u, hr, h6⟩ => ?_
      subst hr
      refine thn h6 fun _ s7 ⟨x, H7, I7, r7, y7, st7, fr7⟩ => ?_
      have I7' := I7.pinned (stat fr7) (T.obj _ _ st7)
      refine thn (Hg _ s7 σ5 H7 x u _ I7' r7 (step x H7 y7)) fun _ s8 ⟨σ8, H8, I8, q8⟩ => ?_
      refine thn (Ht _ s8 σ8 H8 _ I8 q8) fun ok s9 ⟨H9, I9, q9⟩ => ?_
      have again : ∀ {σa : St} {Ha : Hp} {sa : Shared}, Inv X' ((X.pn ++ pins) ++ pinsAt fp s7.heap) σa Ha sa → N σa Ha → ∃ m, m < n ∧ ∃ i σ' H', Inv X' (X.pn ++ pins) σ' H' sa ∧ tn i sa.heap ∧ (∀ b ∈ fp, H' b = none) ∧ W i m σ' H' := fun {σa Ha sa} Ia na => by
        obtain ⟨m', hm, wa⟩ := hN σa Ha na
        refine ⟨m', hm, i + 1, σa, Ha, Ia.unpinned, T.keep _ _ _ st7 fun b hb o e => (Ia.pin (b, o) (List.mem_append_right _ (List.mem_append_right _ (mem_pinsAt hb e)))).1, fun b hb => ?_, wa⟩
        obtain ⟨o, e, d⟩ := T.obj _ _ st7 b hb
        exact (Ia.pin (b, o) (List.mem_append_right _ (List.mem_append_right _ (mem_pinsAt hb e)))).2.1
      cases ok with
      | false => exact again I9 q9
      | true =>
        refine thn (He _ s9 σ8 H9 _ I9 q9) fun y s10 ⟨yv, H10, I10, r10, ys, e10, l10, n10⟩ => ?_
        exact thn (mt_append (X := X') _ s10 σ8 H10 (.ref D) [yv] (.ref D) [y] (fun _ H' => N σ8 H') I10 rfl (.cons r10 .nil) ⟨D, ys, yv, rfl, rfl, e10, l10, n10⟩) fun _ s11 ⟨_, H11, I11, _, n11⟩ => again I11 n11
  exact codeAny_compStart_list (loop _ rfl) (T.self _ 0 _ _ _ tn0 (loop _ rfl))
def tComp (wi : TI) (g : TG) (tc : TT) (te : TE) (k : Nat) (js : List Nat) : TE := fun σ H Q => wi σ H fun J H1 => ∀ D, H1 D = none → tBlock J g tc te D (Q (.ref D)) (innS k js σ) (upd H1 D (.lst []))
/-- [elt for tg in iter if c] as a value -/
theorem pe_comp (Tn Fn : List Str) (js : List Nat) (hc : X.calm = true) (h : compOk X.env.scope scope X.N Tn Fn js = true) (hi : PI X tg iter wi)
    (hg : ∀ C s H fp, PG (cxIn X (Tn ++ Fn) scope (closOf X.env.cells scope.names []) C s H fp) tg g) (ht : ∀ C s H fp, PIfs (cxIn X (Tn ++ Fn) scope (closOf X.env.cells scope.names []) C s H fp) ifs tc)
    (he : ∀ C s H fp, PE (cxIn X (Tn ++ Fn) scope (closOf X.env.cells scope.names []) C s H fp) elt te) (hs : ∀ x, foldedSetIterable iter X.env x = pure x := by intro _; rfl) :
    PE X (.ListComp elt [⟨tg, iter, ifs, 0⟩] scope pos) (tComp wi g tc te Tn.length js) := by
  intro pins s σ H Q I hq
  have cs := CompScope.of h
  rw [eval_ListComp]
  refine wpAny_comprehension_free (use := none) rfl hs (closureFor_eq ?_) cs.kind cs.loc (thn (hi pins s σ H _ I hq) fun xv s1 h1 => thn h1 fun itv s2 h2 => ?_)
  · intro x hx e; exact I.ok.has x.1 (.inl (cs.fre x hx e))
  obtain ⟨it, fp, tn, J, H2, rfl, I2, T, st2, f2, hb⟩ := h2
  refine block_run (Z := fun D H' => Q (.ref D) H') (RR := fun acc C => compPost (model X.prog X.w) X.A X.xe none (EP X pins σ Q) acc C) hc cs hg ht he I2 T st2 f2 hb ?_
  intro D C s' H' m hm I' hn cf z
  exact ⟨m, hm, fun h' sb => ⟨.ref D, H', I'.letgo hn cf sb, rfl, z⟩⟩
/-- y = [elt for tg in iter if c], y a plain local name -/
theorem ps_setcomp (Tn Fn : List Str) (js : List Nat) {i : Nat} {y : Str} {py spos : Pos} (hN : X.N.Nodup) (hiN : X.N[i]? = some y) (hy : X.env.scope.names.lookup y = some .local) (hc : X.calm = true) (h : compOk X.env.scope scope X.N Tn Fn js = true) (hi : PI X tg iter wi)
    (hg : ∀ C s H fp, PG (cxIn X (Tn ++ Fn) scope (closOf X.env.cells scope.names []) C s H fp) tg g) (ht : ∀ C s H fp, PIfs (cxIn X (Tn ++ Fn) scope (closOf X.env.cells scope.names []) C s H fp) ifs tc)
    (he : ∀ C s H fp, PE (cxIn X (Tn ++ Fn) scope (closOf X.env.cells scope.names []) C s H fp) elt te) (hsw : swapsWith (.ListComp elt [⟨tg, iter, ifs, 0⟩] scope pos) (some (.Name y py)) spos.line X.env = pure true := by rfl)
    (hs : ∀ x, foldedSetIterable iter X.env x = pure x := by intro _; rfl) :
    PS X (.Assign [.Name y py] (.ListComp elt [⟨tg, iter, ifs, 0⟩] scope pos) spos) (tAsg (tComp wi g tc te Tn.length js) (gName i)) := by
  intro pins s σ H D0 I hq
  have cs := CompScope.of h
  rw [exec_Assign_Name_used _ _ _ _ hsw]
  refine wpAny_bind (wpAny_standAt (wpAny_bind ?_))
  show wpAny _ X.A (do let _ ← comprehension (.ListComp elt [⟨tg, iter, ifs, 0⟩] scope pos) scope X.env _ (newList []) false (eval iter X.env) (some (assign (.Name y py) X.env))) _ _ s
  refine wpAny_bind (wpAny_mono (wpAny_comprehension_free (use := some (assign (.Name y py) X.env)) (Q := fun _ s' => SP X pins D0 .next s') rfl hs (closureFor_eq ?_) cs.kind cs.loc
    (thn (hi pins s σ H _ I hq) fun xv s1 h1 => thn h1 fun itv s2 h2 => ?_)) (fun _ s' hq => wpAny_pure (wpAny_pure hq)) fun _ _ e => e)
  · intro x hx e; exact I.ok.has x.1 (.inl (cs.fre x hx e))
  obtain ⟨it, fp, tn, J, H2, rfl, I2, T, st2, f2, hb⟩ := h2
  refine block_run (Z := fun D H' => D0.nx (σ.set i (some (.ref D))) H') (RR := fun acc C => compPost (model X.prog X.w) X.A X.xe (some (assign (.Name y py) X.env)) (fun _ s' => SP X pins D0 .next s') acc C) hc cs hg ht he I2 T st2 f2 hb ?_
  intro D C s' H' m hm I' hn cf z
  show wpAny _ X.A (assign (.Name y py) X.env (.ref D)) _ _ s'
  refine wpAny_assign_Name (store_ok2 (v := .ref D) I' hN hiN (.inl hy) rfl (fun s'' I'' sb => ?_) (.inr hy))
  obtain ⟨a, sb, ha⟩ := sb
  have hCa : C ≠ a := by
    rcases ha with e | e
    · rw [e]; exact cf.nl
    · exact fun z => cf.nc _ _ e z.symm
  exact ⟨m, hm.sameBut sb hCa, fun h' sb' => ⟨_, H', I''.letgo hn cf sb', z⟩⟩
end
/-! the forms one uses -/
/-- over a list that the block leaves as it is -/
theorem block_list {K : PySem.W.Frag} {a : Addr} {xs : List V} {g : TG} {tc : TT} {te : TE} {D : Addr} {Z : Hp → Prop} {σ : St} {H : Hp} (Pv : Nat → St → Hp → Prop) (h0 : Pv 0 σ H) (hl : ∀ i σ H, i ≤ xs.length → Pv i σ H → SqL K H a xs)
    (hs : ∀ i x σ H, xs[i]? = some x → Pv i σ H → g x σ H fun σ2 H2 => tc σ2 H2 fun b H3 => if b = true then te σ2 H3 fun y H4 => ∃ ys, H4 D = some (.lst ys) ∧ ys.length < sizeLine ∧ Pv (i + 1) σ2 (upd H4 D (.lst (ys ++ [y]))) else Pv (i + 1) σ2 H3)
    (hd : ∀ σ H, Pv xs.length σ H → Z H) : tBlock (Itl K a) g tc te D Z σ H := by
  refine ⟨fun i m σ H => m = xs.length - i ∧ i ≤ xs.length ∧ Pv i σ H, ⟨xs.length, by simp, Nat.zero_le _, h0⟩, ?_⟩
  rintro i m σ H ⟨rfl, hi, p⟩
  have q := hl i σ H hi p
  by_cases hlt : i < xs.length
  · refine .inr ⟨⟨xs, xs[i], q, by simp [hlt]⟩, Pv (i + 1), fun σ' H' p' => ⟨xs.length - (i + 1), by omega, rfl, hlt, p'⟩, fun x H' y => ?_⟩
    obtain ⟨e, y⟩ := y
    subst e
    exact hs i x σ _ (y xs q) p
  · have e : i = xs.length := by omega
    subst e
    exact .inl ⟨⟨xs, q, Nat.le_refl _⟩, hd σ H p⟩
theorem block_range {lo : Int} {n : Nat} {g : TG} {tc : TT} {te : TE} {D : Addr} {Z : Hp → Prop} {σ : St} {H : Hp} (Pv : Nat → St → Hp → Prop) (h0 : Pv 0 σ H)
    (hs : ∀ i σ H, i < n → Pv i σ H → g (.int (lo + i)) σ H fun σ2 H2 => tc σ2 H2 fun b H3 => if b = true then te σ2 H3 fun y H4 => ∃ ys, H4 D = some (.lst ys) ∧ ys.length < sizeLine ∧ Pv (i + 1) σ2 (upd H4 D (.lst (ys ++ [y]))) else Pv (i + 1) σ2 H3)
    (hd : ∀ σ H, Pv n σ H → Z H) : tBlock (Itr lo n) g tc te D Z σ H := by
  refine ⟨fun i m σ H => m = n - i ∧ i ≤ n ∧ Pv i σ H, ⟨n, by simp, Nat.zero_le _, h0⟩, ?_⟩
  rintro i m σ H ⟨rfl, hi, p⟩
  by_cases hlt : i < n
  · refine .inr ⟨hlt, Pv (i + 1), fun σ' H' p' => ⟨n - (i + 1), by omega, rfl, hlt, p'⟩, fun x H' y => ?_⟩
    obtain ⟨e, y⟩ := y
    subst e y
    exact hs i σ _ hlt p
  · have e : i = n := by omega
    subst e
    exact .inl ⟨Nat.le_refl _, hd σ H p⟩
end L2
namespace L2
open PySem PySem.Spec PyProof.Rows
/-! ### ==, != of texts, numbers, truths, the gap, and of tuples and lists of these, as deep as they are -/
mutual
def RepD (K : PySem.W.Frag) (H : Hp) : PyData → V → Prop
  | .none, v => v = .non
  | .bool b, v => v = .bl b
  | .int i, v => v = .int i
  | .str x, v => v = .str x ∧ (PyData.str x).canLay0 = true
  | .tuple xs, v => ∃ a vs, v = .ref a ∧ SqT K H a vs ∧ RepDs K H xs vs
  | .list xs, v => ∃ a vs, v = .ref a ∧ SqL K H a vs ∧ RepDs K H xs vs
  | .dict _, _ => False
def RepDs (K : PySem.W.Frag) (H : Hp) : List PyData → List V → Prop
  | [], vs => vs = []
  | d :: ds, vs => ∃ v r, vs = v :: r ∧ RepD K H d v ∧ RepDs K H ds r
end
section
variable {X : Cx} {pins : List (Addr × Obj)} {σ : St} {H : Hp} {s : Shared}
mutual
theorem RepD.reads (I : Inv X pins σ H s) : ∀ {d : PyData} {v : V} {u : Value}, RepD X.K H d v → RelV v u → ∃ as, Reads s.heap u d as
  | .none, v, u, h, r => by
    have h : v = .non := by simpa [RepD] using h
    subst h; cases r; exact ⟨_, .none⟩
  | .bool b, v, u, h, r => by
    have h : v = .bl b := by simpa [RepD] using h
    subst h; cases r; exact ⟨_, .bool b⟩
  | .int i, v, u, h, r => by
    have h : v = .int i := by simpa [RepD] using h
    subst h; obtain ⟨t, rfl⟩ := r; exact ⟨_, .int i t⟩
  | .str x, v, u, h, r => by
    simp only [RepD] at h
    obtain ⟨rfl, _⟩ := h
    obtain ⟨t, rfl⟩ := r; exact ⟨_, .str x t⟩
  | .tuple xs, v, u, h, r => by
    have h : ∃ a vs, v = .ref a ∧ SqT X.K H a vs ∧ RepDs X.K H xs vs := by simpa [RepD] using h
    obtain ⟨a, vs, rfl, q, rs⟩ := h
    cases r
    obtain ⟨its, rv, p, _⟩ := I.tuple q
    obtain ⟨o, e, c, n, d⟩ := (show s.heap.IsTuple a its.toArray from p)
    obtain ⟨as, ra⟩ := RepDs.reads I rs rv
    exact ⟨_, .tuple e c d (by simpa using ra)⟩
  | .list xs, v, u, h, r => by
    have h : ∃ a vs, v = .ref a ∧ SqL X.K H a vs ∧ RepDs X.K H xs vs := by simpa [RepD] using h
    obtain ⟨a, vs, rfl, q, rs⟩ := h
    cases r
    obtain ⟨its, rv, p, _⟩ := I.list q
    obtain ⟨o, e, c, n, d⟩ := p.isList
    obtain ⟨as, ra⟩ := RepDs.reads I rs rv
    exact ⟨_, .list e c d (by simpa using ra)⟩
  | .dict _, v, u, h, r => by
    have h : False := by simpa [RepD] using h
    exact h.elim
theorem RepDs.reads (I : Inv X pins σ H s) : ∀ {ds : List PyData} {vs : List V} {us : List Value}, RepDs X.K H ds vs → Vals vs us → ∃ as, ReadsAll s.heap us ds as
  | [], vs, us, h, r => by
    have h : vs = [] := by simpa [RepDs] using h
    subst h; cases r; exact ⟨_, .nil⟩
  | d :: ds, vs, us, h, r => by
    have h : ∃ v r, vs = v :: r ∧ RepD X.K H d v ∧ RepDs X.K H ds r := by simpa [RepDs] using h
    obtain ⟨v, rs, rfl, h1, h2⟩ := h
    cases r with
    | cons a b =>
      obtain ⟨as, r1⟩ := RepD.reads I h1 a
      obtain ⟨bs, r2⟩ := RepDs.reads I h2 b
      exact ⟨_, .cons r1 r2⟩
end
mutual
theorem RepD.lay {K : PySem.W.Frag} : ∀ {d : PyData} {v : V}, RepD K H d v → d.canLay0 = true
  | .none, _, _ => rfl
  | .bool _, _, _ => rfl
  | .int _, _, _ => rfl
  | .str x, v, h => by
    simp only [RepD] at h
    exact h.2
  | .tuple xs, v, h => by
    have h : ∃ a vs, v = .ref a ∧ SqT K H a vs ∧ RepDs K H xs vs := by simpa [RepD] using h
    obtain ⟨a, vs, rfl, q, rs⟩ := h
    have := RepDs.lay rs
    simpa [PyData.canLay0] using this
  | .list xs, v, h => by
    have h : ∃ a vs, v = .ref a ∧ SqL K H a vs ∧ RepDs K H xs vs := by simpa [RepD] using h
    obtain ⟨a, vs, rfl, q, rs⟩ := h
    have := RepDs.lay rs
    simpa [PyData.canLay0] using this
  | .dict _, v, h => by
    have h : False := by simpa [RepD] using h
    exact h.elim
theorem RepDs.lay {K : PySem.W.Frag} : ∀ {ds : List PyData} {vs : List V}, RepDs K H ds vs → PyData.canLayAll0 ds = true
  | [], _, _ => rfl
  | d :: ds, vs, h => by
    have h : ∃ v r, vs = v :: r ∧ RepD K H d v ∧ RepDs K H ds r := by simpa [RepDs] using h
    obtain ⟨v, rs, rfl, h1, h2⟩ := h
    have a := RepD.lay h1
    have b := RepDs.lay h2
    simp [PyData.canLayAll0, a, b]
end
end
section
variable {X : Cx} {k : Nat}
def rEqD (K : PySem.W.Frag) : R2 := fun x y H Q => ∃ d d', RepD K H d x ∧ RepD K H d' y ∧ d.depth ≤ 64 ∧ Q (.bl (PyData.eqv d d')) H
def rNeD (K : PySem.W.Frag) : R2 := fun x y H Q => ∃ d d', RepD K H d x ∧ RepD K H d' y ∧ d.depth ≤ 64 ∧ Q (.bl (!PyData.eqv d d')) H
theorem op_eqD (hr : Room k X.A) : OpR X (compareOp .Eq) (rEqD X.K) := by
  intro pins s σ H x y v u Q I rx ry h
  obtain ⟨d, d', h1, h2, hd, q⟩ := h
  obtain ⟨as, r1⟩ := h1.reads I rx
  obtain ⟨bs, r2⟩ := h2.reads I ry
  exact SeqAt.compareEq_reads r1 r2 h1.lay h2.lay (by have := hr.units; have : min d.depth d'.depth ≤ d.depth := Nat.min_le_left _ _; omega) ⟨.bl _, H, I, rfl, q⟩
theorem op_neD (hr : Room k X.A) : OpR X (compareOp .NotEq) (rNeD X.K) := by
  intro pins s σ H x y v u Q I rx ry h
  obtain ⟨d, d', h1, h2, hd, q⟩ := h
  obtain ⟨as, r1⟩ := h1.reads I rx
  obtain ⟨bs, r2⟩ := h2.reads I ry
  exact SeqAt.compareNe_reads r1 r2 h1.lay h2.lay (by have := hr.units; have : min d.depth d'.depth ≤ d.depth := Nat.min_le_left _ _; omega) ⟨.bl _, H, I, rfl, q⟩
end
/-- a tuple of two numbers -/
def pq (t b : Int) : PyData := .tuple [.int t, .int b]
theorem rep_pq {K : PySem.W.Frag} {H : Hp} {a : Addr} {t b : Int} (h : SqT K H a [.int t, .int b]) : RepD K H (pq t b) (.ref a) := by
  simp only [pq, RepD, RepDs]
  exact ⟨a, _, rfl, h, _, _, rfl, rfl, _, _, rfl, rfl, rfl⟩
theorem eqv_pq (t b t' b' : Int) : PyData.eqv (pq t b) (pq t' b') = decide (t = t' ∧ b = b') := by
  simp [pq, PyData.eqv, PyData.eqvAll, Bool.beq_eq_decide_eq]
theorem pq_depth (t b : Int) : (pq t b).depth ≤ 64 := by
  simp [pq, PyData.depth, PyData.depthAll]
/-! ### defs that may raise -/
section
variable {P : Program} {w : World} {K : PySem.W.Frag} {mg : Str → Option Value} {base : Heap}
end
end L2
namespace Tc
open PySem L2
/-! ### promises of the defs that many laws share -/
/-- the two numbers of a rational number -/
abbrev fq (r : Rat) : List V := [.int r.num, .int (r.den : Nat)]
/-- a fraction as it stands -/
def FrV (H : Hp) (v : V) (r : Rat) : Prop := ∃ a, v = .ref a ∧ H a = some (.tup (fq r))
theorem FrV.same {H H' : Hp} {v : V} {r : Rat} (h : FrV H v r) (s : Same H H') : FrV H' v r := let ⟨a, e, h⟩ := h; ⟨a, e, s _ _ h⟩
theorem FrV.upd {H : Hp} {v : V} {r : Rat} {p : Addr} {o : HO} (h : FrV H v r) (n : H p = none) : FrV (upd H p o) v r := h.same (Same.upd n)
theorem FrV.new {H : Hp} {r : Rat} {p : Addr} : FrV (L2.upd H p (.tup (fq r))) (.ref p) r := ⟨p, rfl, upd_same⟩
theorem FrV.newOf {H : Hp} {r : Rat} {p : Addr} {t b : Int} (h1 : t = r.num) (h2 : b = (r.den : Int)) : FrV (L2.upd H p (.tup [.int t, .int b])) (.ref p) r := by
  subst h1 h2; exact FrV.new
theorem FrV.ty {H : Hp} {v : V} {r : Rat} (h : FrV H v r) : tyS H v = some "tuple" := by
  obtain ⟨a, rfl, h⟩ := h
  show tyH (H a) = _
  rw [h]; rfl
theorem FrV.rep {K : PySem.W.Frag} {H : Hp} {v : V} {r : Rat} (h : FrV H v r) : RepD K H (pq r.num r.den) v := by
  obtain ⟨a, rfl, h⟩ := h
  exact rep_pq (SqT.of h)
theorem fq_dec (r q : Rat) : decide (r.num = q.num ∧ (r.den : Int) = q.den) = decide (r = q) := by
  rw [decide_eq_decide]
  constructor
  · rintro ⟨h1, h2⟩; exact fq_inj h1 h2
  · rintro rfl; exact ⟨rfl, rfl⟩
/-- how great its numbers may be -/
structure Bd (n : Nat) (r : Rat) : Prop where
  num : r.num.natAbs < 2 ^ n
  den : r.den < 2 ^ n
theorem pow_le {m n : Nat} (h : m ≤ n) : (2 : Nat) ^ m ≤ 2 ^ n := Nat.pow_le_pow_right (by decide) h
theorem Bd.mono {m n : Nat} {r : Rat} (b : Bd m r) (h : m ≤ n) : Bd n r := ⟨Nat.lt_of_lt_of_le b.num (pow_le h), Nat.lt_of_lt_of_le b.den (pow_le h)⟩
theorem Bd.neg {n : Nat} {r : Rat} (b : Bd n r) : Bd n (-r) := ⟨by rw [Rat.neg_num, Int.natAbs_neg]; exact b.num, by rw [Rat.neg_den]; exact b.den⟩
theorem natAbs_mul_lt {a b : Int} {m n : Nat} (ha : a.natAbs < 2 ^ m) (hb : b.natAbs < 2 ^ n) : (a * b).natAbs < 2 ^ (m + n) := by
  rw [Int.natAbs_mul, Nat.pow_add]
  exact Nat.mul_lt_mul'' ha hb
theorem natAbs_add_lt {a b : Int} {n : Nat} (ha : a.natAbs < 2 ^ n) (hb : b.natAbs < 2 ^ n) : (a + b).natAbs < 2 ^ (n + 1) := by
  rw [Nat.pow_succ]; omega
theorem fq_num_le (t b : Int) (hb : b ≠ 0) : (Rat.divInt t b).num.natAbs ≤ t.natAbs := by
  rw [← dv_num hb]
  have h := Int.fdiv_mul_cancel (dv_dvd_left t b)
  have h2 : ((t.fdiv (dv t b)) * dv t b).natAbs = t.natAbs := by rw [h]
  rw [Int.natAbs_mul] at h2
  have h3 : 0 < (dv t b).natAbs := by have := dv_ne (t := t) hb; omega
  rw [← h2]
  exact Nat.le_mul_of_pos_right _ h3
theorem fq_den_le (t b : Int) (hb : b ≠ 0) : (Rat.divInt t b).den ≤ b.natAbs := by
  have e := dv_den (t := t) hb
  have h := Int.fdiv_mul_cancel (dv_dvd_right t b)
  have h2 : ((b.fdiv (dv t b)) * dv t b).natAbs = b.natAbs := by rw [h]
  rw [Int.natAbs_mul, e] at h2
  have h3 : 0 < (dv t b).natAbs := by have := dv_ne (t := t) hb; omega
  have : (((Rat.divInt t b).den : Int)).natAbs ≤ b.natAbs := by rw [← h2]; exact Nat.le_mul_of_pos_right _ h3
  omega
theorem Bd.divInt {n : Nat} {t b : Int} (hb : b ≠ 0) (h1 : t.natAbs < 2 ^ n) (h2 : b.natAbs < 2 ^ n) : Bd n (Rat.divInt t b) := ⟨Nat.lt_of_le_of_lt (fq_num_le t b hb) h1, Nat.lt_of_le_of_lt (fq_den_le t b hb) h2⟩
theorem add_eq (r q : Rat) : r + q = Rat.divInt (r.num * q.den + q.num * r.den) (r.den * q.den) := by
  have h := Rat.divInt_add_divInt r.num q.num (d₁ := r.den) (d₂ := q.den) (by have := rat_den_pos r; omega) (by have := rat_den_pos q; omega)
  rw [Rat.num_divInt_den, Rat.num_divInt_den] at h
  exact h
theorem Bd.add {m n : Nat} {r q : Rat} (b1 : Bd m r) (b2 : Bd n q) : Bd (m + n + 1) (r + q) := by
  rw [add_eq]
  have d1 := rat_den_pos r
  have d2 := rat_den_pos q
  have n1 : ((r.den : Int)).natAbs < 2 ^ m := b1.den
  have n2 : ((q.den : Int)).natAbs < 2 ^ n := b2.den
  refine Bd.divInt (Int.mul_ne_zero (by omega) (by omega)) ?_ ?_
  · refine natAbs_add_lt (natAbs_mul_lt b1.num n2) ?_
    have := natAbs_mul_lt b2.num n1
    rw [Nat.add_comm]; exact this
  · exact Nat.lt_of_lt_of_le (natAbs_mul_lt n1 n2) (pow_le (by omega))
theorem Bd.mul {m n : Nat} {r q : Rat} (b1 : Bd m r) (b2 : Bd n q) : Bd (m + n) (r * q) := by
  rw [← mul_eq]
  have d1 := rat_den_pos r
  have d2 := rat_den_pos q
  have n1 : ((r.den : Int)).natAbs < 2 ^ m := b1.den
  have n2 : ((q.den : Int)).natAbs < 2 ^ n := b2.den
  exact Bd.divInt (Int.mul_ne_zero (by omega) (by omega)) (natAbs_mul_lt b1.num b2.num) (natAbs_mul_lt n1 n2)
theorem Bd.divR {n : Nat} {r : Rat} (b : Bd n r) (h : n ≤ 8999) {i d : Int} (hd : d ≠ 0) (hl : d.natAbs ≤ r.den) : CDivB i d :=
  divB_of hd (Nat.lt_of_le_of_lt hl (Nat.lt_of_lt_of_le b.den (pow_le (by omega))))
theorem paired_get {α β : Type} {F : α → β → Prop} : ∀ {xs : List α} {ys : List β} {i : Nat} {x : α}, Paired F xs ys → xs[i]? = some x → ∃ y, ys[i]? = some y ∧ F x y
  | _, _, _, _, .nil, e => by simp at e
  | _, _, 0, _, .cons r _, e => by simp at e; subst e; exact ⟨_, rfl, r⟩
  | _, _, i + 1, x, .cons _ t, e => by
    obtain ⟨u, h1, h2⟩ := paired_get (i := i) (x := x) t (by simpa using e)
    exact ⟨u, by simpa using h1, h2⟩
/-! promises -/
def spCd : Sp := fun vs H Q _ => ∃ t b : Int, vs = [.int t, .int b] ∧ b ≠ 0 ∧ Q (.int (dv t b)) H
def sp2 (n : Nat) (f : Rat → Rat → Rat) : Sp := fun vs H Q _ => ∃ x y r q, vs = [x, y] ∧ FrV H x r ∧ FrV H y q ∧ Bd n r ∧ Bd n q ∧ ∀ v H', Same H H' → FrV H' v (f r q) → Q v H'
abbrev spPlus : Sp := sp2 8000 (· + ·)
abbrev spMinus : Sp := sp2 8000 (· - ·)
abbrev spTimes : Sp := fun vs H Q _ => ∃ x y a b t1 b1 t2 b2, vs = [x, y] ∧ x = .ref a ∧ H a = some (.tup [.int t1, .int b1]) ∧ y = .ref b ∧ H b = some (.tup [.int t2, .int b2]) ∧ 0 < b1 ∧ b2 ≠ 0 ∧ Int.gcd t1 b1 = 1 ∧ Int.gcd t2 b2 = 1 ∧
  (t1.natAbs < 2 ^ 8000 ∧ b1.natAbs < 2 ^ 8000 ∧ t2.natAbs < 2 ^ 8000 ∧ b2.natAbs < 2 ^ 8000) ∧ ∀ v H', Same H H' → FrV H' v (Rat.divInt (t1 * t2) (b1 * b2)) → Q v H'
theorem spTimes.of {vs : List V} {H : Hp} {Q : VK} {E : XK} {x y : V} {r q : Rat} (e : vs = [x, y]) (h1 : FrV H x r) (h2 : FrV H y q) (b1 : Bd 8000 r) (b2 : Bd 8000 q) (k : ∀ v H', Same H H' → FrV H' v (r * q) → Q v H') : spTimes vs H Q E := by
  obtain ⟨a, rfl, ha⟩ := h1
  obtain ⟨b, rfl, hb⟩ := h2
  have d1 := rat_den_pos r
  have d2 := rat_den_pos q
  exact ⟨_, _, a, b, r.num, r.den, q.num, q.den, e, rfl, ha, rfl, hb, d1, by omega, rat_gcd r, rat_gcd q, ⟨b1.num, b1.den, b2.num, b2.den⟩, fun v H' s h => k v H' s (by rw [← mul_eq]; exact h)⟩
def spUnder : Sp := fun vs H Q _ => ∃ x y r q, vs = [x, y] ∧ FrV H x r ∧ FrV H y q ∧ Bd 8000 r ∧ Bd 8000 q ∧ Q (.bl (decide (r < q))) H
def spCell (K : PySem.W.Frag) : Sp := fun vs H Q _ => ∃ (a : Addr) (ns : List Int) (k : Int), vs = [.ref a, .int k] ∧ SqL K H a (ns.map V.int) ∧ 0 ≤ k ∧ ∀ c : Int, Q (.int c) H
def spLaw (K : PySem.W.Frag) : Sp := fun vs H Q _ => ∃ (a : Addr) (ns : List Int), vs = [.ref a] ∧ SqL K H a (ns.map V.int) ∧ ns.length ≤ 63 ∧ ∀ H', Q (.bl true) H'
/-! small lemmas -/
theorem sz {n : Nat} (h : n ≤ 1000) : n ≤ sizeLine := Nat.le_of_lt (small1000 h)
theorem map_at {ns : List Int} {k : Int} (h0 : 0 ≤ k) (h1 : k < (ns.map V.int).length) : ∃ c : Int, atI (ns.map V.int) k = some (V.int c) := by
  obtain ⟨j, rfl⟩ := Int.eq_ofNat_of_zero_le h0
  have hj : j < ns.length := by rw [List.length_map] at h1; omega
  refine ⟨ns[j], atI_nat ?_⟩
  rw [List.getElem?_map, List.getElem?_eq_getElem hj]
  rfl
theorem fmod_lt {c m : Int} (h : 0 < m) : 0 ≤ c.fmod m ∧ c.fmod m < m := fmod_pos h
theorem sub_int (n : String) : subS n "int" = (n == "int" || n == "bool") := by simp [subS]
theorem dec_true {p : Prop} [Decidable p] {A B : Prop} (hp : p) (h : A) : if decide p = true then A else B := by
  rw [decide_eq_true hp]; exact iteT h
theorem dec_false {p : Prop} [Decidable p] {A B : Prop} (hp : ¬ p) (h : B) : if decide p = true then A else B := by
  rw [decide_eq_false hp]; exact iteF h
theorem paired_rev {α β : Type} {F : α → β → Prop} {xs : List α} {ys : List β} (h : Paired F xs ys) : Paired F xs.reverse ys.reverse := by
  induction h with
  | nil => exact .nil
  | cons r t ih => rw [List.reverse_cons, List.reverse_cons]; exact ih.snoc r
def dq (r : Rat) : PyData := pq r.num r.den
end Tc
namespace L2
open PySem PySem.Spec PyProof.Rows
section
variable {X : Cx}
end
/-! ### the rules that name the module's part, for a part that is named -/
section
variable {X : Cx} {K : PySem.W.Frag}
theorem ix_tup' (h : X.K = K) : IxR X (rIxT K) := by subst h; exact ix_tup
theorem ix_list' (h : X.K = K) : IxR X (rIxL K) := by subst h; exact ix_list
theorem sl_list' (h : X.K = K) : SlR X (rSlL K) := by subst h; exact sl_list
theorem op_eqD' {k : Nat} (h : X.K = K) (hr : Room k X.A) : OpR X (compareOp .Eq) (rEqD K) := by subst h; exact op_eqD hr
theorem op_neD' {k : Nat} (h : X.K = K) (hr : Room k X.A) : OpR X (compareOp .NotEq) (rNeD K) := by subst h; exact op_neD hr
theorem call_len' (h : X.K = K) : CallR X (.builtin "len") (fun xs H Q => ∃ x n, xs = [x] ∧ LenV K x H n ∧ Q (.int n) H) := by subst h; exact call_len
theorem call_isi' (h : X.K = K) : CallR X (.builtin "isinstance") (fun xs H Q => ∃ x n t b, xs = [x, .ty n] ∧ TyOf K H x t ∧ PySem.W.kitOne K t (.type n) = some b ∧ Q (.bl b) H) := by subst h; exact call_isi
theorem call_list_of' (h : X.K = K) : CallR X (.type "list") (fun xs H Q => ∃ p ys, xs = [.ref p] ∧ (SqL K H p ys ∨ SqT K H p ys) ∧ ∀ l, H l = none → Q (.ref l) (upd H l (.lst ys))) := by subst h; exact call_list_of
theorem pi_list' {tg l : Expr} {tl : TE} (h : X.K = K) (hl : PE X l tl) : PI X tg l (iList K tl) := by subst h; exact pi_list hl
theorem pi_tup' {tg l : Expr} {tl : TE} (h : X.K = K) (hl : PE X l tl) : PI X tg l (iTup K tl) := by subst h; exact pi_tup hl
end
theorem Same.updD {H H' : Hp} {D : Addr} {o : HO} (s : Same H H') (h : H D = none) : Same H (L2.upd H' D o) := fun b u e => by
  rw [L2.upd_ne (ne_of_none e h)]; exact s b u e
end L2
namespace L2
open PySem PySem.Spec PyProof.Rows
/-! ### texts -/
theorem strs_of_vals : ∀ {ys : List Str} {vs : List Value}, Vals (ys.map V.str) vs → StrsAre vs ys
  | [], _, .nil => .nil
  | y :: ys, _, .cons r t => by obtain ⟨tk, rfl⟩ := r; exact .cons y tk (strs_of_vals t)
section
variable {X : Cx} {K : PySem.W.Frag}
def rJoin (K : PySem.W.Frag) : V → List V → Hp → VK → Prop := fun x vs H Q => ∃ (z : Str) (a : Addr) (ys : List Str), x = .str z ∧ vs = [.ref a] ∧ SqL K H a (ys.map V.str) ∧ (ys.map (·.length)).sum + ys.length * z.length ≤ 16777216 ∧ Q (.str (Txt.join z ys)) H
theorem mt_join' (h : X.K = K) : MtR X "str.join" (rJoin K) := by
  subst h
  intro pins s σ H x xs v us Q I rx rv h
  obtain ⟨z, a, ys, rfl, rfl, hq, hz, q⟩ := h
  obtain ⟨t, rfl⟩ := rx
  obtain ⟨u, rfl, ru⟩ := Vals.one rv
  cases ru
  obtain ⟨its, r, p, _⟩ := I.list hq
  exact join_list p.isList (by simpa using strs_of_vals r) hz fun t' k => ⟨.str _, H, I.tok k, ⟨t', rfl⟩, q⟩
/-- a method of a built-in value, the module's part named -/
theorem pe_bm' {o e : Expr} {es : List Expr} {to : TE} {t : TA} {name : Str} {apos cpos : Pos} {T id : String} {r : V → List V → Hp → VK → Prop} (h : X.K = K) (pa : PlainAttrs T) (slot : Slot T name id) (hty : typeOf (.builtin id) = pure (.type "method_descriptor"))
    (hm : MtR X id r) (ho : PE X o to) (ha : PA X (e :: es) t) (hbase : attributeBase o name X.env (eval o X.env) = eval o X.env := by rfl)
    (hfew : ((backTo cpos (starEach (e :: es) X.env)).all (fun x => !x.1) && (backToKw cpos (keywordEach [] X.env)).all (fun x => x.1.isSome) && decide ((e :: es).length + ([] : List Keyword).length + (if ([] : List Keyword).isEmpty then 0 else 1) < 30)) = true := by rfl)
    (hline : (apos.endLine == cpos.line) = true := by rfl) (hs : starEach (e :: es) X.env = (false, eval e X.env) :: starEach es X.env := by rfl) (hplain : (backTo cpos (starEach es X.env)).any (·.1) = false := by rfl) :
    PE X (.Call (.Attribute o name apos) (e :: es) [] cpos) (tBM K T r to t) := by subst h; exact pe_bm pa slot hty hm ho ha hbase hfew hline hs hplain
theorem pg_tup' {es : List Expr} {k : Nat} {t : TGs} {n : Nat} {pos : Pos} (h : X.K = K) (hc : X.calm = true) (hp : PGs X es t) (hn : (assignEach es X.env).length = n := by rfl) (hst : (assignEach es X.env).findIdx? (·.1) = none := by rfl) :
    PG X (.Tuple es k pos) (gTup K n t) := by subst h; exact pg_tup hc hp hn hst
end
end L2
namespace L2
open PySem PySem.Spec PyProof.Rows
section
variable {X : Cx} {K : PySem.W.Frag} {k : Nat}
end
end L2
namespace Tc
open PySem L2
/-- texts put together of single signs -/
abbrev one1 (c : Nat) : Str := ⟨#[c]⟩
theorem join_cs : ∀ cs : List Nat, Txt.join "" (cs.map one1) = ⟨cs.toArray⟩ := by
  intro cs
  rw [eq_of_beq (PyProof.Rows.join_plain_closes _ _)]
  have e : (Str.ofString "") = ⟨#[]⟩ := by decide +kernel
  show Str.join (Str.ofString "") _ = _
  rw [e]
  induction cs with
  | nil => rfl
  | cons c cs ih =>
    rw [List.map_cons, PyProof.Rows.join_nil_cons, ih]
    show (⟨#[c] ++ cs.toArray⟩ : Str) = _
    simp
theorem sum_ones (cs : List Nat) : ((cs.map one1).map (·.length)).sum = cs.length := by
  induction cs with
  | nil => rfl
  | cons c cs ih =>
    rw [List.map_cons, List.map_cons, List.sum_cons, ih, List.length_cons]
    show 1 + _ = _
    omega
theorem join_fits (cs : List Nat) (h : cs.length ≤ 1000000) : ((cs.map one1).map (·.length)).sum + (cs.map one1).length * (Str.ofString "").length ≤ 16777216 := by
  have e : (Str.ofString "").length = 0 := by decide +kernel
  rw [sum_ones, e]; omega
abbrev LT : Str := "abcdefghijklmnopqrstuvwxyz"
theorem lt_len : LT.cps.toList.length = 26 := by decide +kernel
theorem str_at {zs : List Str} {k : Int} (h0 : 0 ≤ k) (h1 : k < zs.length) : ∃ z, z ∈ zs ∧ atI (zs.map V.str) k = some (V.str z) := by
  obtain ⟨j, rfl⟩ := Int.eq_ofNat_of_zero_le h0
  have hj : j < zs.length := by omega
  refine ⟨zs[j], List.getElem_mem hj, atI_nat ?_⟩
  rw [List.getElem?_map, List.getElem?_eq_getElem hj]; rfl
theorem ddv {i d : Int} (h1 : 0 < d) (h2 : d ≤ 1000000) : CDivB i d := divB_of (by omega) (Nat.lt_of_le_of_lt (m := 1000000) (by omega) (by decide))
def cl (i : Int) : Int := if (if i < 9999 then i else 9999) > 0 then (if i < 9999 then i else 9999) else 0
end Tc
namespace L2
open PySem PySem.Spec PyProof.Rows
/-! ### a dict as it lies in the heap: its entries, whatever its keys are -/
def RawD (h : Heap) (d : Addr) (es : Array DictEntry) (ep : Nat) : Prop := ∃ o, h.get? d = some o ∧ o.ExactDict ∧ o.data = .dict es ep
theorem RawD.at {h h' : Heap} {d : Addr} {es : Array DictEntry} {ep : Nat} (x : RawD h d es ep) (e : ∀ o, h.get? d = some o → h'.get? d = some o) : RawD h' d es ep := let ⟨o, q, r⟩ := x; ⟨o, e o q, r⟩
theorem RawD.ty {s : Shared} {d : Addr} {es : Array DictEntry} {ep : Nat} (x : RawD s.heap d es ep) : s.TypeIs (.ref d) "dict" := let ⟨o, q, c, _⟩ := x; ⟨o, q, c.1⟩
theorem RawD.no {h : Heap} {d : Addr} {es : Array DictEntry} {ep : Nat} (x : RawD h d es ep) : ∀ b, Value.ref d = .ref b → ∃ ob, h.get? b = some ob ∧ ob.dict = none := let ⟨o, q, c, _⟩ := x; fun b e => by cases e; exact ⟨o, q, c.2.1⟩
section
variable {prog : Program} {w : World} {A : Around} {E : Value → Shared → Prop} {s : Shared} {it d vw : Addr} {i ep : Nat} {es : Array DictEntry} {ok ov : Value}
/-- d.items() -/
theorem raw_items (hd : (d == sysModules) = false) : MeetsIn prog w (Builtin.«dict.items» ⟨[.ref d], []⟩) (fun _ R s => (∃ es ep, RawD s.heap d es ep) ∧ R (.ok (.ret (.ref s.heap.objs.size))) { s with heap := s.heap.push { cls := .type "dict_items", data := .fields #[.ref d] } }) :=
  .of_wp fun A R s ⟨⟨es, ep, hm⟩, h⟩ => by
    unfold Builtin.«dict.items» Builtin.Dict.noArgs
    refine wpAny_bind (wpAny_bind (wpAny_notOrdered_dict hm.ty ?_)); show wpAny _ _ (pure d) _ _ s
    refine wpAny_pure ?_; show wpAny _ _ (Builtin.Dict.showsAll d >>= _) _ _ s
    unfold Builtin.Dict.showsAll
    rw [if_neg (show ¬ ((d == sysModules) = true) by rw [hd]; simp)]
    exact wpAny_bind (wpAny_pure (wpAny_bind (wpAny_newObj_type (wpAny_pure ⟨_, rfl, h⟩))))
/-- iter(d.items()) -/
theorem raw_iter {Q : Value → Shared → Prop} (hv : s.heap.IsItemsView vw d) (hm : RawD s.heap d es ep)
    (q : Q (.ref s.heap.objs.size) { s with heap := s.heap.push { cls := .type "dict_itemiterator", data := .fields #[.none, .bool false, .ref d, .int 0 0, .int es.size 0, .int ep 0, .none, .none] } }) : wpAny (model prog w) A (pyIter (.ref vw)) Q E s := by
  obtain ⟨o1, g1, c1, f1⟩ := id hv
  obtain ⟨o2, g2, c2, f2⟩ := id hm
  refine wpAny_pyIter_slot hv.typeIs F.slot_dict_items_iter (wpAny_call_entry F.slot_dict_items_iter hv.typeIs F.entry_dict_items_iter (?_) (F.args_dict_items_iter_1 (_)))
  unfold Builtin.«dict_items.__iter__» Builtin.Dict_items.dictOf Builtin.Dict_items.newIterator
  refine wpAny_bind (wpAny_pure (wpAny_bind (wpAny_bind (wpAny_field g1 f1 (x := .ref d) rfl (wpAny_pure (wpAny_bind (wpAny_bind (wpAny_dictEntries g2 f2 (wpAny_bind (wpAny_dictEpoch g2 f2 ?_))))))))))
  have hown : (Builtin.Dict_items.ownsTuple "dict_itemiterator") = true := by decide
  simp only [hown, if_true]
  refine wpAny_newObj_type (wpAny_pure ⟨_, rfl, "dict_itemiterator", _, ⟨_, Heap.get?_push_size (_) rfl, rfl⟩, F.slot_dict_itemiterator_next.lookup, (?_)⟩) (by
    simp only [sizeOk, Builtin.Dict_items.ownedTupleFields, List.size_toArray, List.length_append, List.length_cons, List.length_nil, sizeLine_eq]
    omega)
  simpa [rawInt, Builtin.Dict_items.ownedTupleFields] using q
/-- next(..) where there is one more -/
theorem raw_next {Q : Option Value → Shared → Prop} (hit : IsItemIter s.heap it d i es.size ep ok ov) (hm : RawD s.heap d es ep) (hi : i < es.size)
    (q : ∀ h', IsItemIterOut h' it d (i + 1) es.size ep es[i].key es[i].val s.heap.objs.size → h'.get? s.heap.objs.size = some { cls := .type "tuple", data := .seq #[es[i].key, es[i].val] } →
      (∀ b o, b ≠ it → s.heap.get? b = some o → h'.get? b = some o) → Q (some (.ref s.heap.objs.size)) { s with heap := h' }) : wpAny (model prog w) A (pyNext (.ref it)) Q E s := by
  obtain ⟨h0, g, dr, tk, os⟩ := s
  obtain ⟨o2, g2, c2, f2⟩ := id hm
  have ty : Shared.TypeIs ⟨h0, g, dr, tk, os⟩ (.ref it) "dict_itemiterator" := ⟨_, hit, rfl⟩
  have hown : (Builtin.Dict_items.ownsTuple "dict_itemiterator") = true := by decide
  unfold pyNext
  refine wpAny_bind (wpAny_attempt (wpAny_callSpecial?_slot (name := Str.ofString "__next__") ty F.slot_dict_itemiterator_next (wpAny_call_entry F.slot_dict_itemiterator_next ty F.entry_dict_itemiterator_next ?_ (F.args_dict_itemiterator_next_1 _))))
  refine wpAny_bind (wpAny_pure (wpAny_bind (wpAny_bind ?_)))
  first | refine wpAny_bind (wpAny_typeNameOfWhole_itemiter ty (wpAny_pure (wpAny_bind (wpAny_fieldsOf hit rfl ?_)))) | refine wpAny_bind (wpAny_typeNameOf_itemiter ty (wpAny_pure (wpAny_bind (wpAny_fieldsOf hit rfl ?_))))
  simp only [hown, if_true]
  show wpAny _ _ (if (Value.ref d == .none) = true then _ else _) _ _ _
  rw [if_neg (show ¬ ((Value.ref d == .none) = true) from Bool.false_ne_true)]
  refine wpAny_bind (wpAny_pure (wpAny_bind (wpAny_dictEntries g2 f2 ?_)))
  rw [if_neg (show ¬ _ by simp)]
  refine wpAny_bind (wpAny_pure (wpAny_bind (wpAny_dictEpoch g2 f2 ?_)))
  rw [if_neg (show ¬ _ by simp)]
  refine wpAny_pure ?_
  simp only [show ¬ ((i : Int) < 0) by omega, if_false, Int.toNat_natCast, Array.getElem?_eq_getElem hi]
  refine wpAny_bind ?_
  first | refine wpAny_bind (wpAny_typeNameOfWhole_itemiter ty (wpAny_pure (wpAny_bind (wpAny_isOneOf_itemiter ty ?_)))) | refine wpAny_bind (wpAny_typeNameOf_itemiter ty (wpAny_pure (wpAny_bind (wpAny_isOneOf_itemiter ty ?_))))
  show wpAny _ _ (setField (.ref it) 3 (rawInt ((i : Int) + 1)) >>= _) _ _ (⟨h0, g, dr, tk, os⟩ : Shared)
  refine wpAny_bind (wpAny_setField_rec hit (by simp) fun ha ia sa => ?_)
  have sa : Heap.SameBut it h0 ha := sa
  have ia : IsItemIter ha it d (i + 1) es.size ep ok ov := by
    have e : ((i + 1 : Nat) : Int) = (i : Int) + 1 := rfl
    unfold IsItemIter; rw [e]; simpa [rawInt] using ia
  have tya : Shared.TypeIs ⟨ha, g, dr, tk, os⟩ (.ref it) "dict_itemiterator" := ⟨_, ia, rfl⟩
  refine wpAny_bind (wpAny_holding (wpAny_bind (wpAny_isOneOf_itemiter tya (wpAny_bind (wpAny_isOneOf_itemiter tya ?_)))))
  show wpAny _ _ (Builtin.Dict_items.pairFromOwner (.ref it) 6 es[i].key es[i].val) _ _ (⟨ha, g, dr, tk, os⟩ : Shared)
  unfold Builtin.Dict_items.pairFromOwner
  refine wpAny_bind (wpAny_newTuple ?_)
  have za : ha.objs.size = h0.objs.size := sa.1
  have lt : it < h0.objs.size := Heap.lt_size hit
  have ne : h0.objs.size ≠ it := Nat.ne_of_gt lt
  obtain ⟨hb, ehb⟩ : ∃ hb, hb = ha.push { cls := .type "tuple", data := .seq #[es[i].key, es[i].val] } := ⟨_, rfl⟩
  have ib : IsItemIter hb it d (i + 1) es.size ep ok ov := by rw [ehb]; exact Heap.get?_push_of_some _ ia
  have tb : hb.get? h0.objs.size = some { cls := .type "tuple", data := .seq #[es[i].key, es[i].val] } := by rw [ehb, ← za]; exact Heap.get?_push_size _ rfl
  have kb : ∀ b o, b ≠ it → h0.get? b = some o → hb.get? b = some o := fun b o n e => by rw [ehb]; exact Heap.get?_push_of_some _ (sa.extBut b o n e)
  rw [← ehb]
  show wpAny _ _ (Builtin.Dict_items.ownedTupleIsFree (.ref it) >>= _) _ _ (⟨hb, g, dr, tk, os⟩ : Shared)
  rw [za]
  unfold Builtin.Dict_items.ownedTupleIsFree
  refine wpAny_bind (wpAny_bind (wpAny_field ib rfl (x := .none) rfl (wpAny_pure ?_)))
  simp only [if_true]
  refine wpAny_bind (wpAny_field ib rfl (x := ok) rfl (wpAny_bind (wpAny_field ib rfl (x := ov) rfl (wpAny_bind (wpAny_setField_rec ib (by simp) fun hc ic sc => ?_)))))
  have sc : Heap.SameBut it hb hc := sc
  have ic : IsItemIter hc it d (i + 1) es.size ep es[i].key ov := ic
  refine wpAny_bind (wpAny_setField_rec ic (by simp) fun hd' id' sd => ?_)
  have sd : Heap.SameBut it hc hd' := sd
  have id' : IsItemIter hd' it d (i + 1) es.size ep es[i].key es[i].val := id'
  refine wpAny_bind (wpAny_setField_rec id' (by simp) fun he ie se => ?_)
  have se : Heap.SameBut it hd' he := se
  have ie : IsItemIterOut he it d (i + 1) es.size ep es[i].key es[i].val h0.objs.size := ie
  refine wpAny_bind (wpAny_setField_rec ie (by simp) fun hf jf sf => ?_)
  have sf : Heap.SameBut it he hf := sf
  have jf : IsItemIterOut hf it d (i + 1) es.size ep es[i].key es[i].val h0.objs.size := jf
  have up : ∀ b o, b ≠ it → hb.get? b = some o → hf.get? b = some o := fun b o n e => sf.extBut b o n (se.extBut b o n (sd.extBut b o n (sc.extBut b o n e)))
  exact wpAny_bind (wpAny_letGo (wpAny_pure (wpAny_pure ⟨_, rfl, wpAny_pure (q hf jf (up _ _ ne tb) fun b o n e => up b o n (kb b o n e))⟩)))
/-- next(..) where there is none left -/
theorem raw_end {Q : Option Value → Shared → Prop} (hh : A.handled = none) (hit : IsItemIter s.heap it d i es.size ep ok ov) (hm : RawD s.heap d es ep) (hi : es.size ≤ i)
    (q : ∀ h', Heap.ExtBut it s.heap h' → Q none { s with heap := h' }) : wpAny (model prog w) A (pyNext (.ref it)) Q E s := by
  obtain ⟨o2, g2, c2, f2⟩ := id hm
  have ty : s.TypeIs (.ref it) "dict_itemiterator" := ⟨_, hit, rfl⟩
  have hown : (Builtin.Dict_items.ownsTuple "dict_itemiterator") = true := by decide
  unfold pyNext
  refine wpAny_bind (wpAny_attempt (wpAny_callSpecial?_slot (name := Str.ofString "__next__") ty F.slot_dict_itemiterator_next (wpAny_call_entry F.slot_dict_itemiterator_next ty F.entry_dict_itemiterator_next ?_ (F.args_dict_itemiterator_next_1 _))))
  refine wpAny_bind (wpAny_pure (wpAny_bind (wpAny_bind ?_)))
  first | refine wpAny_bind (wpAny_typeNameOfWhole_itemiter ty (wpAny_pure (wpAny_bind (wpAny_fieldsOf hit rfl ?_)))) | refine wpAny_bind (wpAny_typeNameOf_itemiter ty (wpAny_pure (wpAny_bind (wpAny_fieldsOf hit rfl ?_))))
  simp only [hown, if_true]
  show wpAny _ _ (if (Value.ref d == .none) = true then _ else _) _ _ _
  rw [if_neg (show ¬ ((Value.ref d == .none) = true) from Bool.false_ne_true)]
  refine wpAny_bind (wpAny_pure (wpAny_bind (wpAny_dictEntries g2 f2 ?_)))
  rw [if_neg (show ¬ _ by simp)]
  refine wpAny_bind (wpAny_pure (wpAny_bind (wpAny_dictEpoch g2 f2 ?_)))
  rw [if_neg (show ¬ _ by simp)]
  refine wpAny_pure ?_
  simp only [show ¬ ((i : Int) < 0) by omega, if_false, Int.toNat_natCast, Array.getElem?_eq_none hi]
  refine wpAny_bind ?_
  first | refine wpAny_bind (wpAny_typeNameOfWhole_itemiter ty (wpAny_pure ?_)) | refine wpAny_bind (wpAny_typeNameOf_itemiter ty (wpAny_pure ?_))
  show wpAny _ _ (setField (.ref it) 2 .none >>= _) _ _ (s)
  refine wpAny_bind (wpAny_setField hit rfl (by simp) (show wpAny _ _ (newExc (.type "StopIteration") [] >>= _) _ _ _ from wpAny_bind ?_))
  simp only [newExc, newTuple]
  refine wpAny_bind (wpAny_newObj_type (wpAny_bind (m := firstArgMember _ _) (wpAny_of_eq (a := Value.none) (by first | rfl | (simp only [firstArgMember]; rfl)) (wpAny_newObj_type ?_ (by size_fits)))) (by size_fits))
  simp only [raiseNew]
  refine wpAny_bind (wpAny_handled ?_)
  rw [show (Around.in1 A).handled = none from hh]
  refine wpAny_bind (wpAny_pure (wpAny_throw (?_)))
  refine wpAny_bind (wpAny_isInstance (b := true) (T := "StopIteration") ⟨_, Heap.get?_push_size _ rfl, rfl⟩ isSubtype_stop (?_))
  exact wpAny_pure (q _ (((Heap.SameBut.update ..).extBut.push _).push _))
end
end L2
namespace L2
open PySem PySem.Spec PyProof.Rows
/-! ### a dict that is walked stands still -/
def isDk : HO → Bool
  | .dK _ => true
  | .dT _ => true
  | _ => false
section
variable {X : Cx} {pins : List (Addr × Obj)} {σ : St} {H : Hp} {s : Shared} {d : Addr} {u : HO} {o : Obj}
theorem ne_dk (hd : H d = some u) (hu : isDk u = true) : ∀ c v, H c = some v → isDk v = false → c ≠ d := fun c v e f z => by
  subst z; rw [hd] at e; cases e; rw [hu] at f; cases f
theorem Inv.freeze (I : Inv X pins σ H s) (hd : H d = some u) (hu : isDk u = true) (ho : s.heap.get? d = some o) : Inv X pins σ (upd H d (.frz o u)) s := by
  have mu : Mut (H d) := by rw [hd]; cases u <;> first | trivial | (simp [isDk] at hu)
  refine I.write (x := d) (e := d) (o := .frz o u) (h' := s.heap) (t' := s.toks) mu (.inl rfl) (fun _ _ _ q => q) ⟨o, ho⟩ ⟨ho, ?_⟩
  exact (I.hok d u hd).stay (fun _ _ _ q => q) (fun c q => by rw [upd_ne (ne_dk hd hu c _ q rfl)]; exact q) fun c xs q => by rw [upd_ne (ne_dk hd hu c _ q rfl)]; exact q
theorem Inv.unfrozen (I : Inv X pins σ H s) (hd : H d = some u) (hu : isDk u = true) (ob : Obj) (v : HO) : X.H₀ d ≠ some (.frz ob v) := fun e => by
  have z := I.base.frzs d ob v e
  rw [hd] at z; cases z; cases hu
theorem Inv.thaw (I : Inv X pins σ H s) (hd : H d = some (.frz o u)) (h0 : ∀ ob v, X.H₀ d ≠ some (.frz ob v)) : Inv X pins σ (upd H d u) s := by
  have ne : ∀ c v, H c = some v → (∀ ob w, v ≠ .frz ob w) → c ≠ d := fun c v e f z => by
    subst z; rw [hd] at e; cases e; exact f _ _ rfl
  have nn : ∀ c, H c = none → c ≠ d := fun c e z => by subst z; rw [hd] at e; cases e
  refine ⟨I.ok, I.os, I.bare, ⟨I.base.keep, I.base.slot, fun b ob e n hx => ?_, I.base.there, fun b xs e => ?_, fun b ob w e => ?_, fun b ps e => ?_⟩, I.loc, I.cell, ?_, fun x c e => ?_, fun p hp => ?_, fun b w e => ?_, I.len⟩
  · have q := I.base.free b ob e n hx
    rw [upd_ne (nn b q)]; exact q
  · have q := I.base.tups b xs e
    rw [upd_ne (ne b _ q fun _ _ z => by cases z)]; exact q
  · have q := I.base.frzs b ob w e
    rw [upd_ne (fun z => h0 ob w (by rw [← z]; exact e))]; exact q
  · obtain ⟨m, q⟩ := I.base.tbls b ps e
    exact ⟨m, by rw [upd_ne (ne b _ q fun _ _ z => by cases z)]; exact q⟩
  · rw [upd_ne (nn _ I.free)]; exact I.free
  · rw [upd_ne (nn _ (I.freeC x c e))]; exact I.freeC x c e
  · obtain ⟨e1, e2, e3⟩ := I.pin p hp
    exact ⟨e1, by rw [upd_ne (nn _ e2)]; exact e2, e3⟩
  · have go : ∀ {a : Addr} {v : HO}, ObjOk X.prog X.w H s.heap a v → ObjOk X.prog X.w (upd H d u) s.heap a v := fun q =>
      q.stay (fun _ _ _ q => q) (fun c q => by rw [upd_ne (ne c _ q fun _ _ z => by cases z)]; exact q) fun c xs q => by rw [upd_ne (ne c _ q fun _ _ z => by cases z)]; exact q
    by_cases z : b = d
    · subst z; rw [upd_same] at e; cases e
      exact go (I.hok b _ hd).2
    · rw [upd_ne z] at e
      exact go (I.hok b w e)
/-- the ends of a walk, behind which the dict at d may be changed again -/
def thawE (d : Addr) (D : Ends) : Ends where
  nx := fun σ H => ∃ o u, H d = some (.frz o u) ∧ D.nx σ (upd H d u)
  rt := fun v H => ∃ o u, H d = some (.frz o u) ∧ D.rt v (upd H d u)
  bk := fun σ H => ∃ o u, H d = some (.frz o u) ∧ D.bk σ (upd H d u)
  ct := fun σ H => ∃ o u, H d = some (.frz o u) ∧ D.ct σ (upd H d u)
def tThaw (t : TS) : TS := fun D σ H => ∃ d u, H d = some u ∧ isDk u = true ∧ t (thawE d D) σ H
theorem ps_thaw {st : Stmt} {t : TS} (h : PS X st t) : PS X st (tThaw t) := by
  intro pins s σ H D I hq
  obtain ⟨d, u, hd, hu, ht⟩ := hq
  have h0 := I.unfrozen hd hu
  refine thn (h pins s σ H _ I ht) fun f s1 q => ?_
  cases f with
  | next => obtain ⟨σ', H', I', o, v, e, q⟩ := q; exact ⟨σ', _, I'.thaw e h0, q⟩
  | brk => obtain ⟨σ', H', I', o, v, e, q⟩ := q; exact ⟨σ', _, I'.thaw e h0, q⟩
  | cont => obtain ⟨σ', H', I', o, v, e, q⟩ := q; exact ⟨σ', _, I'.thaw e h0, q⟩
  | ret w => obtain ⟨x, σ', H', I', r, o, v, e, q⟩ := q; exact ⟨x, σ', _, I'.thaw e h0, r, q⟩
/-! ### its entries -/
abbrev PsRel (ps : List (V × V)) (es : List DictEntry) : Prop := Paired (fun p e => RelV p.1 e.key ∧ RelV p.2 e.val) ps es
/-- the pairs of the dict u: its keys as they are -/
def Pss (H : Hp) : HO → List (V × V) → Prop
  | .dK kvs, ps => ps = kvs.map fun kv => (kV kv.1, kv.2)
  | .dT kvs, ps => Paired (fun kv p => ∃ b, p = (V.ref b, kv.2) ∧ H b = some (.tup (kv.1.map kV))) kvs ps
  | _, _ => False
theorem ps_of_pairs {P : Program} {w : World} : ∀ {kvs : List (Key × V)} {vs : List (Key × Value)} {es : List DictEntry}, KV kvs vs → Pairs (mixKind P w) es vs → PsRel (kvs.map fun kv => (kV kv.1, kv.2)) es
  | [], [], _, _, p => by cases p; exact .nil
  | [], _ :: _, _, r, _ => nomatch r
  | _ :: _, [], _, r, _ => nomatch r
  | kv :: kvs, v :: vs, es, .cons h r, p => by
    cases p with
    | cons a b c =>
      refine .cons ⟨?_, ?_⟩ (ps_of_pairs r c)
      · have a := a
        rw [← h.1] at a
        rcases keyIs_shape a with ⟨i, t, e1, e2⟩ | ⟨x, t, e1, e2⟩
        · show RelV (kV kv.1) _; rw [e1, e2]; exact ⟨t, rfl⟩
        · show RelV (kV kv.1) _; rw [e1, e2]; exact ⟨t, rfl⟩
      · rw [b]; exact h.2
theorem ps_of_keys {P : Program} {w : World} {H : Hp} : ∀ {kvs : List (List Key × V)} {xs : List (List Key × Addr × Value)}, KT H kvs xs → ∃ ps, Paired (fun kv p => ∃ b, p = (V.ref b, kv.2) ∧ H b = some (.tup (kv.1.map kV))) kvs ps ∧ PsRel ps (xs.map (entryOfKey (tupleKind (mixKind P w))))
  | _, _, .nil => ⟨[], .nil, .nil⟩
  | kv :: _, x :: _, .cons h r => by
    obtain ⟨ps, h1, h2⟩ := ps_of_keys (P := P) (w := w) r
    exact ⟨(.ref x.2.1, kv.2) :: ps, .cons ⟨x.2.1, rfl, h.2.1⟩ h1, .cons ⟨rfl, h.2.2⟩ h2⟩
theorem Inv.raw (I : Inv X pins σ H s) (hd : H d = some u) (hu : isDk u = true) : ∃ o es ep ps, s.heap.get? d = some o ∧ o.ExactDict ∧ o.data = .dict es ep ∧ (d == sysModules) = false ∧ Pss H u ps ∧ PsRel ps es.toList := by
  have ok := I.hok d u hd
  cases u with
  | dK kvs =>
    obtain ⟨_, hs, vs, kv, o, es, ep, g, ex, dat, _, pr, _⟩ := ok
    exact ⟨o, es, ep, _, g, ex, dat, hs, rfl, ps_of_pairs kv pr⟩
  | dT kvs =>
    obtain ⟨_, hs, xs, kt, o, es, ep, g, ex, dat, he, _⟩ := ok
    obtain ⟨ps, h1, h2⟩ := ps_of_keys (P := X.prog) (w := X.w) kt
    exact ⟨o, es, ep, ps, g, ex, dat, hs, h1, by rw [he]; exact h2⟩
  | _ => cases hu
/-- the pairs of a dict that stands still, one by one: each is a new tuple -/
def ItD (d : Addr) (o : Obj) (u : HO) (ps : List (V × V)) : It :=
  ⟨fun i H => i < ps.length ∧ H d = some (.frz o u), fun i H x H' => ∃ k v T, ps[i]? = some (k, v) ∧ x = .ref T ∧ H T = none ∧ H' = upd H T (.tup [k, v]), fun i H => i = ps.length ∧ H d = some (.frz o u)⟩
theorem pair_at {α β : Type} {F : α → β → Prop} : ∀ {xs : List α} {ys : List β} {i : Nat} {x : α}, Paired F xs ys → xs[i]? = some x → ∃ y, ys[i]? = some y ∧ F x y
  | _, _, _, _, .nil, e => by simp at e
  | _, _, 0, _, .cons r _, e => by simp at e; subst e; exact ⟨_, rfl, r⟩
  | _, _, i + 1, x, .cons _ t, e => by
    obtain ⟨u, h1, h2⟩ := pair_at (i := i) (x := x) t (by simpa using e)
    exact ⟨u, by simpa using h1, h2⟩
theorem turn_items {P : Program} {w : World} {K : PySem.W.Frag} {elts : List Expr} {kk : Nat} {pos : Pos} {d it : Addr} {o : Obj} {u : HO} {ps : List (V × V)} {es : Array DictEntry} {ep : Nat} (hx : o.ExactDict) (dat : o.data = .dict es ep) (rel : PsRel ps es.toList) :
    Turn P w K (.Tuple elts kk pos) (ItD d o u ps) [it] it (fun i h => ∃ ok ov, IsItemIter h it d i es.size ep ok ov) where
  mem := by simp
  obj := fun i h st b hb => by
    have e : b = it := by simpa using hb
    subst e
    obtain ⟨ok, ov, st⟩ := st
    exact ⟨_, st, fun v z => by cases z⟩
  keep := fun i h h' st k => let ⟨ok, ov, st⟩ := st; ⟨ok, ov, k it (by simp) _ st⟩
  item := by
    intro X hP hw hK hc i pins s σ H E I hf st hg
    subst hP hw hK
    obtain ⟨f0, f1, _, f3, f4, f5⟩ := hf it (by simp)
    obtain ⟨ok, ov, st⟩ := st
    obtain ⟨hi, hd⟩ := hg
    have hlen : ps.length = es.size := by rw [rel.length]; simp
    have hi' : i < es.size := by omega
    refine raw_next st ⟨o, (I.hok d _ hd).1, hx, dat⟩ hi' fun h' jo ht kk => ?_
    refine ⟨_, rfl, wpAny_letOwnedTupleGo_items jo fun h2 he2 sb => ?_⟩
    obtain ⟨p, hp⟩ : ∃ p, ps[i]? = some p := ⟨ps[i], by simp [hi]⟩
    obtain ⟨e', he', rk, rv⟩ := pair_at rel hp
    have ee : e' = es[i] := by
      have : es.toList[i]? = some es[i] := by simp [hi']
      rw [this] at he'; exact (Option.some.inj he').symm
    subst ee
    have nT : s.heap.objs.size ≠ it := Nat.ne_of_gt (Heap.lt_size st)
    have I1 : Inv X pins σ H { s with heap := h2, toks := s.toks } := I.turned (fun b ob hb e => sb.extBut b ob hb (kk b ob hb e)) f0 f1 f3 f4 f5
    have hT2 : h2.get? s.heap.objs.size = some { cls := .type "tuple", data := .seq #[es[i].key, es[i].val] } := sb.extBut _ _ nT ht
    obtain ⟨g0, g1, _, _, g4, g5⟩ := I.fpOk (Nat.le_refl _) I.fresh
    have I2 := I1.track (a := s.heap.objs.size) (o := .tup [p.1, p.2]) g0 (by
      cases q : X.s₀.heap.get? s.heap.objs.size with
      | none => rfl
      | some ob => exact absurd (Nat.lt_of_lt_of_le (Heap.lt_size q) I.sz) (Nat.lt_irrefl _)) g1 g4 g5 ⟨small1000 (by simp) |> Nat.le_of_lt, [es[i].key, es[i].val], .cons rk (.cons rv .nil), ⟨_, hT2, rfl, _, rfl⟩⟩
    refine ⟨.ref _, _, I2, rfl, ⟨p.1, p.2, _, hp, rfl, g0, rfl⟩, ⟨_, _, he2⟩, fun b hb => ?_⟩
    have e : b = it := by simpa using hb
    subst e
    rw [upd_ne (Ne.symm nT)]; exact f0
  done := by
    intro X hP hw hK hc i pins s σ H E I hf st hg
    subst hP hw hK
    obtain ⟨f0, f1, _, f3, f4, f5⟩ := hf it (by simp)
    obtain ⟨ok, ov, st⟩ := st
    obtain ⟨hi, hd⟩ := hg
    have hlen : ps.length = es.size := by rw [rel.length]; simp
    exact raw_end (I.ok.hd hc) st ⟨o, (I.hok d _ hd).1, hx, dat⟩ (by rw [hi, hlen]; exact Nat.le_refl _) fun h' eb => ⟨rfl, I.turned (t' := s.toks) (fun b ob hb e => eb b ob hb e) f0 f1 f3 f4 f5⟩
  self := fun A i s Q E st h => let ⟨_, _, st⟩ := st; PySem.W.kcp_self st h
/-- what d.items() tells -/
def viewO (v d : Addr) : HO := .ext fun h => h.IsItemsView v d
def rItems : V → List V → Hp → VK → Prop := fun x vs H Q => ∃ d u, x = .ref d ∧ vs = [] ∧ H d = some u ∧ isDk u = true ∧ ∀ p, H p = none → Q (.ref p) (upd H p (viewO p d))
theorem mt_items : MtR X "dict.items" rItems := by
  intro pins s σ H x xs v us Q I rx rv h
  obtain ⟨d, u, rfl, rfl, hd, hu, q⟩ := h
  cases rx
  cases rv
  obtain ⟨o, es, ep, ps, g, ex, dat, hs, _, _⟩ := I.raw hd hu
  have rw0 : RawD s.heap d es ep := ⟨o, g, ex, dat⟩
  refine call_meetsIn PySem.F.slot_dict_items rw0.ty PySem.F.entry_dict_items (PySem.F.args_dict_items_1 (_)) (raw_items hs) ⟨⟨es, ep, rw0⟩, ?_⟩
  refine ⟨.ref _, _, I.laid (t' := s.toks) (o := viewO s.heap.objs.size d) (fun b ob e => Heap.get?_push_of_some _ e) (Nat.le_refl _) ?_, rfl, q _ I.fresh⟩
  exact ⟨⟨_, Heap.get?_push_size _ rfl, rfl, rfl⟩, ⟨_, Heap.get?_push_size _ rfl⟩, fun h1 h2 ⟨ob, e, c⟩ k => ⟨ob, k ob e, c⟩⟩
def iItems (tl : TE) : TI := fun σ H R => tl σ H fun x H1 => ∃ v d u, x = .ref v ∧ H1 v = some (viewO v d) ∧ H1 d = some u ∧ isDk u = true ∧ ∀ o ps, Pss H1 u ps → R (ItD d o u ps) (upd H1 d (.frz o u))
theorem pi_items {elts : List Expr} {kk : Nat} {pos : Pos} {l : Expr} {tl : TE} (hl : PE X l tl) : PI X (.Tuple elts kk pos) l (iItems tl) := by
  intro pins s σ H R I h
  refine thn (hl pins s σ H _ I h) fun v s1 ⟨x, H1, I1, r1, q1⟩ => ?_
  obtain ⟨vw, d, u, rfl, hv, hd, hu, q⟩ := q1
  cases r1
  obtain ⟨o, es, ep, ps, g, ex, dat, hs, hps, rel⟩ := I1.raw hd hu
  have hv' : s1.heap.IsItemsView vw d := (I1.hok vw _ hv).1
  refine raw_iter hv' ⟨o, g, ex, dat⟩ ?_
  have I2 : Inv X pins σ H1 _ := I1.kept (t' := s1.toks) (h' := s1.heap.push { cls := .type "dict_itemiterator", data := .fields #[.none, .bool false, .ref d, .int 0 0, .int es.size 0, .int ep 0, .none, .none] }) fun b ob e => Heap.get?_push_of_some _ e
  refine ⟨s1.heap.objs.size, [s1.heap.objs.size], _, _, _, rfl, I2.freeze hd hu (Heap.get?_push_of_some _ g), turn_items ex dat rel, ⟨_, _, Heap.get?_push_size _ rfl⟩, fun b hb => ?_, q o ps hps⟩
  have e : b = s1.heap.objs.size := by simpa using hb
  subst e
  exact I1.fpOk (Nat.le_refl _) (by rw [upd_ne (ne_of_none hd I1.fresh).symm]; exact I1.fresh)
end
end L2
namespace L2
open PySem PySem.Spec PyProof.Rows
/-! ### d.values(), whatever the keys are -/
section
variable {prog : Program} {w : World} {A : Around} {E : Value → Shared → Prop} {s : Shared} {it d vw : Addr} {i ep : Nat} {es : Array DictEntry}
end
section
variable {X : Cx} {K : PySem.W.Frag}
end
end L2
namespace L2
open PySem PySem.Spec PyProof.Rows
/-! ### d.clear(), dict(d), for k in d -/
section
variable {prog : Program} {w : World} {A : Around} {E : Value → Shared → Prop} {s : Shared} {it d vw : Addr} {i ep : Nat} {es : Array DictEntry}
end
section
variable {X : Cx}
/-- dict(d), d with texts and numbers for keys -/
theorem call_dictK : CallR X (.type "dict") (fun xs H Q => ∃ a kvs, xs = [V.ref a] ∧ H a = some (.dK kvs) ∧ ∀ p, H p = none → Q (.ref p) (upd H p (.dK kvs))) := by
  intro pins s σ H xs us Q I r h
  obtain ⟨a, kvs, rfl, ha, q⟩ := h
  obtain ⟨u, rfl, ru⟩ := vals1 r
  cases ru
  obtain ⟨z, y, vs, kv, D⟩ := dk_of I.hok ha
  have hl : vs.length = kvs.length := kv.length.symm
  refine kt_call_dict y D (by omega) fun h' hm sb => ?_
  refine ⟨.ref _, _, I.laid (a := s.heap.objs.size) (o := .dK kvs) (t' := s.toks) (fun b ob e => ?_) (Nat.le_refl _) ⟨z, ?_, vs, kv, hm⟩, rfl, q _ I.fresh⟩
  · exact sb.extBut b ob (Nat.ne_of_lt (Heap.lt_size e)) (Heap.get?_push_of_some _ e)
  · exact beq_eq_false_iff_ne.mpr (Nat.ne_of_gt I.big)
end
theorem pe_bm0' {X : Cx} {K : PySem.W.Frag} {o : Expr} {to : TE} {name : Str} {apos cpos : Pos} {T id : String} {r : V → List V → Hp → VK → Prop} (h : X.K = K) (pa : PlainAttrs T) (slot : Slot T name id) (hty : typeOf (.builtin id) = pure (.type "method_descriptor")) (hm : MtR X id r) (ho : PE X o to)
    (hbase : attributeBase o name X.env (eval o X.env) = eval o X.env := by rfl) (hline : (apos.endLine == cpos.line) = true := by rfl) : PE X (.Call (.Attribute o name apos) [] [] cpos) (tBM0 K T r to) := by subst h; exact pe_bm0 pa slot hty hm ho hbase hline
/-! the forms one uses -/
theorem for_items {d : Addr} {o : Obj} {u : HO} {ps : List (V × V)} {g : TG} {tb : TS} {D : Ends} {σ : St} {H : Hp} (Pv : Nat → St → Hp → Prop) (h0 : Pv 0 σ H) (hf : ∀ i σ H, Pv i σ H → H d = some (.frz o u))
    (hs : ∀ i k v T σ H, ps[i]? = some (k, v) → Pv i σ H → H T = none → g (.ref T) σ (upd H T (.tup [k, v])) fun σ2 H2 => tb { D with nx := Pv (i + 1), ct := Pv (i + 1), bk := D.nx } σ2 H2) (hd : ∀ σ H, Pv ps.length σ H → D.nx σ H) :
    ∃ W : Nat → Nat → St → Hp → Prop, (∃ m, W 0 m σ H) ∧ ∀ i m σ H, W i m σ H → ((ItD d o u ps).stop i H ∧ D.nx σ H) ∨ ((ItD d o u ps).go i H ∧ ∃ N : St → Hp → Prop, (∀ σ' H', N σ' H' → ∃ m', m' < m ∧ W (i + 1) m' σ' H') ∧
      ∀ x H', (ItD d o u ps).yld i H x H' → g x σ H' fun σ2 H2 => tb { D with nx := N, ct := N, bk := D.nx } σ2 H2) := by
  refine ⟨fun i m σ H => m = ps.length - i ∧ i ≤ ps.length ∧ Pv i σ H, ⟨_, rfl, Nat.zero_le _, h0⟩, ?_⟩
  rintro i m σ H ⟨rfl, hi, p⟩
  by_cases hlt : i < ps.length
  · refine .inr ⟨⟨hlt, hf i σ H p⟩, Pv (i + 1), fun σ' H' p' => ⟨ps.length - (i + 1), by omega, rfl, hlt, p'⟩, fun x H' y => ?_⟩
    obtain ⟨k, v, T, hk, e1, hT, e2⟩ := y
    subst e1 e2
    exact hs i k v T σ H hk p hT
  · have e : i = ps.length := by omega
    subst e
    exact .inl ⟨⟨rfl, hf _ σ H p⟩, hd σ H p⟩
end L2
namespace Tc
/-! tables as functions from places to shares -/
section
variable {α : Type} [DecidableEq α]
def dlt (n : α) : α → Rat := fun z => if z = n then 1 else 0
def fw (x y : α) (t : Rat) (v : α → Rat) : α → Rat := fun z => if z = y then v y + v x * t else if z = x then v x - v x * t else v z
def bw (x y : α) (t : Rat) (R : α → α → Rat) : α → α → Rat := fun n => if n = x then fun z => R x z * (1 - t) + R y z * t else R n
theorem fw_lin (x y : α) (t : Rat) (a b : α → Rat) (p q : Rat) : fw x y t (fun z => a z * p + b z * q) = fun z => fw x y t a z * p + fw x y t b z * q := by
  funext z
  unfold fw
  split
  · grind
  · split
    · grind
    · rfl
theorem bw_fw (x' y' : α) (t' : Rat) (x y : α) (t : Rat) (R : α → α → Rat) : bw x' y' t' (fun n => fw x y t (R n)) = fun n => fw x y t (bw x' y' t' R n) := by
  funext n
  unfold bw
  split
  · exact (fw_lin x y t (R x') (R y') (1 - t') t').symm
  · rfl
theorem bw_dlt {x y : α} (t : Rat) (h : x ≠ y) : bw x y t dlt = fun n => fw x y t (dlt n) := by
  funext n z
  unfold bw fw dlt
  by_cases e : n = x
  · rw [if_pos e]
    subst e
    by_cases e1 : z = y
    · subst e1
      have : z ≠ n := fun q => h q.symm
      grind
    · by_cases e2 : z = n
      · subst e2; grind
      · grind
  · rw [if_neg e]
    grind
/-- r times P is a whole number from 0 to k times P -/
def IsM (P k : Nat) (r : Rat) : Prop := 0 ≤ r ∧ ∃ m : Nat, m ≤ k * P ∧ r * (P : Rat) = (m : Rat)
theorem natne {P : Nat} (h : 0 < P) : (P : Rat) ≠ 0 := by
  intro e
  have : (P : Rat) = ((0 : Nat) : Rat) := e
  have := Rat.natCast_inj.mp this
  omega
theorem IsM.eq {P k : Nat} {r : Rat} (hP : 0 < P) (h : IsM P k r) : ∃ m : Nat, m ≤ k * P ∧ r = Rat.divInt m P := by
  obtain ⟨_, m, hm, e⟩ := h
  refine ⟨m, hm, ?_⟩
  rw [Rat.divInt_eq_div, Rat.intCast_natCast, Rat.intCast_natCast]
  have := natne hP
  grind
theorem IsM.zero (P k : Nat) : IsM P k 0 := ⟨by decide, 0, Nat.zero_le _, by rw [Rat.zero_mul]; rfl⟩
theorem IsM.one (P : Nat) : IsM P 1 1 := ⟨by decide, P, by omega, by rw [Rat.one_mul]⟩
theorem IsM.add {P k j : Nat} {r q : Rat} (h : IsM P k r) (g : IsM P j q) : IsM P (k + j) (r + q) := by
  obtain ⟨h0, m, hm, e⟩ := h
  obtain ⟨g0, n, hn, f⟩ := g
  refine ⟨Rat.add_nonneg h0 g0, m + n, by rw [Nat.add_mul]; omega, ?_⟩
  rw [Rat.add_mul, e, f, Rat.natCast_add]
theorem mul_den (t : Rat) : t * (t.den : Rat) = (t.num : Rat) := by
  have h := Rat.num_divInt_den t
  rw [Rat.divInt_eq_div, Rat.intCast_natCast] at h
  have := natne t.den_pos
  grind
theorem parts {t : Rat} (h0 : 0 ≤ t) (h1 : t ≤ 1) : ∃ u w : Nat, t.den = u + w ∧ t * (t.den : Rat) = (u : Rat) ∧ (1 - t) * (t.den : Rat) = (w : Rat) := by
  have n0 := Rat.num_nonneg.mpr h0
  have n1 := (Rat.le_iff t 1).mp h1
  have n1 : t.num ≤ t.den := by simpa using n1
  obtain ⟨u, hu⟩ := Int.eq_ofNat_of_zero_le n0
  have hw : t.den = u + (t.den - u) := by omega
  have e := mul_den t
  rw [hu, Rat.intCast_natCast] at e
  refine ⟨u, t.den - u, hw, e, ?_⟩
  have e2 : (t.den : Rat) = (u : Rat) + ((t.den - u : Nat) : Rat) := by rw [← Rat.natCast_add, ← hw]
  grind
theorem IsM.mulL {P k : Nat} {a t : Rat} (h : IsM P k a) (h0 : 0 ≤ t) (h1 : t ≤ 1) : IsM (P * t.den) k (a * t) := by
  obtain ⟨a0, m, hm, e⟩ := h
  obtain ⟨u, w, hd, eu, ew⟩ := parts h0 h1
  refine ⟨Rat.mul_nonneg a0 h0, m * u, ?_, ?_⟩
  · rw [hd, ← Nat.mul_assoc]
    exact Nat.mul_le_mul hm (by omega)
  · rw [Rat.natCast_mul, Rat.natCast_mul, ← e, ← eu]; grind
theorem sub_nonneg {t : Rat} (h1 : t ≤ 1) : 0 ≤ 1 - t := by grind
theorem IsM.mix {P k : Nat} {a b t : Rat} (h : IsM P k a) (g : IsM P k b) (h0 : 0 ≤ t) (h1 : t ≤ 1) : IsM (P * t.den) k (a * (1 - t) + b * t) := by
  obtain ⟨a0, m, hm, e⟩ := h
  obtain ⟨b0, n, hn, f⟩ := g
  obtain ⟨u, w, hd, eu, ew⟩ := parts h0 h1
  refine ⟨Rat.add_nonneg (Rat.mul_nonneg a0 (sub_nonneg h1)) (Rat.mul_nonneg b0 h0), m * w + n * u, ?_, ?_⟩
  · rw [hd, ← Nat.mul_assoc, Nat.mul_add]
    have := Nat.mul_le_mul_right w hm
    have := Nat.mul_le_mul_right u hn
    omega
  · rw [Rat.natCast_add, Rat.natCast_mul, Rat.natCast_mul, Rat.natCast_mul, ← e, ← f, ← eu, ← ew]; grind
theorem IsM.mulR {P k : Nat} {a t : Rat} (h : IsM P k a) (h0 : 0 ≤ t) (h1 : t ≤ 1) : IsM (P * t.den) k (a * (1 - t)) := by
  have := h.mix (IsM.zero P k) h0 h1
  rw [Rat.zero_mul, Rat.add_zero] at this
  exact this
theorem IsM.up {P k : Nat} {a : Rat} (h : IsM P k a) (d : Nat) : IsM (P * d) k a := by
  obtain ⟨a0, m, hm, e⟩ := h
  refine ⟨a0, m * d, by rw [← Nat.mul_assoc]; exact Nat.mul_le_mul_right d hm, ?_⟩
  rw [Rat.natCast_mul, Rat.natCast_mul, ← e]; grind
/-- the sum over places -/
def sumL (L : List α) (f : α → Rat) : Rat := (L.map f).foldl (· + ·) 0
theorem foldl_addQ (rs : List Rat) (a : Rat) : rs.foldl (· + ·) a = a + rs.foldl (· + ·) 0 := by
  induction rs generalizing a with
  | nil => simp [Rat.add_zero]
  | cons r rs ih =>
    rw [List.foldl_cons, List.foldl_cons, ih (a + r), ih (0 + r), Rat.zero_add, Rat.add_assoc]
theorem sumL_nil (f : α → Rat) : sumL [] f = 0 := rfl
theorem sumL_cons (z : α) (L : List α) (f : α → Rat) : sumL (z :: L) f = f z + sumL L f := by
  unfold sumL
  rw [List.map_cons, List.foldl_cons, foldl_addQ, Rat.zero_add]
theorem sumL_mix (L : List α) (a b : α → Rat) (t : Rat) : sumL L (fun z => a z * (1 - t) + b z * t) = sumL L a * (1 - t) + sumL L b * t := by
  induction L with
  | nil => simp only [sumL_nil]; grind
  | cons z L ih => rw [sumL_cons, sumL_cons, sumL_cons, ih]; grind
theorem sumL_zero (L : List α) (f : α → Rat) (h : ∀ z ∈ L, f z = 0) : sumL L f = 0 := by
  induction L with
  | nil => rfl
  | cons z L ih => rw [sumL_cons, h z List.mem_cons_self, ih fun y hy => h y (List.mem_cons_of_mem _ hy), Rat.add_zero]
theorem sumL_dlt {L : List α} (hn : L.Nodup) {n : α} (h : n ∈ L) : sumL L (dlt n) = 1 := by
  induction L with
  | nil => simp at h
  | cons z L ih =>
    rw [sumL_cons]
    rw [List.nodup_cons] at hn
    by_cases e : z = n
    · subst e
      rw [sumL_zero L _ fun y hy => ?_]
      · simp [dlt, Rat.add_zero]
      · unfold dlt; rw [if_neg]; rintro rfl; exact hn.1 hy
    · have : n ∈ L := by
        rcases List.mem_cons.mp h with q | q
        · exact absurd q.symm e
        · exact q
      rw [ih hn.2 this]
      unfold dlt; rw [if_neg e, Rat.zero_add]
theorem nodup_len : ∀ {L ks : List α}, ks.Nodup → (∀ z ∈ ks, z ∈ L) → ks.length ≤ L.length
  | L, [], _, _ => by simp
  | L, k :: ks, hk, h => by
    rw [List.nodup_cons] at hk
    have hm := h k List.mem_cons_self
    have := nodup_len (L := L.erase k) (ks := ks) hk.2 fun z hz => by
      refine (List.mem_erase_of_ne ?_).mpr (h z (List.mem_cons_of_mem _ hz))
      rintro rfl; exact hk.1 hz
    rw [List.length_erase_of_mem hm] at this
    have hp := List.length_pos_of_mem hm
    rw [List.length_cons]
    omega
/-- a row, as it stands in a dict: shares of 0 are not told -/
def op (f : α → Rat) : α → Option Rat := fun z => if f z = 0 then none else some (f z)
theorem op_get (f : α → Rat) (z : α) : (op f z).getD 0 = f z := by
  unfold op; split
  · rename_i h; rw [h]; rfl
  · rfl
theorem op_some {f : α → Rat} {z : α} : (op f z).isSome = true ↔ f z ≠ 0 := by
  unfold op; split
  · rename_i h; simp [h]
  · rename_i h; simp [h]
/-- the tables' rows over the places L -/
structure Good (L : List α) (P : Nat) (R : α → α → Rat) : Prop where
  part : ∀ n ∈ L, ∀ z, IsM P 1 (R n z)
  sup : ∀ n ∈ L, ∀ z, R n z ≠ 0 → z ∈ L
  all : ∀ n ∈ L, sumL L (R n) = 1
theorem Good.dlt {L : List α} (h : L.Nodup) : Good L 1 (dlt (α := α)) where
  part := fun n _ z => by
    unfold Tc.dlt; split
    · exact IsM.one 1
    · exact IsM.zero 1 1
  sup := fun n hn z hz => by
    unfold Tc.dlt at hz
    split at hz
    · rename_i e; rw [e]; exact hn
    · exact absurd rfl hz
  all := fun n hn => sumL_dlt h hn
theorem Good.bw {L : List α} {P : Nat} {R : α → α → Rat} {x y : α} {t : Rat} (h : Good L P R) (hx : x ∈ L) (hy : y ∈ L) (h0 : 0 ≤ t) (h1 : t ≤ 1) : Good L (P * t.den) (bw x y t R) where
  part := fun n hn z => by
    unfold Tc.bw; split
    · exact (h.part x hx z).mix (h.part y hy z) h0 h1
    · exact (h.part n hn z).up _
  sup := fun n hn z hz => by
    unfold Tc.bw at hz
    split at hz
    · have hz : R x z * (1 - t) + R y z * t ≠ 0 := hz
      by_cases e : R x z = 0
      · by_cases e2 : R y z = 0
        · rw [e, e2, Rat.zero_mul, Rat.zero_mul, Rat.add_zero] at hz; exact absurd rfl hz
        · exact h.sup y hy z e2
      · exact h.sup x hx z e
    · exact h.sup n hn z hz
  all := fun n hn => by
    unfold Tc.bw; split
    · rw [sumL_mix, h.all x hx, h.all y hy]; grind
    · exact h.all n hn
theorem frac01 {u b : Int} (h0 : 0 ≤ u) (h1 : u ≤ b) (hb : 0 < b) : 0 ≤ Rat.divInt u b ∧ Rat.divInt u b ≤ 1 := by
  refine ⟨Rat.divInt_nonneg h0 (by omega), ?_⟩
  have e : (1 : Rat) = Rat.divInt b b := by
    rw [Rat.divInt_eq_div]
    have : (b : Rat) ≠ 0 := by
      intro z
      have : b = 0 := by exact_mod_cast z
      omega
    grind
  have e2 : (1 : Rat) - Rat.divInt u b = Rat.divInt (b - u) b := by
    rw [e, Rat.divInt_eq_div, Rat.divInt_eq_div, Rat.divInt_eq_div, Rat.intCast_sub]
    grind
  have : 0 ≤ Rat.divInt (b - u) b := Rat.divInt_nonneg (by omega) (by omega)
  rw [← e2] at this
  grind
theorem pos_of {a : Rat} (h : 0 ≤ a) (n : a ≠ 0) : 0 < a := by grind
theorem op_zero : op (fun _ : α => 0) = fun _ => none := by funext z; simp [op]
end
end Tc
namespace L2
open PySem PySem.Spec PyProof.Rows
theorem bt_reversed : bootBuiltins "reversed" = some (.type "reversed") := by decide +kernel
/-- a list that stands still, from its end -/
def Itv (K : PySem.W.Frag) (a : Addr) (xs : List V) : It :=
  ⟨fun i H => i < xs.length ∧ SqL K H a xs, fun i H x H' => H' = H ∧ xs[xs.length - 1 - i]? = some x, fun i _ => i = xs.length⟩
theorem turn_rev {P : Program} {w : World} {K : PySem.W.Frag} {tg : Expr} (a it : Addr) (xs : List V) : Turn P w K tg (Itv K a xs) [it] it (fun i h => h.IsRevIter it a ((xs.length : Int) - 1 - (i : Int))) where
  mem := by simp
  obj := fun i h st b hb => by
    have e : b = it := by simpa using hb
    subst e
    obtain ⟨o, e, c, d⟩ := st
    exact ⟨o, e, fun v z => by rw [d] at z; cases z⟩
  keep := fun i h h' st k => st.at fun o e => k it (by simp) o e
  item := by
    intro X hP hw hK hc i pins s σ H E I hf st hg
    subst hP hw hK
    obtain ⟨hi, hq⟩ := hg
    obtain ⟨its, rv, p, hz⟩ := I.list hq
    have hx : xs[xs.length - 1 - i]? = some (xs[xs.length - 1 - i]'(by omega)) := List.getElem?_eq_getElem (by omega)
    obtain ⟨u, hu, ru⟩ := rv.get hx
    obtain ⟨f0, f1, f2, f3, f4, f5⟩ := hf it (by simp)
    have e : (xs.length : Int) - 1 - (i : Int) = ((xs.length - 1 - i : Nat) : Int) := by omega
    have st : s.heap.IsRevIter it a ((xs.length : Int) - 1 - (i : Int)) := st
    rw [e] at st
    refine wpAny_pyNext_rev_item st p.isList (x := u) (by simpa using hu) fun h' st' sb => ?_
    have I1 : Inv X pins σ H { s with heap := h' } := I.turned (t' := s.toks) (fun b o hb e => (sb.2 b hb).trans e) f0 f1 f3 f4 f5
    have e2 : ((xs.length - 1 - i : Nat) : Int) - 1 = (xs.length : Int) - 1 - ((i + 1 : Nat) : Int) := by omega
    rw [e2] at st'
    obtain ⟨o, e, c, d⟩ := id st'
    exact ⟨u, rfl, go_of (s := { s with heap := h' }) e c d (by decide) ⟨_, H, I1, ru, ⟨rfl, hx⟩, st', fun b hb => (hf b hb).1⟩⟩
  done := by
    intro X hP hw hK hc i pins s σ H E I hf st hg
    subst hP hw hK
    have hg : i = xs.length := hg
    obtain ⟨f0, f1, f2, f3, f4, f5⟩ := hf it (by simp)
    have e : (xs.length : Int) - 1 - (i : Int) = -1 := by omega
    have st : s.heap.IsRevIter it a ((xs.length : Int) - 1 - (i : Int)) := st
    rw [e] at st
    exact wpAny_pyNext_rev_end (I.ok.hd hc) st fun h' eb => ⟨rfl, I.turned (t' := s.toks) (fun b o hb e => eb b o hb e) f0 f1 f3 f4 f5⟩
  self := fun _ _ _ _ _ st h => wpAny_pyIter_revIter st h
section
variable {X : Cx} {K : PySem.W.Frag}
def iRev (K : PySem.W.Frag) (ta : TA) : TI := fun σ H R => ta σ H fun vs H1 => ∃ a xs, vs = [V.ref a] ∧ SqL K H1 a xs ∧ R (Itv K a xs) H1
/-- reversed(l), l a list -/
theorem pi_rev {tg a : Expr} {ta : TA} {p pos : Pos} (hK : X.K = K) (hg : Gl X "reversed") (hm : X.mg "reversed" = none) (ha : PA X [a] ta) (hs : starEach [a] X.env = [(false, eval a X.env)] := by rfl) : PI X tg (.Call (.Name "reversed" p) [a] [] pos) (iRev K ta) := by
  subst hK
  intro pins s σ H R I h
  refine Call_ (ld_blt I hg hm bt_reversed (PyProof.Rows.callWith_type1 (thn (ha pos pins s σ H _ I h) fun us s1 ⟨vs, H1, I1, r1, q1⟩ => ?_) hs rfl))
  obtain ⟨b, xs, rfl, hq, q⟩ := q1
  obtain ⟨u, rfl, ru⟩ := vals1 r1
  cases ru
  obtain ⟨its, rv, p, hz⟩ := I1.list hq
  refine call_reversed_list p.isList ?_
  have e : ((its.toArray.size : Nat) : Int) - 1 = (xs.length : Int) - 1 - ((0 : Nat) : Int) := by
    have := rv.length
    simp; omega
  rw [e]
  refine wpAny_pyIter_revIter (l := b) (i := (xs.length : Int) - 1 - ((0 : Nat) : Int)) ⟨_, Heap.get?_push_size _ rfl, rfl, rfl⟩ ?_
  refine ⟨s1.heap.objs.size, [s1.heap.objs.size], _, _, H1, rfl, I1.kept (t' := s1.toks) fun b o e => Heap.get?_push_of_some _ e, turn_rev b _ xs, ⟨_, Heap.get?_push_size _ rfl, rfl, rfl⟩, fun b hb => ?_, q⟩
  have e : b = s1.heap.objs.size := by simpa using hb
  subst e
  exact I1.fpOk (Nat.le_refl _) (I1.hok.fresh (Nat.le_refl _))
end
/-- from the end: j are left -/
theorem for_rev {K : PySem.W.Frag} {a : Addr} {xs : List V} {g : TG} {tb : TS} {D : Ends} {σ : St} {H : Hp} (Pv : Nat → St → Hp → Prop) (h0 : Pv xs.length σ H) (hl : ∀ j σ H, j ≤ xs.length → Pv j σ H → SqL K H a xs)
    (hs : ∀ j x σ H, xs[j]? = some x → Pv (j + 1) σ H → g x σ H fun σ2 H2 => tb { D with nx := Pv j, ct := Pv j, bk := D.nx } σ2 H2) (hd : ∀ σ H, Pv 0 σ H → D.nx σ H) :
    ∃ W : Nat → Nat → St → Hp → Prop, (∃ m, W 0 m σ H) ∧ ∀ i m σ H, W i m σ H →
      ((Itv K a xs).stop i H ∧ D.nx σ H) ∨ ((Itv K a xs).go i H ∧ ∃ N : St → Hp → Prop, (∀ σ' H', N σ' H' → ∃ m', m' < m ∧ W (i + 1) m' σ' H') ∧ ∀ x H', (Itv K a xs).yld i H x H' → g x σ H' fun σ2 H2 => tb { D with nx := N, ct := N, bk := D.nx } σ2 H2) := by
  refine ⟨fun i m σ H => i + m = xs.length ∧ Pv m σ H, ⟨xs.length, by omega, h0⟩, ?_⟩
  rintro i m σ H ⟨hi, p⟩
  have q := hl m σ H (by omega) p
  cases m with
  | zero => exact .inl ⟨by show i = _; omega, hd σ H p⟩
  | succ j =>
    refine .inr ⟨⟨by omega, q⟩, Pv j, fun σ' H' p' => ⟨j, by omega, by omega, p'⟩, fun x H' y => ?_⟩
    obtain ⟨e, y⟩ := y
    subst e
    have ej : xs.length - 1 - i = j := by omega
    rw [ej] at y
    exact hs j x σ _ y p
end L2
namespace L2
open PySem PySem.Spec PyProof.Rows
theorem Paired.take {α β : Type} {F : α → β → Prop} {xs : List α} {ys : List β} (h : Paired F xs ys) : ∀ i : Nat, Paired F (xs.take i) (ys.take i) := by
  induction h with
  | nil => intro i; rw [List.take_nil, List.take_nil]; exact .nil
  | cons r t ih =>
    intro i
    cases i with
    | zero => exact .nil
    | succ i => rw [List.take_succ_cons, List.take_succ_cons]; exact .cons r (ih i)
theorem Paired.drop {α β : Type} {F : α → β → Prop} {xs : List α} {ys : List β} (h : Paired F xs ys) : ∀ i : Nat, Paired F (xs.drop i) (ys.drop i) := by
  induction h with
  | nil => intro i; rw [List.drop_nil, List.drop_nil]; exact .nil
  | cons r t ih =>
    intro i
    cases i with
    | zero => exact .cons r t
    | succ i => rw [List.drop_succ_cons, List.drop_succ_cons]; exact ih i
section
variable {X : Cx} {K : PySem.W.Frag} {pos : Pos}
end
end L2
namespace L2
open PySem PySem.Spec PyProof.Rows
end L2
namespace L2
open PySem PySem.Spec PyProof.Rows
theorem bt_enumerate : bootBuiltins "enumerate" = some (.type "enumerate") := by decide +kernel
section
variable {X : Cx} {pins : List (Addr × Obj)} {σ : St} {H : Hp} {s : Shared} {h' : Heap}
/-- some records of ours have turned -/
theorem Inv.turns {t' : Nat} {ch : List Addr} (I : Inv X pins σ H s) (k : ∀ b o, b ∉ ch → s.heap.get? b = some o → h'.get? b = some o) (hf : ∀ b ∈ ch, FpOk X pins H b) : Inv X pins σ H { s with heap := h', toks := t' } := by
  have nit : ∀ b u, H b = some u → b ∉ ch := fun b u e z => by rw [(hf b z).1] at e; cases e
  refine I.step (g' := s.gens) (d' := s.drawn) (ch := ch) (fun b hb => ?_) (fun b o _ _ hc e _ => k b o hc e) (fun b o _ _ hc e _ => ⟨o.slots, k b o hc e⟩) (fun _ _ _ _ n => n) (fun b o hc e => ⟨o, k b o hc e⟩) (fun _ _ e => e) (fun _ _ _ e => e) (fun b ps e => ⟨#[], by rw [e]; simp⟩) (fun m hm => ?_) (fun b u e => ?_) I.bare
  · obtain ⟨f0, f1, f2, f3, f4, f5⟩ := hf b hb
    exact ⟨f3, f1, f4, f5⟩
  · obtain ⟨o, es, ep, ho, r⟩ := hm
    exact ⟨o, es, ep, k _ o (fun z => (hf _ z).2.1 rfl) ho, r⟩
  · refine (I.hok b u e).stay (fun c v hc q => k c v ?_ q) (fun _ q => q) fun _ _ q => q
    rcases hc with z | z
    · rw [z]; exact nit b u e
    · exact nit c _ z
end
/-- a list that stands still, each thing with its number -/
def ItE (K : PySem.W.Frag) (a : Addr) (xs : List V) : It :=
  ⟨fun i H => i < xs.length ∧ SqL K H a xs, fun i H x H' => ∃ v T, xs[i]? = some v ∧ x = .ref T ∧ H T = none ∧ H' = upd H T (.tup [.int (i : Nat), v]), fun i H => i = xs.length ∧ SqL K H a xs⟩
theorem turn_enum {P : Program} {w : World} {K : PySem.W.Frag} {elts : List Expr} {kk : Nat} {pos : Pos} (a e li : Addr) (xs : List V) (hne : e ≠ li) :
    Turn P w K (.Tuple elts kk pos) (ItE K a xs) [e, li] e (fun i h => ∃ old, IsEnum h e li ((i : Nat) : Int) old ∧ h.IsListIter li a i) where
  mem := by simp
  obj := fun i h st b hb => by
    obtain ⟨old, s1, o, e2, c, d⟩ := st
    simp only [List.mem_cons, List.not_mem_nil, or_false] at hb
    rcases hb with rfl | rfl
    · exact ⟨_, s1, fun v z => by cases z⟩
    · exact ⟨o, e2, fun v z => by rw [d] at z; cases z⟩
  keep := fun i h h' st k => let ⟨old, s1, s2⟩ := st; ⟨old, k e (by simp) _ s1, s2.at fun o eo => k li (by simp) o eo⟩
  item := by
    intro X hP hw hK hc i pins s σ H E I hf st hg
    subst hP hw hK
    obtain ⟨old, st1, st2⟩ := st
    obtain ⟨hi, hq⟩ := hg
    obtain ⟨its, rv, p, hz⟩ := I.list hq
    have hx : xs[i]? = some xs[i] := by simp [hi]
    obtain ⟨u, hu, ru⟩ := rv.get hx
    refine wpAny_pyNext_enum_item st1 st2 p.isList (x := u) (by simpa using hu) hne fun h' jo jl ht hz' kp => ?_
    refine ⟨_, rfl, wpAny_letOwnedTupleGo_enum jo fun h2 he2 sb => ?_⟩
    have sb : Heap.SameBut e h' h2 := sb
    have nTe : s.heap.objs.size ≠ e := Nat.ne_of_gt (Heap.lt_size st1)
    have nTl : s.heap.objs.size ≠ li := by
      obtain ⟨o, e2, _⟩ := id st2
      exact Nat.ne_of_gt (Heap.lt_size e2)
    have I1 : Inv X pins σ H { s with heap := h2, toks := s.toks + 1 } := I.turns (ch := [e, li]) (fun b o hb eo => sb.extBut b o (fun z => hb (by simp [z])) (kp b o (fun z => hb (by simp [z])) (fun z => hb (by simp [z])) eo)) hf
    have hT2 : h2.get? s.heap.objs.size = some { cls := .type "tuple", data := .seq #[.int i s.toks, u] } := sb.extBut _ _ nTe ht
    obtain ⟨g0, g1, _, _, g4, g5⟩ := I.fpOk (Nat.le_refl _) I.fresh
    have I2 := I1.track (a := s.heap.objs.size) (o := .tup [.int (i : Nat), xs[i]]) g0 (by
      cases q : X.s₀.heap.get? s.heap.objs.size with
      | none => rfl
      | some ob => exact absurd (Nat.lt_of_lt_of_le (Heap.lt_size q) I.sz) (Nat.lt_irrefl _)) g1 g4 g5 ⟨small1000 (by simp) |> Nat.le_of_lt, [.int i s.toks, u], .cons ⟨_, rfl⟩ (.cons ru .nil), ⟨_, hT2, rfl, _, rfl⟩⟩
    refine ⟨.ref _, _, I2, rfl, ⟨xs[i], _, hx, rfl, g0, rfl⟩, ⟨_, he2, jl.extBut sb.extBut hne.symm⟩, fun b hb => ?_⟩
    have nb : b ≠ s.heap.objs.size := by
      simp only [List.mem_cons, List.not_mem_nil, or_false] at hb
      rcases hb with rfl | rfl
      · exact nTe.symm
      · exact nTl.symm
    rw [upd_ne nb]; exact (hf b hb).1
  done := by
    intro X hP hw hK hc i pins s σ H E I hf st hg
    subst hP hw hK
    obtain ⟨old, st1, st2⟩ := st
    obtain ⟨hi, hq⟩ := hg
    obtain ⟨its, rv, p, hz⟩ := I.list hq
    have hl := rv.length
    exact wpAny_pyNext_enum_end (I.ok.hd hc) st1 st2 p.isList (by simp; omega) fun h' eb => ⟨rfl, I.turns (t' := s.toks) (ch := [e, li]) (fun b o hb eo => eb b o (fun z => hb (by simp [z])) eo) hf⟩
  self := fun A i s Q E st h => let ⟨_, st1, _⟩ := st; wpAny_pyIter_enum st1 h
section
variable {X : Cx} {K : PySem.W.Frag}
def iEnum (K : PySem.W.Frag) (ta : TA) : TI := fun σ H R => ta σ H fun vs H1 => ∃ a xs, vs = [V.ref a] ∧ SqL K H1 a xs ∧ R (ItE K a xs) H1
theorem pi_enum {elts : List Expr} {kk : Nat} {tpos : Pos} {a : Expr} {ta : TA} {p pos : Pos} (hK : X.K = K) (hg : Gl X "enumerate") (hm : X.mg "enumerate" = none) (ha : PA X [a] ta) (hs : starEach [a] X.env = [(false, eval a X.env)] := by rfl) : PI X (.Tuple elts kk tpos) (.Call (.Name "enumerate" p) [a] [] pos) (iEnum K ta) := by
  subst hK
  intro pins s σ H R I h
  refine Call_ (ld_blt I hg hm bt_enumerate (PyProof.Rows.callWith_type1 (thn (ha pos pins s σ H _ I h) fun us s1 ⟨vs, H1, I1, r1, q1⟩ => ?_) hs rfl))
  obtain ⟨b, xs, rfl, hq, q⟩ := q1
  obtain ⟨u, rfl, ru⟩ := vals1 r1
  cases ru
  obtain ⟨its, rv, p, hz⟩ := I1.list hq
  refine call_enumerate_list p.isList fun h' he hl hz kk => wpAny_pyIter_enum he ?_
  refine ⟨s1.heap.objs.size + 1, [s1.heap.objs.size + 1, s1.heap.objs.size], _, _, H1, rfl, I1.kept (t' := s1.toks) kk, turn_enum b (s1.heap.objs.size + 1) s1.heap.objs.size xs (Nat.succ_ne_self _), ⟨_, he, hl⟩, fun c hc => ?_, q⟩
  simp only [List.mem_cons, List.not_mem_nil, or_false] at hc
  rcases hc with rfl | rfl
  · exact I1.fpOk (by omega) (I1.hok.fresh (by omega))
  · exact I1.fpOk (Nat.le_refl _) (I1.hok.fresh (Nat.le_refl _))
end
/-! the forms one uses -/
theorem for_enum {K : PySem.W.Frag} {a : Addr} {xs : List V} {g : TG} {tb : TS} {D : Ends} {σ : St} {H : Hp} (Pv : Nat → St → Hp → Prop) (h0 : Pv 0 σ H) (hl : ∀ i σ H, i ≤ xs.length → Pv i σ H → SqL K H a xs)
    (hs : ∀ i v T σ H, xs[i]? = some v → Pv i σ H → H T = none → g (.ref T) σ (upd H T (.tup [.int (i : Nat), v])) fun σ2 H2 => tb { D with nx := Pv (i + 1), ct := Pv (i + 1), bk := D.nx } σ2 H2) (hd : ∀ σ H, Pv xs.length σ H → D.nx σ H) :
    ∃ W : Nat → Nat → St → Hp → Prop, (∃ m, W 0 m σ H) ∧ ∀ i m σ H, W i m σ H → ((ItE K a xs).stop i H ∧ D.nx σ H) ∨ ((ItE K a xs).go i H ∧ ∃ N : St → Hp → Prop, (∀ σ' H', N σ' H' → ∃ m', m' < m ∧ W (i + 1) m' σ' H') ∧
      ∀ x H', (ItE K a xs).yld i H x H' → g x σ H' fun σ2 H2 => tb { D with nx := N, ct := N, bk := D.nx } σ2 H2) := by
  refine ⟨fun i m σ H => m = xs.length - i ∧ i ≤ xs.length ∧ Pv i σ H, ⟨_, rfl, Nat.zero_le _, h0⟩, ?_⟩
  rintro i m σ H ⟨rfl, hi, p⟩
  have q := hl i σ H hi p
  by_cases hlt : i < xs.length
  · refine .inr ⟨⟨hlt, q⟩, Pv (i + 1), fun σ' H' p' => ⟨xs.length - (i + 1), by omega, rfl, hlt, p'⟩, fun x H' y => ?_⟩
    obtain ⟨v, T, hv, e1, hT, e2⟩ := y
    subst e1 e2
    exact hs i v T σ H hv p hT
  · have e : i = xs.length := by omega
    subst e
    exact .inl ⟨⟨rfl, q⟩, hd σ H p⟩
theorem block_enum {K : PySem.W.Frag} {a : Addr} {xs : List V} {g : TG} {tc : TT} {te : TE} {D : Addr} {Z : Hp → Prop} {σ : St} {H : Hp} (Pv : Nat → St → Hp → Prop) (h0 : Pv 0 σ H) (hl : ∀ i σ H, i ≤ xs.length → Pv i σ H → SqL K H a xs)
    (hs : ∀ i v T σ H, xs[i]? = some v → Pv i σ H → H T = none → g (.ref T) σ (upd H T (.tup [.int (i : Nat), v])) fun σ2 H2 => tc σ2 H2 fun b H3 => if b = true then te σ2 H3 fun y H4 => ∃ ys, H4 D = some (.lst ys) ∧ ys.length < sizeLine ∧ Pv (i + 1) σ2 (upd H4 D (.lst (ys ++ [y]))) else Pv (i + 1) σ2 H3)
    (hd : ∀ σ H, Pv xs.length σ H → Z H) : tBlock (ItE K a xs) g tc te D Z σ H := by
  refine ⟨fun i m σ H => m = xs.length - i ∧ i ≤ xs.length ∧ Pv i σ H, ⟨xs.length, by simp, Nat.zero_le _, h0⟩, ?_⟩
  rintro i m σ H ⟨rfl, hi, p⟩
  have q := hl i σ H hi p
  by_cases hlt : i < xs.length
  · refine .inr ⟨⟨hlt, q⟩, Pv (i + 1), fun σ' H' p' => ⟨xs.length - (i + 1), by omega, rfl, hlt, p'⟩, fun x H' y => ?_⟩
    obtain ⟨v, T, hv, e1, hT, e2⟩ := y
    subst e1 e2
    exact hs i v T σ H hv p hT
  · have e : i = xs.length := by omega
    subst e
    exact .inl ⟨⟨rfl, q⟩, hd σ H p⟩
end L2
namespace L2
open PySem PySem.Spec PyProof.Rows
section
variable {X : Cx}
end
end L2
namespace L2
open PySem PySem.Spec PyProof.Rows
section
variable {X : Cx} {K : PySem.W.Frag}
end
end L2
namespace L2
open PySem PySem.Spec PyProof.Rows
section
variable {X : Cx} {K : PySem.W.Frag}
end
end L2
namespace L2
open PySem PySem.Spec PyProof.Rows
end L2
namespace L2
open PySem PySem.Spec PyProof.Rows
theorem size_down (a b : Int) : Builtin.Range.rangeSize a b (-1) = (((a - b).toNat : Nat) : Int) := by
  unfold Builtin.Range.rangeSize
  rw [if_neg (by decide)]
  have e : (-(-1) : Int) = 1 := by decide
  rw [e, Int.ediv_one]
  split <;> omega
theorem small_down {a b : Int} (ha : -(2 ^ 60) ≤ a) (ha' : a < 2 ^ 60) (hb : -(2 ^ 60) ≤ b) (hb' : b < 2 ^ 60) : Builtin.Range.small a b (-1) = true := by
  have hs := size_down a b
  unfold Builtin.Range.small
  simp only [Builtin.Range.rangeFitsLong, Bool.and_eq_true, Bool.or_eq_true, decide_eq_true_eq, beq_iff_eq, if_neg (show ¬ (-1 : Int) > 0 by decide)]
  omega
section
variable {X : Cx}
def iRngD (ta : TA) : TI := fun σ H R => ta σ H fun vs H1 => ∃ i j : Int, vs = [.int i, .int j, .int (-1)] ∧ (-(2 ^ 60) ≤ i ∧ i < 2 ^ 60 ∧ -(2 ^ 60) ≤ j ∧ j < 2 ^ 60) ∧ R (ItrS i (-1) (i - j).toNat) H1
theorem pi_rangeD {tg a b c : Expr} {ta : TA} {p pos : Pos} (hg : Gl X "range") (hm : X.mg "range" = none) (ha : PA X [a, b, c] ta) (hs : starEach [a, b, c] X.env = [(false, eval a X.env), (false, eval b X.env), (false, eval c X.env)] := by rfl)
    (hs2 : starEach [b, c] X.env = [(false, eval b X.env), (false, eval c X.env)] := by rfl) : PI X tg (.Call (.Name "range" p) [a, b, c] [] pos) (iRngD ta) := by
  intro pins s σ H R I h
  refine Call_ (ld_blt I hg hm boot_range (PyProof.Rows.callWith_type1 (thn (ha pos pins s σ H _ I h) fun us s1 ⟨vs, H1, I1, r1, q1⟩ => ?_) (by rw [hs, hs2]) (by rw [hs2]; rfl)))
  obtain ⟨lo, hi, e, ⟨q1, q2, q3, q4⟩, q⟩ := q1
  subst e
  cases r1 with
  | cons r rr =>
    cases rr with
    | cons r' rr =>
      cases rr with
      | cons r'' rr =>
        cases rr
        obtain ⟨t, rfl⟩ := r
        obtain ⟨t', rfl⟩ := r'
        obtain ⟨t'', rfl⟩ := r''
        refine call_range_3 (by decide) ?_ (.inl (PyProof.noPylong_small (by decide)))
        refine wpAny_pyIter_range (IsRange.new ..) (small_down q1 q2 q3 q4) ?_
        have I2 : Inv X pins σ H1 { s1 with heap := s1.heap.push { cls := .type "range", data := .fields #[.int lo t, .int hi t', .int (-1) t''] }, toks := s1.toks } := I1.kept fun b o e => Heap.get?_push_of_some _ e
        refine ⟨(s1.heap.push { cls := .type "range", data := .fields #[.int lo t, .int hi t', .int (-1) t''] }).objs.size, [(s1.heap.push { cls := .type "range", data := .fields #[.int lo t, .int hi t', .int (-1) t''] }).objs.size], _, _, H1, rfl,
          I2.kept (t' := s1.toks) fun b o e => Heap.get?_push_of_some _ e, turn_rangeS _ lo (-1) (lo - hi).toNat, ?_, fun b hb => ?_, q⟩
        · have e1 : lo + ((0 : Nat) : Int) * (-1) = lo := by simp
          have e2 : (((lo - hi).toNat : Nat) : Int) - ((0 : Nat) : Int) = Builtin.Range.rangeSize lo hi (-1) := by rw [size_down]; simp
          show IsRangeIter _ _ (lo + ((0 : Nat) : Int) * (-1)) ((((lo - hi).toNat : Nat) : Int) - ((0 : Nat) : Int)) (-1)
          rw [e1, e2]
          exact Heap.get?_push_size _ rfl
        · have e : b = (s1.heap.push { cls := .type "range", data := .fields #[.int lo t, .int hi t', .int (-1) t''] }).objs.size := by simpa using hb
          subst e
          exact I2.fpOk (Nat.le_refl _) (I2.hok.fresh (Nat.le_refl _))
end
end L2
namespace T34
open PySem L2 Tc
def top (i : Nat) : Stmt := PySem.Challenge.pw_tiercask_k34_whole_greatest_way.main.body.getD i (.Pass ⟨0, 0, 0, 0⟩)
structure Txt (K : PySem.W.Frag) (mg : Str → Option Value) : Prop where
  z_abs : mg "abs" = none
  z_bool : mg "bool" = none
  z_dict : mg "dict" = none
  z_enumerate : mg "enumerate" = none
  z_int : mg "int" = none
  z_isinstance : mg "isinstance" = none
  z_len : mg "len" = none
  z_list : mg "list" = none
  z_range : mg "range" = none
  z_reversed : mg "reversed" = none
  z_str : mg "str" = none
  z_tuple : mg "tuple" = none
/-- a dict from names to fractions -/
structure RowAt (H : Hp) (kvs : List (Key × V)) (f : Str → Option Rat) : Prop where
  nodup : (kvs.map (·.1)).Nodup
  keys : ∀ kv ∈ kvs, ∃ z, kv.1 = .inr z
  has : ∀ z r, f z = .some r → ∃ v, valV kvs (.inr z) = .some v ∧ FrV H v r
  not : ∀ z, f z = .none → valV kvs (.inr z) = .none
theorem RowAt.same {H H' : Hp} {kvs : List (Key × V)} {f : Str → Option Rat} (h : RowAt H kvs f) (s : ∀ v r, FrV H v r → FrV H' v r) : RowAt H' kvs f :=
  ⟨h.nodup, h.keys, fun z r e => (let ⟨v, a, b⟩ := h.has z r e; ⟨v, a, s v r b⟩), h.not⟩
theorem RowAt.nil (H : Hp) : RowAt H [] fun _ => .none := ⟨List.nodup_nil, (fun _ z => nomatch z), (fun _ _ e => nomatch e), fun _ _ => rfl⟩
theorem keys_put (kvs : List (Key × V)) (k : Key) (v : V) : (putK kvs k v).map (·.1) = if (kvs.any fun kv => decide (kv.1 = k)) = true then kvs.map (·.1) else kvs.map (·.1) ++ [k] := by
  unfold putK
  split
  · rw [List.map_map]
    apply List.map_congr_left
    intro kv _
    show (if kv.1 = k then (kv.1, v) else kv).1 = kv.1
    split <;> rfl
  · rw [List.map_append]; rfl
theorem RowAt.put {H : Hp} {kvs : List (Key × V)} {f : Str → Option Rat} (h : RowAt H kvs f) {z : Str} {v : V} {r : Rat} (hv : FrV H v r) : RowAt H (putK kvs (.inr z) v) fun y => if y = z then .some r else f y := by
  refine ⟨?_, ?_, fun y q e => ?_, fun y e => ?_⟩
  · rw [keys_put]
    split
    · exact h.nodup
    · rename_i hn
      refine List.nodup_append.mpr ⟨h.nodup, by simp, fun a ha b hb e => hn ?_⟩
      have hb := List.mem_singleton.mp hb
      subst hb
      obtain ⟨kv, hk, ek⟩ := List.mem_map.mp ha
      exact List.any_eq_true.mpr ⟨kv, hk, decide_eq_true (ek.trans e)⟩
  · intro kv hkv
    have : kv.1 ∈ (putK kvs (.inr z) v).map (·.1) := List.mem_map.mpr ⟨kv, hkv, rfl⟩
    rw [keys_put] at this
    split at this
    · obtain ⟨kw, h1, h2⟩ := List.mem_map.mp this
      rw [← h2]; exact h.keys kw h1
    · rcases List.mem_append.mp this with q | q
      · obtain ⟨kw, h1, h2⟩ := List.mem_map.mp q
        rw [← h2]; exact h.keys kw h1
      · exact ⟨z, List.mem_singleton.mp q⟩
  · rw [valV_put]
    by_cases ey : y = z
    · subst ey
      rw [if_pos rfl] at e ⊢
      cases e
      exact ⟨v, rfl, hv⟩
    · rw [if_neg ey] at e
      rw [if_neg fun q => ey (Sum.inr.inj q)]
      exact h.has y q e
  · rw [valV_put]
    by_cases ey : y = z
    · subst ey; rw [if_pos rfl] at e; cases e
    · rw [if_neg ey] at e
      rw [if_neg fun q => ey (Sum.inr.inj q)]
      exact h.not y e
def nmz : Key → Str
  | .inr z => z
  | .inl _ => ""
def nms (ks : List (Key × V)) : List Str := ks.map fun kv => nmz kv.1
theorem valV_get : ∀ {ks : List (Key × V)}, (ks.map (·.1)).Nodup → ∀ {i : Nat} {p : Key × V}, ks[i]? = .some p → valV ks p.1 = .some p.2
  | [], _, _, _, e => by simp at e
  | q :: qs, hn, 0, p, e => by
    simp at e; subst e
    unfold valV
    rw [List.find?_cons_of_pos (by simp)]; rfl
  | q :: qs, hn, i + 1, p, e => by
    have e' : qs[i]? = .some p := by simpa using e
    rw [List.map_cons, List.nodup_cons] at hn
    have ne : q.1 ≠ p.1 := fun z => hn.1 (by rw [z]; exact List.mem_map.mpr ⟨p, List.mem_of_getElem? e', rfl⟩)
    have ih := valV_get hn.2 e'
    unfold valV at ih ⊢
    rw [List.find?_cons_of_neg (by simp [ne])]; exact ih
theorem nms_mem {ks : List (Key × V)} {z : Str} {v : V} (h : valV ks (.inr z) = .some v) : z ∈ nms ks := by
  unfold valV at h
  cases q : ks.find? fun kv => decide (kv.1 = .inr z) with
  | none => rw [q] at h; cases h
  | some kv =>
    have h1 := List.mem_of_find?_eq_some q
    have h2 := List.find?_some q
    refine List.mem_map.mpr ⟨kv, h1, ?_⟩
    rw [of_decide_eq_true h2]; rfl
theorem nms_not {ks : List (Key × V)} (hn : (ks.map (·.1)).Nodup) {i : Nat} {p : Key × V} (hp : ks[i]? = .some p) {z : Str} (hz : p.1 = .inr z) (hk : ∀ kv ∈ ks, ∃ y, kv.1 = .inr y) : z ∉ nms (ks.take i) := by
  intro h
  obtain ⟨q, hq, e⟩ := List.mem_map.mp h
  obtain ⟨j, hj, ej⟩ := List.getElem_of_mem hq
  have hji : j < i := by rw [List.length_take] at hj; omega
  have hj2 : ks[j]? = .some q := by
    have : (ks.take i)[j]? = .some q := by rw [List.getElem?_eq_getElem hj, ej]
    rwa [List.getElem?_take_of_lt hji] at this
  obtain ⟨y, hy⟩ := hk q (List.mem_of_getElem? hj2)
  have eyz : y = z := by rw [hy] at e; exact e
  have ek : q.1 = p.1 := by rw [hy, eyz, hz]
  have hi : i < ks.length := (List.getElem?_eq_some_iff.mp hp).1
  have hjl : j < ks.length := by omega
  have e1 : (ks.map (·.1))[j]'(by simpa using hjl) = (ks.map (·.1))[i]'(by simpa using hi) := by
    have a1 : ks[j] = q := by rw [List.getElem?_eq_getElem hjl] at hj2; exact Option.some.inj hj2
    have a2 : ks[i] = p := by rw [List.getElem?_eq_getElem hi] at hp; exact Option.some.inj hp
    simp [a1, a2, ek]
  exact List.pairwise_iff_getElem.mp hn j i (by simpa using hjl) (by simpa using hi) hji e1
/-- what add_shares makes of the dict e, of the shares s, as far as its keys are among ks -/
def addF (e s : Str → Option Rat) (t : Rat) (ks : List Str) : Str → Option Rat := fun z => if z ∈ ks then .some ((e z).getD 0 + (s z).getD 0 * t) else e z
def spAddShares : Sp := fun vs H Q _ => ∃ (a b : Addr) (x : V) (t : Rat) (kv ks : List (Key × V)) (e s : Str → Option Rat), vs = [.ref a, .ref b, x] ∧ a ≠ b ∧ H a = some (.dK kv) ∧ H b = some (.dK ks) ∧ RowAt H kv e ∧ RowAt H ks s ∧ FrV H x t ∧ Bd 3500 t ∧
  (∀ z, Bd 3500 ((e z).getD 0) ∧ Bd 3500 ((s z).getD 0)) ∧ kv.length + ks.length ≤ 900 ∧
  ∀ H' kv', (∀ c o, H c = some o → c ≠ a → H' c = some o) → H' a = some (.dK kv') → kv'.length ≤ kv.length + ks.length → RowAt H' kv' (if t = 0 then e else fun z => if (s z).isSome then .some ((e z).getD 0 + (s z).getD 0 * t) else e z) → Q .non H'
/-- one row more: what is put to e of the row s, by the share t -/
def addR (e s : Str → Option Rat) (t : Rat) : Str → Option Rat := if t = 0 then e else fun z => if (s z).isSome then .some ((e z).getD 0 + (s z).getD 0 * t) else e z
def spPassed : Sp := fun vs H Q _ => ∃ (rw st ax ay : Addr) (x y : Str) (fr : V) (t : Rat) (rows kx ky : List (Key × V)) (fx fy : Str → Option Rat), vs = [.ref rw, .ref st] ∧ H rw = some (.dK rows) ∧ H st = some (.tup [.str "pass", .str x, .str y, fr]) ∧ FrV H fr t ∧
  valV rows (.inr x) = some (.ref ax) ∧ H ax = some (.dK kx) ∧ RowAt H kx fx ∧ valV rows (.inr y) = some (.ref ay) ∧ H ay = some (.dK ky) ∧ RowAt H ky fy ∧ Bd 3500 t ∧ Bd 3500 (1 - t) ∧
  (∀ z, Bd 3500 ((fx z).getD 0) ∧ Bd 3500 ((fy z).getD 0) ∧ Bd 3500 ((addR (fun _ => none) fx (1 - t) z).getD 0)) ∧ kx.length + ky.length ≤ 900 ∧
  ∀ p H' kv', H p = none → Same H H' → H' p = some (.dK kv') → kv'.length ≤ kx.length + ky.length → RowAt H' kv' (addR (addR (fun _ => none) fx (1 - t)) fy t) → Q (.ref p) H'
theorem _root_.Tc.FrV.tup {H H' : Hp} {v : V} {r : Rat} (h : FrV H v r) (s : ∀ a xs, H a = some (.tup xs) → H' a = some (.tup xs)) : FrV H' v r := let ⟨a, e, h⟩ := h; ⟨a, e, s _ _ h⟩
theorem tup_of {H : Hp} {p : Addr} {u o : HO} (hp : H p = some u) (hu : ∀ xs, u ≠ .tup xs) : ∀ a ys, H a = some (.tup ys) → upd H p o a = some (.tup ys) := fun a ys e => by
  rw [upd_ne (ne_of e hp (fun z => hu ys z.symm))]; exact e
theorem nodup_put {kvs : List (Key × V)} {k : Key} {v : V} (h : (kvs.map (·.1)).Nodup) : ((putK kvs k v).map (·.1)).Nodup := by
  rw [keys_put]
  split
  · exact h
  · rename_i hn
    refine List.nodup_append.mpr ⟨h, by simp, fun a ha b hb e => hn ?_⟩
    have hb := List.mem_singleton.mp hb
    subst hb
    obtain ⟨kv, hk, ek⟩ := List.mem_map.mp ha
    exact List.any_eq_true.mpr ⟨kv, hk, decide_eq_true (ek.trans e)⟩
theorem mem_put {kvs : List (Key × V)} {k : Key} {v : V} {kv : Key × V} (h : kv ∈ putK kvs k v) : kv.1 = k ∨ ∃ kw ∈ kvs, kw.1 = kv.1 := by
  have : kv.1 ∈ (putK kvs k v).map (·.1) := List.mem_map.mpr ⟨kv, h, rfl⟩
  rw [keys_put] at this
  split at this
  · obtain ⟨kw, h1, h2⟩ := List.mem_map.mp this
    exact .inr ⟨kw, h1, h2⟩
  · rcases List.mem_append.mp this with q | q
    · obtain ⟨kw, h1, h2⟩ := List.mem_map.mp q
      exact .inr ⟨kw, h1, h2⟩
    · exact .inl (List.mem_singleton.mp q)
theorem nms_nodup {kvs : List (Key × V)} (h : (kvs.map (·.1)).Nodup) (hk : ∀ kv ∈ kvs, ∃ z, kv.1 = .inr z) : (nms kvs).Nodup := by
  unfold nms List.Nodup
  unfold List.Nodup at h
  rw [List.pairwise_map] at h ⊢
  refine List.Pairwise.imp_of_mem (fun {a b} ha hb hab e => hab ?_) h
  obtain ⟨x, hx⟩ := hk a ha
  obtain ⟨y, hy⟩ := hk b hb
  rw [hx, hy] at e ⊢
  have e : x = y := e
  rw [e]
theorem nms_len (kvs : List (Key × V)) : (nms kvs).length = kvs.length := List.length_map ..
theorem RowAt.iff {H : Hp} {kvs : List (Key × V)} {g : Str → Option Rat} (h : RowAt H kvs g) (z : Str) : z ∈ nms kvs ↔ (g z).isSome = true := by
  constructor
  · intro q
    obtain ⟨kvi, hm, ez⟩ := List.mem_map.mp q
    obtain ⟨y, hy⟩ := h.keys kvi hm
    obtain ⟨j, hj, ej⟩ := List.getElem_of_mem hm
    have hval := valV_get h.nodup (i := j) (p := kvi) (by rw [List.getElem?_eq_getElem hj, ej])
    have eyz : y = z := by rw [hy] at ez; exact ez
    rw [hy, eyz] at hval
    cases q2 : g z with
    | none => rw [h.not z q2] at hval; cases hval
    | some r => rfl
  · intro q
    obtain ⟨r, hr⟩ := Option.isSome_iff_exists.mp q
    obtain ⟨v, h1, _⟩ := h.has z r hr
    exact nms_mem h1
theorem RowAt.len {H : Hp} {kvs : List (Key × V)} {f : Str → Rat} {L : List Str} (h : RowAt H kvs (op f)) (hf : ∀ z, f z ≠ 0 → z ∈ L) : kvs.length ≤ L.length := by
  rw [← nms_len]
  exact nodup_len (nms_nodup h.nodup h.keys) fun z hz => hf z (op_some.mp ((h.iff z).mp hz))
theorem RowAt.getD {H : Hp} {kvs : List (Key × V)} {g : Str → Option Rat} (h : RowAt H kvs g) {w : V} (hw : FrV H w 0) (z : Str) : FrV H ((valV kvs (.inr z)).getD w) ((g z).getD 0) := by
  cases q : g z with
  | none => rw [h.not z q]; exact hw
  | some r => obtain ⟨v, h1, h2⟩ := h.has z r q; rw [h1]; exact h2
/-- the entry at place i -/
theorem RowAt.at {H : Hp} {kvs : List (Key × V)} {g : Str → Option Rat} (h : RowAt H kvs g) {i : Nat} {p : Key × V} (hp : kvs[i]? = some p) : ∃ z r, p.1 = .inr z ∧ g z = some r ∧ FrV H p.2 r ∧ z ∉ nms (kvs.take i) ∧ nms (kvs.take (i + 1)) = nms (kvs.take i) ++ [z] := by
  obtain ⟨z, hz⟩ := h.keys p (List.mem_of_getElem? hp)
  have hval := valV_get h.nodup hp
  rw [hz] at hval
  refine ⟨z, ?_⟩
  cases q : g z with
  | none => rw [h.not z q] at hval; cases hval
  | some r =>
    obtain ⟨v', h1, h2⟩ := h.has z r q
    rw [hval] at h1; cases h1
    refine ⟨r, hz, rfl, h2, nms_not h.nodup hp hz h.keys, ?_⟩
    unfold nms
    rw [List.take_add_one, hp, List.map_append]
    show _ ++ [nmz p.1] = _
    rw [hz]; rfl
/-- one row of 1 -/
theorem RowAt.unit {H : Hp} {f : Addr} (n : Str) (h : FrV H (.ref f) 1) : RowAt H (mergeK [] [(.inr n, .ref f)]) (op (dlt n)) := by
  have e : (fun y => if y = n then some (1 : Rat) else (fun _ => none : Str → Option Rat) y) = op (dlt n) := by
    funext y
    unfold op dlt
    by_cases q : y = n
    · rw [if_pos q, if_pos q, if_neg (by decide)]
    · rw [if_neg q, if_neg q, if_pos rfl]
  rw [← e]
  exact (RowAt.nil H).put (z := n) h
theorem addR_op {g f : Str → Rat} {t : Rat} (hg : ∀ z, 0 ≤ g z) (hf : ∀ z, 0 ≤ f z) (ht : 0 ≤ t) : addR (op g) (op f) t = op fun z => g z + f z * t := by
  unfold addR
  split
  · rename_i e
    subst e
    congr 1
    funext z
    rw [Rat.mul_zero, Rat.add_zero]
  · rename_i e
    funext z
    by_cases q : f z = 0
    · have n : ¬ (op f z).isSome = true := fun h => op_some.mp h q
      rw [if_neg n]
      have e2 : g z + f z * t = g z := by rw [q, Rat.zero_mul, Rat.add_zero]
      show op g z = op (fun z => g z + f z * t) z
      unfold op
      show _ = if g z + f z * t = 0 then none else some (g z + f z * t)
      rw [e2]
    · rw [if_pos (op_some.mpr q), op_get, op_get]
      have h1 : 0 < f z * t := Rat.mul_pos (pos_of (hf z) q) (pos_of ht e)
      have n : g z + f z * t ≠ 0 := by have := hg z; grind
      show _ = if g z + f z * t = 0 then none else some (g z + f z * t)
      rw [if_neg n]
/-- steps -/
inductive Stp where
  | br (z : Str) (yr : Int) (x : Str) (q : Rat)
  | ps (x y : Str) (t : Rat)
abbrev Lay (z : Str) : Prop := (PyData.str z).canLay0 = true
def bwS : Stp → (Str → Str → Rat) → (Str → Str → Rat)
  | .br _ _ _ _, R => R
  | .ps x y t, R => bw x y t R
def fwS : Stp → (Str → Rat) → (Str → Rat)
  | .br _ _ _ _, v => v
  | .ps x y t, v => fw x y t v
def dnS : Stp → Nat
  | .br _ _ _ _ => 1
  | .ps _ _ t => t.den
def OkS (L : List Str) : Stp → Prop
  | .br z _ x _ => x ∈ L ∧ Lay z
  | .ps x y t => x ∈ L ∧ y ∈ L ∧ x ≠ y ∧ 0 ≤ t ∧ t ≤ 1 ∧ t.den < 2 ^ 40
def backW (R : Str → Str → Rat) : List Stp → Str → Str → Rat
  | [] => R
  | s :: ss => bwS s (backW R ss)
def back (ss : List Stp) : Str → Str → Rat := backW dlt ss
def prodD : List Stp → Nat
  | [] => 1
  | s :: ss => prodD ss * dnS s
theorem backW_snoc (R : Str → Str → Rat) (s : Stp) : ∀ ss : List Stp, backW R (ss ++ [s]) = backW (bwS s R) ss
  | [] => rfl
  | a :: ss => by
    show bwS a (backW R (ss ++ [s])) = bwS a (backW (bwS s R) ss)
    rw [backW_snoc R s ss]
theorem backW_fw (x y : Str) (t : Rat) (R : Str → Str → Rat) : ∀ ss : List Stp, backW (fun n => fw x y t (R n)) ss = fun n => fw x y t (backW R ss n)
  | [] => rfl
  | .br _ _ _ _ :: ss => backW_fw x y t R ss
  | .ps x' y' t' :: ss => by
    show bw x' y' t' (backW (fun n => fw x y t (R n)) ss) = fun n => fw x y t (bw x' y' t' (backW R ss) n)
    rw [backW_fw x y t R ss, bw_fw]
theorem back_snoc {L : List Str} (ss : List Stp) {s : Stp} (h : OkS L s) : back (ss ++ [s]) = fun n => fwS s (back ss n) := by
  unfold back
  rw [backW_snoc]
  cases s with
  | br _ _ _ _ => rfl
  | ps x y t =>
    show backW (bw x y t dlt) ss = fun n => fw x y t (backW dlt ss n)
    rw [bw_dlt t h.2.2.1, backW_fw]
theorem back_good {L : List Str} (hn : L.Nodup) : ∀ {ss : List Stp}, (∀ s ∈ ss, OkS L s) → Good L (prodD ss) (back ss)
  | [], _ => Good.dlt hn
  | .br _ _ _ _ :: ss, h => by
    have g := back_good hn (ss := ss) fun s hs => h s (List.mem_cons_of_mem _ hs)
    show Good L (prodD ss * 1) (back ss)
    rw [Nat.mul_one]; exact g
  | .ps x y t :: ss, h => by
    have g := back_good hn (ss := ss) fun s hs => h s (List.mem_cons_of_mem _ hs)
    obtain ⟨hx, hy, _, h0, h1, _⟩ := h _ List.mem_cons_self
    exact g.bw hx hy h0 h1
theorem dnS_pos : ∀ s : Stp, 0 < dnS s
  | .br _ _ _ _ => Nat.one_pos
  | .ps _ _ t => t.den_pos
theorem dnS_le {L : List Str} : ∀ {s : Stp}, OkS L s → dnS s ≤ 2 ^ 40
  | .br _ _ _ _, _ => Nat.one_le_two_pow
  | .ps _ _ _, h => Nat.le_of_lt h.2.2.2.2.2
theorem prodD_pos : ∀ ss : List Stp, 0 < prodD ss
  | [] => Nat.one_pos
  | s :: ss => Nat.mul_pos (prodD_pos ss) (dnS_pos s)
theorem prodD_lt {L : List Str} : ∀ {ss : List Stp}, (∀ s ∈ ss, OkS L s) → prodD ss < 2 ^ (40 * ss.length + 1)
  | [], _ => by decide
  | s :: ss, h => by
    have g := prodD_lt (ss := ss) fun s hs => h s (List.mem_cons_of_mem _ hs)
    have e : 40 * (s :: ss).length + 1 = (40 * ss.length + 1) + 40 := by rw [List.length_cons]; omega
    rw [e, Nat.pow_add]
    exact Nat.mul_lt_mul_of_lt_of_le g (dnS_le (h s List.mem_cons_self)) (Nat.two_pow_pos _)
theorem _root_.Tc.IsM.bd {P k n : Nat} {r : Rat} (hP : 0 < P) (hk : 1 ≤ k) (hb : k * P < 2 ^ n) (h : IsM P k r) : Bd n r := by
  obtain ⟨m, hm, rfl⟩ := h.eq hP
  refine Bd.divInt (by omega) ?_ ?_
  · show m < 2 ^ n
    omega
  · show P < 2 ^ n
    have := Nat.mul_le_mul_right P hk
    omega
theorem prod_bd {L : List Str} {ss : List Stp} (h : ∀ s ∈ ss, OkS L s) (hl : ss.length ≤ 64) {k : Nat} (hk : k ≤ 16) : k * prodD ss < 2 ^ 2600 := by
  have h1 := prodD_lt h
  have h2 : 2 ^ (40 * ss.length + 1) ≤ 2 ^ 2561 := pow_le (by omega)
  have h3 : k * prodD ss < 2 ^ 4 * 2 ^ 2561 := Nat.lt_of_le_of_lt (Nat.mul_le_mul_right _ hk) (Nat.mul_lt_mul_of_pos_left (Nat.lt_of_lt_of_le h1 h2) (by decide))
  rw [← Nat.pow_add] at h3
  exact Nat.lt_of_lt_of_le h3 (pow_le (by decide))
theorem _root_.Tc.Bd.share {t : Rat} (h0 : 0 ≤ t) (h1 : t ≤ 1) (hd : t.den < 2 ^ 40) : Bd 50 t ∧ Bd 50 (1 - t) := by
  have a := (IsM.one 1).mulL h0 h1
  have b := (IsM.one 1).mulR h0 h1
  rw [Rat.one_mul, Nat.one_mul] at a b
  have hb : 1 * t.den < 2 ^ 50 := Nat.lt_of_lt_of_le (by omega) (pow_le (m := 40) (by decide))
  exact ⟨a.bd t.den_pos (Nat.le_refl _) hb, b.bd t.den_pos (Nat.le_refl _) hb⟩
def StV (H : Hp) (v : V) : Stp → Prop
  | .br z yr x q => ∃ a l f, v = .ref a ∧ H a = some (.tup [.str "bring", .ref l, .str x, f]) ∧ H l = some (.tup [.str z, .int yr]) ∧ FrV H f q
  | .ps x y t => ∃ a f, v = .ref a ∧ H a = some (.tup [.str "pass", .str x, .str y, f]) ∧ FrV H f t
theorem StV.tup {H H' : Hp} (s : ∀ a xs, H a = some (.tup xs) → H' a = some (.tup xs)) : ∀ {v : V} {st : Stp}, StV H v st → StV H' v st
  | _, .br _ _ _ _, ⟨a, l, f, e, h1, h2, h3⟩ => ⟨a, l, f, e, s _ _ h1, s _ _ h2, h3.tup s⟩
  | _, .ps _ _ _, ⟨a, f, e, h1, h3⟩ => ⟨a, f, e, s _ _ h1, h3.tup s⟩
theorem StV.same {H H' : Hp} {v : V} {st : Stp} (h : StV H v st) (s : Same H H') : StV H' v st := h.tup fun _ _ e => s _ _ e
theorem steps_same {H H' : Hp} {xs : List V} {ss : List Stp} (h : Paired (StV H) xs ss) (s : Same H H') : Paired (StV H') xs ss := Paired.mapP h fun _ _ f => f.same s
/-- a table: the dict at rw has the rows, a dict for each place -/
structure TabAt (H0 H : Hp) (rw : Addr) (rows : List (Key × V)) (L : List Str) (R : Str → Str → Rat) (ad : Str → Addr) : Prop where
  nodup : (rows.map (·.1)).Nodup
  keys : ∀ kv ∈ rows, ∃ z, kv.1 = .inr z ∧ z ∈ L
  row : ∀ n ∈ L, valV rows (.inr n) = some (.ref (ad n)) ∧ H0 (ad n) = none ∧ ∃ kvs, H (ad n) = some (.dK kvs) ∧ RowAt H kvs (op (R n))
  inj : ∀ n ∈ L, ∀ m ∈ L, ad n = ad m → n = m
  apart : ∀ n ∈ L, ad n ≠ rw
theorem TabAt.nil (H0 H : Hp) (rw : Addr) (R : Str → Str → Rat) (ad : Str → Addr) : TabAt H0 H rw [] [] R ad := ⟨List.nodup_nil, (fun _ z => nomatch z), (fun _ z => nomatch z), (fun _ z => nomatch z), fun _ z => nomatch z⟩
theorem TabAt.congr {H0 H : Hp} {rw : Addr} {rows : List (Key × V)} {L : List Str} {R R' : Str → Str → Rat} {ad : Str → Addr} (T : TabAt H0 H rw rows L R ad) (h : ∀ n ∈ L, R' n = R n) : TabAt H0 H rw rows L R' ad :=
  ⟨T.nodup, T.keys, fun n hn => (let ⟨a, b, kvs, c, d⟩ := T.row n hn; ⟨a, b, kvs, c, by rw [h n hn]; exact d⟩), T.inj, T.apart⟩
theorem TabAt.same {H0 H H' : Hp} {rw : Addr} {rows : List (Key × V)} {L : List Str} {R : Str → Str → Rat} {ad : Str → Addr} (T : TabAt H0 H rw rows L R ad) (s : Same H H') : TabAt H0 H' rw rows L R ad :=
  ⟨T.nodup, T.keys, fun n hn => (let ⟨a, b, kvs, c, d⟩ := T.row n hn; ⟨a, b, kvs, s _ _ c, d.same fun _ _ f => f.same s⟩), T.inj, T.apart⟩
theorem TabAt.len {H0 H : Hp} {rw : Addr} {rows : List (Key × V)} {L : List Str} {R : Str → Str → Rat} {ad : Str → Addr} (T : TabAt H0 H rw rows L R ad) (hn : L.Nodup) : rows.length = L.length := by
  rw [← nms_len]
  refine Nat.le_antisymm (nodup_len (nms_nodup T.nodup fun kv h => (let ⟨z, e, _⟩ := T.keys kv h; ⟨z, e⟩)) fun z hz => ?_) (nodup_len hn fun z hz => nms_mem (T.row z hz).1)
  obtain ⟨kv, h1, h2⟩ := List.mem_map.mp hz
  obtain ⟨y, h3, h4⟩ := T.keys kv h1
  rw [h3] at h2
  have h2 : y = z := h2
  rw [← h2]; exact h4
theorem TabAt.put {H0 H H' : Hp} {rw : Addr} {rows : List (Key × V)} {L L' : List Str} {R R' : Str → Str → Rat} {ad : Str → Addr} (T : TabAt H0 H rw rows L R ad) {n : Str} {q : Addr} {kvs : List (Key × V)} (hq0 : H0 q = none) (hq : H q = none) (hqr : q ≠ rw)
    (hk : ∀ c o, H c = some o → c ≠ rw → H' c = some o) (hH : ∀ v r, FrV H v r → FrV H' v r) (hr : H' q = some (.dK kvs)) (row : RowAt H' kvs (op (R' n))) (hR : ∀ m ∈ L, m ≠ n → R' m = R m) (hL : ∀ z, z ∈ L' ↔ z ∈ L ∨ z = n) :
    TabAt H0 H' rw (putK rows (.inr n) (.ref q)) L' R' (fun z => if z = n then q else ad z) := by
  have old : ∀ m, m ∈ L' → m ≠ n → m ∈ L := fun m hm e => by
    rcases (hL m).mp hm with z | z
    · exact z
    · exact absurd z e
  have ne : ∀ m ∈ L, ad m ≠ q := fun m hm e => by
    obtain ⟨_, _, kv, c, _⟩ := T.row m hm
    rw [e, hq] at c; cases c
  refine ⟨nodup_put T.nodup, fun kv h => ?_, fun m hm => ?_, fun m hm l hl e => ?_, fun m hm => ?_⟩
  · rcases mem_put h with e | ⟨kw, h1, h2⟩
    · exact ⟨n, e, (hL n).mpr (.inr rfl)⟩
    · obtain ⟨z, e, hz⟩ := T.keys kw h1
      exact ⟨z, h2 ▸ e, (hL z).mpr (.inl hz)⟩
  · rw [valV_put]
    by_cases e : m = n
    · subst e
      rw [if_pos rfl, if_pos rfl]
      exact ⟨rfl, hq0, kvs, hr, row⟩
    · obtain ⟨a, b, kv, c, d⟩ := T.row m (old m hm e)
      rw [if_neg fun z => e (Sum.inr.inj z), if_neg e]
      refine ⟨a, b, kv, hk _ _ c (T.apart m (old m hm e)), ?_⟩
      rw [hR m (old m hm e) e]
      exact d.same hH
  · by_cases e1 : m = n
    · by_cases e2 : l = n
      · rw [e1, e2]
      · rw [if_pos e1, if_neg e2] at e
        exact absurd e.symm (ne l (old l hl e2))
    · by_cases e2 : l = n
      · rw [if_neg e1, if_pos e2] at e
        exact absurd e (ne m (old m hm e1))
      · rw [if_neg e1, if_neg e2] at e
        exact T.inj m (old m hm e1) l (old l hl e2) e
  · by_cases e1 : m = n
    · rw [if_pos e1]; exact hqr
    · rw [if_neg e1]; exact T.apart m (old m hm e1)
def spUnmoved (K : PySem.W.Frag) : Sp := fun vs H Q _ => ∃ (an : Addr) (L : List Str), vs = [.ref an] ∧ SqL K H an (L.map V.str) ∧ L.Nodup ∧ L.length ≤ 8 ∧ ∀ p H' rows ad, H p = none → Same H H' → H' p = some (.dK rows) → TabAt H H' p rows L dlt ad → Q (.ref p) H'
theorem _root_.Tc.IsM.mono {P k j : Nat} {r : Rat} (h : IsM P k r) (hk : k ≤ j) : IsM P j r := by
  obtain ⟨a, m, b, c⟩ := h
  exact ⟨a, m, Nat.le_trans b (Nat.mul_le_mul_right _ hk), c⟩
theorem str_get {L : List Str} {i : Nat} {x : V} (h : (L.map V.str)[i]? = some x) : ∃ n, x = .str n ∧ L[i]? = some n := by
  rw [List.getElem?_map] at h
  cases q : L[i]? with
  | none => rw [q] at h; cases h
  | some n => rw [q] at h; exact ⟨n, (Option.some.inj h).symm, rfl⟩
theorem mem_take_succ {L : List Str} {i : Nat} {n : Str} (h : L[i]? = some n) (z : Str) : z ∈ L.take (i + 1) ↔ z ∈ L.take i ∨ z = n := by
  rw [List.take_add_one, h]
  simp
def spNames : Sp := fun vs H Q _ => ∃ (c : Int) (n : Nat), vs = [.int c, .int (n : Nat)] ∧ n ≤ 8 ∧ ∀ a H' (L : List Str), H a = none → Same H H' → H' a = some (.lst (L.map V.str)) → L.length = n → L.Nodup → (∀ z ∈ L, Lay z) → Q (.ref a) H'
theorem other_of {L : List Str} (hn : L.Nodup) (h2 : 2 ≤ L.length) (x : Str) : 1 ≤ (L.filter fun z => decide (z ≠ x)).length := by
  match L, hn, h2 with
  | a :: b :: r, hn, _ =>
    have hab : a ≠ b := by
      rw [List.nodup_cons] at hn
      intro e; exact hn.1 (e ▸ List.mem_cons_self)
    by_cases e : a = x
    · have : b ≠ x := fun z => hab (e.trans z.symm)
      have hm : b ∈ (a :: b :: r).filter fun z => decide (z ≠ x) := List.mem_filter.mpr ⟨by simp, by simpa using this⟩
      exact List.length_pos_of_mem hm
    · have hm : a ∈ (a :: b :: r).filter fun z => decide (z ≠ x) := List.mem_filter.mpr ⟨by simp, by simpa using e⟩
      exact List.length_pos_of_mem hm
theorem int_get {ms : List Int} {i : Nat} {x : V} (h : (ms.map V.int)[i]? = some x) : ∃ n, x = .int n ∧ ms[i]? = some n := by
  rw [List.getElem?_map] at h
  cases q : ms[i]? with
  | none => rw [q] at h; cases h
  | some n => rw [q] at h; exact ⟨n, (Option.some.inj h).symm, rfl⟩
theorem repT {K : PySem.W.Frag} {H : Hp} {a : Addr} {vs : List V} {xs : List PyData} (h : SqT K H a vs) (r : RepDs K H xs vs) : RepD K H (.tuple xs) (.ref a) := by simp only [RepD]; exact ⟨a, vs, rfl, h, r⟩
theorem repL {K : PySem.W.Frag} {H : Hp} {a : Addr} {vs : List V} {xs : List PyData} (h : SqL K H a vs) (r : RepDs K H xs vs) : RepD K H (.list xs) (.ref a) := by simp only [RepD]; exact ⟨a, vs, rfl, h, r⟩
theorem reps0 {K : PySem.W.Frag} {H : Hp} : RepDs K H [] [] := by simp [RepDs]
theorem repsC {K : PySem.W.Frag} {H : Hp} {d : PyData} {v : V} {ds : List PyData} {vs : List V} (h : RepD K H d v) (r : RepDs K H ds vs) : RepDs K H (d :: ds) (v :: vs) := by simp only [RepDs]; exact ⟨_, _, rfl, h, r⟩
theorem repS {K : PySem.W.Frag} {H : Hp} {z : Str} (h : Lay z) : RepD K H (.str z) (.str z) := by rw [RepD]; exact ⟨rfl, h⟩
theorem repI {K : PySem.W.Frag} {H : Hp} {i : Int} : RepD K H (.int i) (.int i) := by rw [RepD]
def dSt : Stp → PyData
  | .br z yr x q => .tuple [.str "bring", .tuple [.str z, .int yr], .str x, pq q.num q.den]
  | .ps x y t => .tuple [.str "pass", .str x, .str y, pq t.num t.den]
theorem StV.rep {K : PySem.W.Frag} {H : Hp} {L : List Str} (hl : ∀ z ∈ L, Lay z) : ∀ {v : V} {s : Stp}, StV H v s → OkS L s → RepD K H (dSt s) v
  | _, .br z yr x q, ⟨a, l, f, e, h1, h2, h3⟩, ok => by
    subst e
    exact repT (SqT.of h1) (repsC (repS (by decide +kernel)) (repsC (repT (SqT.of h2) (repsC (repS ok.2) (repsC repI reps0))) (repsC (repS (hl _ ok.1)) (repsC h3.rep reps0))))
  | _, .ps x y t, ⟨a, f, e, h1, h3⟩, ok => by
    subst e
    exact repT (SqT.of h1) (repsC (repS (by decide +kernel)) (repsC (repS (hl _ ok.1)) (repsC (repS (hl _ ok.2.1)) (repsC h3.rep reps0))))
theorem rep_steps {K : PySem.W.Frag} {H : Hp} {L : List Str} (hl : ∀ z ∈ L, Lay z) : ∀ {xs : List V} {ss : List Stp}, Paired (StV H) xs ss → (∀ s ∈ ss, OkS L s) → RepDs K H (ss.map dSt) xs
  | _, _, .nil, _ => reps0
  | _, _, .cons r t, h => repsC (r.rep hl (h _ List.mem_cons_self)) (rep_steps hl t fun s hs => h s (List.mem_cons_of_mem _ hs))
theorem depth_map {α : Type} {f : α → PyData} {n : Nat} (h : ∀ a, (f a).depth ≤ n) : ∀ l : List α, PyData.depthAll (l.map f) ≤ n
  | [] => by simp [PyData.depthAll]
  | a :: l => by
    rw [List.map_cons]; simp only [PyData.depthAll]
    have := h a
    have := depth_map h l
    omega
theorem dSt_depth (s : Stp) : (dSt s).depth ≤ 10 := by
  cases s <;> simp [dSt, pq, PyData.depth, PyData.depthAll]
theorem paired_mem' {α β : Type} {F : α → β → Prop} {xs : List α} {ys : List β} (h : Paired F xs ys) {y : β} (hy : y ∈ ys) : ∃ x, x ∈ xs ∧ F x y := by
  induction h with
  | nil => cases hy
  | cons r t ih =>
    rcases List.mem_cons.mp hy with e | e
    · exact ⟨_, List.mem_cons_self, e ▸ r⟩
    · obtain ⟨x, h1, h2⟩ := ih e
      exact ⟨x, List.mem_cons_of_mem _ h1, h2⟩
theorem paired_imp {α β : Type} {F G : α → β → Prop} {xs : List α} {ys : List β} (h : Paired F xs ys) (k : ∀ x y, y ∈ ys → F x y → G x y) : Paired G xs ys := by
  induction h with
  | nil => exact .nil
  | cons r t ih => exact .cons (k _ _ List.mem_cons_self r) (ih fun x y hy f => k x y (List.mem_cons_of_mem _ hy) f)
/-- what a bring comes to -/
structure Br where
  z : Str
  yr : Int
  q : Rat
  g : Str → Rat
def brL : List Stp → List Br
  | [] => []
  | .br z yr x q :: ss => ⟨z, yr, q, back ss x⟩ :: brL ss
  | .ps _ _ _ :: ss => brL ss
def adv (s : Stp) (b : Br) : Br := ⟨b.z, b.yr, b.q, fwS s b.g⟩
def newB : Stp → List Br
  | .br z yr x q => [⟨z, yr, q, dlt x⟩]
  | .ps _ _ _ => []
theorem brL_snoc {L : List Str} (s : Stp) (h : OkS L s) : ∀ ss : List Stp, brL (ss ++ [s]) = (brL ss).map (adv s) ++ newB s
  | [] => by cases s <;> rfl
  | .br z yr x q :: ss => by
    show (⟨z, yr, q, back (ss ++ [s]) x⟩ : Br) :: brL (ss ++ [s]) = _
    rw [brL_snoc s h ss, back_snoc ss h]; rfl
  | .ps _ _ _ :: ss => brL_snoc s h ss
theorem brL_len : ∀ ss : List Stp, (brL ss).length ≤ ss.length
  | [] => Nat.le_refl _
  | .br _ _ _ _ :: ss => Nat.succ_le_succ (brL_len ss)
  | .ps _ _ _ :: ss => Nat.le_succ_of_le (brL_len ss)
def BrV (H : Hp) (v : V) (bd : Br × Addr) : Prop := ∃ a l f kvs, v = .ref a ∧ H a = some (.tup [.ref l, f, .ref bd.2]) ∧ H l = some (.tup [.str bd.1.z, .int bd.1.yr]) ∧ FrV H f bd.1.q ∧ H bd.2 = some (.dK kvs) ∧ RowAt H kvs (op bd.1.g)
theorem BrV.keep {H H' : Hp} {v : V} {bd : Br × Addr} (h : BrV H v bd) (s : ∀ a xs, H a = some (.tup xs) → H' a = some (.tup xs)) (d : ∀ kvs, H bd.2 = some (.dK kvs) → H' bd.2 = some (.dK kvs)) : BrV H' v bd := by
  obtain ⟨a, l, f, kvs, e, h1, h2, h3, h4, h5⟩ := h
  exact ⟨a, l, f, kvs, e, s _ _ h1, s _ _ h2, h3.tup s, d _ h4, h5.same fun v r g => g.tup s⟩
theorem BrV.same {H H' : Hp} {v : V} {bd : Br × Addr} (h : BrV H v bd) (s : Same H H') : BrV H' v bd := h.keep (fun _ _ e => s _ _ e) fun _ e => s _ _ e
def spBrought (K : PySem.W.Frag) : Sp := fun vs H Q _ => ∃ (an as : Addr) (L : List Str) (xs : List V) (ss : List Stp), vs = [.ref an, .ref as] ∧ SqL K H an (L.map V.str) ∧ L.Nodup ∧ L.length ≤ 8 ∧ SqL K H as xs ∧ Paired (StV H) xs ss ∧ (∀ s ∈ ss, OkS L s) ∧ ss.length ≤ 64 ∧
  ∀ p H' ys tds, H p = none → Same H H' → H' p = some (.lst ys) → Paired (BrV H') ys tds → tds.map (·.1) = brL ss → (tds.map (·.2)).Nodup → (∀ d ∈ tds.map (·.2), H d = none) → Q (.ref p) H'
def spForth (K : PySem.W.Frag) : Sp := fun vs H Q _ => ∃ (an as : Addr) (L : List Str) (xs : List V) (ss : List Stp) (k : Nat) (b : Br), vs = [.ref an, .ref as, .int (k : Nat)] ∧ SqL K H an (L.map V.str) ∧ L.Nodup ∧ L.length ≤ 8 ∧ SqL K H as xs ∧ Paired (StV H) xs ss ∧ (∀ s ∈ ss, OkS L s) ∧ ss.length ≤ 64 ∧ (brL ss)[k]? = some b ∧
  ∀ d H' kvs, H d = none → Same H H' → H' d = some (.dK kvs) → RowAt H' kvs (op b.g) → Q (.ref d) H'
def spMix : Sp := fun vs H Q _ => ∃ c : Int, vs = [.int c] ∧ ∀ m : Int, 0 ≤ m → m.natAbs < 2 ^ 140 → Q (.int m) H
def spLow : Sp := fun vs H Q _ => ∃ t b : Int, vs = [.int t, .int b] ∧ 0 < b ∧ b.natAbs < 2 ^ 9000 ∧ ∀ v H', Same H H' → FrV H' v (Rat.divInt t b) → Q v H'
def spDigits : Sp := fun vs H Q _ => ∃ n m : Int, vs = [.int n, .int m, .int 26] ∧ 0 ≤ m ∧ m ≤ 10 ∧ ∀ a H' (ds : List Int), H a = none → Same H H' → H' a = some (.lst (ds.map V.int)) → (ds.length : Int) = m → (∀ d ∈ ds, 0 ≤ d ∧ d < 26) → Q (.ref a) H'
theorem pow1030 : (10 : Int) ^ (30 : Int).toNat = 1000000000000000000000000000000 := by decide
/-- letters -/
def lt (i : Int) : Nat := LT.cps.toList.getD i.toNat 0
theorem lt_at {i : Int} (h0 : 0 ≤ i) (h1 : i < 26) : atI LT.cps.toList i = some (lt i) := by
  obtain ⟨j, rfl⟩ := Int.eq_ofNat_of_zero_le h0
  have hj : j < LT.cps.toList.length := by rw [lt_len]; omega
  refine (atI_nat (List.getElem?_eq_getElem hj)).trans ?_
  unfold lt
  rw [Int.toNat_natCast, List.getD_eq_getElem?_getD, List.getElem?_eq_getElem hj]; rfl
theorem lt_ok : ∀ j ∈ List.range 26, lt (j : Nat) < 1114112 ∧ ∀ k ∈ List.range 26, lt (j : Nat) = lt (k : Nat) → j = k := by decide +kernel
theorem lt_inj {i j : Int} (h0 : 0 ≤ i) (h1 : i < 26) (g0 : 0 ≤ j) (g1 : j < 26) (e : lt i = lt j) : i = j := by
  obtain ⟨a, rfl⟩ := Int.eq_ofNat_of_zero_le h0
  obtain ⟨b, rfl⟩ := Int.eq_ofNat_of_zero_le g0
  rw [(lt_ok a (List.mem_range.mpr (by omega))).2 b (List.mem_range.mpr (by omega)) e]
theorem lt_lay {i : Int} (h0 : 0 ≤ i) (h1 : i < 26) : lt i < 1114112 := by
  obtain ⟨a, rfl⟩ := Int.eq_ofNat_of_zero_le h0
  exact (lt_ok a (List.mem_range.mpr (by omega))).1
def sg (ds : List Int) (at' : Int) (j k : Nat) : Int := (ds.getD k 0 + (0 + (j : Int)) * (if decide (V.int (0 + (k : Int)) = V.int at') = true then 1 else 0)).fmod 26
def cj (ds : List Int) (at' : Int) (j : Nat) : List Nat := (List.range ds.length).map fun k => lt (sg ds at' j k)
def nmJ (ds : List Int) (at' : Int) (j : Nat) : Str := Txt.join "" ((cj ds at' j).map one1)
theorem sg_b (ds : List Int) (at' : Int) (j k : Nat) : 0 ≤ sg ds at' j k ∧ sg ds at' j k < 26 := fmod_lt (by decide)
theorem nmJ_inj {ds : List Int} {a : Nat} {i j : Nat} (ha : a < ds.length) (hi : i < 8) (hj : j < 8) (e : nmJ ds (a : Nat) i = nmJ ds (a : Nat) j) : i = j := by
  unfold nmJ at e
  rw [join_cs, join_cs] at e
  have e : (cj ds (a : Nat) i).toArray = (cj ds (a : Nat) j).toArray := congrArg Str.cps e
  have e : cj ds (a : Nat) i = cj ds (a : Nat) j := by
    have := congrArg Array.toList e
    simpa using this
  have e1 : (cj ds (a : Nat) i)[a]? = (cj ds (a : Nat) j)[a]? := by rw [e]
  unfold cj at e1
  rw [List.getElem?_map, List.getElem?_map, List.getElem?_range ha] at e1
  have e1 := Option.some.inj e1
  have b1 := sg_b ds (a : Nat) i a
  have b2 := sg_b ds (a : Nat) j a
  have e2 := lt_inj b1.1 b1.2 b2.1 b2.2 e1
  unfold sg at e2
  have ed : decide (V.int (0 + (a : Int)) = V.int (a : Int)) = true := decide_eq_true (by rw [Int.zero_add])
  rw [ed, if_pos rfl, Int.mul_one, Int.mul_one, Int.fmod_eq_emod_of_nonneg _ (by decide), Int.fmod_eq_emod_of_nonneg _ (by decide)] at e2
  omega
theorem nmJ_lay (ds : List Int) (at' : Int) (j : Nat) : Lay (nmJ ds at' j) := by
  unfold Lay nmJ
  rw [join_cs]
  show PyData.strOk ⟨(cj ds at' j).toArray⟩ = true
  unfold PyData.strOk
  rw [List.all_toArray, List.all_eq_true]
  intro c hc
  obtain ⟨k, _, rfl⟩ := List.mem_map.mp hc
  have b := sg_b ds at' j k
  exact decide_eq_true (lt_lay b.1 b.2)
def OkQ : Stp → Prop
  | .br _ _ _ q => 0 < q ∧ IsM 60 1000000000000 q
  | .ps _ _ _ => True
theorem isM_q {a b : Int} (ha : 0 < a) (hN : a ≤ 1000000000000) (hb : 0 < b) (hd : b ∣ 60) : 0 < Rat.divInt a b ∧ IsM 60 1000000000000 (Rat.divInt a b) := by
  obtain ⟨c, hc⟩ := hd
  obtain ⟨m, rfl⟩ := Int.eq_ofNat_of_zero_le (Int.le_of_lt ha)
  obtain ⟨n, rfl⟩ := Int.eq_ofNat_of_zero_le (Int.le_of_lt hb)
  have hc0 : 0 < c := by
    rcases Int.lt_trichotomy c 0 with h | h | h
    · have := Int.mul_neg_of_pos_of_neg hb h; omega
    · subst h; simp at hc
    · exact h
  obtain ⟨j, rfl⟩ := Int.eq_ofNat_of_zero_le (Int.le_of_lt hc0)
  have hj : n * j = 60 := by
    have : ((n * j : Nat) : Int) = 60 := by rw [Int.natCast_mul]; exact hc.symm
    omega
  have hn : 0 < n := by omega
  have e0 : 0 ≤ Rat.divInt m n := Rat.divInt_nonneg (by omega) (by omega)
  have e1 : Rat.divInt m n * ((60 : Nat) : Rat) = ((m * j : Nat) : Rat) := by
    rw [Rat.divInt_eq_div, Rat.intCast_natCast, Rat.intCast_natCast, ← hj, Rat.natCast_mul, Rat.natCast_mul]
    have := natne hn
    grind
  have hne : Rat.divInt m n ≠ 0 := fun z => by
    rw [z, Rat.zero_mul] at e1
    have e1 : ((0 : Nat) : Rat) = ((m * j : Nat) : Rat) := e1
    have e1 := Rat.natCast_inj.mp e1
    have : 0 < m * j := Nat.mul_pos (by omega) (by omega)
    omega
  refine ⟨pos_of e0 hne, e0, m * j, ?_, e1⟩
  have h1 : j ≤ 60 := by
    have := Nat.le_mul_of_pos_left j hn
    omega
  exact Nat.mul_le_mul (by omega) h1
theorem dvd60 {v : Int} (h0 : 0 ≤ v) (h1 : v < 6) : 1 + v ∣ 60 := by
  have : v = 0 ∨ v = 1 ∨ v = 2 ∨ v = 3 ∨ v = 4 ∨ v = 5 := by omega
  rcases this with rfl | rfl | rfl | rfl | rfl | rfl <;> decide
def spStepsE (K : PySem.W.Frag) : Sp := fun vs H Q _ => ∃ (ac an : Addr) (ms : List Int) (L : List Str) (q : Int), vs = [.ref ac, .ref an, .int q] ∧ SqL K H ac (ms.map V.int) ∧ ms.length ≤ 62 ∧ H an = some (.lst (L.map V.str)) ∧ L.Nodup ∧ 2 ≤ L.length ∧ L.length ≤ 8 ∧ 1 ≤ q ∧ q ≤ L.length ∧
  ∀ p H' xs ss, H p = none → Same H H' → H' p = some (.lst xs) → Paired (StV H') xs ss → (∀ s ∈ ss, OkS L s) → ss.length ≤ 62 → (∀ s ∈ ss, OkQ s) → Q (.ref p) H'
def spAll (K : PySem.W.Frag) : Sp := fun vs H Q _ => ∃ (a : Addr) (ns : List Int), vs = [.ref a] ∧ SqL K H a (ns.map V.int) ∧ ∀ p H' an as (L : List Str) xs ss, Same H H' → H' p = some (.tup [.ref an, .ref as]) → H' an = some (.lst (L.map V.str)) → L.Nodup → (∀ z ∈ L, Lay z) → L.length ≤ 8 → H' as = some (.lst xs) → Paired (StV H') xs ss → (∀ s ∈ ss, OkS L s) → ss.length ≤ 62 → (∀ s ∈ ss, OkQ s) → Q (.ref p) H'
def spIsFr : Sp := fun vs H Q _ => ∃ (v : V) (r : Rat), vs = [v] ∧ FrV H v r ∧ ∀ H', Same H H' → Q (.bl true) H'
theorem lay3' : ∀ z ∈ (["ab", "b", "cab"] : List Str), (PyData.str z).canLay0 = true := by decide +kernel
theorem OkS.mem {L L' : List Str} (h : ∀ z, z ∈ L → z ∈ L') : ∀ {s : Stp}, OkS L s → OkS L' s
  | .br _ _ _ _, o => ⟨h _ o.1, o.2⟩
  | .ps _ _ _, ⟨a, b, c⟩ => ⟨h _ a, h _ b, c⟩
theorem cut_from (L : List Str) {a : Nat} (h : a ≤ L.length) : cutV (L.map V.str) (some (a : Int)) none = (L.drop a).map V.str := by
  unfold cutV
  rw [HT.sIx_nat, HT.sIx_none, List.length_map, Nat.min_eq_left h, ← List.map_drop]
  rw [List.take_of_length_le (by rw [List.length_map, List.length_drop]; exact Nat.le_refl _)]
theorem cut_upto (L : List Str) {a : Nat} (h : a ≤ L.length) : cutV (L.map V.str) none (some (a : Int)) = (L.take a).map V.str := by
  unfold cutV
  rw [HT.sIx_nat, HT.sIx_none, List.length_map, Nat.min_eq_left h, List.drop_zero, Nat.sub_zero, List.map_take]
theorem frac_rest (t : Rat) : (t.den : Int) - t.num = (1 - t).num ∧ (t.den : Int) = ((1 - t).den : Int) := by
  have hd := rat_den_pos t
  have g : Int.gcd ((t.den : Int) - t.num) t.den = 1 := by
    have e : (t.den : Int) - t.num = -t.num + t.den * 1 := by omega
    rw [e, Int.gcd_add_mul_left_left, Int.neg_gcd]
    exact rat_gcd t
  have lw := low hd g
  have e : Rat.divInt ((t.den : Int) - t.num) t.den = 1 - t := by
    rw [Rat.divInt_eq_div, Rat.intCast_natCast, Rat.intCast_sub, Rat.intCast_natCast]
    have := natne t.den_pos
    have := mul_den t
    grind
  rw [e] at lw
  exact ⟨lw.1.symm, lw.2.symm⟩
theorem Bd.unit {r : Rat} (h : r = 1) : Bd 50 r := by rw [h]; exact ⟨by decide, by decide⟩
def EnA (H : Hp) (e : Addr) (b : Br) : Prop := ∃ f d kvs, H e = some (.lst [f, .ref d]) ∧ FrV H f b.q ∧ H d = some (.dK kvs) ∧ RowAt H kvs (op b.g)
theorem EnA.same {H H' : Hp} {e : Addr} {b : Br} (h : EnA H e b) (s : Same H H') : EnA H' e b := by
  obtain ⟨f, d, kvs, h1, h2, h3, h4⟩ := h
  exact ⟨f, d, kvs, s _ _ h1, h2.same s, s _ _ h3, h4.same fun v r f => f.same s⟩
/-- the list at another place changes -/
theorem EnA.upd {H : Hp} {e p : Addr} {b : Br} {xs : List V} {o : HO} (h : EnA H e b) (hp : H p = some (.lst xs)) (n : e ≠ p) : EnA (L2.upd H p o) e b := by
  obtain ⟨f, d, kvs, h1, h2, h3, h4⟩ := h
  have tu := tup_of (o := o) hp (fun _ z => nomatch z)
  exact ⟨f, d, kvs, by rw [upd_ne n]; exact h1, h2.tup tu, by rw [upd_ne (ne_of h3 hp (by intro z; cases z))]; exact h3, h4.same fun v r f => f.tup tu⟩
theorem paired_at {α β : Type} {F : α → β → Prop} {xs : List α} {ys : List β} (h : Paired F xs ys) {i : Nat} {x : α} {y : β} (hx : xs[i]? = some x) (hy : ys[i]? = some y) : F x y := by
  obtain ⟨z, h1, h2⟩ := paired_get h hx
  rw [hy] at h1
  rw [Option.some.inj h1]; exact h2
def mx (a b : Rat) : Rat := if a < b then b else a
def rse (v : Str → Rat) (p : Str) (r : Rat) : Str → Rat := fun z => if z = p then mx (v p) r else v z
def gm (x y : Str) (t : Rat) (v : Str → Rat) : Str → Rat := fun z => if z = y then mx (v y) (v x * t) else if z = x then v x * (1 - t) else v z
def gmS : Stp → (Str → Rat) → (Str → Rat)
  | .br _ _ _ _, v => v
  | .ps x y t, v => gm x y t v
def gmN (ss : List Stp) (v : Str → Rat) (j : Nat) : Str → Rat := (ss.take j).foldl (fun v s => gmS s v) v
theorem gmN_succ {ss : List Stp} {v : Str → Rat} {j : Nat} {s : Stp} (h : ss[j]? = some s) : gmN ss v (j + 1) = gmS s (gmN ss v j) := by
  unfold gmN
  rw [List.take_add_one, h, List.foldl_append]; rfl
theorem mx_isM {P k : Nat} {a b : Rat} (h : IsM P k a) (g : IsM P k b) : IsM P k (mx a b) := by
  unfold mx
  split
  · exact g
  · exact h
theorem mx_comm (a b : Rat) : mx a b = mx b a := by
  unfold mx
  split <;> split <;> grind
theorem mx_zero {a : Rat} (h : 0 ≤ a) : mx 0 a = a := by
  unfold mx
  split <;> grind
theorem gmS_isM {L : List Str} {P : Nat} {v : Str → Rat} (h : ∀ z, IsM P 1 (v z)) : ∀ {s : Stp}, OkS L s → ∀ z, IsM (P * dnS s) 1 (gmS s v z)
  | .br _ _ _ _, _, z => by
    show IsM (P * 1) 1 (v z)
    rw [Nat.mul_one]; exact h z
  | .ps x y t, ⟨_, _, _, t0, t1, _⟩, z => by
    show IsM (P * t.den) 1 (gm x y t v z)
    unfold gm
    split
    · exact mx_isM ((h y).up t.den) ((h x).mulL t0 t1)
    · split
      · exact (h x).mulR t0 t1
      · exact (h z).up t.den
theorem prodD_snoc (s : Stp) : ∀ a : List Stp, prodD (a ++ [s]) = prodD a * dnS s
  | [] => rfl
  | b :: a => by
    show prodD (a ++ [s]) * dnS b = prodD a * dnS b * dnS s
    rw [prodD_snoc s a, Nat.mul_assoc, Nat.mul_comm (dnS s), Nat.mul_assoc]
theorem gmS_sup {L : List Str} {v : Str → Rat} (h : ∀ z, v z ≠ 0 → z ∈ L) : ∀ {s : Stp}, OkS L s → ∀ z, gmS s v z ≠ 0 → z ∈ L
  | .br _ _ _ _, _, z, n => h z n
  | .ps x y t, ⟨hx, hy, _⟩, z, n => by
    have n : gm x y t v z ≠ 0 := n
    unfold gm at n
    by_cases e1 : z = y
    · rw [e1]; exact hy
    · by_cases e2 : z = x
      · rw [e2]; exact hx
      · rw [if_neg e1, if_neg e2] at n; exact h z n
theorem dlt_isM (x z : Str) : IsM 1 1 (dlt x z) := by
  unfold dlt
  split
  · exact IsM.one 1
  · exact IsM.zero 1 1
theorem gmN_ok {L : List Str} {ss : List Stp} (hO : ∀ s ∈ ss, OkS L s) {x : Str} (hx : x ∈ L) : ∀ j, j ≤ ss.length → (∀ z, IsM (prodD (ss.take j)) 1 (gmN ss (dlt x) j z)) ∧ ∀ z, gmN ss (dlt x) j z ≠ 0 → z ∈ L
  | 0, _ => ⟨fun z => dlt_isM x z, fun z n => by
      by_cases e : z = x
      · rw [e]; exact hx
      · exact absurd (by show dlt x z = 0; unfold dlt; rw [if_neg e]) n⟩
  | j + 1, hj => by
    obtain ⟨h1, h2⟩ := gmN_ok hO hx j (by omega)
    have hs : ss[j]? = some ss[j] := List.getElem?_eq_getElem (by omega)
    have ok := hO _ (List.mem_of_getElem? hs)
    rw [gmN_succ hs, List.take_add_one, hs]
    refine ⟨fun z => ?_, fun z n => gmS_sup h2 ok z n⟩
    have := gmS_isM h1 ok z
    rw [← prodD_snoc] at this; exact this
theorem rse_op {v : Str → Rat} {p : Str} {r : Rat} (h : v p < r) (h0 : 0 ≤ v p) : (fun y => if y = p then some r else op v y) = op (rse v p r) := by
  funext y
  unfold op rse mx
  by_cases e : y = p
  · subst e
    have : r ≠ 0 := by grind
    simp [h, this]
  · simp [e]
theorem rse_not {v : Str → Rat} {p : Str} {r : Rat} (h : ¬ v p < r) : rse v p r = v := by
  funext z
  unfold rse mx
  by_cases e : z = p
  · rw [if_pos e, if_neg h, e]
  · rw [if_neg e]
theorem gm_zero {x y : Str} {t : Rat} {v : Str → Rat} (h : v x = 0) (h0 : 0 ≤ v y) : gm x y t v = v := by
  funext z
  unfold gm
  rw [h, Rat.zero_mul, Rat.zero_mul, mx_comm, mx_zero h0]
  by_cases e1 : z = y
  · rw [if_pos e1, e1]
  · rw [if_neg e1]
    by_cases e2 : z = x
    · rw [if_pos e2, e2, h]
    · rw [if_neg e2]
/-- what is left of each place that was looked at -/
def part (x : Str) (t : Rat) (v : Str → Rat) (ks : List Str) : Str → Rat := fun z => if z ∈ ks then (if z = x then v x * (1 - t) else v z) else 0
theorem part_snoc {x p : Str} {t : Rat} {v : Str → Rat} {ks : List Str} (h : p ∉ ks) (h0 : 0 ≤ (if p = x then v x * (1 - t) else v p)) : rse (part x t v ks) p (if p = x then v x * (1 - t) else v p) = part x t v (ks ++ [p]) := by
  funext z
  unfold rse
  by_cases e : z = p
  · have e0 : part x t v ks p = 0 := by unfold part; rw [if_neg h]
    rw [if_pos e, e0, mx_zero h0, e]
    have hm : p ∈ ks ++ [p] := by simp
    unfold part
    rw [if_pos hm]
  · rw [if_neg e]
    unfold part
    simp [e]
theorem part_all {x y : Str} {t : Rat} {v : Str → Rat} {ks : List Str} (hxy : x ≠ y) (hx : x ∈ ks) (h : ∀ z, v z ≠ 0 → z ∈ ks) : rse (part x t v ks) y (v x * t) = gm x y t v := by
  have ep : ∀ z, part x t v ks z = if z = x then v x * (1 - t) else v z := fun z => by
    unfold part
    split
    · rfl
    · rename_i n
      have ne : z ≠ x := fun e => n (e ▸ hx)
      rw [if_neg ne]
      by_cases q : v z = 0
      · exact q.symm
      · exact absurd (h z q) n
  funext z
  unfold rse gm
  by_cases e : z = y
  · rw [if_pos e, if_pos e, ep y, if_neg fun e => hxy e.symm]
  · rw [if_neg e, if_neg e, ep z]
/-- the numbers of the brings -/
def brIx : Nat → List Stp → List Nat
  | _, [] => []
  | o, .br _ _ _ _ :: ss => o :: brIx (o + 1) ss
  | o, .ps _ _ _ :: ss => brIx (o + 1) ss
def isBr : Stp → Bool
  | .br _ _ _ _ => true
  | .ps _ _ _ => false
theorem brIx_snoc (s : Stp) : ∀ (o : Nat) (ss : List Stp), brIx o (ss ++ [s]) = brIx o ss ++ (if isBr s then [o + ss.length] else [])
  | o, [] => by cases s <;> rfl
  | o, .br _ _ _ _ :: ss => by
    show o :: brIx (o + 1) (ss ++ [s]) = o :: brIx (o + 1) ss ++ _
    rw [brIx_snoc s (o + 1) ss, List.length_cons]
    have e : o + 1 + ss.length = o + (ss.length + 1) := by omega
    rw [e]; rfl
  | o, .ps _ _ _ :: ss => by
    show brIx (o + 1) (ss ++ [s]) = brIx (o + 1) ss ++ _
    rw [brIx_snoc s (o + 1) ss, List.length_cons]
    have e : o + 1 + ss.length = o + (ss.length + 1) := by omega
    rw [e]
theorem brIx_mem : ∀ {o : Nat} {ss : List Stp} {i : Nat}, i ∈ brIx o ss → ∃ z yr x q, o ≤ i ∧ ss[i - o]? = some (.br z yr x q)
  | o, .br z yr x q :: ss, i, h => by
    rcases List.mem_cons.mp h with e | e
    · rw [e]; exact ⟨z, yr, x, q, Nat.le_refl _, by rw [Nat.sub_self]; rfl⟩
    · obtain ⟨z', yr', x', q', h1, h2⟩ := brIx_mem (o := o + 1) e
      refine ⟨z', yr', x', q', by omega, ?_⟩
      have e : i - o = (i - (o + 1)) + 1 := by omega
      rw [e, List.getElem?_cons_succ]; exact h2
  | o, .ps _ _ _ :: ss, i, h => by
    obtain ⟨z', yr', x', q', h1, h2⟩ := brIx_mem (o := o + 1) (ss := ss) h
    refine ⟨z', yr', x', q', by omega, ?_⟩
    have e : i - o = (i - (o + 1)) + 1 := by omega
    rw [e, List.getElem?_cons_succ]; exact h2
theorem brIx_at {ss : List Stp} {k i : Nat} (h : (brIx 0 ss)[k]? = some i) : ∃ z yr x q, ss[i]? = some (.br z yr x q) := by
  obtain ⟨z, yr, x, q, _, e⟩ := brIx_mem (List.mem_of_getElem? h)
  exact ⟨z, yr, x, q, e⟩
theorem brIx_len : ∀ (o : Nat) (ss : List Stp), (brIx o ss).length = (brL ss).length
  | _, [] => rfl
  | o, .br _ _ _ _ :: ss => congrArg (· + 1) (brIx_len (o + 1) ss)
  | o, .ps _ _ _ :: ss => brIx_len (o + 1) ss
theorem cutd_from (xs : List V) {k : Nat} (h : k ≤ xs.length) : cutV xs (some (k : Int)) none = xs.drop k := by
  have e1 : HT.sIx xs.length 0 (some (k : Int)) = min k xs.length := HT.sIx_nat _ _ k
  have e2 : HT.sIx xs.length xs.length none = xs.length := rfl
  unfold cutV
  rw [e1, e2, Nat.min_eq_left h]
  exact List.take_of_length_le (by rw [List.length_drop]; exact Nat.le_refl _)
def spBringAt (K : PySem.W.Frag) : Sp := fun vs H Q _ => ∃ (as : Addr) (xs : List V) (ss : List Stp) (k i : Nat), vs = [.ref as, .int (k : Nat)] ∧ SqL K H as xs ∧ Paired (StV H) xs ss ∧ ss.length ≤ 64 ∧ (brIx 0 ss)[k]? = some i ∧ ∀ H', Same H H' → Q (.int (i : Nat)) H'
def spRaise : Sp := fun vs H Q _ => ∃ (a : Addr) (kv : List (Key × V)) (v : Str → Rat) (p : Str) (f : V) (r : Rat), vs = [.ref a, .str p, f] ∧ H a = some (.dK kv) ∧ RowAt H kv (op v) ∧ FrV H f r ∧ 0 ≤ v p ∧ Bd 8000 (v p) ∧ Bd 8000 r ∧ kv.length ≤ 900 ∧
  ∀ H' kv', (∀ c o, H c = some o → c ≠ a → H' c = some o) → H' a = some (.dK kv') → kv'.length ≤ kv.length + 1 → RowAt H' kv' (op (rse v p r)) → Q .non H'
def spBehindStep : Sp := fun vs H Q _ => ∃ (a st : Addr) (s : Stp) (L : List Str) (kv : List (Key × V)) (v : Str → Rat) (P : Nat), vs = [.ref a, .ref st] ∧ H a = some (.dK kv) ∧ StV H (.ref st) s ∧ OkS L s ∧ RowAt H kv (op v) ∧ 0 < P ∧ (∀ z, IsM P 1 (v z)) ∧ 16 * (P * dnS s) < 2 ^ 2700 ∧ kv.length ≤ 8 ∧
  ∀ p H' kv', H p = none → Same H H' → H' p = some (.dK kv') → RowAt H' kv' (op (gmS s v)) → Q (.ref p) H'
def GrV (H : Hp) (v : V) (gd : (Str → Rat) × Addr) : Prop := v = .ref gd.2 ∧ ∃ kvs, H gd.2 = some (.dK kvs) ∧ RowAt H kvs (op gd.1)
theorem GrV.keep {H H' : Hp} {v : V} {gd : (Str → Rat) × Addr} (h : GrV H v gd) (s : ∀ a xs, H a = some (.tup xs) → H' a = some (.tup xs)) (d : ∀ kvs, H gd.2 = some (.dK kvs) → H' gd.2 = some (.dK kvs)) : GrV H' v gd := by
  obtain ⟨e, kvs, h1, h2⟩ := h
  exact ⟨e, kvs, d _ h1, h2.same fun v r g => g.tup s⟩
theorem GrV.same {H H' : Hp} {v : V} {gd : (Str → Rat) × Addr} (h : GrV H v gd) (s : Same H H') : GrV H' v gd := h.keep (fun _ _ e => s _ _ e) fun _ e => s _ _ e
def gmL (ss : List Stp) (x : Str) (n : Nat) : List (Str → Rat) := (List.range n).map (gmN ss (dlt x))
def spGreatest (K : PySem.W.Frag) : Sp := fun vs H Q _ => ∃ (as : Addr) (L : List Str) (xs : List V) (ss : List Stp) (k i : Nat) (z : Str) (yr : Int) (x : Str) (q : Rat), vs = [.ref as, .int (k : Nat)] ∧ L.length ≤ 8 ∧ SqL K H as xs ∧ Paired (StV H) xs ss ∧ (∀ s ∈ ss, OkS L s) ∧ ss.length ≤ 64 ∧ (brIx 0 ss)[k]? = some i ∧ ss[i]? = some (.br z yr x q) ∧
  ∀ p H' ys tds, H p = none → Same H H' → H' p = some (.lst ys) → Paired (GrV H') ys tds → tds.map (·.1) = gmL (ss.drop (i + 1)) x (ss.length - i) → (tds.map (·.2)).Nodup → (∀ d ∈ tds.map (·.2), H d = none) → Q (.ref p) H'
def spSome2 (K : PySem.W.Frag) : Sp := fun vs H Q _ => ∃ (as : Addr) (L : List Str) (ys : List V) (ss : List Stp) (c : Int), vs = [.ref as, .int c] ∧ SqL K H as ys ∧ Paired (StV H) ys ss ∧ (∀ s ∈ ss, OkS L s) ∧ ss.length ≤ 64 ∧
  ∀ p H' xs, H p = none → Same H H' → H' p = some (.lst xs) → (∀ v ∈ xs, ∃ (a : Addr) (k : Nat) (at' : Int), v = .ref a ∧ H' a = some (.tup [.int (k : Nat), .int at']) ∧ ∃ i : Nat, (brIx 0 ss)[k]? = some i ∧ at' = (i : Nat)) → Q (.ref p) H'
def Leg : Stp → Str → Str → Prop
  | .br _ _ _ _, a, b => b = a
  | .ps x y _, a, b => if a = x then b = a ∨ b = y else b = a
def pt : Stp → Str → Str → Rat
  | .br _ _ _ _, _, _ => 1
  | .ps x _ t, a, b => if a = x then (if b = a then 1 - t else t) else 1
def nth (W : List Str) (j : Nat) : Str := W.getD j ""
def ptA (sr : List Stp) (W : List Str) (j : Nat) : Rat := match sr[j]? with
  | some s => pt s (nth W j) (nth W (j + 1))
  | none => 1
/-- the share of a way as far as its step j -/
def shr (sr : List Stp) (W : List Str) : Nat → Rat
  | 0 => 1
  | j + 1 => shr sr W j * ptA sr W j
theorem shr_succ {sr : List Stp} {W : List Str} {j : Nat} {s : Stp} (h : sr[j]? = some s) : shr sr W (j + 1) = shr sr W j * pt s (nth W j) (nth W (j + 1)) := by
  show shr sr W j * ptA sr W j = _
  unfold ptA
  rw [h]
structure Way (sr : List Stp) (x : Str) (W : List Str) : Prop where
  len : W.length = sr.length + 1
  first : nth W 0 = x
  leg : ∀ (j : Nat) (s : Stp), sr[j]? = some s → Leg s (nth W j) (nth W (j + 1))
theorem nth_at {W : List Str} {j : Nat} (h : j < W.length) : (W.map V.str)[j]? = some (.str (nth W j)) := by
  rw [List.getElem?_map, List.getElem?_eq_getElem h]
  unfold nth
  rw [List.getD_eq_getElem?_getD, List.getElem?_eq_getElem h]; rfl
theorem nth_app {W : List Str} {b : Str} {j : Nat} (h : j < W.length) : nth (W ++ [b]) j = nth W j := by
  unfold nth
  rw [List.getD_eq_getElem?_getD, List.getD_eq_getElem?_getD, List.getElem?_append_left h]
theorem nth_new {W : List Str} {b : Str} : nth (W ++ [b]) W.length = b := by
  unfold nth
  rw [List.getD_eq_getElem?_getD, List.getElem?_append_right (Nat.le_refl _), Nat.sub_self]; rfl
theorem Way.one (x : Str) : Way [] x [x] := ⟨rfl, rfl, fun j s h => by simp at h⟩
theorem Way.snoc {sr : List Stp} {x b : Str} {W : List Str} {s : Stp} (h : Way sr x W) (hb : Leg s (nth W sr.length) b) : Way (sr ++ [s]) x (W ++ [b]) := by
  have hl := h.len
  refine ⟨by rw [List.length_append, List.length_append, hl]; rfl, ?_, fun j s' hj => ?_⟩
  · rw [nth_app (by omega)]; exact h.first
  · by_cases e : j < sr.length
    · rw [List.getElem?_append_left e] at hj
      rw [nth_app (by omega), nth_app (by omega)]
      exact h.leg j s' hj
    · have hj' : j = sr.length := by
        have := (List.getElem?_eq_some_iff.mp hj).1
        rw [List.length_append] at this
        have e1 : [s].length = 1 := rfl
        omega
      subst hj'
      rw [List.getElem?_append_right (Nat.le_refl _), Nat.sub_self] at hj
      have hj : s = s' := Option.some.inj hj
      have e2 : sr.length + 1 = W.length := by omega
      rw [nth_app (by omega), e2, nth_new, ← hj]
      exact hb
theorem pt_isM {L : List Str} {P : Nat} {r : Rat} (h : IsM P 1 r) : ∀ {s : Stp}, OkS L s → ∀ a b, IsM (P * dnS s) 1 (r * pt s a b)
  | .br _ _ _ _, _, a, b => by
    show IsM (P * 1) 1 (r * 1)
    rw [Nat.mul_one, Rat.mul_one]; exact h
  | .ps x y t, ⟨_, _, _, t0, t1, _⟩, a, b => by
    show IsM (P * t.den) 1 (r * (if a = x then (if b = a then 1 - t else t) else 1))
    split
    · split
      · exact h.mulR t0 t1
      · exact h.mulL t0 t1
    · rw [Rat.mul_one]; exact h.up t.den
theorem pt_bd {L : List Str} : ∀ {s : Stp}, OkS L s → ∀ a b, 0 ≤ pt s a b ∧ Bd 50 (pt s a b)
  | .br _ _ _ _, _, a, b => ⟨(show (0 : Rat) ≤ 1 by decide), Bd.unit rfl⟩
  | .ps x y t, ⟨_, _, _, t0, t1, td⟩, a, b => by
    have bs := Bd.share t0 t1 td
    show 0 ≤ (if a = x then (if b = a then 1 - t else t) else 1) ∧ Bd 50 (if a = x then (if b = a then 1 - t else t) else 1)
    split
    · split
      · exact ⟨sub_nonneg t1, bs.2⟩
      · exact ⟨t0, bs.1⟩
    · exact ⟨by decide, Bd.unit rfl⟩
theorem shr_isM {L : List Str} {sr : List Stp} (hO : ∀ s ∈ sr, OkS L s) (W : List Str) : ∀ j, j ≤ sr.length → IsM (prodD (sr.take j)) 1 (shr sr W j)
  | 0, _ => IsM.one 1
  | j + 1, hj => by
    have hs : sr[j]? = some sr[j] := List.getElem?_eq_getElem (by omega)
    rw [shr_succ hs, List.take_add_one, hs]
    have := pt_isM (shr_isM hO W j (by omega)) (hO _ (List.mem_of_getElem? hs)) (nth W j) (nth W (j + 1))
    rw [← prodD_snoc] at this; exact this
theorem mx_left (a b : Rat) : a ≤ mx a b := by
  unfold mx
  split <;> grind
theorem mx_right (a b : Rat) : b ≤ mx a b := by
  unfold mx
  split <;> grind
theorem leg_le {L : List Str} {g : Str → Rat} (h0 : ∀ z, 0 ≤ g z) : ∀ {s : Stp}, OkS L s → ∀ {a b : Str}, Leg s a b → g a * pt s a b ≤ gmS s g b
  | .br _ _ _ _, _, a, b, l => by
    have l : b = a := l
    show g a * 1 ≤ g b
    rw [l, Rat.mul_one]; exact Rat.le_refl
  | .ps x y t, ⟨_, _, hxy, t0, t1, _⟩, a, b, l => by
    have l : if a = x then b = a ∨ b = y else b = a := l
    show g a * (if a = x then (if b = a then 1 - t else t) else 1) ≤ gm x y t g b
    unfold gm
    by_cases e : a = x
    · rw [if_pos e] at l ⊢
      rcases l with l | l
      · rw [if_pos l, l, e, if_neg hxy, if_pos rfl]; exact Rat.le_refl
      · have nb : b ≠ a := fun z => hxy (by rw [← e, ← z, l])
        rw [if_neg nb, if_pos l, e]; exact mx_right _ _
    · rw [if_neg e] at l ⊢
      rw [l, Rat.mul_one]
      by_cases e1 : a = y
      · rw [if_pos e1, e1]; exact mx_left _ _
      · rw [if_neg e1, if_neg e]; exact Rat.le_refl
theorem shr_le {L : List Str} {sr : List Stp} {x : Str} {W : List Str} (hx : x ∈ L) (hO : ∀ s ∈ sr, OkS L s) (h : Way sr x W) : ∀ j, j ≤ sr.length → shr sr W j ≤ gmN sr (dlt x) j (nth W j)
  | 0, _ => by
    show (1 : Rat) ≤ dlt x (nth W 0)
    rw [h.first]
    unfold dlt
    rw [if_pos rfl]; exact Rat.le_refl
  | j + 1, hj => by
    have hs : sr[j]? = some sr[j] := List.getElem?_eq_getElem (by omega)
    have ok := hO _ (List.mem_of_getElem? hs)
    have ih := shr_le hx hO h j (by omega)
    rw [shr_succ hs, gmN_succ hs]
    have h1 := leg_le (fun z => ((gmN_ok hO hx j (by omega)).1 z).1) ok (h.leg j _ hs)
    have h2 := (pt_bd ok (nth W j) (nth W (j + 1))).1
    exact Rat.le_trans (Rat.mul_le_mul_of_nonneg_right ih h2) h1
/-- the place ahead on the greatest way -/
def ahd : Stp → (Str → Rat) → Str → Rat → Str
  | .br _ _ _ _, _, b, _ => b
  | .ps x y t, g, b, c => if y = b ∧ g x ≠ 0 ∧ g x * t = c then x else b
theorem ahd_ok {L : List Str} {g : Str → Rat} (h0 : ∀ z, 0 ≤ g z) : ∀ {s : Stp}, OkS L s → ∀ {b : Str}, gmS s g b ≠ 0 → Leg s (ahd s g b (gmS s g b)) b ∧ g (ahd s g b (gmS s g b)) ≠ 0 ∧ g (ahd s g b (gmS s g b)) * pt s (ahd s g b (gmS s g b)) b = gmS s g b
  | .br _ _ _ _, _, b, n => ⟨rfl, n, by show g b * 1 = g b; rw [Rat.mul_one]⟩
  | .ps x y t, ⟨_, _, hxy, t0, t1, _⟩, b, n => by
    have n : gm x y t g b ≠ 0 := n
    show Leg (.ps x y t) (if y = b ∧ g x ≠ 0 ∧ g x * t = gm x y t g b then x else b) b ∧ g (if y = b ∧ g x ≠ 0 ∧ g x * t = gm x y t g b then x else b) ≠ 0 ∧ g (if y = b ∧ g x ≠ 0 ∧ g x * t = gm x y t g b then x else b) * pt (.ps x y t) (if y = b ∧ g x ≠ 0 ∧ g x * t = gm x y t g b then x else b) b = gm x y t g b
    by_cases c : y = b ∧ g x ≠ 0 ∧ g x * t = gm x y t g b
    · rw [if_pos c]
      obtain ⟨c1, c2, c3⟩ := c
      refine ⟨?_, c2, ?_⟩
      · show if x = x then b = x ∨ b = y else b = x
        rw [if_pos rfl]; exact .inr c1.symm
      · show g x * (if x = x then (if b = x then 1 - t else t) else 1) = _
        rw [if_pos rfl, if_neg (fun e => hxy (by rw [c1, e])), c3]
    · rw [if_neg c]
      by_cases e : b = x
      · have ne : b ≠ y := fun z => hxy (by rw [← e, z])
        have eg : gm x y t g b = g x * (1 - t) := by unfold gm; rw [if_neg ne, if_pos e]
        refine ⟨?_, ?_, ?_⟩
        · show if b = x then b = b ∨ b = y else b = b
          rw [if_pos e]; exact .inl rfl
        · intro z
          rw [eg, ← e, z, Rat.zero_mul] at n; exact n rfl
        · show g b * (if b = x then (if b = b then 1 - t else t) else 1) = _
          rw [if_pos e, if_pos rfl, eg, e]
      · have eg : gm x y t g b = g b := by
          unfold gm
          by_cases e1 : b = y
          · rw [if_pos e1]
            by_cases e2 : g x = 0
            · rw [e2, Rat.zero_mul, mx_comm, mx_zero (h0 y), e1]
            · have c3 : g x * t ≠ gm x y t g b := fun z => c ⟨e1.symm, e2, z⟩
              have e4 : gm x y t g b = mx (g y) (g x * t) := by unfold gm; rw [if_pos e1]
              rw [e4] at c3
              unfold mx at c3 ⊢
              by_cases l : g y < g x * t
              · rw [if_pos l] at c3; exact absurd rfl c3
              · rw [if_neg l, e1]
          · rw [if_neg e1, if_neg e]
        refine ⟨?_, ?_, ?_⟩
        · show if b = x then b = b ∨ b = y else b = b
          rw [if_neg e]
        · rw [← eg]; exact n
        · show g b * (if b = x then (if b = b then 1 - t else t) else 1) = _
          rw [if_neg e, Rat.mul_one, eg]
def Wy : List Stp → (Str → Rat) → List Str → Prop
  | [], g, W => ∃ a, W = [a] ∧ g a ≠ 0
  | s :: ss, g, W => ∃ a b W', W = a :: b :: W' ∧ Leg s a b ∧ g a ≠ 0 ∧ g a * pt s a b = gmS s g b ∧ Wy ss (gmS s g) (b :: W')
theorem nth_succ (a : Str) (W : List Str) (j : Nat) : nth (a :: W) (j + 1) = nth W j := rfl
theorem Wy.at : ∀ {ss : List Stp} {g : Str → Rat} {W : List Str}, Wy ss g W → W.length = ss.length + 1 ∧ g (nth W 0) ≠ 0 ∧ ∀ (j : Nat) (s : Stp), ss[j]? = some s → Leg s (nth W j) (nth W (j + 1)) ∧ gmN ss g j (nth W j) * pt s (nth W j) (nth W (j + 1)) = gmN ss g (j + 1) (nth W (j + 1))
  | [], g, W, ⟨a, e, n⟩ => by
    subst e
    exact ⟨rfl, n, fun j s h => by simp at h⟩
  | s :: ss, g, W, ⟨a, b, W', e, l, n, eq, h⟩ => by
    subst e
    obtain ⟨h1, h2, h3⟩ := h.at
    refine ⟨by rw [List.length_cons, h1]; rfl, n, fun j s' hj => ?_⟩
    cases j with
    | zero =>
      have hj : s = s' := Option.some.inj hj
      subst hj
      exact ⟨l, eq⟩
    | succ j =>
      rw [List.getElem?_cons_succ] at hj
      exact h3 j s' hj
theorem Wy.way {sr : List Stp} {x : Str} {W : List Str} (h : Wy sr (dlt x) W) : Way sr x W ∧ ∀ j, j ≤ sr.length → shr sr W j = gmN sr (dlt x) j (nth W j) := by
  obtain ⟨h1, h2, h3⟩ := h.at
  have e0 : nth W 0 = x := by
    by_cases e : nth W 0 = x
    · exact e
    · exact absurd (by unfold dlt; rw [if_neg e]) h2
  refine ⟨⟨h1, e0, fun j s hs => (h3 j s hs).1⟩, fun j => ?_⟩
  induction j with
  | zero =>
    intro _
    show (1 : Rat) = dlt x (nth W 0)
    rw [e0]
    unfold dlt
    rw [if_pos rfl]
  | succ j ih =>
    intro hj
    have hs : sr[j]? = some sr[j] := List.getElem?_eq_getElem (by omega)
    rw [shr_succ hs, ih (by omega), (h3 j _ hs).2]
def spAhead : Sp := fun vs H Q _ => ∃ (st d : Addr) (s : Stp) (L : List Str) (kv : List (Key × V)) (g : Str → Rat) (b : Str) (f : V) (c : Rat), vs = [.ref st, .ref d, .str b, f] ∧ StV H (.ref st) s ∧ OkS L s ∧ H d = some (.dK kv) ∧ RowAt H kv (op g) ∧ FrV H f c ∧ (∀ z, Bd 2700 (g z)) ∧ ∀ H', Same H H' → Q (.str (ahd s g b c)) H'
def GrL (K : PySem.W.Frag) (H : Hp) (as : Addr) (L : List Str) (xs : List V) (ss : List Stp) (i : Nat) (x : Str) : Prop := L.length ≤ 8 ∧ SqL K H as xs ∧ Paired (StV H) xs ss ∧ (∀ s ∈ ss, OkS L s) ∧ ss.length ≤ 64 ∧ ∃ z yr q, ss[i]? = some (.br z yr x q)
theorem GrL.same {K : PySem.W.Frag} {H H' : Hp} {as : Addr} {L : List Str} {xs : List V} {ss : List Stp} {i : Nat} {x : Str} (h : GrL K H as L xs ss i x) (s : Same H H') : GrL K H' as L xs ss i x := by
  obtain ⟨a, b, c, d⟩ := h
  exact ⟨a, s.seq b, steps_same c s, d⟩
/-- what a greatest way told is -/
def FndV (H : Hp) (v : V) (sr : List Stp) (x pl : Str) (pw : Addr) : Prop := ∃ t f W, v = .ref t ∧ H t = some (.tup [.ref pw, f]) ∧ H pw = some (.lst (W.map V.str)) ∧ FrV H f (gmN sr (dlt x) sr.length pl) ∧ Way sr x W ∧ nth W sr.length = pl ∧ shr sr W sr.length = gmN sr (dlt x) sr.length pl
def spGWay (K : PySem.W.Frag) : Sp := fun vs H Q _ => ∃ (as : Addr) (L : List Str) (xs : List V) (ss : List Stp) (k i : Nat) (x pl : Str), vs = [.ref as, .int (k : Nat), .str pl] ∧ GrL K H as L xs ss i x ∧ (brIx 0 ss)[k]? = some i ∧
  (gmN (ss.drop (i + 1)) (dlt x) (ss.drop (i + 1)).length pl = 0 → ∀ H', Same H H' → Q .non H') ∧
  (gmN (ss.drop (i + 1)) (dlt x) (ss.drop (i + 1)).length pl ≠ 0 → ∀ v H' pw, Same H H' → FndV H' v (ss.drop (i + 1)) x pl pw → H pw = none → Q v H')
theorem cut42 (ns : List Int) : ∃ ms : List Int, cutV (ns.map V.int) (some 1) (some 43) = ms.map V.int ∧ ms.length ≤ 42 := by
  have e1 : HT.sIx (ns.map V.int).length 0 (some 1) = min 1 (ns.map V.int).length := HT.sIx_nat _ _ 1
  have e2 : HT.sIx (ns.map V.int).length (ns.map V.int).length (some 43) = min 43 (ns.map V.int).length := HT.sIx_nat _ _ 43
  refine ⟨(ns.drop (HT.sIx (ns.map V.int).length 0 (some 1))).take (HT.sIx (ns.map V.int).length (ns.map V.int).length (some 43) - HT.sIx (ns.map V.int).length 0 (some 1)), ?_, ?_⟩
  · unfold cutV
    rw [List.map_take, List.map_drop]
  · rw [List.length_take, e1, e2, List.length_drop]
    omega
def TopL (H : Hp) (pt : Addr) (sr : List Stp) (x : Str) : Prop := ∃ ys, H pt = some (.lst ys) ∧ ys.length = sr.length + 1 ∧ ∀ j, j ≤ sr.length → ∃ d kvs, ys[j]? = some (.ref d) ∧ H d = some (.dK kvs) ∧ RowAt H kvs (op (gmN sr (dlt x) j))
theorem TopL.keep {H H' : Hp} {pt : Addr} {sr : List Stp} {x : Str} (h : TopL H pt sr x) (s : ∀ a xs, H a = some (.tup xs) → H' a = some (.tup xs)) (d : ∀ a kvs, H a = some (.dK kvs) → H' a = some (.dK kvs)) (l : ∀ ys, H pt = some (.lst ys) → H' pt = some (.lst ys)) : TopL H' pt sr x := by
  obtain ⟨ys, h1, h2, h3⟩ := h
  refine ⟨ys, l _ h1, h2, fun j hj => ?_⟩
  obtain ⟨dd, kvs, a, b, c⟩ := h3 j hj
  exact ⟨dd, kvs, a, d _ _ b, c.same fun v r g => g.tup s⟩
theorem TopL.same {H H' : Hp} {pt : Addr} {sr : List Stp} {x : Str} (h : TopL H pt sr x) (s : Same H H') : TopL H' pt sr x := h.keep (fun _ _ e => s _ _ e) (fun _ _ e => s _ _ e) fun _ e => s _ _ e
def spPart : Sp := fun vs H Q _ => ∃ (st : Addr) (s : Stp) (L : List Str) (a b : Str), vs = [.ref st, .str a, .str b] ∧ StV H (.ref st) s ∧ OkS L s ∧ Leg s a b ∧ ∀ v H', Same H H' → FrV H' v (pt s a b) → Q v H'
def spWalked (K : PySem.W.Frag) : Sp := fun vs H Q _ => ∃ (pw as : Addr) (L : List Str) (xs : List V) (ss : List Stp) (n : Nat) (x : Str) (W : List Str), vs = [.ref pw, .ref as, .int (n : Nat)] ∧ GrL K H as L xs ss n x ∧ H pw = some (.lst (W.map V.str)) ∧ Way (ss.drop (n + 1)) x W ∧ ∀ v H', Same H H' → FrV H' v (shr (ss.drop (n + 1)) W (ss.drop (n + 1)).length) → Q v H'
def spDrawn (K : PySem.W.Frag) : Sp := fun vs H Q _ => ∃ (as : Addr) (L : List Str) (xs : List V) (ss : List Stp) (n : Nat) (x : Str) (c : Int), vs = [.ref as, .int (n : Nat), .int c] ∧ GrL K H as L xs ss n x ∧ ∀ p H' W, H p = none → Same H H' → H' p = some (.lst (W.map V.str)) → Way (ss.drop (n + 1)) x W → Q (.ref p) H'
def spNoMore : Sp := fun vs H Q _ => ∃ x y r q, vs = [x, y] ∧ FrV H x r ∧ FrV H y q ∧ Bd 8000 r ∧ Bd 8000 q ∧ Q (.bl (decide (r ≤ q))) H
def spBelow (K : PySem.W.Frag) : Sp := fun vs H Q _ => ∃ (pw as pt : Addr) (L : List Str) (xs : List V) (ss : List Stp) (n : Nat) (x : Str) (W : List Str), vs = [.ref pw, .ref as, .int (n : Nat), .ref pt] ∧ GrL K H as L xs ss n x ∧ H pw = some (.lst (W.map V.str)) ∧ Way (ss.drop (n + 1)) x W ∧ TopL H pt (ss.drop (n + 1)) x ∧ ∀ H', Same H H' → Q (.bl true) H'
def spFits2 (K : PySem.W.Frag) : Sp := fun vs H Q _ => ∃ (v : V) (pw as pt : Addr) (L : List Str) (xs : List V) (ss : List Stp) (n : Nat) (x pl : Str), vs = [v, .ref as, .int (n : Nat), .str pl, .ref pt] ∧ GrL K H as L xs ss n x ∧ FndV H v (ss.drop (n + 1)) x pl pw ∧ gmN (ss.drop (n + 1)) (dlt x) (ss.drop (n + 1)).length pl ≠ 0 ∧ TopL H pt (ss.drop (n + 1)) x ∧ ∀ H', Same H H' → Q (.bl true) H'
def spTwice (K : PySem.W.Frag) : Sp := fun vs H Q _ => ∃ (fnd : V) (hd py pw as pt : Addr) (L : List Str) (xs : List V) (ss : List Stp) (k n : Nat) (x : Str) (W : List Str), vs = [.ref hd, .int (k : Nat), .ref py, fnd, .ref as, .int (n : Nat), .ref pt] ∧ (brIx 0 ss)[k]? = some n ∧ (∀ z ∈ L, Lay z) ∧ GrL K H as L xs ss n x ∧ H hd = some (.lst xs) ∧ H as = some (.lst xs) ∧ H py = some (.lst (W.map V.str)) ∧ Way (ss.drop (n + 1)) x W ∧ TopL H pt (ss.drop (n + 1)) x ∧
  (gmN (ss.drop (n + 1)) (dlt x) (ss.drop (n + 1)).length (nth W (ss.drop (n + 1)).length) = 0 ∨ (FndV H fnd (ss.drop (n + 1)) x (nth W (ss.drop (n + 1)).length) pw ∧ pw ≠ hd ∧ pw ≠ as ∧ pw ≠ py ∧ pw ≠ pt)) ∧ ∀ H', (∀ c o, H c = some o → (gmN (ss.drop (n + 1)) (dlt x) (ss.drop (n + 1)).length (nth W (ss.drop (n + 1)).length) ≠ 0 → c ≠ pw) → H' c = some o) → Q (.bl true) H'
theorem le_ok (r q : Rat) : decide (r.num * q.den ≤ q.num * r.den) = decide (r ≤ q) := by
  rw [decide_eq_decide, Rat.le_iff]
theorem Way.last {K : PySem.W.Frag} {sr : List Stp} {x : Str} {W : List Str} (h : Way sr x W) : atI (W.map V.str) (-1) = some (.str (nth W sr.length)) := by
  have hl := h.len
  obtain ⟨W', b, e⟩ : ∃ W' b, W = W' ++ [b] := ⟨W.dropLast, W.getLast (by intro e; rw [e] at hl; cases hl), (List.dropLast_concat_getLast _).symm⟩
  subst e
  rw [List.length_append] at hl
  have e1 : [b].length = 1 := rfl
  have e2 : sr.length = W'.length := by omega
  rw [e2, nth_new, List.map_append]
  exact atI_last _ _
/-- what the steps behind a bring are, by their places -/
theorem step_at {H : Hp} {xs : List V} {ss : List Stp} (hP : Paired (StV H) xs ss) {n j : Nat} {s : Stp} (h : (ss.drop (n + 1))[j]? = some s) : ∃ b, xs[n + (j + 1)]? = some (.ref b) ∧ StV H (.ref b) s := by
  rw [List.getElem?_drop] at h
  have e : n + 1 + j = n + (j + 1) := by omega
  rw [e] at h
  have hl := hP.length
  obtain ⟨w, hw⟩ : ∃ w, xs[n + (j + 1)]? = some w := ⟨_, List.getElem?_eq_getElem (by have := (List.getElem?_eq_some_iff.mp h).1; omega)⟩
  obtain ⟨st', hst', sv⟩ := paired_get hP hw
  rw [h] at hst'
  cases hst'
  have ar : ∃ b, w = .ref b := by
    cases s with
    | br _ _ _ _ => obtain ⟨b, _, _, e, _⟩ := sv; exact ⟨b, e⟩
    | ps _ _ _ => obtain ⟨b, _, e, _⟩ := sv; exact ⟨b, e⟩
  obtain ⟨b, rfl⟩ := ar
  exact ⟨b, hw, sv⟩
theorem shr_bd {L : List Str} {sr : List Stp} (hO : ∀ s ∈ sr, OkS L s) (hl : sr.length ≤ 64) (W : List Str) {j : Nat} (hj : j ≤ sr.length) : 0 ≤ shr sr W j ∧ Bd 2700 (shr sr W j) := by
  have hOj : ∀ s ∈ sr.take j, OkS L s := fun s hs => hO s (List.mem_of_mem_take hs)
  have B := prod_bd hOj (by rw [List.length_take]; omega) (k := 1) (by decide)
  have h := shr_isM hO W j hj
  exact ⟨h.1, (h.bd (prodD_pos _) (by decide) B).mono (by decide)⟩
theorem gmN_bd {L : List Str} {sr : List Stp} (hO : ∀ s ∈ sr, OkS L s) (hl : sr.length ≤ 64) {x : Str} (hx : x ∈ L) {j : Nat} (hj : j ≤ sr.length) (z : Str) : 0 ≤ gmN sr (dlt x) j z ∧ Bd 2700 (gmN sr (dlt x) j z) := by
  have hOj : ∀ s ∈ sr.take j, OkS L s := fun s hs => hO s (List.mem_of_mem_take hs)
  have B := prod_bd hOj (by rw [List.length_take]; omega) (k := 1) (by decide)
  have h := (gmN_ok hO hx j hj).1 z
  exact ⟨h.1, (h.bd (prodD_pos _) (by decide) B).mono (by decide)⟩
theorem list_depth (ss : List Stp) : (PyData.list (ss.map dSt)).depth ≤ 64 := by
  have h2 := depth_map dSt_depth ss
  simp only [PyData.depth]
  omega
theorem brL_at : ∀ {o : Nat} {ss : List Stp} {k i : Nat} {z : Str} {yr : Int} {x : Str} {q : Rat}, (brIx o ss)[k]? = some i → ss[i - o]? = some (.br z yr x q) → (brL ss)[k]? = some ⟨z, yr, q, back (ss.drop (i - o + 1)) x⟩
  | o, .br z' yr' x' q' :: ss, k, i, z, yr, x, q, h, e => by
    cases k with
    | zero =>
      have h : o = i := Option.some.inj h
      subst h
      rw [Nat.sub_self] at e ⊢
      have e := Option.some.inj e
      cases e
      rfl
    | succ k =>
      have h : (brIx (o + 1) ss)[k]? = some i := by
        have : (o :: brIx (o + 1) ss)[k + 1]? = some i := h
        rwa [List.getElem?_cons_succ] at this
      obtain ⟨_, _, _, _, hi, _⟩ := brIx_mem (List.mem_of_getElem? h)
      have e1 : i - o = i - (o + 1) + 1 := by omega
      rw [e1] at e ⊢
      rw [List.getElem?_cons_succ] at e
      show (brL ss)[k]? = _
      rw [List.drop_succ_cons]
      exact brL_at h e
  | o, .ps _ _ _ :: ss, k, i, z, yr, x, q, h, e => by
    have h : (brIx (o + 1) ss)[k]? = some i := h
    obtain ⟨_, _, _, _, hi, _⟩ := brIx_mem (List.mem_of_getElem? h)
    have e1 : i - o = i - (o + 1) + 1 := by omega
    rw [e1] at e ⊢
    rw [List.getElem?_cons_succ] at e
    show (brL ss)[k]? = _
    rw [List.drop_succ_cons]
    exact brL_at h e
theorem mx_eq0 {a b : Rat} (ha : 0 ≤ a) (hb : 0 ≤ b) : mx a b = 0 ↔ a = 0 ∧ b = 0 := by
  unfold mx
  split <;> constructor <;> grind
theorem add_eq0 {a b : Rat} (ha : 0 ≤ a) (hb : 0 ≤ b) : a + b = 0 ↔ a = 0 ∧ b = 0 := by
  constructor <;> grind
theorem fg_sup {L : List Str} {v g : Str → Rat} (hv : ∀ z, 0 ≤ v z) (hg : ∀ z, 0 ≤ g z) (h : ∀ z, v z = 0 ↔ g z = 0) : ∀ {s : Stp}, OkS L s → ∀ z, fwS s v z = 0 ↔ gmS s g z = 0
  | .br _ _ _ _, _, z => h z
  | .ps x y t, ⟨_, _, hxy, t0, t1, _⟩, z => by
    show fw x y t v z = 0 ↔ gm x y t g z = 0
    unfold fw gm
    have ht : v x * t = 0 ↔ g x * t = 0 := by rw [Rat.mul_eq_zero, Rat.mul_eq_zero, h x]
    by_cases e1 : z = y
    · rw [if_pos e1, if_pos e1, add_eq0 (hv y) (Rat.mul_nonneg (hv x) t0), mx_eq0 (hg y) (Rat.mul_nonneg (hg x) t0), h y, ht]
    · rw [if_neg e1, if_neg e1]
      by_cases e2 : z = x
      · rw [if_pos e2, if_pos e2]
        have e : v x - v x * t = v x * (1 - t) := by grind
        rw [e, Rat.mul_eq_zero, Rat.mul_eq_zero, h x]
      · rw [if_neg e2, if_neg e2]; exact h z
theorem sup_eq {L : List Str} {sr : List Stp} (nd : L.Nodup) (hO : ∀ s ∈ sr, OkS L s) {x : Str} (hx : x ∈ L) : ∀ j, j ≤ sr.length → ∀ z, back (sr.take j) x z = 0 ↔ gmN sr (dlt x) j z = 0
  | 0, _, z => Iff.rfl
  | j + 1, hj, z => by
    have hs : sr[j]? = some sr[j] := List.getElem?_eq_getElem (by omega)
    have ok := hO _ (List.mem_of_getElem? hs)
    have ed : sr.take (j + 1) = sr.take j ++ [sr[j]] := by rw [List.take_add_one, hs]; rfl
    have hOj : ∀ s ∈ sr.take j, OkS L s := fun s hs => hO s (List.mem_of_mem_take hs)
    have G := back_good nd hOj
    rw [ed, back_snoc _ ok, gmN_succ hs]
    exact fg_sup (fun z => (G.part x hx z).1) (fun z => ((gmN_ok hO hx j (by omega)).1 z).1) (sup_eq nd hO hx j (by omega)) ok z
end T34
namespace T34
open PySem L2 Tc
section
variable {P : Program} {w : World} {K : PySem.W.Frag} {mg : Str → Option Value} {base : Heap}
abbrev s_common_divisor : Stmt := top 1
theorem sc_common_divisor : FnScope ["top", "bottom", "rest"] ["top", "bottom"] (defScope s_common_divisor) := ⟨rfl, rfl, rfl, by decide +kernel, rfl, by decide +kernel, by decide +kernel⟩
theorem ok_common_divisor (D : DefAt K mg "common_divisor" s_common_divisor) (T : Txt K mg) : FnAt P w K mg base CX0 1 "common_divisor" ["top", "bottom"] (spCd) := by
  refine D.ok sc_common_divisor (fun vs H Q E h => ?_) (fun _ _ _ _ _ _ us hl => match us, hl with | [_, _], _ => rfl) (fun f cdv A outer s H vs Q E hr h => ?_)
  · obtain ⟨t, b, rfl, hb, k⟩ := h; rfl
  · obtain ⟨t, b, rfl, hb, k⟩ := h
    have nd := sc_common_divisor.nd
    refine ⟨_, (@pss_cons _ _ _ _ _ (ps_while PassesOwn.never (pt_cmpR op_ne (pv 1) pe_int (nomark _)) (@pss_cons _ _ _ _ _ (@ps_set _ _ 2 _ _ _ _ nd rfl (Or.inl rfl) (@pe_op _ _ _ _ _ _ _ _ op_modN (pv 0) (pv 1)) (by rfl) (Or.inl rfl))
      (@pss_cons _ _ _ _ _ (@ps_set _ _ 0 _ _ _ _ nd rfl (Or.inl rfl) (pv 1) (by rfl) (Or.inl rfl))
      (@pss_one _ _ _ (@ps_set _ _ 1 _ _ _ _ nd rfl (Or.inl rfl) (pv 2) (by rfl) (Or.inl rfl))))))
      (@pss_one _ _ _ (ps_ret (pv 0)))), ?_⟩
    refine while_by (fun σ H1 => ∃ (x y : Int) (v : Option V), σ = [some (.int x), some (.int y), v] ∧ H1 = H ∧ Dv t b x y)
      (fun σ _ => match σ with | [_, some (.int y), _] => y.natAbs | _ => 0) ⟨t, b, none, rfl, rfl, Dv.start hb⟩ ?_ ?_
    · rintro σ H1 ⟨x, y, v, rfl, rfl, d⟩
      refine ⟨_, rfl, rfl, _, rfl, ?_⟩
      refine ite2 (fun h1 => ?_) (fun h1 => ?_)
      · have hy : y ≠ 0 := by
          intro e; subst e; simp at h1
        refine ⟨_, rfl, _, rfl, _, _, rfl, rfl, hy, ?_⟩
        refine ⟨_, rfl, _, rfl, ?_⟩
        exact ⟨⟨_, _, _, rfl, rfl, d.turn hy⟩, Dv.less hy⟩
      · have hy : y = 0 := by
          by_cases e : y = 0
          · exact e
          · exact absurd (by simp [e]) h1
        refine ⟨_, rfl, ?_⟩
        rw [d.done hy hb]; exact k
    · intro σ H1 Q1 Q2 hq h1
      obtain ⟨v, e, h2, c, e2, h3⟩ := h1
      exact ⟨v, e, h2, c, e2, hq _ _ h3⟩
end
end T34
namespace T34
open PySem L2 Tc
section
variable {P : Program} {w : World} {K : PySem.W.Frag} {mg : Str → Option Value} {base : Heap}
abbrev s_plus : Stmt := top 2
theorem sc_plus : FnScope ["one", "other", "shared", "rest", "top", "divisor"] ["one", "other"] (defScope s_plus) := ⟨rfl, rfl, rfl, by decide +kernel, rfl, by decide +kernel, by decide +kernel⟩
theorem ok_plus (D : DefAt K mg "plus" s_plus) (T : Txt K mg) (G_common_divisor : FnAt P w K mg base CX0 1 "common_divisor" ["top", "bottom"] (spCd)) : FnAt P w K mg base CX0 2 "plus" ["one", "other"] (spPlus) := by
  refine D.ok sc_plus (fun vs H Q E h => ?_) (fun _ _ _ _ _ _ us hl => match us, hl with | [_, _], _ => rfl) (fun f cdv A outer s H vs Q E hr h => ?_)
  · obtain ⟨_, _, r, q, rfl, ⟨a, rfl, ha⟩, ⟨b, rfl, hb⟩, br, bq, k⟩ := h; rfl
  · obtain ⟨_, _, r, q, rfl, ⟨a, rfl, ha⟩, ⟨b, rfl, hb⟩, br, bq, k⟩ := h
    have nd := sc_plus.nd
    refine ⟨_, (@pss_cons _ _ _ _ _ (@ps_set _ _ 2 _ _ _ _ nd rfl (Or.inl rfl) (pe_fn G_common_divisor hr (by rfl) pass0 (@pa_cons _ _ _ _ _ (pe_ix (ix_tup' (K := K) rfl) (pv 0) pe_int (fun _ _ => rfl)) (@pa_cons _ _ _ _ _ (pe_ix (ix_tup' (K := K) rfl) (pv 1) pe_int (fun _ _ => rfl)) pa_nil (by rfl)) (by rfl))) (by rfl) (Or.inl rfl))
      (@pss_cons _ _ _ _ _ (@ps_set _ _ 3 _ _ _ _ nd rfl (Or.inl rfl) (@pe_op _ _ _ _ _ _ _ _ op_fdivB (pe_ix (ix_tup' (K := K) rfl) (pv 0) pe_int (fun _ _ => rfl)) (pv 2)) (by rfl) (Or.inl rfl))
      (@pss_cons _ _ _ _ _ (@ps_set _ _ 4 _ _ _ _ nd rfl (Or.inl rfl) (@pe_op _ _ _ _ _ _ _ _ op_add (@pe_op _ _ _ _ _ _ _ _ op_mulB (pe_ix (ix_tup' (K := K) rfl) (pv 0) pe_int (fun _ _ => rfl)) (@pe_op _ _ _ _ _ _ _ _ op_fdivB (pe_ix (ix_tup' (K := K) rfl) (pv 1) pe_int (fun _ _ => rfl)) (pv 2))) (@pe_op _ _ _ _ _ _ _ _ op_mulB (pe_ix (ix_tup' (K := K) rfl) (pv 1) pe_int (fun _ _ => rfl)) (pv 3))) (by rfl) (Or.inl rfl))
      (@pss_cons _ _ _ _ _ (@ps_set _ _ 5 _ _ _ _ nd rfl (Or.inl rfl) (pe_fn G_common_divisor hr (by rfl) pass0 (@pa_cons _ _ _ _ _ (pv 4) (@pa_cons _ _ _ _ _ (pv 2) pa_nil (by rfl)) (by rfl))) (by rfl) (Or.inl rfl))
      (@pss_one _ _ _ (ps_ret (@pe_tup _ _ _ _ _ (@pa_cons _ _ _ _ _ (@pe_op _ _ _ _ _ _ _ _ op_fdivB (pv 4) (pv 5)) (@pa_cons _ _ _ _ _ (@pe_op _ _ _ _ _ _ _ _ op_mulB (pv 3) (@pe_op _ _ _ _ _ _ _ _ op_fdivB (pe_ix (ix_tup' (K := K) rfl) (pv 1) pe_int (fun _ _ => rfl)) (pv 5))) pa_nil (by rfl)) (by rfl))))))))), ?_⟩
    have d1 := rat_den_pos r
    have d2 := rat_den_pos q
    have i0 : ∀ (i : Nat), i ≤ 8000 → (2 : Nat) ^ i ≤ 2 ^ 9000 := fun i hi => pow_le (by omega)
    refine ⟨_, rfl, a, _, _, _, rfl, rfl, SqT.of ha, rfl, _, rfl, b, _, _, _, rfl, rfl, SqT.of hb, rfl, _, _, rfl, (by omega), ?_⟩
    have s0 : dv r.den q.den ≠ 0 := dv_ne (by omega)
    have sle : (dv (r.den : Int) q.den).natAbs ≤ ((q.den : Int)).natAbs := dv_le (by omega)
    have sdiv : ∀ i, CDivB i (dv (r.den : Int) q.den) := fun i => bq.divR (by decide) s0 sle
    generalize hs : dv (r.den : Int) q.den = s1 at *
    refine ⟨_, rfl, a, _, _, _, rfl, rfl, SqT.of ha, rfl, _, rfl, _, _, rfl, rfl, sdiv _, ?_⟩
    have le1 : ∀ {x : Int} {m : Nat}, x.natAbs < 2 ^ m → (x.fdiv s1).natAbs < 2 ^ (m + 1) := fun {x m} hx => by
      have := natAbs_fdiv_le x s1
      rw [Nat.pow_succ]; omega
    have hrest : ((r.den : Int).fdiv s1).natAbs < 2 ^ 8001 := le1 br.den
    have hq1 : ((q.den : Int).fdiv s1).natAbs < 2 ^ 8001 := le1 bq.den
    refine ⟨_, rfl, a, _, _, _, rfl, rfl, SqT.of ha, rfl, _, rfl, b, _, _, _, rfl, rfl, SqT.of hb, rfl, _, rfl, _, _, rfl, rfl, sdiv _, _, _, rfl, rfl, mulOk_of 8001 (Nat.lt_of_lt_of_le br.num (pow_le (by decide))) hq1 (by decide), _, rfl, b, _, _, _, rfl, rfl, SqT.of hb, rfl, _, rfl, _, _, rfl, rfl, mulOk_of 8001 (Nat.lt_of_lt_of_le bq.num (pow_le (by decide))) hrest (by decide), _, _, rfl, rfl, ?_⟩
    refine ⟨_, rfl, _, rfl, _, _, rfl, s0, ?_⟩
    have d0 : dv (r.num * (q.den : Int).fdiv s1 + q.num * (r.den : Int).fdiv s1) s1 ≠ 0 := dv_ne s0
    have dle : (dv (r.num * (q.den : Int).fdiv s1 + q.num * (r.den : Int).fdiv s1) s1).natAbs ≤ ((q.den : Int)).natAbs := Nat.le_trans (dv_le s0) sle
    have ddiv : ∀ i, CDivB i (dv (r.num * (q.den : Int).fdiv s1 + q.num * (r.den : Int).fdiv s1) s1) := fun i => bq.divR (by decide) d0 dle
    obtain ⟨e1, e2⟩ := plus_ok r q hs.symm rfl rfl rfl
    have hq2 : ((q.den : Int).fdiv (dv (r.num * (q.den : Int).fdiv s1 + q.num * (r.den : Int).fdiv s1) s1)).natAbs < 2 ^ 8001 := by
      have := natAbs_fdiv_le (q.den : Int) (dv (r.num * (q.den : Int).fdiv s1 + q.num * (r.den : Int).fdiv s1) s1)
      have z : ((q.den : Int)).natAbs < 2 ^ 8000 := bq.den
      rw [Nat.pow_succ]; omega
    refine ⟨_, rfl, _, rfl, _, _, rfl, rfl, ddiv _, _, rfl, _, rfl, b, _, _, _, rfl, rfl, SqT.of hb, rfl, _, rfl, _, _, rfl, rfl, ddiv _, _, _, rfl, rfl, mulOk_of 8001 hrest hq2 (by decide), sz (by simp), fun p hp => ?_⟩
    exact k _ _ (Same.upd hp) (FrV.newOf e1 e2)
end
end T34
namespace T34
open PySem L2 Tc
section
variable {P : Program} {w : World} {K : PySem.W.Frag} {mg : Str → Option Value} {base : Heap}
abbrev s_minus : Stmt := top 3
theorem sc_minus : FnScope ["one", "other"] ["one", "other"] (defScope s_minus) := ⟨rfl, rfl, rfl, by decide +kernel, rfl, by decide +kernel, by decide +kernel⟩
theorem ok_minus (D : DefAt K mg "minus" s_minus) (T : Txt K mg) (G_plus : FnAt P w K mg base CX0 2 "plus" ["one", "other"] (spPlus)) : FnAt P w K mg base CX0 3 "minus" ["one", "other"] (spMinus) := by
  refine D.ok sc_minus (fun vs H Q E h => ?_) (fun _ _ _ _ _ _ us hl => match us, hl with | [_, _], _ => rfl) (fun f cdv A outer s H vs Q E hr h => ?_)
  · obtain ⟨_, _, r, q, rfl, hx, ⟨b, rfl, hb⟩, br, bq, k⟩ := h; rfl
  · obtain ⟨_, _, r, q, rfl, hx, ⟨b, rfl, hb⟩, br, bq, k⟩ := h
    have nd := sc_minus.nd
    refine ⟨_, (@pss_one _ _ _ (ps_ret (pe_fn G_plus hr (by rfl) pass0 (@pa_cons _ _ _ _ _ (pv 0) (@pa_cons _ _ _ _ _ (@pe_tup _ _ _ _ _ (@pa_cons _ _ _ _ _ (@pe_op _ _ _ _ _ _ _ _ op_sub pe_int (pe_ix (ix_tup' (K := K) rfl) (pv 1) pe_int (fun _ _ => rfl))) (@pa_cons _ _ _ _ _ (pe_ix (ix_tup' (K := K) rfl) (pv 1) pe_int (fun _ _ => rfl)) pa_nil (by rfl)) (by rfl))) pa_nil (by rfl)) (by rfl))))), ?_⟩
    refine ⟨_, rfl, _, rfl, b, _, _, _, rfl, rfl, SqT.of hb, rfl, _, _, rfl, rfl, _, rfl, b, _, _, _, rfl, rfl, SqT.of hb, rfl, sz (by simp), fun p hp => ?_⟩
    refine ⟨_, _, r, -q, rfl, hx.upd hp, FrV.newOf (neg_ok q).1 (neg_ok q).2, br, bq.neg, fun v H' s' h => ?_⟩
    have h : FrV H' v (r + -q) := h
    rw [sub_eq] at h
    exact k v H' ((Same.upd hp).trans s') h
end
end T34
namespace T34
open PySem L2 Tc
section
variable {P : Program} {w : World} {K : PySem.W.Frag} {mg : Str → Option Value} {base : Heap}
abbrev s_times : Stmt := top 4
theorem sc_times : FnScope ["one", "other", "left", "right"] ["one", "other"] (defScope s_times) := ⟨rfl, rfl, rfl, by decide +kernel, rfl, by decide +kernel, by decide +kernel⟩
theorem ok_times (D : DefAt K mg "times" s_times) (T : Txt K mg) (G_common_divisor : FnAt P w K mg base CX0 1 "common_divisor" ["top", "bottom"] (spCd)) : FnAt P w K mg base CX0 2 "times" ["one", "other"] (spTimes) := by
  refine D.ok sc_times (fun vs H Q E h => ?_) (fun _ _ _ _ _ _ us hl => match us, hl with | [_, _], _ => rfl) (fun f cdv A outer s H vs Q E hr h => ?_)
  · obtain ⟨_, _, a, b, t1, b1, t2, b2, rfl, rfl, ha, rfl, hb, p1, n2, c1, c2, ⟨z1, z2, z3, z4⟩, k⟩ := h; rfl
  · obtain ⟨_, _, a, b, t1, b1, t2, b2, rfl, rfl, ha, rfl, hb, p1, n2, c1, c2, ⟨z1, z2, z3, z4⟩, k⟩ := h
    have nd := sc_times.nd
    refine ⟨_, (@pss_cons _ _ _ _ _ (@ps_set _ _ 2 _ _ _ _ nd rfl (Or.inl rfl) (pe_fn G_common_divisor hr (by rfl) pass0 (@pa_cons _ _ _ _ _ (pe_ix (ix_tup' (K := K) rfl) (pv 0) pe_int (fun _ _ => rfl)) (@pa_cons _ _ _ _ _ (pe_ix (ix_tup' (K := K) rfl) (pv 1) pe_int (fun _ _ => rfl)) pa_nil (by rfl)) (by rfl))) (by rfl) (Or.inl rfl))
      (@pss_cons _ _ _ _ _ (@ps_set _ _ 3 _ _ _ _ nd rfl (Or.inl rfl) (pe_fn G_common_divisor hr (by rfl) pass0 (@pa_cons _ _ _ _ _ (pe_ix (ix_tup' (K := K) rfl) (pv 1) pe_int (fun _ _ => rfl)) (@pa_cons _ _ _ _ _ (pe_ix (ix_tup' (K := K) rfl) (pv 0) pe_int (fun _ _ => rfl)) pa_nil (by rfl)) (by rfl))) (by rfl) (Or.inl rfl))
      (@pss_one _ _ _ (ps_ret (@pe_tup _ _ _ _ _ (@pa_cons _ _ _ _ _ (@pe_op _ _ _ _ _ _ _ _ op_mulB (@pe_op _ _ _ _ _ _ _ _ op_fdivB (pe_ix (ix_tup' (K := K) rfl) (pv 0) pe_int (fun _ _ => rfl)) (pv 2)) (@pe_op _ _ _ _ _ _ _ _ op_fdivB (pe_ix (ix_tup' (K := K) rfl) (pv 1) pe_int (fun _ _ => rfl)) (pv 3))) (@pa_cons _ _ _ _ _ (@pe_op _ _ _ _ _ _ _ _ op_mulB (@pe_op _ _ _ _ _ _ _ _ op_fdivB (pe_ix (ix_tup' (K := K) rfl) (pv 0) pe_int (fun _ _ => rfl)) (pv 3)) (@pe_op _ _ _ _ _ _ _ _ op_fdivB (pe_ix (ix_tup' (K := K) rfl) (pv 1) pe_int (fun _ _ => rfl)) (pv 2))) pa_nil (by rfl)) (by rfl))))))), ?_⟩
    refine ⟨_, rfl, a, _, _, _, rfl, rfl, SqT.of ha, rfl, _, rfl, b, _, _, _, rfl, rfl, SqT.of hb, rfl, _, _, rfl, n2, ?_⟩
    have l0 : dv t1 b2 ≠ 0 := dv_ne n2
    have lle : (dv t1 b2).natAbs ≤ b2.natAbs := dv_le n2
    have r0 : dv t2 b1 ≠ 0 := dv_ne (by omega)
    have rle : (dv t2 b1).natAbs ≤ b1.natAbs := dv_le (by omega)
    have ldiv : ∀ i, CDivB i (dv t1 b2) := fun i => divB_of l0 (Nat.lt_of_le_of_lt lle (Nat.lt_of_lt_of_le z4 (pow_le (by decide))))
    have rdiv : ∀ i, CDivB i (dv t2 b1) := fun i => divB_of r0 (Nat.lt_of_le_of_lt rle (Nat.lt_of_lt_of_le z2 (pow_le (by decide))))
    refine ⟨_, rfl, b, _, _, _, rfl, rfl, SqT.of hb, rfl, _, rfl, a, _, _, _, rfl, rfl, SqT.of ha, rfl, _, _, rfl, (by omega), ?_⟩
    generalize hl : dv t1 b2 = l at *
    generalize hr : dv t2 b1 = r at *
    obtain ⟨e1, e2⟩ := times_ok p1 n2 c1 c2 hl.symm hr.symm
    have le1 : ∀ {x d : Int}, x.natAbs < 2 ^ 8000 → (x.fdiv d).natAbs < 2 ^ 8001 := fun {x d} hx => by
      have := natAbs_fdiv_le x d
      rw [Nat.pow_succ]; omega
    refine ⟨_, rfl, a, _, _, _, rfl, rfl, SqT.of ha, rfl, _, rfl, _, _, rfl, rfl, ldiv _, _, rfl, b, _, _, _, rfl, rfl, SqT.of hb, rfl, _, rfl, _, _, rfl, rfl, rdiv _, _, _, rfl, rfl, mulOk_of 8001 (le1 z1) (le1 z3) (by decide), _, rfl, a, _, _, _, rfl, rfl, SqT.of ha, rfl, _, rfl, _, _, rfl, rfl, rdiv _, _, rfl, b, _, _, _, rfl, rfl, SqT.of hb, rfl, _, rfl, _, _, rfl, rfl, ldiv _, _, _, rfl, rfl, mulOk_of 8001 (le1 z2) (le1 z4) (by decide), sz (by simp), fun p hp => ?_⟩
    exact k _ _ (Same.upd hp) (FrV.newOf e1 e2)
end
end T34
namespace T34
open PySem L2 Tc
section
variable {P : Program} {w : World} {K : PySem.W.Frag} {mg : Str → Option Value} {base : Heap}
abbrev s_under : Stmt := top 5
theorem sc_under : FnScope ["one", "other"] ["one", "other"] (defScope s_under) := ⟨rfl, rfl, rfl, by decide +kernel, rfl, by decide +kernel, by decide +kernel⟩
theorem ok_under (D : DefAt K mg "under" s_under) (T : Txt K mg) : FnAt P w K mg base CX0 1 "under" ["one", "other"] (spUnder) := by
  refine D.ok sc_under (fun vs H Q E h => ?_) (fun _ _ _ _ _ _ us hl => match us, hl with | [_, _], _ => rfl) (fun f cdv A outer s H vs Q E hr h => ?_)
  · obtain ⟨_, _, r, q, rfl, ⟨a, rfl, ha⟩, ⟨b, rfl, hb⟩, br, bq, k⟩ := h; rfl
  · obtain ⟨_, _, r, q, rfl, ⟨a, rfl, ha⟩, ⟨b, rfl, hb⟩, br, bq, k⟩ := h
    have nd := sc_under.nd
    refine ⟨_, (@pss_one _ _ _ (ps_ret (pe_cmpR op_lt (@pe_op _ _ _ _ _ _ _ _ op_mulB (pe_ix (ix_tup' (K := K) rfl) (pv 0) pe_int (fun _ _ => rfl)) (pe_ix (ix_tup' (K := K) rfl) (pv 1) pe_int (fun _ _ => rfl))) (@pe_op _ _ _ _ _ _ _ _ op_mulB (pe_ix (ix_tup' (K := K) rfl) (pv 1) pe_int (fun _ _ => rfl)) (pe_ix (ix_tup' (K := K) rfl) (pv 0) pe_int (fun _ _ => rfl))) (nomark _)))), ?_⟩
    refine ⟨_, rfl, a, _, _, _, rfl, rfl, SqT.of ha, rfl, _, rfl, b, _, _, _, rfl, rfl, SqT.of hb, rfl, _, _, rfl, rfl, mulOk_of 8000 br.num bq.den (by decide), _, rfl, b, _, _, _, rfl, rfl, SqT.of hb, rfl, _, rfl, a, _, _, _, rfl, rfl, SqT.of ha, rfl, _, _, rfl, rfl, mulOk_of 8000 bq.num br.den (by decide), _, _, rfl, rfl, ?_⟩
    rw [← _root_.Tc.lt_ok] at k
    exact k
end
end T34
namespace T34
open PySem L2 Tc
section
variable {P : Program} {w : World} {K : PySem.W.Frag} {mg : Str → Option Value} {base : Heap}
abbrev s_bring_at : Stmt := top 7
theorem sc_bring_at : FnScope ["steps", "k"] ["steps", "k"] (defScope s_bring_at) := ⟨rfl, rfl, rfl, by decide +kernel, rfl, by decide +kernel, by decide +kernel⟩
theorem ok_bring_at (D : DefAt K mg "bring_at" s_bring_at) (T : Txt K mg) : FnAt P w K mg base CX0 1 "bring_at" ["steps", "k"] (spBringAt K) := by
  refine D.ok sc_bring_at (fun vs H Q E h => ?_) (fun _ _ _ _ _ _ us hl => match us, hl with | [_, _], _ => rfl) (fun f cdv A outer s H vs Q E hr h => ?_)
  · obtain ⟨as, xs, ss, kk, i, rfl, hX, hP, h64, hi, k⟩ := h; rfl
  · obtain ⟨as, xs, ss, kk, i, rfl, hX, hP, h64, hi, k⟩ := h
    have nd := sc_bring_at.nd
    refine ⟨_, (@pss_one _ _ _ (ps_ret (pe_ix (ix_list' (K := K) rfl) (pe_comp ["at", "step"] [] [] rfl (by rfl) (pi_enum (K := K) rfl (by rfl) T.z_enumerate (@pa_cons _ _ _ _ _ (pv 0) pa_nil (by rfl))) (fun _ _ _ _ => (pg_tup' (K := K) (n := 2) (by rfl) (by rfl) (pgs_cons (pg_name (i := 0) (show List.Nodup (["at", "step"] : List Str) from by decide) rfl (Or.inl rfl) (hf := Or.inr (by rfl))) (pgs_cons (pg_name (i := 1) (show List.Nodup (["at", "step"] : List Str) from by decide) rfl (Or.inl rfl) (hf := Or.inr (by rfl))) pgs_nil)))) (fun _ _ _ _ => (pif_one (pt_cmpR op_eq (pe_ix (ix_tup' (K := K) rfl) (pv 1) pe_int (fun _ _ => rfl)) pe_str (nomark _)))) (fun _ _ _ _ => (pv 0))) (pv 1) (fun _ _ => rfl)))), ?_⟩
    have hlen : xs.length = ss.length := hP.length
    refine ⟨_, rfl, as, _, rfl, hX, fun D hD => ?_⟩
    refine block_enum (xs := xs) (fun j σ' H' => ∃ (v0 v1 : Option V), σ' = [v0, v1] ∧ Same H H' ∧ H' D = some (.lst ((brIx 0 (ss.take j)).map fun n => V.int (n : Nat)))) ⟨none, none, rfl, Same.upd hD, upd_same⟩ ?_ ?_ ?_
    · rintro j σ' H' hj ⟨v0, v1, rfl, s1, hd⟩
      exact s1.seq hX
    · rintro j w T σ' H' hw ⟨v0, v1, rfl, s1, hd⟩ hT
      obtain ⟨st, hst, sv⟩ := paired_get hP hw
      have hj : j < ss.length := (List.getElem?_eq_some_iff.mp hst).1
      have ed : ss.take (j + 1) = ss.take j ++ [st] := by rw [List.take_add_one, hst]; rfl
      have hb := brIx_snoc st 0 (ss.take j)
      rw [← ed, List.length_take, Nat.min_eq_left (by omega), Nat.zero_add] at hb
      have tT := Same.upd (o := .tup [.int (j : Nat), w]) hT
      have s2 := s1.trans tT
      have hd2 := tT _ _ hd
      refine ⟨T, _, rfl, SqT.of upd_same, rfl, _, _, rfl, _, _, rfl, rfl, ?_⟩
      have bl : (brIx 0 (ss.take j)).length ≤ 64 := by
        have := brL_len (ss.take j)
        rw [brIx_len, ]
        rw [List.length_take] at this
        omega
      cases st with
      | br z yr x0 q0 =>
        obtain ⟨a, l, f, rfl, ha, _, _⟩ := sv
        refine ⟨_, rfl, a, _, _, _, rfl, rfl, SqT.of (s2 _ _ ha), rfl, rfl, _, rfl, ?_⟩
        refine dec_true rfl ?_
        refine ⟨_, rfl, _, hd2, sz (by rw [List.length_map]; omega), _, _, rfl, s2.updD hD, ?_⟩
        rw [upd_same, hb, List.map_append]; rfl
      | ps x0 y0 t =>
        obtain ⟨a, f, rfl, ha, _⟩ := sv
        refine ⟨_, rfl, a, _, _, _, rfl, rfl, SqT.of (s2 _ _ ha), rfl, rfl, _, rfl, ?_⟩
        refine dec_false (by decide +kernel) ?_
        refine ⟨_, _, rfl, s2, ?_⟩
        rw [hd2, hb]
        show _ = some (HO.lst ((brIx 0 (ss.take j) ++ []).map fun n => V.int (n : Nat)))
        rw [List.append_nil]
    · rintro σ' H1 ⟨v0, v1, rfl, s1, hd⟩
      rw [hlen, List.take_length] at hd
      have hat : ((brIx 0 ss).map fun n => V.int (n : Nat))[kk]? = some (.int (i : Nat)) := by rw [List.getElem?_map, hi]; rfl
      exact ⟨_, rfl, D, _, _, _, rfl, rfl, SqL.of hd, atI_nat hat, k H1 s1⟩
end
end T34
namespace T34
open PySem L2 Tc
section
variable {P : Program} {w : World} {K : PySem.W.Frag} {mg : Str → Option Value} {base : Heap}
abbrev s_raise_share : Stmt := top 8
theorem sc_raise_share : FnScope ["shares", "place", "share"] ["shares", "place", "share"] (defScope s_raise_share) := ⟨rfl, rfl, rfl, by decide +kernel, rfl, by decide +kernel, by decide +kernel⟩
theorem ok_raise_share (D : DefAt K mg "raise_share" s_raise_share) (T : Txt K mg) (G_under : FnAt P w K mg base CX0 1 "under" ["one", "other"] (spUnder)) : FnAt P w K mg base CX0 2 "raise_share" ["shares", "place", "share"] (spRaise) := by
  refine D.ok sc_raise_share (fun vs H Q E h => ?_) (fun _ _ _ _ _ _ us hl => match us, hl with | [_, _, _], _ => rfl) (fun f cdv A outer s H vs Q E hr h => ?_)
  · obtain ⟨a, kv, v, p, f, r, rfl, ha, row, hf, v0, bv, br, hl, k⟩ := h; rfl
  · obtain ⟨a, kv, v, p, f, r, rfl, ha, row, hf, v0, bv, br, hl, k⟩ := h
    have nd := sc_raise_share.nd
    refine ⟨_, (@pss_one _ _ _ (ps_if (pt_val (pe_fn G_under hr (by rfl) pass0 (@pa_cons _ _ _ _ _ (pe_dget2 (hu_of hr) (pv 0) (pv 1) (@pe_tup _ _ _ _ _ (@pa_cons _ _ _ _ _ pe_int (@pa_cons _ _ _ _ _ pe_int pa_nil (by rfl)) (by rfl))) ⟨by rfl, by rfl, by rfl, by rfl⟩) (@pa_cons _ _ _ _ _ (pv 2) pa_nil (by rfl)) (by rfl)))) (@pss_one _ _ _ (ps_dput (hu_of hr) (pv 0) (pv 1) (pv 2) rfl)) pss_nil)), ?_⟩
    refine ⟨_, rfl, a, rfl, .inl ⟨kv, .inl ha⟩, _, rfl, sz (by simp), fun q0 hq0 => ⟨valV kv (.inr p), DGet.k (k := .inr p) (Same.upd hq0 _ _ ha), ?_⟩⟩
    have z0 := Same.upd (o := .tup [.int 0, .int 1]) hq0
    have fg : FrV (upd H q0 (.tup [.int 0, .int 1])) ((valV kv (.inr p)).getD (.ref q0)) (v p) := by
      have := (row.same (fun v r f => f.same z0)).getD (FrV.newOf (r := 0) (p := q0) rfl rfl) p
      rw [op_get] at this; exact this
    refine ⟨_, rfl, _, _, v p, r, rfl, fg, hf.same z0, bv, br, _, rfl, ?_⟩
    have ha0 := z0 _ _ ha
    refine ite2 (fun h => ?_) (fun h => ?_)
    · have h : v p < r := of_decide_eq_true h
      refine ⟨_, rfl, _, rfl, _, rfl, a, upd (upd H q0 (.tup [.int 0, .int 1])) a (.dK (putK kv (.inr p) f)), rfl, DPut.k (k := .inr p) ha0 (sz (by omega)), ?_⟩
      have tu := tup_of (o := .dK (putK kv (.inr p) f)) ha0 (fun _ z => nomatch z)
      refine k _ (putK kv (.inr p) f) (fun c o e n => by rw [upd_ne n]; exact z0 _ _ e) upd_same (length_putK kv (.inr p) f) ?_
      rw [← rse_op h v0]
      exact ((row.same fun v r f => f.same z0).put (z := p) (hf.same z0)).same fun v r f => f.tup tu
    · have h : ¬ v p < r := fun z => h (decide_eq_true z)
      refine k _ kv (fun c o e _ => z0 _ _ e) ha0 (by omega) ?_
      rw [rse_not h]; exact row.same fun v r f => f.same z0
end
end T34
namespace T34
open PySem L2 Tc
section
variable {P : Program} {w : World} {K : PySem.W.Frag} {mg : Str → Option Value} {base : Heap}
abbrev s_behind_step : Stmt := top 9
theorem sc_behind_step : FnScope ["shares", "step", "after", "place", "share"] ["shares", "step"] (defScope s_behind_step) := ⟨rfl, rfl, rfl, by decide +kernel, rfl, by decide +kernel, by decide +kernel⟩
theorem ok_behind_step (D : DefAt K mg "behind_step" s_behind_step) (T : Txt K mg) (G_raise_share : FnAt P w K mg base CX0 2 "raise_share" ["shares", "place", "share"] (spRaise)) (G_times : FnAt P w K mg base CX0 2 "times" ["one", "other"] (spTimes)) (G_minus : FnAt P w K mg base CX0 3 "minus" ["one", "other"] (spMinus)) : FnAt P w K mg base CX0 4 "behind_step" ["shares", "step"] (spBehindStep) := by
  refine D.ok sc_behind_step (fun vs H Q E h => ?_) (fun _ _ _ _ _ _ us hl => match us, hl with | [_, _], _ => rfl) (fun f cdv A outer s H vs Q E hr h => ?_)
  · obtain ⟨a, st, s', L, kv, v, P, rfl, ha, hst, ok, row, P0, hM, hB, h8, k⟩ := h; rfl
  · obtain ⟨a, st, s', L, kv, v, P, rfl, ha, hst, ok, row, P0, hM, hB, h8, k⟩ := h
    have nd := sc_behind_step.nd
    refine ⟨_, (@pss_cons _ _ _ _ _ (ps_if (PW.pt (pw_or (pt_cmpR op_eq (pe_ix (ix_tup' (K := K) rfl) (pv 1) pe_int (fun _ _ => rfl)) pe_str (nomark _)) (pw_or1 (pt_cmp (pc_dnotin (hu_of hr) (pe_ix (ix_tup' (K := K) rfl) (pv 1) pe_int (fun _ _ => rfl)) (pv 0)))))) (@pss_one _ _ _ (ps_ret (pe_callTy call_dictK (by rfl) T.z_dict bt_dict (@pa_cons _ _ _ _ _ (pv 0) pa_nil (by rfl))))) pss_nil)
      (@pss_cons _ _ _ _ _ (@ps_set _ _ 2 _ _ _ _ nd rfl (Or.inl rfl) pe_dnewK (by rfl) (Or.inl rfl))
      (@pss_cons _ _ _ _ _ (ps_thaw (ps_for PassesOwn.never rfl (pi_items (pe_bm0' (K := K) rfl PySem.F.plainAttrs_dict PySem.F.slot_dict_items PySem.F.type_dict_items mt_items (pv 0))) (pg_tup rfl (pgs_cons (pg_name (i := 3) nd rfl (Or.inl rfl)) (pgs_cons (pg_name (i := 4) nd rfl (Or.inl rfl)) pgs_nil))) (@pss_one _ _ _ (ps_if (pt_cmpR op_eq (pv 3) (pe_ix (ix_tup' (K := K) rfl) (pv 1) pe_int (fun _ _ => rfl)) (nomark _)) (@pss_one _ _ _ (ps_expr (pe_fn G_raise_share hr (by rfl) pass0 (@pa_cons _ _ _ _ _ (pv 2) (@pa_cons _ _ _ _ _ (pv 3) (@pa_cons _ _ _ _ _ (pe_fn G_times hr (by rfl) pass0 (@pa_cons _ _ _ _ _ (pv 4) (@pa_cons _ _ _ _ _ (pe_fn G_minus hr (by rfl) pass0 (@pa_cons _ _ _ _ _ (@pe_tup _ _ _ _ _ (@pa_cons _ _ _ _ _ pe_int (@pa_cons _ _ _ _ _ pe_int pa_nil (by rfl)) (by rfl))) (@pa_cons _ _ _ _ _ (pe_ix (ix_tup' (K := K) rfl) (pv 1) pe_int (fun _ _ => rfl)) pa_nil (by rfl)) (by rfl))) pa_nil (by rfl)) (by rfl))) pa_nil (by rfl)) (by rfl)) (by rfl))))) (@pss_one _ _ _ (ps_expr (pe_fn G_raise_share hr (by rfl) pass0 (@pa_cons _ _ _ _ _ (pv 2) (@pa_cons _ _ _ _ _ (pv 3) (@pa_cons _ _ _ _ _ (pv 4) pa_nil (by rfl)) (by rfl)) (by rfl)))))))))
      (@pss_cons _ _ _ _ _ (ps_expr (pe_fn G_raise_share hr (by rfl) pass0 (@pa_cons _ _ _ _ _ (pv 2) (@pa_cons _ _ _ _ _ (pe_ix (ix_tup' (K := K) rfl) (pv 1) pe_int (fun _ _ => rfl)) (@pa_cons _ _ _ _ _ (pe_fn G_times hr (by rfl) pass0 (@pa_cons _ _ _ _ _ (pe_dget (hu_of hr) (pv 0) (pe_ix (ix_tup' (K := K) rfl) (pv 1) pe_int (fun _ _ => rfl)) (fun _ _ => rfl)) (@pa_cons _ _ _ _ _ (pe_ix (ix_tup' (K := K) rfl) (pv 1) pe_int (fun _ _ => rfl)) pa_nil (by rfl)) (by rfl))) pa_nil (by rfl)) (by rfl)) (by rfl))))
      (@pss_one _ _ _ (ps_ret (pv 2))))))), ?_⟩
    cases s' with
    | br z yr x q =>
      obtain ⟨b0, l0, f0, eb, hb0, _, _⟩ := hst
      have eb : st = b0 := V.ref.inj eb
      subst eb
      refine ⟨_, rfl, st, _, _, _, rfl, rfl, SqT.of hb0, rfl, rfl, _, rfl, ?_⟩
      refine dec_true rfl ?_
      refine iteT ?_
      refine ⟨_, rfl, a, kv, rfl, ha, fun pm hpm => ?_⟩
      have t2 := Same.upd (o := .dK kv) hpm
      exact k pm _ kv hpm t2 upd_same (row.same fun v r f => f.same t2)
    | ps x y t =>
      obtain ⟨hx0, hy0, hxy, t0, tle, td⟩ := id ok
      obtain ⟨b0, f0, eb, hb0, ff0⟩ := hst
      have eb : st = b0 := V.ref.inj eb
      subst eb
      have D0 : 0 < P * t.den := Nat.mul_pos P0 t.den_pos
      have hB : 16 * (P * t.den) < 2 ^ 2700 := hB
      have bs := Bd.share t0 tle td
      refine ⟨_, rfl, st, _, _, _, rfl, rfl, SqT.of hb0, rfl, rfl, _, rfl, ?_⟩
      refine dec_false (by decide +kernel) ?_
      cases q : op v x with
      | none =>
        have vx : v x = 0 := by
          unfold op at q
          split at q
          · rename_i z; exact z
          · cases q
        refine ⟨_, rfl, st, _, _, _, rfl, rfl, SqT.of hb0, rfl, _, rfl, a, none, rfl, ?_, _, rfl, ?_⟩
        · have g := DGet.k (k := .inr x) ha
          rw [row.not x q] at g; exact g
        refine iteT ?_
        refine ⟨_, rfl, a, kv, rfl, ha, fun pm hpm => ?_⟩
        have t2 := Same.upd (o := .dK kv) hpm
        refine k pm _ kv hpm t2 upd_same ?_
        show RowAt _ kv (op (gm x y t v))
        rw [gm_zero vx (hM y).1]
        exact row.same fun v r f => f.same t2
      | some rx =>
        obtain ⟨wx, hwx, fwx⟩ := row.has x rx q
        have erx : rx = v x := by
          unfold op at q
          split at q
          · cases q
          · exact (Option.some.inj q).symm
        subst erx
        refine ⟨_, rfl, st, _, _, _, rfl, rfl, SqT.of hb0, rfl, _, rfl, a, some wx, rfl, ?_, _, rfl, ?_⟩
        · have g := DGet.k (k := .inr x) ha
          rw [hwx] at g; exact g
        refine iteF ?_
        intro pf hpf
        have tp := Same.upd (o := .dK []) hpf
        have ha1 := tp _ _ ha
        have naf : a ≠ pf := ne_of_none ha hpf
        refine ⟨a, _, ha1, rfl, ?_⟩
        refine ⟨_, rfl, .inr (.inr (.inl ⟨rfl, .inl ⟨_, ha1⟩⟩)), a, _, rfl, rfl, ha1, rfl, fun pv hpv => ?_⟩
        have t7 := tp.trans (Same.upd (o := viewO pv a) hpv)
        refine ⟨pv, a, _, rfl, upd_same, t7 _ _ ha, rfl, fun o ps hps => ?_⟩
        have hps : ps = kv.map fun kv => (kV kv.1, kv.2) := hps
        subst hps
        refine for_items (fun i σ H2 => ∃ (v3 v4 : Option V) (kv' : List (Key × V)), σ = [some (.ref a), some (.ref st), some (.ref pf), v3, v4] ∧ H2 a = some (.frz o (.dK kv)) ∧ (∀ c ob, H c = some ob → c ≠ a → H2 c = some ob) ∧ H2 pf = some (.dK kv') ∧ kv'.length ≤ i ∧ RowAt H2 kv' (op (part x t v (nms (kv.take i))))) ?_ ?_ ?_ ?_
        · refine ⟨none, none, [], rfl, upd_same, fun c ob e n => by rw [upd_ne n]; exact t7 _ _ e, by rw [upd_ne naf.symm]; exact (Same.upd (o := viewO pv a) hpv) _ _ upd_same, Nat.le_refl _, ?_⟩
          have ef : op (part x t v (nms (kv.take 0))) = fun _ => none := by funext z; simp [part, nms, op]
          rw [ef]; exact RowAt.nil _
        · rintro i σ H2 ⟨_, _, _, _, h, _⟩
          exact h
        · rintro i k' w' T σ H2 hk ⟨v3, v4, kv', rfl, hfa, keep, hpf2, hl, row2⟩ hT
          obtain ⟨kvi, hki, ek⟩ : ∃ kvi, kv[i]? = some kvi ∧ (kV kvi.1, kvi.2) = (k', w') := by
            rw [List.getElem?_map] at hk
            cases q : kv[i]? with
            | none => rw [q] at hk; cases hk
            | some kvi => rw [q] at hk; exact ⟨kvi, rfl, Option.some.inj hk⟩
          have hi : i < kv.length := (List.getElem?_eq_some_iff.mp hki).1
          obtain ⟨p, r0, hz, hgp, fr0, hpn, en⟩ := row.at hki
          obtain ⟨rfl, rfl⟩ := Prod.mk.inj ek
          obtain ⟨k0, w0⟩ := kvi
          have hz : k0 = .inr p := hz
          subst hz
          have er : r0 = v p := by
            unfold op at hgp
            split at hgp
            · cases hgp
            · exact (Option.some.inj hgp).symm
          rw [er] at fr0
          have t3 := Same.upd (o := .tup [kV (.inr p), w0]) hT
          have keepT : ∀ c m, H c = some (.tup m) → upd H2 T (.tup [kV (.inr p), w0]) c = some (.tup m) := fun c m e => t3 _ _ (keep _ _ e (ne_of e ha (by intro z; cases z)))
          have hb3 := keepT _ _ hb0
          have fr3 := fr0.tup keepT
          have row3 := row2.same fun v r f => f.same t3
          have hpf3 := t3 _ _ hpf2
          have hfa3 := t3 _ _ hfa
          have kp3 : ∀ c ob, H c = some ob → c ≠ a → upd H2 T (.tup [kV (.inr p), w0]) c = some ob := fun c ob e n => t3 _ _ (keep c ob e n)
          refine ⟨T, _, rfl, SqT.of upd_same, rfl, _, _, rfl, _, _, rfl, rfl, ?_⟩
          generalize upd H2 T (.tup [kV (.inr p), w0]) = H3 at *
          have ep0 : part x t v (nms (kv.take i)) p = 0 := by unfold part; rw [if_neg hpn]
          have z0 : Bd 8000 (part x t v (nms (kv.take i)) p) := by rw [ep0]; exact ⟨by decide, by decide⟩
          have n0 : 0 ≤ part x t v (nms (kv.take i)) p := by rw [ep0]; exact Rat.le_refl
          have b1 : Bd 2700 (v p) := ((hM p).up t.den).bd D0 (by decide) (by omega)
          have fin : ∀ (H4 : Hp), Same H3 H4 → ∀ (H' : Hp) (kv'' : List (Key × V)), (∀ c o, H4 c = some o → c ≠ pf → H' c = some o) → H' pf = some (.dK kv'') → kv''.length ≤ kv'.length + 1 → RowAt H' kv'' (op (rse (part x t v (nms (kv.take i))) p (if p = x then v x * (1 - t) else v p))) → H' a = some (.frz o (.dK kv)) ∧ (∀ c ob, H c = some ob → c ≠ a → H' c = some ob) ∧ H' pf = some (.dK kv'') ∧ kv''.length ≤ i + 1 ∧ RowAt H' kv'' (op (part x t v (nms (kv.take (i + 1))))) := by
            intro H4 s4 H' kv'' kp h1 h2 h3
            refine ⟨kp _ _ (s4 _ _ hfa3) naf, fun c ob e n => kp _ _ (s4 _ _ (kp3 c ob e n)) (ne_of_none e hpf), h1, by omega, ?_⟩
            have nn : 0 ≤ (if p = x then v x * (1 - t) else v p) := by
              split
              · exact Rat.mul_nonneg (hM x).1 (sub_nonneg tle)
              · exact (hM p).1
            rw [en, ← part_snoc hpn nn]; exact h3
          refine ⟨.str p, rfl, _, rfl, st, _, _, _, rfl, rfl, SqT.of hb3, rfl, rfl, _, rfl, ?_⟩
          by_cases e : p = x
          · refine dec_true (by rw [e]) ?_
            refine ⟨_, rfl, .str p, rfl, _, rfl, sz (by simp), fun q1 hq1 => ?_⟩
            have t4 := Same.upd (o := .tup [.int 1, .int 1]) hq1
            refine ⟨_, rfl, st, _, _, _, rfl, rfl, SqT.of (t4 _ _ hb3), rfl, ?_⟩
            refine ⟨_, _, 1, t, rfl, FrV.newOf rfl rfl, (ff0.tup keepT).same t4, ⟨by decide, by decide⟩, bs.1.mono (by decide), fun v5 H5 s5 f5 => ?_⟩
            have u5 := t4.trans s5
            refine spTimes.of (E := E0) rfl (fr3.same u5) f5 (b1.mono (by decide)) (bs.2.mono (by decide)) fun v6 H6 s6 f6 => ?_
            have u6 := u5.trans s6
            have b6 : Bd 2700 (v p * (1 - t)) := ((hM p).mulR t0 tle).bd D0 (by decide) (by omega)
            refine ⟨pf, kv', part x t v (nms (kv.take i)), p, v6, v p * (1 - t), rfl, u6 _ _ hpf3, row3.same (fun v r f => f.same u6), f6, n0, z0, b6.mono (by decide), by omega, fun H' kv'' kp h1 h2 h3 => ?_⟩
            refine ⟨_, _, kv'', rfl, fin H6 u6 H' kv'' kp h1 h2 ?_⟩
            have e' : v x * (1 - t) = v p * (1 - t) := by rw [e]
            rw [if_pos e, e']; exact h3
          · refine dec_false (fun z => e (V.str.inj z)) ?_
            refine ⟨_, rfl, .str p, rfl, _, rfl, ?_⟩
            refine ⟨pf, kv', part x t v (nms (kv.take i)), p, w0, v p, rfl, hpf3, row3, fr3, n0, z0, b1.mono (by decide), by omega, fun H' kv'' kp h1 h2 h3 => ?_⟩
            refine ⟨_, _, kv'', rfl, fin H3 (Same.refl _) H' kv'' kp h1 h2 ?_⟩
            rw [if_neg e]; exact h3
        · rintro σ H2 ⟨v3, v4, kv', rfl, hfa, keep, hpf2, hl, row2⟩
          rw [List.length_map] at hl
          rw [List.length_map, List.take_length] at row2
          have kp2 : Same H (upd H2 a (.dK kv)) := fun c ob e => by
            by_cases z : c = a
            · subst z; rw [upd_same]; rw [ha] at e; exact e
            · rw [upd_ne z]; exact keep c ob e z
          have tu := tup_of (o := .dK kv) hfa (fun _ z => nomatch z)
          refine ⟨o, _, hfa, ?_⟩
          have hpf3 : upd H2 a (.dK kv) pf = some (.dK kv') := by rw [upd_ne naf.symm]; exact hpf2
          have row3 := row2.same (H' := upd H2 a (.dK kv)) fun v r f => f.tup tu
          generalize upd H2 a (.dK kv) = H3 at *
          have hb3 := kp2 _ _ hb0
          have bx : Bd 2700 (v x) := ((hM x).up t.den).bd D0 (by decide) (by omega)
          have bxt : Bd 2700 (v x * t) := ((hM x).mulL t0 tle).bd D0 (by decide) (by omega)
          have iff : ∀ z, z ∈ nms kv ↔ v z ≠ 0 := fun z => (row.iff z).trans op_some
          have py : part x t v (nms kv) y = 0 ∨ part x t v (nms kv) y = v y := by
            unfold part
            by_cases e : y ∈ nms kv
            · rw [if_pos e, if_neg fun e => hxy e.symm]; exact .inr rfl
            · rw [if_neg e]; exact .inl rfl
          have pM : IsM (P * t.den) 1 (part x t v (nms kv) y) := by
            rcases py with e | e
            · rw [e]; exact IsM.zero _ _
            · rw [e]; exact (hM y).up t.den
          refine ⟨_, rfl, _, rfl, st, _, _, _, rfl, rfl, SqT.of hb3, rfl, _, rfl, _, rfl, st, _, _, _, rfl, rfl, SqT.of hb3, rfl, a, wx, rfl, ?_, ?_⟩
          · have g := DGet.k (k := .inr x) (kp2 _ _ ha)
            rw [hwx] at g; exact g
          refine ⟨_, rfl, st, _, _, _, rfl, rfl, SqT.of hb3, rfl, ?_⟩
          refine spTimes.of (E := E0) rfl (fwx.same kp2) (ff0.same kp2) (bx.mono (by decide)) (bs.1.mono (by decide)) fun v6 H6 s6 f6 => ?_
          refine ⟨pf, kv', part x t v (nms kv), y, v6, v x * t, rfl, s6 _ _ hpf3, row3.same (fun v r f => f.same s6), f6, pM.1, (pM.bd D0 (by decide) (show 1 * (P * t.den) < 2 ^ 2700 by omega)).mono (by decide), bxt.mono (by decide), by omega, fun H' kv'' kp h1 h2 h3 => ?_⟩
          have hxk : x ∈ nms kv := nms_mem hwx
          rw [part_all hxy hxk fun z n => (iff z).mpr n] at h3
          refine ⟨_, rfl, k pf H' kv'' hpf (fun c ob e => ?_) h1 h3⟩
          exact kp _ _ (s6 _ _ (kp2 _ _ e)) (ne_of_none e hpf)
end
end T34
namespace T34
open PySem L2 Tc
section
variable {P : Program} {w : World} {K : PySem.W.Frag} {mg : Str → Option Value} {base : Heap}
abbrev s_greatest_shares : Stmt := top 10
theorem sc_greatest_shares : FnScope ["steps", "k", "at", "shares", "step"] ["steps", "k"] (defScope s_greatest_shares) := ⟨rfl, rfl, rfl, by decide +kernel, rfl, by decide +kernel, by decide +kernel⟩
theorem ok_greatest_shares (D : DefAt K mg "greatest_shares" s_greatest_shares) (T : Txt K mg) (G_bring_at : FnAt P w K mg base CX0 1 "bring_at" ["steps", "k"] (spBringAt K)) (G_behind_step : FnAt P w K mg base CX0 4 "behind_step" ["shares", "step"] (spBehindStep)) : FnAt P w K mg base CX0 5 "greatest_shares" ["steps", "k"] (spGreatest K) := by
  refine D.ok sc_greatest_shares (fun vs H Q E h => ?_) (fun _ _ _ _ _ _ us hl => match us, hl with | [_, _], _ => rfl) (fun f cdv A outer s H vs Q E hr h => ?_)
  · obtain ⟨as, L, xs, ss, kk, i, z, yr, x, q, rfl, h8, hX, hP, hO, h64, hi, hsi, k⟩ := h; rfl
  · obtain ⟨as, L, xs, ss, kk, i, z, yr, x, q, rfl, h8, hX, hP, hO, h64, hi, hsi, k⟩ := h
    have nd := sc_greatest_shares.nd
    refine ⟨_, (@pss_cons _ _ _ _ _ (@ps_set _ _ 2 _ _ _ _ nd rfl (Or.inl rfl) (pe_fn G_bring_at hr (by rfl) pass0 (@pa_cons _ _ _ _ _ (pv 0) (@pa_cons _ _ _ _ _ (pv 1) pa_nil (by rfl)) (by rfl))) (by rfl) (Or.inl rfl))
      (@pss_cons _ _ _ _ _ (@ps_set _ _ 3 _ _ _ _ nd rfl (Or.inl rfl) (@pe_lst _ _ _ _ (@pa_cons _ _ _ _ _ (pe_disp (pps_cons (pe_ix (ix_tup' (K := K) rfl) (pe_ix (ix_list' (K := K) rfl) (pv 0) (pv 2) (fun _ _ => rfl)) pe_int (fun _ _ => rfl)) (@pe_tup _ _ _ _ _ (@pa_cons _ _ _ _ _ pe_int (@pa_cons _ _ _ _ _ pe_int pa_nil (by rfl)) (by rfl))) pps_nil) rfl rfl (List.cons_ne_nil _ _) (Nat.le_of_ble_eq_true rfl)) pa_nil (by rfl))) (by rfl) (Or.inl rfl))
      (@pss_cons _ _ _ _ _ (ps_for PassesOwn.never rfl (pi_list' (K := K) rfl (pe_slice (sl_list' (K := K) rfl) (pv 0) (po_some (@pe_op _ _ _ _ _ _ _ _ op_add (pv 2) pe_int)) po_none)) (pg_name (i := 4) nd rfl (Or.inl rfl)) (@pss_one _ _ _ (ps_expr (pe_bm PySem.F.plainAttrs_list PySem.F.slot_list_append PySem.F.type_list_append mt_append (pv 3) (@pa_cons _ _ _ _ _ (pe_fn G_behind_step hr (by rfl) pass0 (@pa_cons _ _ _ _ _ (pe_ix (ix_list' (K := K) rfl) (pv 3) (@pe_op _ _ _ _ _ _ _ _ op_sub (pe_callB (call_len' (K := K) rfl) (by rfl) T.z_len PySem.boot_len (@pa_cons _ _ _ _ _ (pv 3) pa_nil (by rfl))) pe_int) (fun _ _ => rfl)) (@pa_cons _ _ _ _ _ (pv 4) pa_nil (by rfl)) (by rfl))) pa_nil (by rfl))))))
      (@pss_one _ _ _ (ps_ret (pv 3)))))), ?_⟩
    have hlen : xs.length = ss.length := hP.length
    have his : i < ss.length := (List.getElem?_eq_some_iff.mp hsi).1
    refine ⟨_, rfl, _, rfl, as, xs, ss, kk, i, rfl, hX, hP, h64, hi, fun H1 s1 => ?_⟩
    obtain ⟨y, hy⟩ : ∃ y, xs[i]? = some y := ⟨_, List.getElem?_eq_getElem (by omega)⟩
    obtain ⟨st, hst, sv⟩ := paired_get hP hy
    rw [hsi] at hst
    cases hst
    obtain ⟨a, l, f, rfl, hA, hl, hf⟩ := sv
    have ok := hO _ (List.mem_of_getElem? hsi)
    intro d hd
    have ud := Same.upd (o := .dK []) hd
    have s2 := s1.trans ud
    refine ⟨_, rfl, _, rfl, as, _, _, _, rfl, rfl, s2.seq hX, atI_nat hy, a, _, _, _, rfl, rfl, SqT.of (s2 _ _ hA), rfl, sz (by simp), fun f1 hf1 => ?_⟩
    have nqf : d ≠ f1 := fun e => by rw [← e, upd_same] at hf1; cases hf1
    refine ⟨by rw [upd_ne nqf, upd_same], [(.inr x, .ref f1)], rfl, by simp, sz (by simp), fun p hp => ?_⟩
    have t3 := (ud.trans (Same.upd (o := .tup [.int 1, .int 1]) hf1)).updD (o := .dK (mergeK [] [(.inr x, .ref f1)])) hd
    have ff : FrV (upd (upd (upd H1 d (.dK [])) f1 (.tup [.int 1, .int 1])) d (.dK (mergeK [] [(.inr x, .ref f1)]))) (.ref f1) 1 := ⟨f1, rfl, by rw [upd_ne nqf.symm, upd_same]; rfl⟩
    have row0 := RowAt.unit x ff
    have hd3 : upd (upd (upd H1 d (.dK [])) f1 (.tup [.int 1, .int 1])) d (.dK (mergeK [] [(.inr x, .ref f1)])) d = some (.dK (mergeK [] [(.inr x, .ref f1)])) := upd_same
    generalize upd (upd (upd H1 d (.dK [])) f1 (.tup [.int 1, .int 1])) d (.dK (mergeK [] [(.inr x, .ref f1)])) = H3 at *
    have s3 := s1.trans t3
    have t4 := Same.upd (o := .lst [.ref d]) hp
    have s4 := s3.trans t4
    have hp0 : H p = none := s3.free hp
    refine ⟨_, rfl, _, rfl, _, _, rfl, rfl, _, rfl, as, _, rfl, s4.seq hX, fun l6 hl6 => ?_⟩
    have ecut : cutV xs (some (((i : Nat) : Int) + 1)) none = xs.drop (i + 1) := by
      have e : (((i : Nat) : Int) + 1) = ((i + 1 : Nat) : Int) := by omega
      rw [e]; exact cutd_from xs (by omega)
    rw [ecut]
    have t6 := Same.upd (o := .lst (xs.drop (i + 1))) hl6
    have s6 := s4.trans t6
    refine ⟨l6, rfl, ⟨_, SqL.of upd_same⟩, ?_⟩
    have hPd := Paired.drop hP (i + 1)
    let sr := ss.drop (i + 1)
    have hOr : ∀ s ∈ sr, OkS L s := fun s hs => hO s (List.mem_of_mem_drop hs)
    have hrl : sr.length = ss.length - (i + 1) := List.length_drop
    have e6 := upd_same (H := upd H3 p (.lst [.ref d])) (a := l6) (o := .lst (xs.drop (i + 1)))
    have n6 : l6 ≠ p := fun e => by rw [e, upd_same] at hl6; cases hl6
    refine for_list (xs := xs.drop (i + 1)) (fun j σ H4 => ∃ (v4 : Option V) (ys : List V) (tds : List ((Str → Rat) × Addr)), σ = [some (.ref as), some (.int (kk : Nat)), some (.int (i : Nat)), some (.ref p), v4] ∧ Same H H4 ∧ H4 l6 = some (.lst (xs.drop (i + 1))) ∧ H4 p = some (.lst ys) ∧ Paired (GrV H4) ys tds ∧ tds.map (·.1) = gmL sr x (j + 1) ∧ (tds.map (·.2)).Nodup ∧ ∀ c ∈ tds.map (·.2), H c = none) ⟨none, [.ref d], [(dlt x, d)], rfl, s6, e6, t6 _ _ upd_same, .cons ⟨rfl, _, t6 _ _ (t4 _ _ hd3), row0.same fun _ _ g => g.same (t4.trans t6)⟩ .nil, rfl, by simp, fun c hc => by rw [List.mem_singleton.mp hc]; exact s1.free hd⟩ ?_ ?_ ?_
    · rintro j σ H4 hj ⟨v4, ys, tds, rfl, s4, h6, hp4, hB, hm, hnd, hfr⟩
      exact SqL.of h6
    · rintro j w σ H4 hxj ⟨v4, ys, tds, rfl, s4, h6, hp4, hB, hm, hnd, hfr⟩
      obtain ⟨st, hstj, sv⟩ := paired_get hPd hxj
      have hstj : sr[j]? = some st := hstj
      have hj : j < sr.length := (List.getElem?_eq_some_iff.mp hstj).1
      have okst := hOr st (List.mem_of_getElem? hstj)
      have tl : tds.length = j + 1 := by
        have := congrArg List.length hm
        unfold gmL at this
        rwa [List.length_map, List.length_map, List.length_range] at this
      have yl : ys.length = j + 1 := hB.length.trans tl
      obtain ⟨yv, hyv⟩ : ∃ yv, ys[j]? = some yv := ⟨_, List.getElem?_eq_getElem (by omega)⟩
      obtain ⟨td, htd, ⟨rfl, kvs, hk1, hk2⟩⟩ := paired_get hB hyv
      have etd : td.1 = gmN sr (dlt x) j := by
        have h1 : (tds.map (·.1))[j]? = some td.1 := by rw [List.getElem?_map, htd]; rfl
        rw [hm] at h1
        unfold gmL at h1
        rw [List.getElem?_map, List.getElem?_range (by omega)] at h1
        exact (Option.some.inj h1).symm
      rw [etd] at hk2
      obtain ⟨gM, gS⟩ := gmN_ok hOr ok.1 j (by omega)
      have P0 := prodD_pos (sr.take j)
      have hOj : ∀ s ∈ sr.take j, OkS L s := fun s hs => hOr s (List.mem_of_mem_take hs)
      have B16 := prod_bd hOj (by rw [List.length_take]; omega) (k := 16) (by decide)
      have hB' : 16 * (prodD (sr.take j) * dnS st) < 2 ^ 2700 := by
        have h3 : 16 * prodD (sr.take j) * dnS st < 2 ^ 2600 * 2 ^ 40 := Nat.mul_lt_mul_of_lt_of_le B16 (dnS_le okst) (Nat.two_pow_pos _)
        rw [← Nat.pow_add, Nat.mul_assoc] at h3
        exact Nat.lt_of_lt_of_le h3 (pow_le (by decide))
      have lk : kvs.length ≤ 8 := Nat.le_trans (hk2.len gS) h8
      have ar : ∃ b, w = .ref b := by
        cases st with
        | br _ _ _ _ => obtain ⟨b, _, _, e, _⟩ := sv; exact ⟨b, e⟩
        | ps _ _ _ => obtain ⟨b, _, e, _⟩ := sv; exact ⟨b, e⟩
      obtain ⟨b, rfl⟩ := ar
      have hat : atI ys (((ys.length : Nat) : Int) - 1) = some (.ref td.2) := by
        have e : (((ys.length : Nat) : Int) - 1) = ((j : Nat) : Int) := by omega
        rw [e]; exact atI_nat hyv
      refine ⟨_, rfl, .inl ⟨rfl, _, SqL.of hp4⟩, _, rfl, _, rfl, _, _, rfl, .inl ⟨_, SqL.of hp4, rfl⟩, _, _, rfl, rfl, p, _, _, _, rfl, rfl, SqL.of hp4, hat, _, rfl, td.2, b, st, L, kvs, gmN sr (dlt x) j, prodD (sr.take j), rfl, hk1, sv.same s4, okst, hk2, P0, gM, hB', lk, fun d' H5 kv5 hd' s5 h5 r5 => ?_⟩
      have hp5 := s5 _ _ hp4
      refine ⟨p, _, _, rfl, rfl, hp5, sz (by omega), ?_⟩
      have tu := tup_of (o := .lst (ys ++ [.ref d'])) hp5 (fun _ z => nomatch z)
      have dk : ∀ c kvs, H5 c = some (.dK kvs) → upd H5 p (.lst (ys ++ [.ref d'])) c = some (.dK kvs) := fun c kvs e => by
        rw [upd_ne (ne_of e hp5 (by intro z; cases z))]; exact e
      refine ⟨_, ys ++ [.ref d'], tds ++ [(gmN sr (dlt x) (j + 1), d')], rfl, (s4.trans s5).updD hp0, ?_, upd_same, ?_, ?_, ?_, ?_⟩
      · have n6' : l6 ≠ p := n6
        rw [upd_ne n6']; exact s5 _ _ h6
      · refine Paired.snoc (Paired.mapP hB fun _ bd b => (b.same s5).keep tu (dk bd.2)) ⟨rfl, kv5, dk _ _ h5, ?_⟩
        show RowAt _ kv5 (op (gmN sr (dlt x) (j + 1)))
        rw [gmN_succ hstj]; exact r5.same fun v r g => g.tup tu
      · rw [List.map_append, hm]
        unfold gmL
        rw [List.range_succ (n := j + 1), List.map_append]; rfl
      · rw [List.map_append]
        refine List.nodup_append.mpr ⟨hnd, by simp, fun d1 h1 d2 h2' e => ?_⟩
        have h2' : d2 = d' := List.mem_singleton.mp h2'
        obtain ⟨bd, hbd, e1⟩ := List.mem_map.mp h1
        obtain ⟨x', _, ⟨_, kvs', e4, _⟩⟩ := paired_mem' hB hbd
        rw [e1, e, h2', hd'] at e4; cases e4
      · intro c hc
        rw [List.map_append] at hc
        rcases List.mem_append.mp hc with e | e
        · exact hfr c e
        · have e : c = d' := List.mem_singleton.mp e
          rw [e]; exact s4.free hd'
    · rintro σ H4 ⟨v4, ys, tds, rfl, s4, h6, hp4, hB, hm, hnd, hfr⟩
      have el : (xs.drop (i + 1)).length + 1 = ss.length - i := by rw [List.length_drop]; omega
      rw [el] at hm
      exact ⟨_, rfl, k p H4 ys tds hp0 s4 hp4 hB hm hnd hfr⟩
end
end T34
namespace T34
open PySem L2 Tc
section
variable {P : Program} {w : World} {K : PySem.W.Frag} {mg : Str → Option Value} {base : Heap}
abbrev s_place_ahead : Stmt := top 11
theorem sc_place_ahead : FnScope ["step", "before", "place", "share"] ["step", "before", "place", "share"] (defScope s_place_ahead) := ⟨rfl, rfl, rfl, by decide +kernel, rfl, by decide +kernel, by decide +kernel⟩
theorem ok_place_ahead (D : DefAt K mg "place_ahead" s_place_ahead) (T : Txt K mg) (G_times : FnAt P w K mg base CX0 2 "times" ["one", "other"] (spTimes)) : FnAt P w K mg base CX0 3 "place_ahead" ["step", "before", "place", "share"] (spAhead) := by
  refine D.ok sc_place_ahead (fun vs H Q E h => ?_) (fun _ _ _ _ _ _ us hl => match us, hl with | [_, _, _, _], _ => rfl) (fun f cdv A outer s H vs Q E hr h => ?_)
  · obtain ⟨st, d, s', L, kv, g, b, f, c, rfl, hst, ok, hd, row, hf, bg, k⟩ := h; rfl
  · obtain ⟨st, d, s', L, kv, g, b, f, c, rfl, hst, ok, hd, row, hf, bg, k⟩ := h
    have nd := sc_place_ahead.nd
    refine ⟨_, (@pss_cons _ _ _ _ _ (ps_if (PW.pt (pw_and (pt_cmpR op_eq (pe_ix (ix_tup' (K := K) rfl) (pv 0) pe_int (fun _ _ => rfl)) pe_str (nomark _)) (pw_and (pt_cmpR op_eq (pe_ix (ix_tup' (K := K) rfl) (pv 0) pe_int (fun _ _ => rfl)) (pv 2) (nomark _)) (pw_and1 (pt_cmp (pc_din (hu_of hr) (pe_ix (ix_tup' (K := K) rfl) (pv 0) pe_int (fun _ _ => rfl)) (pv 1))))))) (@pss_one _ _ _ (ps_if (pt_cmpR (op_eqD' (K := K) rfl hr) (pe_fn G_times hr (by rfl) pass0 (@pa_cons _ _ _ _ _ (pe_dget (hu_of hr) (pv 1) (pe_ix (ix_tup' (K := K) rfl) (pv 0) pe_int (fun _ _ => rfl)) (fun _ _ => rfl)) (@pa_cons _ _ _ _ _ (pe_ix (ix_tup' (K := K) rfl) (pv 0) pe_int (fun _ _ => rfl)) pa_nil (by rfl)) (by rfl))) (pv 3) (nomark _)) (@pss_one _ _ _ (ps_ret (pe_ix (ix_tup' (K := K) rfl) (pv 0) pe_int (fun _ _ => rfl)))) pss_nil)) pss_nil)
      (@pss_one _ _ _ (ps_ret (pv 2)))), ?_⟩
    cases s' with
    | br z yr x q =>
      obtain ⟨b0, l0, f0, eb, hb0, _, _⟩ := hst
      have eb : st = b0 := V.ref.inj eb
      subst eb
      refine ⟨_, rfl, st, _, _, _, rfl, rfl, SqT.of hb0, rfl, rfl, _, rfl, ?_⟩
      refine dec_false (by decide +kernel) ?_
      refine iteF ?_
      exact ⟨_, rfl, k H (Same.refl _)⟩
    | ps x y t =>
      obtain ⟨hx0, hy0, hxy, t0, tle, td⟩ := id ok
      have bs := Bd.share t0 tle td
      obtain ⟨b0, f0, eb, hb0, ff0⟩ := hst
      have eb : st = b0 := V.ref.inj eb
      subst eb
      have k : ∀ H', Same H H' → Q (.str (if y = b ∧ g x ≠ 0 ∧ g x * t = c then x else b)) H' := k
      refine ⟨_, rfl, st, _, _, _, rfl, rfl, SqT.of hb0, rfl, rfl, _, rfl, ?_⟩
      refine dec_true rfl ?_
      refine ⟨_, rfl, st, _, _, _, rfl, rfl, SqT.of hb0, rfl, _, rfl, rfl, _, rfl, ?_⟩
      by_cases c1 : y = b
      case neg =>
        refine dec_false (fun e => c1 (V.str.inj e)) ?_
        refine iteF ?_
        rw [if_neg (fun z => c1 z.1)] at k
        exact ⟨_, rfl, k H (Same.refl _)⟩
      case pos =>
        refine dec_true (by rw [c1]) ?_
        cases q : op g x with
        | none =>
          have vx : g x = 0 := by
            unfold op at q
            split at q
            · rename_i z; exact z
            · cases q
          refine ⟨_, rfl, st, _, _, _, rfl, rfl, SqT.of hb0, rfl, _, rfl, d, none, rfl, ?_, _, rfl, ?_⟩
          · have gg := DGet.k (k := .inr x) hd
            rw [row.not x q] at gg; exact gg
          refine iteF ?_
          rw [if_neg (fun z => z.2.1 vx)] at k
          exact ⟨_, rfl, k H (Same.refl _)⟩
        | some rx =>
          obtain ⟨wx, hwx, fwx⟩ := row.has x rx q
          have erx : rx = g x ∧ g x ≠ 0 := by
            unfold op at q
            split at q
            · cases q
            · rename_i z; exact ⟨(Option.some.inj q).symm, z⟩
          obtain ⟨erx, gx⟩ := erx
          subst erx
          have dg : DGet H d (.str x) (some wx) := by
            have gg := DGet.k (k := .inr x) hd
            rw [hwx] at gg; exact gg
          refine ⟨_, rfl, st, _, _, _, rfl, rfl, SqT.of hb0, rfl, _, rfl, d, some wx, rfl, dg, _, rfl, ?_⟩
          refine iteT ?_
          refine ⟨_, rfl, _, rfl, st, _, _, _, rfl, rfl, SqT.of hb0, rfl, d, wx, rfl, dg, _, rfl, st, _, _, _, rfl, rfl, SqT.of hb0, rfl, ?_⟩
          refine spTimes.of (E := E0) rfl fwx ff0 ((bg x).mono (by decide)) (bs.1.mono (by decide)) fun v6 H6 s6 f6 => ?_
          refine ⟨_, rfl, _, _, f6.rep, (hf.same s6).rep, pq_depth _ _, _, rfl, ?_⟩
          rw [eqv_pq, fq_dec]
          refine ite2 (fun h => ?_) (fun h => ?_)
          · have h : g x * t = c := of_decide_eq_true h
            rw [if_pos ⟨c1, gx, h⟩] at k
            exact ⟨_, rfl, st, _, _, _, rfl, rfl, SqT.of (s6 _ _ hb0), rfl, k H6 s6⟩
          · have h : ¬ g x * t = c := fun z => h (decide_eq_true z)
            rw [if_neg (fun z => h z.2.2)] at k
            exact ⟨_, rfl, k H6 s6⟩
end
end T34
namespace T34
open PySem L2 Tc
section
variable {P : Program} {w : World} {K : PySem.W.Frag} {mg : Str → Option Value} {base : Heap}
abbrev s_greatest_way : Stmt := top 12
theorem sc_greatest_way : FnScope ["steps", "k", "place", "shares", "last", "at", "way", "number", "here"] ["steps", "k", "place"] (defScope s_greatest_way) := ⟨rfl, rfl, rfl, by decide +kernel, rfl, by decide +kernel, by decide +kernel⟩
theorem ok_greatest_way (D : DefAt K mg "greatest_way" s_greatest_way) (T : Txt K mg) (G_greatest_shares : FnAt P w K mg base CX0 5 "greatest_shares" ["steps", "k"] (spGreatest K)) (G_bring_at : FnAt P w K mg base CX0 1 "bring_at" ["steps", "k"] (spBringAt K)) (G_place_ahead : FnAt P w K mg base CX0 3 "place_ahead" ["step", "before", "place", "share"] (spAhead)) : FnAt P w K mg base CX0 6 "greatest_way" ["steps", "k", "place"] (spGWay K) := by
  refine D.ok sc_greatest_way (fun vs H Q E h => ?_) (fun _ _ _ _ _ _ us hl => match us, hl with | [_, _, _], _ => rfl) (fun f cdv A outer s H vs Q E hr h => ?_)
  · obtain ⟨as, L, xs, ss, kk, i, x, pl, rfl, hG, hi, kn, ks⟩ := h; rfl
  · obtain ⟨as, L, xs, ss, kk, i, x, pl, rfl, hG, hi, kn, ks⟩ := h
    have nd := sc_greatest_way.nd
    refine ⟨_, (@pss_cons _ _ _ _ _ (@ps_set _ _ 3 _ _ _ _ nd rfl (Or.inl rfl) (pe_fn G_greatest_shares hr (by rfl) pass0 (@pa_cons _ _ _ _ _ (pv 0) (@pa_cons _ _ _ _ _ (pv 1) pa_nil (by rfl)) (by rfl))) (by rfl) (Or.inl rfl))
      (@pss_cons _ _ _ _ _ (@ps_set _ _ 4 _ _ _ _ nd rfl (Or.inl rfl) (@pe_op _ _ _ _ _ _ _ _ op_sub (pe_callB (call_len' (K := K) rfl) (by rfl) T.z_len PySem.boot_len (@pa_cons _ _ _ _ _ (pv 3) pa_nil (by rfl))) pe_int) (by rfl) (Or.inl rfl))
      (@pss_cons _ _ _ _ _ (ps_if (pt_cmp (pc_dnotin (hu_of hr) (pv 2) (pe_ix (ix_list' (K := K) rfl) (pv 3) (pv 4) (fun _ _ => rfl)))) (@pss_one _ _ _ (ps_ret pe_non)) pss_nil)
      (@pss_cons _ _ _ _ _ (@ps_set _ _ 5 _ _ _ _ nd rfl (Or.inl rfl) (pe_fn G_bring_at hr (by rfl) pass0 (@pa_cons _ _ _ _ _ (pv 0) (@pa_cons _ _ _ _ _ (pv 1) pa_nil (by rfl)) (by rfl))) (by rfl) (Or.inl rfl))
      (@pss_cons _ _ _ _ _ (@ps_set _ _ 6 _ _ _ _ nd rfl (Or.inl rfl) (@pe_lst _ _ _ _ (@pa_cons _ _ _ _ _ (pv 2) pa_nil (by rfl))) (by rfl) (Or.inl rfl))
      (@pss_cons _ _ _ _ _ (ps_for PassesOwn.never rfl (pi_rangeD (by rfl) T.z_range (@pa_cons _ _ _ _ _ (pv 4) (@pa_cons _ _ _ _ _ pe_int (@pa_cons _ _ _ _ _ (pe_un un_neg pe_int) pa_nil (by rfl)) (by rfl)) (by rfl))) (pg_name (i := 7) nd rfl (Or.inl rfl)) (@pss_cons _ _ _ _ _ (@ps_set _ _ 8 _ _ _ _ nd rfl (Or.inl rfl) (pe_ix (ix_list' (K := K) rfl) (pv 6) (@pe_op _ _ _ _ _ _ _ _ op_sub (pe_callB (call_len' (K := K) rfl) (by rfl) T.z_len PySem.boot_len (@pa_cons _ _ _ _ _ (pv 6) pa_nil (by rfl))) pe_int) (fun _ _ => rfl)) (by rfl) (Or.inl rfl))
      (@pss_one _ _ _ (ps_expr (pe_bm PySem.F.plainAttrs_list PySem.F.slot_list_append PySem.F.type_list_append mt_append (pv 6) (@pa_cons _ _ _ _ _ (pe_fn G_place_ahead hr (by rfl) pass0 (@pa_cons _ _ _ _ _ (pe_ix (ix_list' (K := K) rfl) (pv 0) (@pe_op _ _ _ _ _ _ _ _ op_add (pv 5) (pv 7)) (fun _ _ => rfl)) (@pa_cons _ _ _ _ _ (pe_ix (ix_list' (K := K) rfl) (pv 3) (@pe_op _ _ _ _ _ _ _ _ op_sub (pv 7) pe_int) (fun _ _ => rfl)) (@pa_cons _ _ _ _ _ (pv 8) (@pa_cons _ _ _ _ _ (pe_dget (hu_of hr) (pe_ix (ix_list' (K := K) rfl) (pv 3) (pv 7) (fun _ _ => rfl)) (pv 8) (fun _ _ => rfl)) pa_nil (by rfl)) (by rfl)) (by rfl)) (by rfl))) pa_nil (by rfl)))))))
      (@pss_cons _ _ _ _ _ (ps_expr (pe_bm0' (K := K) rfl PySem.F.plainAttrs_list PySem.F.slot_list_reverse PySem.F.type_list_reverse mt_reverse (pv 6)))
      (@pss_one _ _ _ (ps_ret (@pe_tup _ _ _ _ _ (@pa_cons _ _ _ _ _ (pv 6) (@pa_cons _ _ _ _ _ (pe_dget (hu_of hr) (pe_ix (ix_list' (K := K) rfl) (pv 3) (pv 4) (fun _ _ => rfl)) (pv 2) (fun _ _ => rfl)) pa_nil (by rfl)) (by rfl)))))))))))), ?_⟩
    obtain ⟨h8, hX, hP, hO, h64, z, yr, q, hsi⟩ := hG
    have hlen : xs.length = ss.length := hP.length
    have his : i < ss.length := (List.getElem?_eq_some_iff.mp hsi).1
    refine ⟨_, rfl, _, rfl, as, L, xs, ss, kk, i, z, yr, x, q, rfl, h8, hX, hP, hO, h64, hi, hsi, fun p H1 ys tds hp s1 h1 hB hm hnd hfr => ?_⟩
    let sr := ss.drop (i + 1)
    have hrl : sr.length = ss.length - (i + 1) := List.length_drop
    have hOr : ∀ s ∈ sr, OkS L s := fun s hs => hO s (List.mem_of_mem_drop hs)
    have ok := hO _ (List.mem_of_getElem? hsi)
    have tl : tds.length = sr.length + 1 := by
      have := congrArg List.length hm
      unfold gmL at this
      rw [List.length_map, List.length_map, List.length_range] at this
      omega
    have yl : ys.length = sr.length + 1 := hB.length.trans tl
    have row : ∀ j, j ≤ sr.length → ∃ d kvs, ys[j]? = some (.ref d) ∧ H1 d = some (.dK kvs) ∧ RowAt H1 kvs (op (gmN sr (dlt x) j)) := fun j hj => by
      obtain ⟨yv, hyv⟩ : ∃ yv, ys[j]? = some yv := ⟨_, List.getElem?_eq_getElem (by omega)⟩
      obtain ⟨td, htd, ⟨e, kvs, hk1, hk2⟩⟩ := paired_get hB hyv
      have etd : td.1 = gmN sr (dlt x) j := by
        have h1 : (tds.map (·.1))[j]? = some td.1 := by rw [List.getElem?_map, htd]; rfl
        rw [hm] at h1
        unfold gmL at h1
        rw [List.getElem?_map, List.getElem?_range (by omega)] at h1
        exact (Option.some.inj h1).symm
      rw [etd] at hk2
      exact ⟨td.2, kvs, by rw [hyv, e], hk1, hk2⟩
    have bdg : ∀ j, j ≤ sr.length → ∀ z, Bd 2700 (gmN sr (dlt x) j z) := fun j hj z => by
      have hOj : ∀ s ∈ sr.take j, OkS L s := fun s hs => hOr s (List.mem_of_mem_take hs)
      have B := prod_bd hOj (by rw [List.length_take]; omega) (k := 1) (by decide)
      exact (((gmN_ok hOr ok.1 j hj).1 z).bd (prodD_pos _) (by decide) B).mono (by decide)
    refine ⟨_, rfl, _, _, rfl, .inl ⟨_, SqL.of h1, rfl⟩, _, _, rfl, rfl, ?_⟩
    have elast : (((ys.length : Nat) : Int) - 1) = ((sr.length : Nat) : Int) := by omega
    obtain ⟨dn, kvn, hyn, hdn, rown⟩ := row sr.length (Nat.le_refl _)
    have hatn : atI ys (((ys.length : Nat) : Int) - 1) = some (.ref dn) := by rw [elast]; exact atI_nat hyn
    cases qn : op (gmN sr (dlt x) sr.length) pl with
    | none =>
      have g0 : gmN sr (dlt x) sr.length pl = 0 := by
        unfold op at qn
        split at qn
        · rename_i z; exact z
        · cases qn
      refine ⟨_, rfl, _, rfl, _, rfl, p, _, _, _, rfl, rfl, SqL.of h1, hatn, dn, none, rfl, ?_, _, rfl, ?_⟩
      · have gg := DGet.k (k := .inr pl) hdn
        rw [rown.not pl qn] at gg; exact gg
      refine iteT ?_
      exact kn g0 H1 s1
    | some rn =>
      obtain ⟨wn, hwn, fwn⟩ := rown.has pl rn qn
      have ern : rn = gmN sr (dlt x) sr.length pl ∧ gmN sr (dlt x) sr.length pl ≠ 0 := by
        unfold op at qn
        split at qn
        · cases qn
        · rename_i z; exact ⟨(Option.some.inj qn).symm, z⟩
      obtain ⟨ern, gn⟩ := ern
      rw [ern] at fwn
      have dgn : DGet H1 dn (.str pl) (some wn) := by
        have gg := DGet.k (k := .inr pl) hdn
        rw [hwn] at gg; exact gg
      refine ⟨_, rfl, _, rfl, _, rfl, p, _, _, _, rfl, rfl, SqL.of h1, hatn, dn, some wn, rfl, dgn, _, rfl, ?_⟩
      refine iteF ?_
      refine ⟨_, rfl, _, rfl, as, xs, ss, kk, i, rfl, s1.seq hX, steps_same hP s1, h64, hi, fun H2 s2 => ?_⟩
      have s02 := s1.trans s2
      refine ⟨_, rfl, sz (by simp), fun pw hpw => ?_⟩
      have u := Same.upd (o := .lst [V.str pl]) hpw
      have hpw0 : H pw = none := s02.free hpw
      have hpw1 : H1 pw = none := s2.free hpw
      have s13 := s2.trans u
      refine ⟨_, rfl, 1, rfl, _, _, rfl, ⟨by omega, by omega, by decide, by decide⟩, ?_⟩
      refine for_rangeS (fun j σ H4 => ∃ (v6 v7 : Option V) (C : List Str), σ = [some (.ref as), some (.int (kk : Nat)), some (.str pl), some (.ref p), some (.int (((ys.length : Nat) : Int) - 1)), some (.int (i : Nat)), some (.ref pw), v6, v7] ∧ Same H1 H4 ∧ H4 pw = some (.lst (C.reverse.map V.str)) ∧ C.length = j + 1 ∧ Wy (sr.drop (sr.length - j)) (gmN sr (dlt x) (sr.length - j)) C ∧ nth C j = pl) ⟨none, none, [pl], rfl, s13, upd_same, rfl, ?_, rfl⟩ ?_ ?_
      · rw [Nat.sub_zero, List.drop_length]; exact ⟨pl, rfl, gn⟩
      · rintro j σ H4 hj ⟨v6, v7, C, rfl, s4, hw4, hCl, hW, hlast⟩
        have hj : j < sr.length := by
          have hj : j < ((((ys.length : Nat) : Int) - 1) - 0).toNat := hj
          omega
        obtain ⟨hwl, hw0, _⟩ := hW.at
        obtain ⟨b, C', eC⟩ : ∃ b C', C = b :: C' := by
          cases C with
          | nil => cases hCl
          | cons b C' => exact ⟨b, C', rfl⟩
        have hb0 : gmN sr (dlt x) (sr.length - j) b ≠ 0 := by rw [eC] at hw0; exact hw0
        have en : sr.length - j = (sr.length - (j + 1)) + 1 := by omega
        let m := sr.length - (j + 1)
        have en : sr.length - j = m + 1 := en
        have hm' : m < sr.length := by omega
        have hs : sr[m]? = some sr[m] := List.getElem?_eq_getElem hm'
        generalize hss' : sr[m] = st at hs
        have okst := hOr st (List.mem_of_getElem? hs)
        rw [en, gmN_succ hs] at hb0
        have hss : ss[i + (m + 1)]? = some st := by
          have : (ss.drop (i + 1))[m]? = some st := hs
          rw [List.getElem?_drop] at this
          have e : i + (m + 1) = i + 1 + m := by omega
          rw [e]; exact this
        obtain ⟨w, hw⟩ : ∃ w, xs[i + (m + 1)]? = some w := ⟨_, List.getElem?_eq_getElem (by have := (List.getElem?_eq_some_iff.mp hss).1; omega)⟩
        obtain ⟨st', hst', sv⟩ := paired_get hP hw
        rw [hss] at hst'
        cases hst'
        have ar : ∃ b, w = .ref b := by
          cases st with
          | br _ _ _ _ => obtain ⟨b, _, _, e, _⟩ := sv; exact ⟨b, e⟩
          | ps _ _ _ => obtain ⟨b, _, e, _⟩ := sv; exact ⟨b, e⟩
        obtain ⟨sa, rfl⟩ := ar
        obtain ⟨dm, kvm, hym, hdm, rowm⟩ := row m (by omega)
        obtain ⟨dm1, kvm1, hym1, hdm1, rowm1⟩ := row (m + 1) (by omega)
        have qb : op (gmN sr (dlt x) (m + 1)) b = some (gmN sr (dlt x) (m + 1) b) := by
          unfold op
          rw [gmN_succ hs, if_neg hb0]
        obtain ⟨wb, hwb, fwb⟩ := rowm1.has b _ qb
        have eV : ((((ys.length : Nat) : Int) - 1) + (j : Int) * (-1)) = ((m + 1 : Nat) : Int) := by omega
        have hCrev : C.reverse.map V.str = (C'.reverse.map V.str) ++ [.str b] := by rw [eC, List.reverse_cons, List.map_append]; rfl
        have hlenC : (C.reverse.map V.str).length = j + 1 := by rw [List.length_map, List.length_reverse]; exact hCl
        have hath : atI (C.reverse.map V.str) ((((C.reverse.map V.str).length : Nat) : Int) - 1) = some (.str b) := by
          have e1 : ((((C.reverse.map V.str).length : Nat) : Int) - 1) = (((C'.reverse.map V.str).length : Nat) : Int) := by
            rw [hCrev, List.length_append]
            have e3 : [V.str b].length = 1 := rfl
            omega
          rw [e1, hCrev]
          refine atI_nat ?_
          rw [List.getElem?_append_right (Nat.le_refl _), Nat.sub_self]; rfl
        refine ⟨_, rfl, _, rfl, _, _, rfl, .inl ⟨_, SqL.of hw4, rfl⟩, _, _, rfl, rfl, pw, _, _, _, rfl, rfl, SqL.of hw4, hath, ?_⟩
        have s04 := s1.trans s4
        have hats : atI xs (((i : Nat) : Int) + ((((ys.length : Nat) : Int) - 1) + (j : Int) * (-1))) = some (.ref sa) := by
          rw [eV]
          have e : (((i : Nat) : Int) + ((m + 1 : Nat) : Int)) = ((i + (m + 1) : Nat) : Int) := by omega
          rw [e]; exact atI_nat hw
        have hatm : atI ys ((((ys.length : Nat) : Int) - 1) + (j : Int) * (-1) - 1) = some (.ref dm) := by
          rw [eV]
          have e : (((m + 1 : Nat) : Int) - 1) = ((m : Nat) : Int) := by omega
          rw [e]; exact atI_nat hym
        have hatm1 : atI ys ((((ys.length : Nat) : Int) - 1) + (j : Int) * (-1)) = some (.ref dm1) := by rw [eV]; exact atI_nat hym1
        have dgb : DGet H4 dm1 (.str b) (some wb) := by
          have gg := DGet.k (k := .inr b) (s4 _ _ hdm1)
          rw [hwb] at gg; exact gg
        refine ⟨_, rfl, .inl ⟨rfl, _, SqL.of hw4⟩, _, rfl, _, rfl, _, rfl, _, _, rfl, rfl, as, _, _, _, rfl, rfl, s04.seq hX, hats, _, rfl, _, rfl, _, _, rfl, rfl, p, _, _, _, rfl, rfl, SqL.of (s4 _ _ h1), hatm, _, rfl, _, rfl, _, rfl, p, _, _, _, rfl, rfl, SqL.of (s4 _ _ h1), hatm1, _, rfl, dm1, wb, rfl, dgb, sa, dm, st, L, kvm, gmN sr (dlt x) m, b, wb, gmN sr (dlt x) (m + 1) b, rfl, sv.same s04, okst, s4 _ _ hdm, rowm.same (fun v r g => g.same s4), fwb.same s4, bdg m (by omega), fun H5 s5 => ?_⟩
        have ha := ahd_ok (fun z => ((gmN_ok hOr ok.1 m (by omega)).1 z).1) okst hb0
        rw [gmN_succ hs]
        generalize ahd st (gmN sr (dlt x) m) b (gmS st (gmN sr (dlt x) m) b) = a' at ha ⊢
        refine ⟨pw, _, _, rfl, rfl, s5 _ _ hw4, sz (by omega), ?_⟩
        refine ⟨_, _, a' :: C, rfl, (s4.trans s5).updD hpw1, ?_, by rw [List.length_cons, hCl], ?_, ?_⟩
        · rw [upd_same, List.reverse_cons, List.map_append]; rfl
        · have ed : sr.drop m = st :: sr.drop (m + 1) := by
            rw [List.drop_eq_getElem_cons hm', hss']
          show Wy (sr.drop m) (gmN sr (dlt x) m) (a' :: C)
          rw [ed, eC]
          refine ⟨a', b, C', rfl, ha.1, ha.2.1, ha.2.2, ?_⟩
          rw [en, gmN_succ hs, eC] at hW
          exact hW
        · rw [nth_succ]; exact hlast
      · rintro σ H4 ⟨v6, v7, C, rfl, s4, hw4, hCl, hW, hlast⟩
        have ej : ((((ys.length : Nat) : Int) - 1) - 0).toNat = sr.length := by omega
        rw [ej] at hW hlast
        rw [Nat.sub_self, List.drop_zero] at hW
        have hW : Wy sr (dlt x) C := hW
        obtain ⟨way, hshr⟩ := hW.way
        refine ⟨_, rfl, .inl ⟨rfl, _, SqL.of hw4⟩, pw, _, rfl, rfl, hw4, ?_⟩
        have s5 : Same H1 (upd H4 pw (.lst (C.reverse.map V.str).reverse)) := s4.updD hpw1
        have erev : (C.reverse.map V.str).reverse = C.map V.str := by rw [← List.map_reverse, List.reverse_reverse]
        rw [erev] at s5 ⊢
        have hpw5 := upd_same (H := H4) (a := pw) (o := .lst (C.map V.str))
        generalize upd H4 pw (.lst (C.map V.str)) = H5 at *
        refine ⟨_, rfl, _, rfl, _, rfl, p, _, _, _, rfl, rfl, SqL.of (s5 _ _ h1), hatn, _, rfl, dn, wn, rfl, ?_, sz (by simp), fun t ht => ?_⟩
        · have gg := DGet.k (k := .inr pl) (s5 _ _ hdn)
          rw [hwn] at gg; exact gg
        have u6 := Same.upd (o := .tup [.ref pw, wn]) ht
        refine ks gn (.ref t) _ pw (s1.trans (s5.trans u6)) ⟨t, wn, C, rfl, upd_same, u6 _ _ hpw5, (fwn.same s5).same u6, way, hlast, ?_⟩ hpw0
        rw [hshr sr.length (Nat.le_refl _), hlast]
end
end T34
namespace T34
open PySem L2 Tc
section
variable {P : Program} {w : World} {K : PySem.W.Frag} {mg : Str → Option Value} {base : Heap}
abbrev s_unmoved : Stmt := top 14
theorem sc_unmoved : FnScope ["names", "rows", "name"] ["names"] (defScope s_unmoved) := ⟨rfl, rfl, rfl, by decide +kernel, rfl, by decide +kernel, by decide +kernel⟩
theorem ok_unmoved (D : DefAt K mg "unmoved" s_unmoved) (T : Txt K mg) : FnAt P w K mg base CX0 1 "unmoved" ["names"] (spUnmoved K) := by
  refine D.ok sc_unmoved (fun vs H Q E h => ?_) (fun _ _ _ _ _ _ us hl => match us, hl with | [_], _ => rfl) (fun f cdv A outer s H vs Q E hr h => ?_)
  · obtain ⟨an, L, rfl, hS, hn, h8, k⟩ := h; rfl
  · obtain ⟨an, L, rfl, hS, hn, h8, k⟩ := h
    have nd := sc_unmoved.nd
    refine ⟨_, (@pss_cons _ _ _ _ _ (@ps_set _ _ 1 _ _ _ _ nd rfl (Or.inl rfl) pe_dnewK (by rfl) (Or.inl rfl))
      (@pss_cons _ _ _ _ _ (ps_for PassesOwn.never rfl (pi_list' (K := K) rfl (pv 0)) (pg_name (i := 2) nd rfl (Or.inl rfl)) (@pss_one _ _ _ (ps_dput (hu_of hr) (pv 1) (pv 2) (pe_disp (pps_cons (pv 2) (@pe_tup _ _ _ _ _ (@pa_cons _ _ _ _ _ pe_int (@pa_cons _ _ _ _ _ pe_int pa_nil (by rfl)) (by rfl))) pps_nil) rfl rfl (List.cons_ne_nil _ _) (Nat.le_of_ble_eq_true rfl)) rfl)))
      (@pss_one _ _ _ (ps_ret (pv 1))))), ?_⟩
    intro p hp
    have tp := Same.upd (o := .dK []) hp
    refine ⟨_, rfl, an, rfl, ⟨_, tp.seq hS⟩, ?_⟩
    refine for_list (xs := L.map V.str) (fun i σ H1 => ∃ (v2 : Option V) (rows : List (Key × V)) (ad : Str → Addr), σ = [some (.ref an), some (.ref p), v2] ∧ Same H H1 ∧ H1 p = some (.dK rows) ∧ TabAt H H1 p rows (L.take i) dlt ad) ⟨none, [], fun _ => 0, rfl, tp, upd_same, TabAt.nil _ _ _ _ _⟩ ?_ ?_ ?_
    · rintro i σ H1 hi ⟨v2, rows, ad, rfl, s1, h1, T⟩
      exact s1.seq hS
    · rintro i x σ H1 hx ⟨v2, rows, ad, rfl, s1, h1, T⟩
      obtain ⟨n, rfl, hi⟩ := str_get hx
      intro q hq
      refine ⟨_, rfl, sz (by simp), fun f hf => ?_⟩
      have nqf : q ≠ f := fun e => by rw [← e, upd_same] at hf; cases hf
      refine ⟨by rw [upd_ne nqf, upd_same], [(.inr n, .ref f)], rfl, by simp, ?_⟩
      have t3 := ((Same.upd (o := .dK []) hq).trans (Same.upd (o := .tup [.int 1, .int 1]) hf)).updD (o := .dK (mergeK [] [(.inr n, .ref f)])) hq
      have npq : p ≠ q := ne_of_none h1 hq
      have len : rows.length ≤ 8 := by
        rw [T.len (hn.sublist (List.take_sublist _ _)), List.length_take]; omega
      refine ⟨_, rfl, _, rfl, p, upd (upd (upd (upd H1 q (.dK [])) f (.tup [.int 1, .int 1])) q (.dK (mergeK [] [(.inr n, .ref f)]))) p (.dK (putK rows (.inr n) (.ref q))), rfl, ?_, ?_⟩
      · exact DPut.k (k := .inr n) (t3 _ _ h1) (sz (by omega))
      have hq0 : H q = none := s1.free hq
      have ff : FrV (upd (upd (upd (upd H1 q (.dK [])) f (.tup [.int 1, .int 1])) q (.dK (mergeK [] [(.inr n, .ref f)]))) p (.dK (putK rows (.inr n) (.ref q)))) (.ref f) 1 := by
        refine ⟨f, rfl, ?_⟩
        have npf : f ≠ p := fun e => by rw [e, upd_ne npq, h1] at hf; cases hf
        rw [upd_ne npf, upd_ne nqf.symm, upd_same]; rfl
      have tt : ∀ v r, FrV H1 v r → FrV (upd (upd (upd (upd H1 q (.dK [])) f (.tup [.int 1, .int 1])) q (.dK (mergeK [] [(.inr n, .ref f)]))) p (.dK (putK rows (.inr n) (.ref q)))) v r := fun v r g => (g.same t3).tup (tup_of (t3 _ _ h1) (fun _ z => nomatch z))
      refine ⟨_, putK rows (.inr n) (.ref q), fun z => if z = n then q else ad z, rfl, (s1.trans t3).updD hp, upd_same, ?_⟩
      exact T.put hq0 hq npq.symm (fun c o e n => by rw [upd_ne n]; exact t3 _ _ e) tt (by rw [upd_ne npq.symm, upd_same]) (RowAt.unit n ff) (fun _ _ _ => rfl) (mem_take_succ hi)
    · rintro σ H1 ⟨v2, rows, ad, rfl, s1, h1, T⟩
      rw [List.length_map, List.take_length] at T
      exact ⟨_, rfl, k p H1 rows ad hp s1 h1 T⟩
end
end T34
namespace T34
open PySem L2 Tc
section
variable {P : Program} {w : World} {K : PySem.W.Frag} {mg : Str → Option Value} {base : Heap}
abbrev s_add_shares : Stmt := top 15
theorem sc_add_shares : FnScope ["ends", "shares", "factor", "place", "share"] ["ends", "shares", "factor"] (defScope s_add_shares) := ⟨rfl, rfl, rfl, by decide +kernel, rfl, by decide +kernel, by decide +kernel⟩
theorem ok_add_shares (D : DefAt K mg "add_shares" s_add_shares) (T : Txt K mg) (G_plus : FnAt P w K mg base CX0 2 "plus" ["one", "other"] (spPlus)) (G_times : FnAt P w K mg base CX0 2 "times" ["one", "other"] (spTimes)) : FnAt P w K mg base CX0 3 "add_shares" ["ends", "shares", "factor"] (spAddShares) := by
  refine D.ok sc_add_shares (fun vs H Q E h => ?_) (fun _ _ _ _ _ _ us hl => match us, hl with | [_, _, _], _ => rfl) (fun f cdv A outer s H vs Q E hr h => ?_)
  · obtain ⟨a, b, x, t, kv, ks, e, s, rfl, hab, ha, hb, he, hs, hx, bt, hB, hn, k⟩ := h; rfl
  · obtain ⟨a, b, x, t, kv, ks, e, s, rfl, hab, ha, hb, he, hs, hx, bt, hB, hn, k⟩ := h
    have nd := sc_add_shares.nd
    refine ⟨_, (@pss_one _ _ _ (ps_if (pt_cmpR (op_neD' (K := K) rfl hr) (pv 2) (@pe_tup _ _ _ _ _ (@pa_cons _ _ _ _ _ pe_int (@pa_cons _ _ _ _ _ pe_int pa_nil (by rfl)) (by rfl))) (nomark _)) (@pss_one _ _ _ (ps_thaw (ps_for PassesOwn.never rfl (pi_items (pe_bm0' (K := K) rfl PySem.F.plainAttrs_dict PySem.F.slot_dict_items PySem.F.type_dict_items mt_items (pv 1))) (pg_tup rfl (pgs_cons (pg_name (i := 3) nd rfl (Or.inl rfl)) (pgs_cons (pg_name (i := 4) nd rfl (Or.inl rfl)) pgs_nil))) (@pss_one _ _ _ (ps_dput (hu_of hr) (pv 0) (pv 3) (pe_fn G_plus hr (by rfl) pass0 (@pa_cons _ _ _ _ _ (pe_dget2 (hu_of hr) (pv 0) (pv 3) (@pe_tup _ _ _ _ _ (@pa_cons _ _ _ _ _ pe_int (@pa_cons _ _ _ _ _ pe_int pa_nil (by rfl)) (by rfl))) ⟨by rfl, by rfl, by rfl, by rfl⟩) (@pa_cons _ _ _ _ _ (pe_fn G_times hr (by rfl) pass0 (@pa_cons _ _ _ _ _ (pv 4) (@pa_cons _ _ _ _ _ (pv 2) pa_nil (by rfl)) (by rfl))) pa_nil (by rfl)) (by rfl))) rfl))))) pss_nil)), ?_⟩
    refine ⟨_, rfl, sz (by simp), fun p0 hp0 => ?_⟩
    have t0 := Same.upd (o := .tup [.int 0, .int 1]) hp0
    refine ⟨_, _, (hx.same t0).rep, rep_pq (SqT.of upd_same), pq_depth _ _, _, rfl, ?_⟩
    have e0 : PyData.eqv (pq t.num t.den) (pq 0 1) = decide (t = 0) := by
      rw [eqv_pq]
      exact fq_dec t 0
    refine ite2 (fun h => ?_) (fun h => ?_)
    · have h : (!PyData.eqv (pq t.num t.den) (pq 0 1)) = true := h
      have ht : t ≠ 0 := by
        rw [e0] at h
        intro z; rw [decide_eq_true z] at h; cases h
      rw [if_neg ht] at k
      have hb1 := t0 _ _ hb
      refine ⟨b, _, hb1, rfl, ?_⟩
      refine ⟨_, rfl, .inr (.inr (.inl ⟨rfl, .inl ⟨_, hb1⟩⟩)), b, _, rfl, rfl, hb1, rfl, fun pv hpv => ?_⟩
      have t1 := t0.trans (Same.upd (o := viewO pv b) hpv)
      refine ⟨pv, b, _, rfl, upd_same, t1 _ _ hb, rfl, fun o ps hps => ?_⟩
      have hps : ps = ks.map fun kv => (kV kv.1, kv.2) := hps
      subst hps
      have keepF : ∀ {H2 : Hp} {v : V} {r : Rat}, (∀ c ob, H c = some ob → c ≠ a → c ≠ b → H2 c = some ob) → FrV H v r → FrV H2 v r := by
        rintro H2 v r hk ⟨c, rfl, hc⟩
        exact ⟨c, rfl, hk c _ hc (ne_of hc ha (by intro z; cases z)) (ne_of hc hb (by intro z; cases z))⟩
      refine for_items (fun i σ H2 => ∃ (v3 v4 : Option V) (kv' : List (Key × V)), σ = [some (.ref a), some (.ref b), some x, v3, v4] ∧ H2 b = some (.frz o (.dK ks)) ∧ (∀ c ob, H c = some ob → c ≠ a → c ≠ b → H2 c = some ob) ∧ H2 a = some (.dK kv') ∧ kv'.length ≤ kv.length + i ∧ RowAt H2 kv' (addF e s t (nms (ks.take i)))) ?_ ?_ ?_ ?_
      · have h2 : ∀ c ob, H c = some ob → c ≠ a → c ≠ b → upd (upd (upd H p0 (.tup [.int 0, .int 1])) pv (viewO pv b)) b (.frz o (.dK ks)) c = some ob := fun c ob q _ n => by rw [upd_ne n]; exact t1 _ _ q
        refine ⟨none, none, kv, rfl, upd_same, h2, by rw [upd_ne hab]; exact t1 _ _ ha, Nat.le_refl _, ?_⟩
        have ef : addF e s t (nms (ks.take 0)) = e := by funext z; simp [addF, nms]
        rw [ef]
        exact he.same fun v r f => keepF h2 f
      · rintro i σ H2 ⟨_, _, _, _, h, _⟩
        exact h
      · rintro i k' v T σ H2 hk ⟨v3, v4, kv', rfl, hfb, hkeep, ha2, hl2, hrow⟩ hT
        obtain ⟨kvi, hki, ek⟩ : ∃ kvi, ks[i]? = some kvi ∧ (kV kvi.1, kvi.2) = (k', v) := by
          rw [List.getElem?_map] at hk
          cases q : ks[i]? with
          | none => rw [q] at hk; cases hk
          | some kvi => rw [q] at hk; exact ⟨kvi, rfl, Option.some.inj hk⟩
        have hi : i < ks.length := (List.getElem?_eq_some_iff.mp hki).1
        obtain ⟨z, hz⟩ := hs.keys kvi (List.mem_of_getElem? hki)
        obtain ⟨rfl, rfl⟩ := Prod.mk.inj ek
        have hval := valV_get hs.nodup hki
        rw [hz] at hval
        obtain ⟨r, hr, fr⟩ : ∃ r, s z = some r ∧ FrV H kvi.2 r := by
          cases q : s z with
          | none => rw [hs.not z q] at hval; cases hval
          | some r =>
            obtain ⟨v', h1, h2⟩ := hs.has z r q
            rw [hval] at h1; cases h1
            exact ⟨r, rfl, h2⟩
        have hzn : z ∉ nms (ks.take i) := nms_not hs.nodup hki hz hs.keys
        have t3 := Same.upd (o := .tup [kV kvi.1, kvi.2]) hT
        refine ⟨T, _, rfl, SqT.of upd_same, rfl, _, _, rfl, _, _, rfl, rfl, ?_⟩
        have ekv : kV kvi.1 = .str z := by rw [hz]; rfl
        refine ⟨_, rfl, a, rfl, .inl ⟨kv', .inl (t3 _ _ ha2)⟩, _, rfl, sz (by simp), fun q0 hq0 => ?_⟩
        have t4 := t3.trans (Same.upd (o := .tup [.int 0, .int 1]) hq0)
        refine ⟨valV kv' (.inr z), ?_, ?_⟩
        · have g := DGet.k (k := kvi.1) (t4 _ _ ha2)
          have e9 : valV kv' kvi.1 = valV kv' (.inr z) := by rw [hz]
          rw [e9] at g; exact g
        have fg : ∀ {H5 : Hp}, Same (upd (upd H2 T (.tup [kV kvi.1, kvi.2])) q0 (.tup [.int 0, .int 1])) H5 → FrV H5 ((valV kv' (.inr z)).getD (.ref q0)) ((e z).getD 0) := by
          intro H5 s5
          have ez : addF e s t (nms (ks.take i)) z = e z := by unfold addF; rw [if_neg hzn]
          cases q : e z with
          | none =>
            rw [hrow.not z (ez.trans q)]
            exact (FrV.newOf (r := 0) rfl rfl).same s5
          | some r' =>
            obtain ⟨v', h1, h2⟩ := hrow.has z r' (ez.trans q)
            rw [h1]
            exact (h2.same t4).same s5
        obtain ⟨b1, b2⟩ := hB z
        have er : (s z).getD 0 = r := by rw [hr]; rfl
        rw [er] at b2
        refine ⟨_, rfl, _, rfl, spTimes.of (E := E0) rfl ((keepF hkeep fr).same t4) ((keepF hkeep hx).same t4) (b2.mono (by decide)) (bt.mono (by decide)) fun v5 H5 s5 f5 => ?_⟩
        refine ⟨_, _, (e z).getD 0, r * t, rfl, fg s5, f5, b1.mono (by decide), (b2.mul bt).mono (by decide), fun v6 H6 s6 f6 => ?_⟩
        have t6 := t4.trans (s5.trans s6)
        refine ⟨_, rfl, _, rfl, a, upd H6 a (.dK (putK kv' (.inr z) v6)), rfl, ?_, ?_⟩
        · have g := DPut.k (k := kvi.1) (v := v6) (t6 _ _ ha2) (sz (by omega))
          have e9 : putK kv' kvi.1 v6 = putK kv' (.inr z) v6 := by rw [hz]
          rw [e9] at g; exact g
        refine ⟨_, _, putK kv' (.inr z) v6, rfl, by rw [upd_ne hab.symm]; exact t6 _ _ hfb, fun c ob q n1 n2 => by rw [upd_ne n1]; exact t6 _ _ (hkeep c ob q n1 n2), upd_same, ?_, ?_⟩
        · have := length_putK kv' (.inr z) v6
          omega
        · have row := ((hrow.same fun v r f => f.same t6).put (z := z) f6).same (H' := upd H6 a (.dK (putK kv' (.inr z) v6))) fun v r f => by
            obtain ⟨c, rfl, hc⟩ := f
            exact ⟨c, rfl, by rw [upd_ne (ne_of hc (t6 _ _ ha2) (by intro z; cases z))]; exact hc⟩
          have ef : addF e s t (nms (ks.take (i + 1))) = fun y => if y = z then some ((e z).getD 0 + r * t) else addF e s t (nms (ks.take i)) y := by
            funext y
            have en : nms (ks.take (i + 1)) = nms (ks.take i) ++ [z] := by
              unfold nms
              rw [List.take_add_one, hki, List.map_append]
              show _ ++ [nmz kvi.1] = _
              rw [hz]; rfl
            unfold addF
            rw [en]
            by_cases ey : y = z
            · subst ey; simp [er]
            · simp [ey]
          rw [ef]
          exact row
      · rintro σ H2 ⟨v3, v4, kv', rfl, hfb, hkeep, ha2, hl2, hrow⟩
        rw [List.length_map] at hl2 hrow
        rw [List.take_length] at hrow
        have hk2 : ∀ c ob, H c = some ob → c ≠ a → upd H2 b (.dK ks) c = some ob := fun c ob q n => by
          by_cases z : c = b
          · subst z; rw [upd_same]; rw [hb] at q; exact q
          · rw [upd_ne z]; exact hkeep c ob q n z
        refine ⟨o, _, hfb, k _ kv' hk2 (by rw [upd_ne hab]; exact ha2) hl2 ?_⟩
        have ef : addF e s t (nms ks) = fun z => if (s z).isSome = true then some ((e z).getD 0 + (s z).getD 0 * t) else e z := by
          funext z
          unfold addF
          by_cases q : z ∈ nms ks
          · obtain ⟨kvi, hm, ez⟩ := List.mem_map.mp q
            obtain ⟨y, hy⟩ := hs.keys kvi hm
            obtain ⟨j, hj, ej⟩ := List.getElem_of_mem hm
            have hval := valV_get hs.nodup (i := j) (p := kvi) (by rw [List.getElem?_eq_getElem hj, ej])
            have eyz : y = z := by rw [hy] at ez; exact ez
            rw [hy, eyz] at hval
            cases q2 : s z with
            | none => rw [hs.not z q2] at hval; cases hval
            | some r => simp [q]
          · cases q2 : s z with
            | none => simp [q]
            | some r =>
              obtain ⟨v', h1, _⟩ := hs.has z r q2
              exact absurd (nms_mem h1) q
        rw [← ef]
        refine hrow.same fun v r f => ?_
        obtain ⟨c, rfl, hc⟩ := f
        exact ⟨c, rfl, by rw [upd_ne (ne_of hc hfb (by intro z; cases z))]; exact hc⟩
    · have h : ¬ (!PyData.eqv (pq t.num t.den) (pq 0 1)) = true := h
      have ht : t = 0 := by
        rw [e0] at h
        by_cases z : t = 0
        · exact z
        · rw [decide_eq_false z] at h; exact absurd rfl h
      rw [if_pos ht] at k
      exact k _ kv (fun c ob q _ => t0 _ _ q) (t0 _ _ ha) (by omega) (he.same fun v r f => f.same t0)
end
end T34
namespace T34
open PySem L2 Tc
section
variable {P : Program} {w : World} {K : PySem.W.Frag} {mg : Str → Option Value} {base : Heap}
abbrev s_passed : Stmt := top 16
theorem sc_passed : FnScope ["rows", "step", "ends"] ["rows", "step"] (defScope s_passed) := ⟨rfl, rfl, rfl, by decide +kernel, rfl, by decide +kernel, by decide +kernel⟩
theorem ok_passed (D : DefAt K mg "passed" s_passed) (T : Txt K mg) (G_add_shares : FnAt P w K mg base CX0 3 "add_shares" ["ends", "shares", "factor"] (spAddShares)) (G_minus : FnAt P w K mg base CX0 3 "minus" ["one", "other"] (spMinus)) : FnAt P w K mg base CX0 4 "passed" ["rows", "step"] (spPassed) := by
  refine D.ok sc_passed (fun vs H Q E h => ?_) (fun _ _ _ _ _ _ us hl => match us, hl with | [_, _], _ => rfl) (fun f cdv A outer s H vs Q E hr h => ?_)
  · obtain ⟨rw0, st, ax, ay, x, y, fr, t, rows, kx, ky, fx, fy, rfl, hrw, hst, hfr, vx, hax, rx, vy, hay, ry, bt, bt1, hB, hn, k⟩ := h; rfl
  · obtain ⟨rw0, st, ax, ay, x, y, fr, t, rows, kx, ky, fx, fy, rfl, hrw, hst, hfr, vx, hax, rx, vy, hay, ry, bt, bt1, hB, hn, k⟩ := h
    have nd := sc_passed.nd
    refine ⟨_, (@pss_cons _ _ _ _ _ (@ps_set _ _ 2 _ _ _ _ nd rfl (Or.inl rfl) pe_dnewK (by rfl) (Or.inl rfl))
      (@pss_cons _ _ _ _ _ (ps_expr (pe_fn G_add_shares hr (by rfl) pass0 (@pa_cons _ _ _ _ _ (pv 2) (@pa_cons _ _ _ _ _ (pe_dget (hu_of hr) (pv 0) (pe_ix (ix_tup' (K := K) rfl) (pv 1) pe_int (fun _ _ => rfl)) (fun _ _ => rfl)) (@pa_cons _ _ _ _ _ (pe_fn G_minus hr (by rfl) pass0 (@pa_cons _ _ _ _ _ (@pe_tup _ _ _ _ _ (@pa_cons _ _ _ _ _ pe_int (@pa_cons _ _ _ _ _ pe_int pa_nil (by rfl)) (by rfl))) (@pa_cons _ _ _ _ _ (pe_ix (ix_tup' (K := K) rfl) (pv 1) pe_int (fun _ _ => rfl)) pa_nil (by rfl)) (by rfl))) pa_nil (by rfl)) (by rfl)) (by rfl))))
      (@pss_cons _ _ _ _ _ (ps_expr (pe_fn G_add_shares hr (by rfl) pass0 (@pa_cons _ _ _ _ _ (pv 2) (@pa_cons _ _ _ _ _ (pe_dget (hu_of hr) (pv 0) (pe_ix (ix_tup' (K := K) rfl) (pv 1) pe_int (fun _ _ => rfl)) (fun _ _ => rfl)) (@pa_cons _ _ _ _ _ (pe_ix (ix_tup' (K := K) rfl) (pv 1) pe_int (fun _ _ => rfl)) pa_nil (by rfl)) (by rfl)) (by rfl))))
      (@pss_one _ _ _ (ps_ret (pv 2)))))), ?_⟩
    intro p hp
    have tp := Same.upd (o := .dK []) hp
    have npx : p ≠ ax := (ne_of_none hax hp).symm
    have npy : p ≠ ay := (ne_of_none hay hp).symm
    refine ⟨_, rfl, _, rfl, _, rfl, st, _, _, _, rfl, rfl, SqT.of (tp _ _ hst), rfl, rw0, .ref ax, rfl, ?_, ?_⟩
    · have g := DGet.k (k := .inr x) (tp _ _ hrw)
      rw [vx] at g; exact g
    refine ⟨sz (by simp), fun q hq => ?_⟩
    have t1 := tp.trans (Same.upd (o := .tup [.int 1, .int 1]) hq)
    refine ⟨_, rfl, st, _, _, _, rfl, rfl, SqT.of (t1 _ _ hst), rfl, ?_⟩
    refine ⟨_, _, 1, t, rfl, FrV.newOf rfl rfl, hfr.same t1, ⟨by decide, by decide⟩, bt.mono (by decide), fun v1 H1 s1 f1 => ?_⟩
    have u1 := t1.trans s1
    have hp1 : H1 p = some (.dK []) := s1 _ _ ((Same.upd (o := .tup [.int 1, .int 1]) hq) _ _ upd_same)
    refine ⟨p, ax, v1, 1 - t, [], kx, fun _ => none, fx, rfl, npx, hp1, u1 _ _ hax, RowAt.nil _, rx.same fun v r f => f.same u1, f1, bt1, fun z => ⟨(show Bd 3500 (0 : Rat) from ⟨by decide, by decide⟩), (hB z).1⟩, by simp only [List.length_nil]; omega, fun H2 kv2 k2 hp2 l2 r2 => ?_⟩
    have u2 : Same H H2 := fun c ob e => k2 c ob (u1 c ob e) (ne_of_none e hp)
    refine ⟨_, rfl, _, rfl, _, rfl, st, _, _, _, rfl, rfl, SqT.of (u2 _ _ hst), rfl, rw0, .ref ay, rfl, ?_, ?_⟩
    · have g := DGet.k (k := .inr y) (u2 _ _ hrw)
      rw [vy] at g; exact g
    refine ⟨_, rfl, st, _, _, _, rfl, rfl, SqT.of (u2 _ _ hst), rfl, ?_⟩
    have l2 : kv2.length ≤ kx.length := by simpa using l2
    refine ⟨p, ay, fr, t, kv2, ky, _, fy, rfl, npy, hp2, u2 _ _ hay, r2, ry.same fun v r f => f.same u2, hfr.same u2, bt, fun z => ⟨(hB z).2.2, (hB z).2.1⟩, by omega, fun H3 kv3 k3 hp3 l3 r3 => ?_⟩
    have u3 : Same H H3 := fun c ob e => k3 c ob (u2 c ob e) (ne_of_none e hp)
    exact ⟨_, rfl, k p H3 kv3 hp u3 hp3 (by omega) r3⟩
end
end T34
namespace T34
open PySem L2 Tc
section
variable {P : Program} {w : World} {K : PySem.W.Frag} {mg : Str → Option Value} {base : Heap}
abbrev s_brought : Stmt := top 17
theorem sc_brought : FnScope ["names", "steps", "rows", "told", "step"] ["names", "steps"] (defScope s_brought) := ⟨rfl, rfl, rfl, by decide +kernel, rfl, by decide +kernel, by decide +kernel⟩
theorem ok_brought (D : DefAt K mg "brought" s_brought) (T : Txt K mg) (G_unmoved : FnAt P w K mg base CX0 1 "unmoved" ["names"] (spUnmoved K)) (G_passed : FnAt P w K mg base CX0 4 "passed" ["rows", "step"] (spPassed)) : FnAt P w K mg base CX0 5 "brought" ["names", "steps"] (spBrought K) := by
  refine D.ok sc_brought (fun vs H Q E h => ?_) (fun _ _ _ _ _ _ us hl => match us, hl with | [_, _], _ => rfl) (fun f cdv A outer s H vs Q E hr h => ?_)
  · obtain ⟨an, as, L, xs, ss, rfl, hS, hn, h8, hX, hP, hO, h64, k⟩ := h; rfl
  · obtain ⟨an, as, L, xs, ss, rfl, hS, hn, h8, hX, hP, hO, h64, k⟩ := h
    have nd := sc_brought.nd
    refine ⟨_, (@pss_cons _ _ _ _ _ (@ps_set _ _ 2 _ _ _ _ nd rfl (Or.inl rfl) (pe_fn G_unmoved hr (by rfl) pass0 (@pa_cons _ _ _ _ _ (pv 0) pa_nil (by rfl))) (by rfl) (Or.inl rfl))
      (@pss_cons _ _ _ _ _ (@ps_set _ _ 3 _ _ _ _ nd rfl (Or.inl rfl) (@pe_lst _ _ _ _ pa_nil) (by rfl) (Or.inl rfl))
      (@pss_cons _ _ _ _ _ (ps_for PassesOwn.never rfl (pi_rev (K := K) rfl (by rfl) T.z_reversed (@pa_cons _ _ _ _ _ (pv 1) pa_nil (by rfl))) (pg_name (i := 4) nd rfl (Or.inl rfl)) (@pss_one _ _ _ (ps_if (pt_cmpR op_eq (pe_ix (ix_tup' (K := K) rfl) (pv 4) pe_int (fun _ _ => rfl)) pe_str (nomark _)) (@pss_one _ _ _ (ps_dput (hu_of hr) (pv 2) (pe_ix (ix_tup' (K := K) rfl) (pv 4) pe_int (fun _ _ => rfl)) (pe_fn G_passed hr (by rfl) pass0 (@pa_cons _ _ _ _ _ (pv 2) (@pa_cons _ _ _ _ _ (pv 4) pa_nil (by rfl)) (by rfl))) rfl)) (@pss_one _ _ _ (ps_expr (pe_bm PySem.F.plainAttrs_list PySem.F.slot_list_append PySem.F.type_list_append mt_append (pv 3) (@pa_cons _ _ _ _ _ (@pe_tup _ _ _ _ _ (@pa_cons _ _ _ _ _ (pe_ix (ix_tup' (K := K) rfl) (pv 4) pe_int (fun _ _ => rfl)) (@pa_cons _ _ _ _ _ (pe_ix (ix_tup' (K := K) rfl) (pv 4) pe_int (fun _ _ => rfl)) (@pa_cons _ _ _ _ _ (pe_callTy call_dictK (by rfl) T.z_dict bt_dict (@pa_cons _ _ _ _ _ (pe_dget (hu_of hr) (pv 2) (pe_ix (ix_tup' (K := K) rfl) (pv 4) pe_int (fun _ _ => rfl)) (fun _ _ => rfl)) pa_nil (by rfl))) pa_nil (by rfl)) (by rfl)) (by rfl))) pa_nil (by rfl))))))))
      (@pss_cons _ _ _ _ _ (ps_expr (pe_bm0' (K := K) rfl PySem.F.plainAttrs_list PySem.F.slot_list_reverse PySem.F.type_list_reverse mt_reverse (pv 3)))
      (@pss_one _ _ _ (ps_ret (pv 3))))))), ?_⟩
    have hlen : xs.length = ss.length := hP.length
    refine ⟨_, rfl, an, L, rfl, hS, hn, h8, fun p H1 rows0 ad0 hp s1 h1 T1 => ?_⟩
    refine ⟨sz (by simp), fun pt hpt => ?_⟩
    have tt0 := Same.upd (o := .lst []) hpt
    have hpt0 : H pt = none := s1.free hpt
    have s1t := s1.trans tt0
    refine ⟨_, rfl, as, xs, rfl, s1t.seq hX, ?_⟩
    refine for_rev (xs := xs) (fun j σ H2 => ∃ (v4 : Option V) (rows : List (Key × V)) (ad : Str → Addr) (ys : List V) (tds : List (Br × Addr)), σ = [some (.ref an), some (.ref as), some (.ref p), some (.ref pt), v4] ∧ Same H H2 ∧ H2 p = some (.dK rows) ∧ TabAt H H2 p rows L (back (ss.drop j)) ad ∧ H2 pt = some (.lst ys) ∧ Paired (BrV H2) ys tds ∧ tds.map (·.1) = (brL (ss.drop j)).reverse ∧ (tds.map (·.2)).Nodup ∧ (∀ d ∈ tds.map (·.2), H d = none ∧ d ≠ p)) ⟨none, rows0, ad0, [], [], rfl, s1t, tt0 _ _ h1, by rw [hlen, List.drop_length]; exact T1.same tt0, upd_same, .nil, by rw [hlen, List.drop_length]; rfl, List.nodup_nil, (fun _ z => nomatch z)⟩ ?_ ?_ ?_
    · rintro j σ H2 hj ⟨v4, rows, ad, ys, tds, rfl, s2, h2, T, ht, hB, hm, hnd, hfr⟩
      exact s2.seq hX
    · rintro j x σ H2 hx ⟨v4, rows, ad, ys, tds, rfl, s2, h2, T, ht, hB, hm, hnd, hfr⟩
      obtain ⟨st, hst, sv⟩ := paired_get hP hx
      have hj : j < ss.length := (List.getElem?_eq_some_iff.mp hst).1
      have ed : ss.drop j = st :: ss.drop (j + 1) := by
        rw [List.drop_eq_getElem_cons hj, (List.getElem?_eq_some_iff.mp hst).2]
      have hOd : ∀ s ∈ ss.drop j, OkS L s := fun s hs => hO s (List.mem_of_mem_drop hs)
      have hOd1 : ∀ s ∈ ss.drop (j + 1), OkS L s := fun s hs => hO s (List.mem_of_mem_drop hs)
      have hyl : ys.length ≤ 64 := by
        have e1 := hB.length
        have e2 := congrArg List.length hm
        rw [List.length_map, List.length_reverse] at e2
        have e3 := brL_len (ss.drop (j + 1))
        rw [List.length_drop] at e3
        omega
      cases st with
      | br z yr x0 q0 =>
        obtain ⟨a, l, f, rfl, ha, hl, hf⟩ := sv
        have hx0 : x0 ∈ L := (hO _ (List.mem_of_getElem? hst)).1
        have ha2 := s2 _ _ ha
        obtain ⟨vx, fx0, kx, hax, rx⟩ := T.row x0 hx0
        refine ⟨_, rfl, a, _, _, _, rfl, rfl, SqT.of ha2, rfl, rfl, _, rfl, ?_⟩
        refine dec_false (by decide +kernel) ?_
        refine ⟨_, rfl, .inl ⟨rfl, _, SqL.of ht⟩, _, rfl, a, _, _, _, rfl, rfl, SqT.of ha2, rfl, _, rfl, a, _, _, _, rfl, rfl, SqT.of ha2, rfl, _, rfl, _, rfl, a, _, _, _, rfl, rfl, SqT.of ha2, rfl, p, .ref (ad x0), rfl, ?_, ad x0, kx, rfl, hax, fun d hd => ⟨sz (by simp), fun t ht' => ?_⟩⟩
        · have g := DGet.k (k := .inr x0) h2
          rw [vx] at g; exact g
        have u1 := Same.upd (o := .dK kx) hd
        have u2 := Same.upd (o := .tup [.ref l, f, .ref d]) ht'
        have u12 := u1.trans u2
        have ht3 := u12 _ _ ht
        refine ⟨pt, _, _, rfl, rfl, ht3, sz (by omega), ?_⟩
        have tu := tup_of (o := .lst (ys ++ [.ref t])) ht3 (fun _ z => nomatch z)
        have npt : p ≠ pt := ne_of h2 ht (by intro z; cases z)
        have dk : ∀ c kvs, H2 c = some (.dK kvs) → upd (upd (upd H2 d (.dK kx)) t (.tup [.ref l, f, .ref d])) pt (.lst (ys ++ [.ref t])) c = some (.dK kvs) := fun c kvs e => by
          rw [upd_ne (ne_of (u12 _ _ e) ht3 (by intro z; cases z))]; exact u12 _ _ e
        have tk : ∀ c m, H2 c = some (.tup m) → upd (upd (upd H2 d (.dK kx)) t (.tup [.ref l, f, .ref d])) pt (.lst (ys ++ [.ref t])) c = some (.tup m) := fun c m e => tu _ _ (u12 _ _ e)
        have ndp : d ≠ pt := fun e => by rw [e, ht] at hd; cases hd
        refine ⟨_, rows, ad, ys ++ [.ref t], tds ++ [(⟨z, yr, q0, back (ss.drop (j + 1)) x0⟩, d)], rfl, (s2.trans u12).updD hpt0, dk _ _ h2, ?_, upd_same, ?_, ?_, ?_, ?_⟩
        · rw [ed]
          refine ⟨T.nodup, T.keys, fun n hn => ?_, T.inj, T.apart⟩
          obtain ⟨a1, a2, kv, a3, a4⟩ := T.row n hn
          exact ⟨a1, a2, kv, dk _ _ a3, a4.same fun v r g => g.tup tk⟩
        · refine Paired.snoc (Paired.mapP hB fun _ bd b => b.keep tk (dk bd.2)) ?_
          exact ⟨t, l, f, kx, rfl, tu _ _ upd_same, tk _ _ (s2 _ _ hl), (hf.same s2).tup tk, by rw [upd_ne ndp]; exact u2 _ _ upd_same, rx.same fun v r g => g.tup tk⟩
        · rw [List.map_append, hm, ed]
          show _ = ((⟨z, yr, q0, back (ss.drop (j + 1)) x0⟩ : Br) :: brL (ss.drop (j + 1))).reverse
          rw [List.reverse_cons]; rfl
        · rw [List.map_append]
          refine List.nodup_append.mpr ⟨hnd, by simp, fun d1 h1 d2 h2' e => ?_⟩
          have h2' : d2 = d := List.mem_singleton.mp h2'
          obtain ⟨bd, hbd, e1⟩ := List.mem_map.mp h1
          obtain ⟨x', _, a', l', f', kvs', _, _, _, _, e4, _⟩ := paired_mem' hB hbd
          rw [e1, e, h2', hd] at e4; cases e4
        · intro d1 h1
          rw [List.map_append] at h1
          rcases List.mem_append.mp h1 with e | e
          · exact hfr d1 e
          · have e : d1 = d := List.mem_singleton.mp e
            rw [e]; exact ⟨s2.free hd, (ne_of_none h2 hd).symm⟩
      | ps x0 y0 t =>
        obtain ⟨a, f, rfl, ha, hf⟩ := sv
        obtain ⟨hx0, hy0, hxy, t0, t1, td⟩ := hO _ (List.mem_of_getElem? hst)
        refine ⟨_, rfl, a, _, _, _, rfl, rfl, SqT.of (s2 _ _ ha), rfl, rfl, _, rfl, ?_⟩
        refine dec_true rfl ?_
        have G := back_good hn hOd1
        have B := prod_bd hOd (by rw [List.length_drop]; omega) (k := 1) (by decide)
        rw [ed] at B
        have B : 1 * (prodD (ss.drop (j + 1)) * t.den) < 2 ^ 2600 := B
        have B0 := prod_bd hOd1 (by rw [List.length_drop]; omega) (k := 1) (by decide)
        have P0 := prodD_pos (ss.drop (j + 1))
        have Pd : 0 < prodD (ss.drop (j + 1)) * t.den := Nat.mul_pos P0 t.den_pos
        obtain ⟨vx, _, kx, hax, rx⟩ := T.row x0 hx0
        obtain ⟨vy, _, ky, hay, ry⟩ := T.row y0 hy0
        have lx := rx.len (G.sup x0 hx0)
        have ly := ry.len (G.sup y0 hy0)
        have bs := Bd.share t0 t1 td
        let R := back (ss.drop (j + 1))
        have ea : addR (fun _ => none) (op (R x0)) (1 - t) = op fun z => 0 + R x0 z * (1 - t) := by
          rw [← op_zero]
          exact addR_op (fun _ => Rat.le_refl) (fun z => (G.part x0 hx0 z).1) (sub_nonneg t1)
        have eb : addR (addR (fun _ => none) (op (R x0)) (1 - t)) (op (R y0)) t = op (bw x0 y0 t R x0) := by
          rw [ea, addR_op (fun z => by rw [Rat.zero_add]; exact Rat.mul_nonneg (G.part x0 hx0 z).1 (sub_nonneg t1)) (fun z => (G.part y0 hy0 z).1) t0]
          unfold bw
          rw [if_pos rfl]
          congr 1
          funext z
          rw [Rat.zero_add]
        refine ⟨_, rfl, _, rfl, p, a, ad x0, ad y0, x0, y0, f, t, rows, kx, ky, op (R x0), op (R y0), rfl, h2, s2 _ _ ha, hf.same s2, vx, hax, rx, vy, hay, ry, bs.1.mono (by decide), bs.2.mono (by decide), fun z => ⟨?_, ?_, ?_⟩, by omega, fun q H3 kv3 hq s3 h3 l3 r3 => ?_⟩
        · rw [op_get]; exact ((G.part x0 hx0 z).bd P0 (Nat.le_refl _) B0).mono (by decide)
        · rw [op_get]; exact ((G.part y0 hy0 z).bd P0 (Nat.le_refl _) B0).mono (by decide)
        · rw [ea, op_get, Rat.zero_add]; exact (((G.part x0 hx0 z).mulR t0 t1).bd Pd (Nat.le_refl _) B).mono (by decide)
        rw [eb] at r3
        have len := T.len hn
        have npq : p ≠ q := ne_of_none h2 hq
        refine ⟨_, rfl, _, rfl, a, _, _, _, rfl, rfl, SqT.of (s3 _ _ (s2 _ _ ha)), rfl, p, upd H3 p (.dK (putK rows (.inr x0) (.ref q))), rfl, ?_, ?_⟩
        · exact DPut.k (k := .inr x0) (s3 _ _ h2) (sz (by omega))
        have tu := tup_of (o := .dK (putK rows (.inr x0) (.ref q))) (s3 _ _ h2) (fun _ z => nomatch z)
        have tt : ∀ v r, FrV H3 v r → FrV (upd H3 p (.dK (putK rows (.inr x0) (.ref q)))) v r := fun v r g => g.tup tu
        refine ⟨_, putK rows (.inr x0) (.ref q), fun z => if z = x0 then q else ad z, ys, tds, rfl, (s2.trans s3).updD hp, upd_same, ?_, ?_, ?_, ?_, hnd, hfr⟩
        · rw [ed]
          refine T.put (R' := bw x0 y0 t R) (s2.free hq) hq npq.symm (fun c o e n => by rw [upd_ne n]; exact s3 _ _ e) (fun v r g => tt v r (g.same s3)) (by rw [upd_ne npq.symm]; exact h3) (r3.same tt) (fun m _ e => ?_) (fun z => ⟨.inl, fun e => ?_⟩)
          · unfold bw; rw [if_neg e]
          · rcases e with e | e
            · exact e
            · rw [e]; exact hx0
        · rw [upd_ne (ne_of ht h2 (by intro z; cases z))]; exact s3 _ _ ht
        · refine paired_imp hB fun _ bd hbd b => b.keep (fun c m e => tu _ _ (s3 _ _ e)) fun kvs e => ?_
          rw [upd_ne (hfr bd.2 (List.mem_map.mpr ⟨bd, hbd, rfl⟩)).2]; exact s3 _ _ e
        · rw [ed]; exact hm
    · rintro σ H2 ⟨v4, rows, ad, ys, tds, rfl, s2, h2, T, ht, hB, hm, hnd, hfr⟩
      rw [List.drop_zero] at hm
      refine ⟨_, rfl, .inl ⟨rfl, _, SqL.of ht⟩, pt, ys, rfl, rfl, ht, ?_⟩
      refine ⟨_, rfl, k pt _ ys.reverse tds.reverse hpt0 (s2.updD hpt0) upd_same ?_ ?_ ?_ fun d hd => ?_⟩
      · refine Paired.mapP (paired_rev hB) fun _ _ b => b.keep (tup_of ht (fun _ z => nomatch z)) fun kvs e => ?_
        rw [upd_ne (ne_of e ht (by intro z; cases z))]; exact e
      · rw [List.map_reverse, hm, List.reverse_reverse]
      · rw [List.map_reverse]; exact (List.reverse_perm _).nodup_iff.mpr hnd
      · rw [List.map_reverse] at hd; exact (hfr d (List.mem_reverse.mp hd)).1
end
end T34
namespace T34
open PySem L2 Tc
section
variable {P : Program} {w : World} {K : PySem.W.Frag} {mg : Str → Option Value} {base : Heap}
abbrev s_forth : Stmt := top 19
theorem sc_forth : FnScope ["names", "steps", "k"] ["names", "steps", "k"] (defScope s_forth) := ⟨rfl, rfl, rfl, by decide +kernel, rfl, by decide +kernel, by decide +kernel⟩
theorem ok_forth (D : DefAt K mg "forth" s_forth) (T : Txt K mg) (G_brought : FnAt P w K mg base CX0 5 "brought" ["names", "steps"] (spBrought K)) : FnAt P w K mg base CX0 6 "forth" ["names", "steps", "k"] (spForth K) := by
  refine D.ok sc_forth (fun vs H Q E h => ?_) (fun _ _ _ _ _ _ us hl => match us, hl with | [_, _, _], _ => rfl) (fun f cdv A outer s H vs Q E hr h => ?_)
  · obtain ⟨an, as, L, xs, ss, kk, b, rfl, hS, hn, h8, hX, hP, hO, h64, hb, k⟩ := h; rfl
  · obtain ⟨an, as, L, xs, ss, kk, b, rfl, hS, hn, h8, hX, hP, hO, h64, hb, k⟩ := h
    have nd := sc_forth.nd
    refine ⟨_, (@pss_one _ _ _ (ps_ret (pe_ix (ix_tup' (K := K) rfl) (pe_ix (ix_list' (K := K) rfl) (pe_fn G_brought hr (by rfl) pass0 (@pa_cons _ _ _ _ _ (pv 0) (@pa_cons _ _ _ _ _ (pv 1) pa_nil (by rfl)) (by rfl))) (pv 2) (fun _ _ => rfl)) pe_int (fun _ _ => rfl)))), ?_⟩
    refine ⟨_, rfl, _, rfl, an, as, L, xs, ss, rfl, hS, hn, h8, hX, hP, hO, h64, fun p H1 ys tds hp s1 h1 hB hm hnd hfr => ?_⟩
    obtain ⟨bd, hbd, eb⟩ : ∃ bd, tds[kk]? = some bd ∧ bd.1 = b := by
      rw [← hm, List.getElem?_map] at hb
      cases q : tds[kk]? with
      | none => rw [q] at hb; cases hb
      | some bd => rw [q] at hb; exact ⟨bd, rfl, Option.some.inj hb⟩
    obtain ⟨i, hi, eg⟩ : ∃ i, ys[kk]? = some i ∧ BrV H1 i bd := by
      have hl : kk < ys.length := by rw [hB.length]; exact (List.getElem?_eq_some_iff.mp hbd).1
      refine ⟨_, List.getElem?_eq_getElem hl, ?_⟩
      obtain ⟨y, h1', h2'⟩ := paired_get hB (List.getElem?_eq_getElem hl)
      rw [hbd] at h1'
      rw [Option.some.inj h1']; exact h2'
    obtain ⟨a, l, f, kvs, rfl, e1, e2, e3, e4, e5⟩ := eg
    refine ⟨_, rfl, p, _, _, _, rfl, rfl, SqL.of h1, atI_nat hi, a, _, _, _, rfl, rfl, SqT.of e1, rfl, ?_⟩
    rw [eb] at e5
    exact k bd.2 H1 kvs (hfr _ (List.mem_map.mpr ⟨bd, List.mem_of_getElem? hbd, rfl⟩)) s1 e4 e5
end
end T34
namespace T34
open PySem L2 Tc
section
variable {P : Program} {w : World} {K : PySem.W.Frag} {mg : Str → Option Value} {base : Heap}
abbrev s__law_cell_at : Stmt := top 21
theorem sc__law_cell_at : FnScope ["_law_script", "_law_k"] ["_law_script", "_law_k"] (defScope s__law_cell_at) := ⟨rfl, rfl, rfl, by decide +kernel, rfl, by decide +kernel, by decide +kernel⟩
theorem ok__law_cell_at (D : DefAt K mg "_law_cell_at" s__law_cell_at) (T : Txt K mg) : FnAt P w K mg base CX0 1 "_law_cell_at" ["_law_script", "_law_k"] (spCell K) := by
  refine D.ok sc__law_cell_at (fun vs H Q E h => ?_) (fun _ _ _ _ _ _ us hl => match us, hl with | [_, _], _ => rfl) (fun f cdv A outer s H vs Q E hr h => ?_)
  · obtain ⟨a, ns, j, rfl, hS, hj, k⟩ := h; rfl
  · obtain ⟨a, ns, j, rfl, hS, hj, k⟩ := h
    have nd := sc__law_cell_at.nd
    refine ⟨_, (@pss_cons _ _ _ _ _ (ps_if (pt_cmpR op_lt (pv 1) (pe_callB (call_len' (K := K) rfl) (by rfl) T.z_len PySem.boot_len (@pa_cons _ _ _ _ _ (pv 0) pa_nil (by rfl))) (nomark _)) (@pss_one _ _ _ (ps_ret (pe_ix (ix_list' (K := K) rfl) (pv 0) (pv 1) (fun _ _ => rfl)))) pss_nil)
      (@pss_one _ _ _ (ps_ret pe_int))), ?_⟩
    refine ⟨_, rfl, _, rfl, _, _, rfl, .inl ⟨_, hS, rfl⟩, _, _, rfl, rfl, _, rfl, ?_⟩
    refine ite2 (fun h1 => ?_) (fun h1 => ?_)
    · obtain ⟨c, hc⟩ := map_at hj (of_decide_eq_true h1)
      refine ⟨_, rfl, _, rfl, a, _, j, _, rfl, rfl, hS, hc, k c⟩
    · exact k 0
end
end T34
namespace T34
open PySem L2 Tc
section
variable {P : Program} {w : World} {K : PySem.W.Frag} {mg : Str → Option Value} {base : Heap}
abbrev s__law_mixed : Stmt := top 22
theorem sc__law_mixed : FnScope ["_law_cell"] ["_law_cell"] (defScope s__law_mixed) := ⟨rfl, rfl, rfl, by decide +kernel, rfl, by decide +kernel, by decide +kernel⟩
theorem ok__law_mixed (D : DefAt K mg "_law_mixed" s__law_mixed) (T : Txt K mg) : FnAt P w K mg base CX0 1 "_law_mixed" ["_law_cell"] (spMix) := by
  refine D.ok sc__law_mixed (fun vs H Q E h => ?_) (fun _ _ _ _ _ _ us hl => match us, hl with | [_], _ => rfl) (fun f cdv A outer s H vs Q E hr h => ?_)
  · obtain ⟨c, rfl, k⟩ := h; rfl
  · obtain ⟨c, rfl, k⟩ := h
    have nd := sc__law_mixed.nd
    refine ⟨_, (@pss_one _ _ _ (ps_ret (@pe_op _ _ _ _ _ _ _ _ op_add (@pe_op _ _ _ _ _ _ _ _ op_modN (@pe_op _ _ _ _ _ _ _ _ op_mulB (pv 0) pe_int) pe_int) (@pe_op _ _ _ _ _ _ _ _ op_mulB pe_int (@pe_op _ _ _ _ _ _ _ _ op_modN (pv 0) (@pe_op _ _ _ _ _ _ _ _ op_pow pe_int pe_int)))))), ?_⟩
    refine ⟨_, rfl, _, _, rfl, rfl, IntMulOk.of_right (by decide), _, _, rfl, rfl, (show (2147483629 : Int) ≠ 0 by decide), _, rfl, _, _, rfl, rfl, ⟨by decide, by decide, by decide⟩, _, _, rfl, rfl, (by rw [pow1030]; show (_ : Int) ≠ 0; decide), _, _, rfl, rfl, IntMulOk.of_left (by decide), _, _, rfl, rfl, k _ ?_ ?_⟩
    · rw [pow1030]
      have q1 := fmod_lt (c := c * 69621) (m := 2147483629) (by decide)
      have q2 := fmod_lt (c := c) (m := 1000000000000000000000000000000) (by decide)
      show 0 ≤ (c * 69621).fmod 2147483629 + 2147483629 * c.fmod 1000000000000000000000000000000
      omega
    · rw [pow1030]
      have q1 := fmod_lt (c := c * 69621) (m := 2147483629) (by decide)
      have q2 := fmod_lt (c := c) (m := 1000000000000000000000000000000) (by decide)
      show ((c * 69621).fmod 2147483629 + 2147483629 * c.fmod 1000000000000000000000000000000).natAbs < 2 ^ 140
      refine Nat.lt_of_le_of_lt (m := 2147483629 + 2147483629 * 1000000000000000000000000000000) ?_ (by decide)
      omega
end
end T34
namespace T34
open PySem L2 Tc
section
variable {P : Program} {w : World} {K : PySem.W.Frag} {mg : Str → Option Value} {base : Heap}
abbrev s__law_digits : Stmt := top 23
theorem sc__law_digits : FnScope ["_law_number", "_law_many", "_law_top", "_law_found", "_law_k"] ["_law_number", "_law_many", "_law_top"] (defScope s__law_digits) := ⟨rfl, rfl, rfl, by decide +kernel, rfl, by decide +kernel, by decide +kernel⟩
theorem ok__law_digits (D : DefAt K mg "_law_digits" s__law_digits) (T : Txt K mg) : FnAt P w K mg base CX0 1 "_law_digits" ["_law_number", "_law_many", "_law_top"] (spDigits) := by
  refine D.ok sc__law_digits (fun vs H Q E h => ?_) (fun _ _ _ _ _ _ us hl => match us, hl with | [_, _, _], _ => rfl) (fun f cdv A outer s H vs Q E hr h => ?_)
  · obtain ⟨n, m, rfl, m0, m10, k⟩ := h; rfl
  · obtain ⟨n, m, rfl, m0, m10, k⟩ := h
    have nd := sc__law_digits.nd
    refine ⟨_, (@pss_cons _ _ _ _ _ (@ps_set _ _ 3 _ _ _ _ nd rfl (Or.inl rfl) (@pe_lst _ _ _ _ pa_nil) (by rfl) (Or.inl rfl))
      (@pss_cons _ _ _ _ _ (ps_for PassesOwn.never rfl (pi_range1 (by rfl) T.z_range (@pa_cons _ _ _ _ _ (pv 1) pa_nil (by rfl))) (pg_name (i := 4) nd rfl (Or.inl rfl)) (@pss_cons _ _ _ _ _ (ps_expr (pe_bm PySem.F.plainAttrs_list PySem.F.slot_list_append PySem.F.type_list_append mt_append (pv 3) (@pa_cons _ _ _ _ _ (@pe_op _ _ _ _ _ _ _ _ op_modN (pv 0) (pv 2)) pa_nil (by rfl))))
      (@pss_one _ _ _ (@ps_set _ _ 0 _ _ _ _ nd rfl (Or.inl rfl) (@pe_op _ _ _ _ _ _ _ _ op_fdivB (pv 0) (pv 2)) (by rfl) (Or.inl rfl)))))
      (@pss_one _ _ _ (ps_ret (pv 3))))), ?_⟩
    refine ⟨sz (by simp), fun p hp => ?_⟩
    refine ⟨_, rfl, _, rfl, by omega, by omega, ?_⟩
    refine for_range (fun i σ H1 => ∃ (v4 : Option V) (x : Int) (ds : List Int), σ = [some (.int x), some (.int m), some (.int 26), some (.ref p), v4] ∧ Same H H1 ∧ H1 p = some (.lst (ds.map V.int)) ∧ ds.length = i ∧ ∀ d ∈ ds, 0 ≤ d ∧ d < 26) ⟨none, n, [], rfl, Same.upd hp, upd_same, rfl, fun _ z => nomatch z⟩ ?_ ?_
    · rintro i σ H1 hi ⟨v4, x, ds, rfl, s1, hp1, hl, hb⟩
      refine ⟨_, rfl, .inl ⟨rfl, _, SqL.of hp1⟩, _, rfl, _, rfl, _, _, rfl, rfl, (show (26 : Int) ≠ 0 by decide), p, _, _, rfl, rfl, hp1, by rw [List.length_map]; exact sz (by omega), ?_⟩
      refine ⟨_, rfl, _, rfl, _, _, rfl, rfl, divB_of (by decide) (by decide), ?_⟩
      refine ⟨_, x.fdiv 26, ds ++ [x.fmod 26], rfl, s1.updD hp, ?_, by rw [List.length_append, hl]; rfl, ?_⟩
      · rw [upd_same, List.map_append]; rfl
      · intro d hd
        rcases List.mem_append.mp hd with z | z
        · exact hb d z
        · have z := List.mem_singleton.mp z
          subst z
          exact fmod_lt (by decide)
    · rintro σ H1 ⟨v4, x, ds, rfl, s1, hp1, hl, hb⟩
      exact ⟨_, rfl, k p H1 ds hp s1 hp1 (by have : ds.length = m.toNat := hl; omega) hb⟩
end
end T34
namespace T34
open PySem L2 Tc
section
variable {P : Program} {w : World} {K : PySem.W.Frag} {mg : Str → Option Value} {base : Heap}
abbrev s__law_lowest : Stmt := top 24
theorem sc__law_lowest : FnScope ["_law_top", "_law_bottom", "_law_one", "_law_other"] ["_law_top", "_law_bottom"] (defScope s__law_lowest) := ⟨rfl, rfl, rfl, by decide +kernel, rfl, by decide +kernel, by decide +kernel⟩
theorem ok__law_lowest (D : DefAt K mg "_law_lowest" s__law_lowest) (T : Txt K mg) : FnAt P w K mg base CX0 1 "_law_lowest" ["_law_top", "_law_bottom"] (spLow) := by
  refine D.ok sc__law_lowest (fun vs H Q E h => ?_) (fun _ _ _ _ _ _ us hl => match us, hl with | [_, _], _ => rfl) (fun f cdv A outer s H vs Q E hr h => ?_)
  · obtain ⟨t, b, rfl, hb, hbb, k⟩ := h; rfl
  · obtain ⟨t, b, rfl, hb, hbb, k⟩ := h
    have nd := sc__law_lowest.nd
    refine ⟨_, (@pss_cons _ _ _ _ _ (@ps_set _ _ 2 _ _ _ _ nd rfl (Or.inl rfl) (pe_callB call_abs (by rfl) T.z_abs bt_abs (@pa_cons _ _ _ _ _ (pv 0) pa_nil (by rfl))) (by rfl) (Or.inl rfl))
      (@pss_cons _ _ _ _ _ (@ps_set _ _ 3 _ _ _ _ nd rfl (Or.inl rfl) (pv 1) (by rfl) (Or.inl rfl))
      (@pss_cons _ _ _ _ _ (ps_while PassesOwn.never (pt_cmpR op_gt (pv 3) pe_int (nomark _)) (@pss_one _ _ _ (ps_par (i := 2) (j := 3) rfl nd rfl rfl (by decide) rfl rfl (@pa_cons _ _ _ _ _ (pv 3) (@pa_cons _ _ _ _ _ (@pe_op _ _ _ _ _ _ _ _ op_modN (pv 2) (pv 3)) pa_nil (by rfl)) (by rfl)) rfl)))
      (@pss_one _ _ _ (ps_ret (@pe_tup _ _ _ _ _ (@pa_cons _ _ _ _ _ (@pe_op _ _ _ _ _ _ _ _ op_fdivB (pv 0) (pv 2)) (@pa_cons _ _ _ _ _ (@pe_op _ _ _ _ _ _ _ _ op_fdivB (pv 1) (pv 2)) pa_nil (by rfl)) (by rfl)))))))), ?_⟩
    have hb' : b ≠ 0 := by omega
    have e : ((Int.gcd t b : Nat) : Int) = dv t b := by
      unfold dv
      rw [if_neg (by omega)]
    have hd : ∀ i, CDivB i ((Int.gcd t b : Nat) : Int) := fun i => by rw [e]; exact divB_of (dv_ne hb') (Nat.lt_of_le_of_lt (dv_le hb') hbb)
    refine ⟨_, rfl, t, rfl, ?_⟩
    refine ⟨_, rfl, ?_⟩
    refine while_by (fun σ H1 => ∃ x y : Int, σ = [some (.int t), some (.int b), some (.int x), some (.int y)] ∧ H1 = H ∧ Int.gcd x y = Int.gcd t b ∧ 0 ≤ x ∧ 0 ≤ y)
      (fun σ _ => match σ with | [_, _, _, some (.int y)] => y.natAbs | _ => 0) ⟨_, b, rfl, rfl, ?_, ?_, by omega⟩ ?_ ?_
    · show Int.gcd (if t < 0 then -t else t) b = _
      split
      · rw [Int.neg_gcd]
      · rfl
    · show 0 ≤ (if t < 0 then -t else t)
      split <;> omega
    · rintro σ H1 ⟨x, y, rfl, rfl, d, x0, y0⟩
      refine ⟨_, rfl, _, _, rfl, rfl, _, rfl, ?_⟩
      refine ite2 (fun h1 => ?_) (fun h1 => ?_)
      · have hy : 0 < y := of_decide_eq_true h1
        have q := fmod_lt (c := x) (m := y) hy
        refine ⟨_, rfl, _, rfl, _, rfl, _, _, rfl, rfl, (show y ≠ 0 by omega), _, _, rfl, ?_⟩
        exact ⟨⟨_, _, rfl, rfl, (gcd_fmod x y).trans d, y0, q.1⟩, Dv.less (by omega)⟩
      · have hy : ¬ 0 < y := fun z => h1 (decide_eq_true z)
        have hy : y = 0 := by omega
        subst hy
        rw [Int.gcd_zero_right] at d
        have ex : x = ((Int.gcd t b : Nat) : Int) := by rw [← d]; omega
        subst ex
        refine ⟨_, rfl, _, rfl, _, _, rfl, rfl, hd _, _, rfl, _, rfl, _, _, rfl, rfl, hd _, sz (by simp), fun p hp => ?_⟩
        rw [e]
        exact k _ _ (Same.upd hp) (FrV.newOf (dv_num hb') (dv_den hb'))
    · intro σ H1 Q1 Q2 hq h1
      obtain ⟨v, e, i, j, e2, e3, c, e4, h⟩ := h1
      exact ⟨v, e, i, j, e2, e3, c, e4, hq _ _ h⟩
end
end T34
namespace T34
open PySem L2 Tc
section
variable {P : Program} {w : World} {K : PySem.W.Frag} {mg : Str → Option Value} {base : Heap}
abbrev s__law_product : Stmt := top 25
theorem sc__law_product : FnScope ["_law_one", "_law_other"] ["_law_one", "_law_other"] (defScope s__law_product) := ⟨rfl, rfl, rfl, by decide +kernel, rfl, by decide +kernel, by decide +kernel⟩
theorem ok__law_product (D : DefAt K mg "_law_product" s__law_product) (T : Txt K mg) (G__law_lowest : FnAt P w K mg base CX0 1 "_law_lowest" ["_law_top", "_law_bottom"] (spLow)) : FnAt P w K mg base CX0 2 "_law_product" ["_law_one", "_law_other"] (sp2 4000 (· * ·)) := by
  refine D.ok sc__law_product (fun vs H Q E h => ?_) (fun _ _ _ _ _ _ us hl => match us, hl with | [_, _], _ => rfl) (fun f cdv A outer s H vs Q E hr h => ?_)
  · obtain ⟨_, _, r, q, rfl, ⟨a, rfl, ha⟩, ⟨b, rfl, hb⟩, br, bq, k⟩ := h; rfl
  · obtain ⟨_, _, r, q, rfl, ⟨a, rfl, ha⟩, ⟨b, rfl, hb⟩, br, bq, k⟩ := h
    have nd := sc__law_product.nd
    refine ⟨_, (@pss_one _ _ _ (ps_ret (pe_fn G__law_lowest hr (by rfl) pass0 (@pa_cons _ _ _ _ _ (@pe_op _ _ _ _ _ _ _ _ op_mulB (pe_ix (ix_tup' (K := K) rfl) (pv 0) pe_int (fun _ _ => rfl)) (pe_ix (ix_tup' (K := K) rfl) (pv 1) pe_int (fun _ _ => rfl))) (@pa_cons _ _ _ _ _ (@pe_op _ _ _ _ _ _ _ _ op_mulB (pe_ix (ix_tup' (K := K) rfl) (pv 0) pe_int (fun _ _ => rfl)) (pe_ix (ix_tup' (K := K) rfl) (pv 1) pe_int (fun _ _ => rfl))) pa_nil (by rfl)) (by rfl))))), ?_⟩
    have d1 := rat_den_pos r
    have d2 := rat_den_pos q
    refine ⟨_, rfl, a, _, _, _, rfl, rfl, SqT.of ha, rfl, _, rfl, b, _, _, _, rfl, rfl, SqT.of hb, rfl, _, _, rfl, rfl, mulOk_of 4000 br.num bq.num (by decide), _, rfl, a, _, _, _, rfl, rfl, SqT.of ha, rfl, _, rfl, b, _, _, _, rfl, rfl, SqT.of hb, rfl, _, _, rfl, rfl, mulOk_of 4000 br.den bq.den (by decide), _, _, rfl, Int.mul_pos d1 d2, ?_, fun v H' s h => ?_⟩
    · have n1 : ((r.den : Int)).natAbs < 2 ^ 4000 := br.den
      have n2 : ((q.den : Int)).natAbs < 2 ^ 4000 := bq.den
      exact Nat.lt_of_lt_of_le (natAbs_mul_lt n1 n2) (pow_le (by decide))
    · rw [mul_eq] at h
      exact k v H' s h
end
end T34
namespace T34
open PySem L2 Tc
section
variable {P : Program} {w : World} {K : PySem.W.Frag} {mg : Str → Option Value} {base : Heap}
abbrev s__law_names : Stmt := top 27
theorem sc__law_names : FnScope ["_law_number", "_law_many", "_law_letters", "_law_base", "_law_at", "_law_names_here", "_law_j", "_law_signs"] ["_law_number", "_law_many"] (defScope s__law_names) := ⟨rfl, rfl, rfl, by decide +kernel, rfl, by decide +kernel, by decide +kernel⟩
theorem ok__law_names (D : DefAt K mg "_law_names" s__law_names) (T : Txt K mg) (G__law_digits : FnAt P w K mg base CX0 1 "_law_digits" ["_law_number", "_law_many", "_law_top"] (spDigits)) : FnAt P w K mg base CX0 2 "_law_names" ["_law_number", "_law_many"] (spNames) := by
  refine D.ok sc__law_names (fun vs H Q E h => ?_) (fun _ _ _ _ _ _ us hl => match us, hl with | [_, _], _ => rfl) (fun f cdv A outer s H vs Q E hr h => ?_)
  · obtain ⟨c, n, rfl, hn, k⟩ := h; rfl
  · obtain ⟨c, n, rfl, hn, k⟩ := h
    have nd := sc__law_names.nd
    refine ⟨_, (@pss_cons _ _ _ _ _ (@ps_set _ _ 2 _ _ _ _ nd rfl (Or.inr rfl) pe_str (by rfl) (Or.inl rfl))
      (@pss_cons _ _ _ _ _ (@ps_set _ _ 3 _ _ _ _ nd rfl (Or.inr rfl) (pe_fn G__law_digits hr (by rfl) pass0 (@pa_cons _ _ _ _ _ (@pe_op _ _ _ _ _ _ _ _ op_fdivB (pv 0) pe_int) (@pa_cons _ _ _ _ _ (@pe_op _ _ _ _ _ _ _ _ op_add pe_int (@pe_op _ _ _ _ _ _ _ _ op_modN (pv 0) pe_int)) (@pa_cons _ _ _ _ _ pe_int pa_nil (by rfl)) (by rfl)) (by rfl))) (by rfl) (Or.inl rfl))
      (@pss_cons _ _ _ _ _ (@ps_set _ _ 4 _ _ _ _ nd rfl (Or.inr rfl) (@pe_op _ _ _ _ _ _ _ _ op_modN (@pe_op _ _ _ _ _ _ _ _ op_modN (@pe_op _ _ _ _ _ _ _ _ op_fdivB (pv 0) pe_int) pe_int) (pe_callB (call_len' (K := K) rfl) (by rfl) T.z_len PySem.boot_len (@pa_cons _ _ _ _ _ (pv 3) pa_nil (by rfl)))) (by rfl) (Or.inl rfl))
      (@pss_cons _ _ _ _ _ (@ps_set _ _ 5 _ _ _ _ nd rfl (Or.inl rfl) (@pe_lst _ _ _ _ pa_nil) (by rfl) (Or.inl rfl))
      (@pss_cons _ _ _ _ _ (ps_for PassesOwn.never rfl (pi_range1 (by rfl) T.z_range (@pa_cons _ _ _ _ _ (pv 1) pa_nil (by rfl))) (pg_name (i := 6) nd rfl (Or.inr rfl)) (@pss_cons _ _ _ _ _ (ps_setcomp ["_law_k"] ["_law_letters", "_law_base", "_law_j", "_law_at"] [2, 3, 6, 4] (i := 7) nd rfl rfl rfl (by rfl) (pi_range1 (by rfl) T.z_range (@pa_cons _ _ _ _ _ (pe_callB (call_len' (K := K) rfl) (by rfl) T.z_len PySem.boot_len (@pa_cons _ _ _ _ _ (pv 3) pa_nil (by rfl))) pa_nil (by rfl))) (fun _ _ _ _ => (pg_name (i := 0) (show List.Nodup (["_law_k", "_law_letters", "_law_base", "_law_j", "_law_at"] : List Str) from by decide) rfl (Or.inl rfl))) (fun _ _ _ _ => pif_none) (fun _ _ _ _ => (pe_ix ix_str (pv 1) (@pe_op _ _ _ _ _ _ _ _ op_modN (@pe_op _ _ _ _ _ _ _ _ op_add (pe_ix (ix_list' (K := K) rfl) (pv 2) (pv 0) (fun _ _ => rfl)) (@pe_op _ _ _ _ _ _ _ _ op_mulB (pv 3) (pe_callTy call_int1 (by rfl) T.z_int bt_int (@pa_cons _ _ _ _ _ (pe_cmpR op_eq (pv 0) (pv 4) (nomark _)) pa_nil (by rfl))))) pe_int) (fun _ _ => rfl))))
      (@pss_one _ _ _ (ps_expr (pe_bm PySem.F.plainAttrs_list PySem.F.slot_list_append PySem.F.type_list_append mt_append (pv 5) (@pa_cons _ _ _ _ _ (pe_bm' (K := K) rfl PySem.F.plainAttrs_str PySem.F.slot_str_join PySem.F.type_str_join (mt_join' (K := K) rfl) pe_str (@pa_cons _ _ _ _ _ (pv 7) pa_nil (by rfl))) pa_nil (by rfl)))))))
      (@pss_one _ _ _ (ps_ret (pv 5)))))))), ?_⟩
    have q8 := fmod_lt (c := c) (m := 8) (by decide)
    refine ⟨_, rfl, _, _, rfl, rfl, ddv (by decide) (by decide), _, rfl, _, _, rfl, rfl, (show (8 : Int) ≠ 0 by decide), _, _, rfl, rfl, _, _, rfl, by omega, by omega, fun pd H1 ds hpd s1 hd hl hb => ?_⟩
    have hlen : (ds.map V.int).length = ds.length := List.length_map ..
    have hl1 : 1 ≤ ds.length := by omega
    have q7 := fmod_lt (c := (c.fdiv 8).fmod 7) (m := (((ds.map V.int).length : Nat) : Int)) (by rw [hlen]; omega)
    refine ⟨_, rfl, _, _, rfl, rfl, ddv (by decide) (by decide), _, _, rfl, rfl, (show (7 : Int) ≠ 0 by decide), _, rfl, _, _, rfl, .inl ⟨_, SqL.of hd, rfl⟩, _, _, rfl, rfl, (show (((ds.map V.int).length : Nat) : Int) ≠ 0 by rw [hlen]; omega), ?_⟩
    obtain ⟨a0, ea⟩ := Int.eq_ofNat_of_zero_le q7.1
    have ha0 : a0 < ds.length := by have := q7.2; rw [ea, hlen] at this; omega
    refine ⟨sz (by simp), fun p hp => ?_⟩
    have sp1 := Same.upd (o := .lst []) hp
    have hp0 := s1.free hp
    refine ⟨_, rfl, _, rfl, by omega, by omega, ?_⟩
    refine for_range (fun i σ H2 => ∃ (v6 v7 : Option V), σ = [some (.int c), some (.int (n : Nat)), some (.str LT), some (.ref pd), some (.int (a0 : Nat)), some (.ref p), v6, v7] ∧ Same H1 H2 ∧ H2 p = some (.lst (((List.range i).map (nmJ ds (a0 : Nat))).map V.str))) ⟨none, none, by rw [← ea]; rfl, sp1, upd_same⟩ ?_ ?_
    · rintro i σ H2 hi ⟨v6, v7, rfl, s2, hp2⟩
      have hi : i < n := by simpa using hi
      have hd2 := s2 _ _ hd
      refine ⟨_, rfl, _, _, rfl, .inl ⟨_, SqL.of hd2, rfl⟩, _, rfl, by rw [hlen]; omega, by rw [hlen]; omega, fun D2 hD2 => ?_⟩
      refine block_range (fun j σ' H' => ∃ (v : Option V), σ' = [v, some (.str LT), some (.ref pd), some (.int (0 + (i : Int))), some (.int (a0 : Nat))] ∧ Same H2 H' ∧ H' D2 = some (.lst ((((List.range j).map fun k => lt (sg ds (a0 : Nat) i k)).map one1).map V.str))) ⟨none, rfl, Same.upd hD2, upd_same⟩ ?_ ?_
      · rintro j σ' H' hj ⟨v, rfl, s3, hd3⟩
        have hj : j < ds.length := by
          have hj : j < (((ds.map V.int).length : Nat) : Int).toNat := hj
          rw [hlen] at hj; simpa using hj
        have hbj : atI (ds.map V.int) (0 + (j : Int)) = some (.int (ds.getD j 0)) := by
          rw [Int.zero_add]
          refine atI_nat ?_
          rw [List.getElem?_map, List.getElem?_eq_getElem hj, List.getD_eq_getElem?_getD, List.getElem?_eq_getElem hj]; rfl
        refine ⟨_, rfl, _, rfl, _, rfl, pd, _, _, _, rfl, rfl, SqL.of (s3 _ _ hd2), hbj, _, rfl, _, rfl, _, rfl, rfl, .inr ⟨_, rfl, _, _, rfl, rfl, mulOk_of 64 (Nat.lt_of_le_of_lt (m := 20) (by omega) (by decide)) ?_ (by decide), _, _, rfl, rfl, _, _, rfl, rfl, (show (26 : Int) ≠ 0 by decide), ?_⟩⟩
        · refine Nat.lt_of_le_of_lt (m := 1) ?_ (by decide)
          show (if _ then (1 : Int) else 0).natAbs ≤ 1
          split <;> decide
        have b := sg_b ds (a0 : Nat) i j
        refine ⟨_, _, lt (sg ds (a0 : Nat) i j), rfl, rfl, sz (by decide), lt_at b.1 b.2, ?_⟩
        refine ⟨_, hd3, by rw [List.length_map, List.length_map, List.length_map, List.length_range]; exact sz (by omega), _, rfl, s3.updD hD2, ?_⟩
        rw [upd_same, List.range_succ, List.map_append, List.map_append, List.map_append]; rfl
      · rintro σ' H3 ⟨v, rfl, s3, hd3⟩
        have ej : (((ds.map V.int).length : Nat) : Int).toNat = ds.length := by rw [hlen]; simp
        rw [ej] at hd3
        have hp3 := s3 _ _ hp2
        refine ⟨_, rfl, .inl ⟨rfl, _, SqL.of hp3⟩, rfl, _, rfl, _, D2, (cj ds (a0 : Nat) i).map one1, rfl, rfl, SqL.of hd3, join_fits _ (by unfold cj; rw [List.length_map, List.length_range]; omega), ?_⟩
        refine ⟨p, _, _, rfl, rfl, hp3, by rw [List.length_map, List.length_map, List.length_range]; exact sz (by omega), ?_⟩
        refine ⟨_, _, rfl, (s2.trans s3).updD hp, ?_⟩
        rw [upd_same, List.range_succ, List.map_append, List.map_append]; rfl
    · rintro σ H2 ⟨v6, v7, rfl, s2, hp2⟩
      have hp2 : H2 p = some (.lst (((List.range n).map (nmJ ds (a0 : Nat))).map V.str)) := by simpa using hp2
      refine ⟨_, rfl, k p H2 _ hp0 (s1.trans s2) hp2 (by rw [List.length_map, List.length_range]) ?_ fun z hz => ?_⟩
      · unfold List.Nodup
        rw [List.pairwise_map]
        refine List.Pairwise.imp_of_mem (fun {i j} hi hj hij e => hij ?_) (List.nodup_range (n := n))
        exact nmJ_inj ha0 (by have := List.mem_range.mp hi; omega) (by have := List.mem_range.mp hj; omega) e
      · obtain ⟨j, _, rfl⟩ := List.mem_map.mp hz
        exact nmJ_lay _ _ _
end
end T34
namespace T34
open PySem L2 Tc
section
variable {P : Program} {w : World} {K : PySem.W.Frag} {mg : Str → Option Value} {base : Heap}
abbrev s__law_steps : Stmt := top 28
theorem sc__law_steps : FnScope ["_law_cells", "_law_names_here", "_law_casks", "_law_steps_here", "_law_k", "_law_cell", "_law_number", "_law_x", "_law_others", "_law_amount", "_law_lot", "_law_bottom", "_law_share"] ["_law_cells", "_law_names_here", "_law_casks"] (defScope s__law_steps) := ⟨rfl, rfl, rfl, by decide +kernel, rfl, by decide +kernel, by decide +kernel⟩
theorem ok__law_steps (D : DefAt K mg "_law_steps" s__law_steps) (T : Txt K mg) (G__law_mixed : FnAt P w K mg base CX0 1 "_law_mixed" ["_law_cell"] (spMix)) (G__law_lowest : FnAt P w K mg base CX0 1 "_law_lowest" ["_law_top", "_law_bottom"] (spLow)) : FnAt P w K mg base CX0 2 "_law_steps" ["_law_cells", "_law_names_here", "_law_casks"] (spStepsE K) := by
  refine D.ok sc__law_steps (fun vs H Q E h => ?_) (fun _ _ _ _ _ _ us hl => match us, hl with | [_, _, _], _ => rfl) (fun f cdv A outer s H vs Q E hr h => ?_)
  · obtain ⟨ac, an, ms, L, q, rfl, hC, hm62, hN, hn, h2, h8, q1, qL, k⟩ := h; rfl
  · obtain ⟨ac, an, ms, L, q, rfl, hC, hm62, hN, hn, h2, h8, q1, qL, k⟩ := h
    have nd := sc__law_steps.nd
    refine ⟨_, (@pss_cons _ _ _ _ _ (@ps_set _ _ 3 _ _ _ _ nd rfl (Or.inl rfl) (@pe_lst _ _ _ _ pa_nil) (by rfl) (Or.inl rfl))
      (@pss_cons _ _ _ _ _ (ps_for PassesOwn.never rfl (pi_enum (K := K) rfl (by rfl) T.z_enumerate (@pa_cons _ _ _ _ _ (pv 0) pa_nil (by rfl))) (pg_tup rfl (pgs_cons (pg_name (i := 4) nd rfl (Or.inl rfl)) (pgs_cons (pg_name (i := 5) nd rfl (Or.inl rfl)) pgs_nil))) (@pss_cons _ _ _ _ _ (@ps_set _ _ 6 _ _ _ _ nd rfl (Or.inl rfl) (pe_fn G__law_mixed hr (by rfl) pass0 (@pa_cons _ _ _ _ _ (@pe_op _ _ _ _ _ _ _ _ op_add (@pe_op _ _ _ _ _ _ _ _ op_mulB pe_int (pv 5)) (pv 4)) pa_nil (by rfl))) (by rfl) (Or.inl rfl))
      (@pss_cons _ _ _ _ _ (@ps_set _ _ 7 _ _ _ _ nd rfl (Or.inr rfl) (pe_ix (ix_list' (K := K) rfl) (pv 1) (@pe_op _ _ _ _ _ _ _ _ op_modN (@pe_op _ _ _ _ _ _ _ _ op_fdivB (pv 6) pe_int) (pv 2)) (fun _ _ => rfl)) (by rfl) (Or.inl rfl))
      (@pss_cons _ _ _ _ _ (ps_setcomp ["_law_name"] ["_law_x"] [7] (i := 8) nd rfl rfl rfl (by rfl) (pi_list' (K := K) rfl (pv 1)) (fun _ _ _ _ => (pg_name (i := 0) (show List.Nodup (["_law_name", "_law_x"] : List Str) from by decide) rfl (Or.inl rfl))) (fun _ _ _ _ => (pif_one (pt_cmpR op_ne (pv 0) (pv 1) (nomark _)))) (fun _ _ _ _ => (pv 0)))
      (@pss_one _ _ _ (ps_if (pt_cmpR op_eq (@pe_op _ _ _ _ _ _ _ _ op_modN (pv 5) pe_int) pe_int (nomark _)) (@pss_cons _ _ _ _ _ (@ps_set _ _ 9 _ _ _ _ nd rfl (Or.inl rfl) (pe_fn G__law_lowest hr (by rfl) pass0 (@pa_cons _ _ _ _ _ (@pe_op _ _ _ _ _ _ _ _ op_add pe_int (@pe_op _ _ _ _ _ _ _ _ op_modN (@pe_op _ _ _ _ _ _ _ _ op_fdivB (pv 6) pe_int) pe_int)) (@pa_cons _ _ _ _ _ (@pe_op _ _ _ _ _ _ _ _ op_add pe_int (@pe_op _ _ _ _ _ _ _ _ op_modN (@pe_op _ _ _ _ _ _ _ _ op_fdivB (pv 6) pe_int) pe_int)) pa_nil (by rfl)) (by rfl))) (by rfl) (Or.inl rfl))
      (@pss_cons _ _ _ _ _ (ps_if (pt_cmpR op_eq (@pe_op _ _ _ _ _ _ _ _ op_modN (pv 6) pe_int) pe_int (nomark _)) (@pss_one _ _ _ (@ps_set _ _ 9 _ _ _ _ nd rfl (Or.inl rfl) (@pe_tup _ _ _ _ _ (@pa_cons _ _ _ _ _ (@pe_op _ _ _ _ _ _ _ _ op_add pe_int (@pe_op _ _ _ _ _ _ _ _ op_modN (@pe_op _ _ _ _ _ _ _ _ op_mulB (pv 6) (pv 6)) pe_int)) (@pa_cons _ _ _ _ _ pe_int pa_nil (by rfl)) (by rfl))) (by rfl) (Or.inl rfl))) pss_nil)
      (@pss_cons _ _ _ _ _ (@ps_set _ _ 10 _ _ _ _ nd rfl (Or.inl rfl) (@pe_tup _ _ _ _ _ (@pa_cons _ _ _ _ _ (pe_ix (ix_list' (K := K) rfl) (@pe_lst _ _ _ _ (@pa_cons _ _ _ _ _ pe_str (@pa_cons _ _ _ _ _ pe_str (@pa_cons _ _ _ _ _ pe_str pa_nil (by rfl)) (by rfl)) (by rfl))) (@pe_op _ _ _ _ _ _ _ _ op_modN (@pe_op _ _ _ _ _ _ _ _ op_fdivB (pv 6) pe_int) pe_int) (fun _ _ => rfl)) (@pa_cons _ _ _ _ _ (@pe_op _ _ _ _ _ _ _ _ op_modN (@pe_op _ _ _ _ _ _ _ _ op_fdivB (pv 6) pe_int) (pe_ix (ix_list' (K := K) rfl) (@pe_lst _ _ _ _ (@pa_cons _ _ _ _ _ pe_int (@pa_cons _ _ _ _ _ pe_int pa_nil (by rfl)) (by rfl))) (@pe_op _ _ _ _ _ _ _ _ op_modN (pv 6) pe_int) (fun _ _ => rfl))) pa_nil (by rfl)) (by rfl))) (by rfl) (Or.inl rfl))
      (@pss_one _ _ _ (ps_expr (pe_bm PySem.F.plainAttrs_list PySem.F.slot_list_append PySem.F.type_list_append mt_append (pv 3) (@pa_cons _ _ _ _ _ (@pe_tup _ _ _ _ _ (@pa_cons _ _ _ _ _ pe_str (@pa_cons _ _ _ _ _ (pv 10) (@pa_cons _ _ _ _ _ (pv 7) (@pa_cons _ _ _ _ _ (pv 9) pa_nil (by rfl)) (by rfl)) (by rfl)) (by rfl))) pa_nil (by rfl)))))))) (@pss_cons _ _ _ _ _ (@ps_set _ _ 11 _ _ _ _ nd rfl (Or.inl rfl) (pe_ix (ix_list' (K := K) rfl) (@pe_lst _ _ _ _ (@pa_cons _ _ _ _ _ (@pe_op _ _ _ _ _ _ _ _ op_add pe_int (@pe_op _ _ _ _ _ _ _ _ op_modN (@pe_op _ _ _ _ _ _ _ _ op_fdivB (pv 6) pe_int) pe_int)) (@pa_cons _ _ _ _ _ pe_int pa_nil (by rfl)) (by rfl))) (pe_callTy call_int1 (by rfl) T.z_int bt_int (@pa_cons _ _ _ _ _ (pe_and (pe_cmpR op_eq (@pe_op _ _ _ _ _ _ _ _ op_modN (@pe_op _ _ _ _ _ _ _ _ op_fdivB (pv 6) pe_int) pe_int) pe_int (nomark _)) (pe_one (pe_cmpR op_eq (@pe_op _ _ _ _ _ _ _ _ op_modN (pv 4) pe_int) pe_int (nomark _)))) pa_nil (by rfl))) (fun _ _ => rfl)) (by rfl) (Or.inl rfl))
      (@pss_cons _ _ _ _ _ (@ps_set _ _ 12 _ _ _ _ nd rfl (Or.inl rfl) (pe_fn G__law_lowest hr (by rfl) pass0 (@pa_cons _ _ _ _ _ (@pe_op _ _ _ _ _ _ _ _ op_modN (@pe_op _ _ _ _ _ _ _ _ op_fdivB (pv 6) pe_int) (@pe_op _ _ _ _ _ _ _ _ op_add (pv 11) pe_int)) (@pa_cons _ _ _ _ _ (pv 11) pa_nil (by rfl)) (by rfl))) (by rfl) (Or.inl rfl))
      (@pss_one _ _ _ (ps_expr (pe_bm PySem.F.plainAttrs_list PySem.F.slot_list_append PySem.F.type_list_append mt_append (pv 3) (@pa_cons _ _ _ _ _ (@pe_tup _ _ _ _ _ (@pa_cons _ _ _ _ _ pe_str (@pa_cons _ _ _ _ _ (pv 7) (@pa_cons _ _ _ _ _ (pe_ix (ix_list' (K := K) rfl) (pv 8) (@pe_op _ _ _ _ _ _ _ _ op_modN (@pe_op _ _ _ _ _ _ _ _ op_fdivB (pv 6) pe_int) (pe_callB (call_len' (K := K) rfl) (by rfl) T.z_len PySem.boot_len (@pa_cons _ _ _ _ _ (pv 8) pa_nil (by rfl)))) (fun _ _ => rfl)) (@pa_cons _ _ _ _ _ (pv 12) pa_nil (by rfl)) (by rfl)) (by rfl)) (by rfl))) pa_nil (by rfl)))))))))))))
      (@pss_one _ _ _ (ps_ret (pv 3))))), ?_⟩
    refine ⟨sz (by simp), fun p hp => ?_⟩
    have tp := Same.upd (o := .lst []) hp
    refine ⟨_, rfl, ac, _, rfl, tp.seq hC, ?_⟩
    refine for_enum (xs := ms.map V.int) (fun i σ H1 => ∃ (v4 v5 v6 v7 v8 v9 v10 v11 v12 : Option V) (xs : List V) (ss : List Stp), σ = [some (.ref ac), some (.ref an), some (.int q), some (.ref p), v4, v5, v6, v7, v8, v9, v10, v11, v12] ∧ Same H H1 ∧ H1 p = some (.lst xs) ∧ Paired (StV H1) xs ss ∧ (∀ s ∈ ss, OkS L s) ∧ ss.length = i ∧ ∀ s ∈ ss, OkQ s) ⟨none, none, none, none, none, none, none, none, none, [], [], rfl, tp, upd_same, .nil, (fun _ z => nomatch z), rfl, (fun _ z => nomatch z)⟩ ?_ ?_ ?_
    · rintro i σ H1 hi ⟨v4, v5, v6, v7, v8, v9, v10, v11, v12, xs, ss, rfl, s1, h1, hP, hO, hl, hQ⟩
      exact s1.seq hC
    · rintro i x T σ H0 hx ⟨v4, v5, v6, v7, v8, v9, v10, v11, v12, xs, ss, rfl, s0, h0, hP0, hO, hl, hQ⟩ hT
      obtain ⟨c, rfl, hci⟩ := int_get hx
      have hi : i < ms.length := (List.getElem?_eq_some_iff.mp hci).1
      have tT := Same.upd (o := .tup [.int (i : Nat), .int c]) hT
      refine ⟨T, _, rfl, SqT.of upd_same, rfl, _, _, rfl, _, _, rfl, rfl, ?_⟩
      have s1 := s0.trans tT
      have h1 := tT _ _ h0
      have hP := steps_same hP0 tT
      generalize upd H0 T (.tup [.int (i : Nat), .int c]) = H1 at *
      have hxl : xs.length = i := hP.length.trans hl
      refine ⟨_, rfl, _, _, rfl, rfl, IntMulOk.of_left (by decide), _, rfl, _, _, rfl, rfl, _, rfl, fun n n0 n1 => ?_⟩
      have qm := fmod_lt (c := n.fdiv 5) (m := q) (by omega)
      obtain ⟨x0, hx0, hat⟩ := str_at (zs := L) qm.1 (by omega)
      have hN1 := s1 _ _ hN
      refine ⟨_, rfl, _, rfl, _, _, rfl, rfl, ddv (by decide) (by decide), _, rfl, _, _, rfl, rfl, (show q ≠ 0 by omega), an, _, _, _, rfl, rfl, SqL.of hN1, hat, ?_⟩
      refine ⟨_, rfl, an, rfl, ⟨_, SqL.of hN1⟩, fun D hD => ?_⟩
      refine block_list (xs := L.map V.str) (fun j σ' H' => ∃ (v : Option V), σ' = [v, some (.str x0)] ∧ Same H1 H' ∧ H' D = some (.lst (((L.take j).filter fun z => decide (z ≠ x0)).map V.str))) ⟨none, rfl, Same.upd hD, upd_same⟩ ?_ ?_ ?_
      · rintro j σ' H' hj ⟨v, rfl, s2, hd⟩
        exact SqL.of (s2 _ _ hN1)
      · rintro j y σ' H' hy ⟨v, rfl, s2, hd⟩
        obtain ⟨z, rfl, hz⟩ := str_get hy
        have et : L.take (j + 1) = L.take j ++ [z] := by rw [List.take_add_one, hz]; rfl
        refine ⟨_, rfl, _, rfl, rfl, _, rfl, ?_⟩
        refine ite2 (fun e => ?_) (fun e => ?_)
        · have e : (!decide (V.str z = V.str x0)) = true := e
          have ne : z ≠ x0 := by rintro rfl; simp at e
          refine ⟨_, rfl, _, hd, ?_, _, rfl, s2.updD hD, ?_⟩
          · rw [List.length_map]
            have := List.length_filter_le (fun z => decide (z ≠ x0)) (L.take j)
            rw [List.length_take] at this
            exact sz (by omega)
          · rw [upd_same, et, List.filter_append, List.map_append]
            simp [ne]
        · have e : ¬ (!decide (V.str z = V.str x0)) = true := e
          have eq : z = x0 := by
            by_cases h : z = x0
            · exact h
            · exact absurd (by simp [h]) e
          refine ⟨_, rfl, s2, ?_⟩
          rw [hd, et, List.filter_append]
          simp [eq]
      rintro σ' H2 ⟨v, rfl, s2, hd⟩
      rw [List.length_map, List.take_length] at hd
      have h12 := s2 _ _ h1
      have s02 := s1.trans s2
      have hP2 := steps_same hP s2
      refine ⟨_, rfl, _, _, rfl, rfl, (show (4 : Int) ≠ 0 by decide), rfl, _, rfl, ?_⟩
      refine ite2 (fun _ => ?_) (fun _ => ?_)
      · have q6 := fmod_lt (c := n.fdiv 7) (m := 6) (by decide)
        refine ⟨_, rfl, _, _, rfl, rfl, ddv (by decide) (by decide), _, _, rfl, rfl, (show (999 : Int) ≠ 0 by decide), _, _, rfl, rfl, _, rfl, _, _, rfl, rfl, ddv (by decide) (by decide), _, _, rfl, rfl, (show (6 : Int) ≠ 0 by decide), _, _, rfl, rfl, _, _, rfl, (show 0 < 1 + (n.fdiv 7).fmod 6 by omega), Nat.lt_of_le_of_lt (m := 10) (show (1 + (n.fdiv 7).fmod 6).natAbs ≤ 10 by omega) (by decide), fun w3 H3 s3 f3 => ?_⟩
        refine ⟨_, rfl, _, _, rfl, rfl, (show (5 : Int) ≠ 0 by decide), rfl, _, rfl, ?_⟩
        refine ite2 (fun _ => ?A) (fun _ => ?B)
        case' A =>
          refine ⟨_, rfl, _, rfl, _, _, rfl, rfl, mulOk_of 140 n1 n1 (by decide), _, _, rfl, rfl, (show (999999999999 : Int) ≠ 0 by decide), _, _, rfl, rfl, sz (by simp), fun l4 hl4 => ?_⟩
          have t4 := Same.upd (o := .tup [.int (1 + (n * n).fmod 999999999999), .int 1]) hl4
          have s4 := s3.trans t4
          let w4 : V := .ref l4
          let r4 : Rat := Rat.divInt (1 + (n * n).fmod 999999999999) 1
          have lw := low (n := 1 + (n * n).fmod 999999999999) (d := 1) (by decide) (by simp)
          have f4 : FrV (upd H3 l4 (.tup [.int (1 + (n * n).fmod 999999999999), .int 1])) w4 r4 := FrV.newOf lw.1.symm lw.2.symm
          have qn := fmod_lt (c := n * n) (m := 999999999999) (by decide)
          have okq : 0 < r4 ∧ IsM 60 1000000000000 r4 := isM_q (by omega) (by omega) (by decide) (by decide)
        case' B =>
          have s4 := s3
          let w4 : V := w3
          let r4 : Rat := Rat.divInt (1 + (n.fdiv 60).fmod 999) (1 + (n.fdiv 7).fmod 6)
          have f4 : FrV H3 w4 r4 := f3
          have qn := fmod_lt (c := n.fdiv 60) (m := 999) (by decide)
          have okq : 0 < r4 ∧ IsM 60 1000000000000 r4 := isM_q (by omega) (by omega) (by omega) (dvd60 q6.1 q6.2)
        all_goals
          have q3 := fmod_lt (c := n.fdiv 60) (m := 3) (by decide)
          obtain ⟨z3, hz3, hat3⟩ := str_at (zs := ["ab", "b", "cab"]) q3.1 (by simpa using q3.2)
          have q2 := fmod_lt (c := n) (m := 2) (by decide)
          obtain ⟨d2, hd2, hat2⟩ : ∃ d : Int, 0 < d ∧ atI [V.int 4, .int 10000] (n.fmod 2) = some (.int d) := by
            have : n.fmod 2 = 0 ∨ n.fmod 2 = 1 := by omega
            rcases this with e | e
            · exact ⟨4, by decide, by rw [e]; rfl⟩
            · exact ⟨10000, by decide, by rw [e]; rfl⟩
          refine ⟨sz (by simp), fun l5 hl5 => ?_⟩
          have t5 := Same.upd (o := .lst [V.str "ab", .str "b", .str "cab"]) hl5
          refine ⟨_, rfl, _, _, rfl, rfl, ddv (by decide) (by decide), _, _, rfl, rfl, (show (3 : Int) ≠ 0 by decide), l5, _, _, _, rfl, rfl, SqL.of upd_same, hat3, _, rfl, _, _, rfl, rfl, ddv (by decide) (by decide), sz (by simp), fun l6 hl6 => ?_⟩
          have t6 := Same.upd (o := .lst [V.int 4, .int 10000]) hl6
          refine ⟨_, rfl, _, _, rfl, rfl, (show (2 : Int) ≠ 0 by decide), l6, _, _, _, rfl, rfl, SqL.of upd_same, hat2, _, _, rfl, rfl, (show d2 ≠ 0 by omega), sz (by simp), fun l7 hl7 => ?_⟩
          have t7 := Same.upd (o := .tup [V.str z3, .int ((n.fdiv 180).fmod d2)]) hl7
          have t57 := t5.trans (t6.trans t7)
          have s27 := s4.trans t57
          have h17 := s27 _ _ h12
          refine ⟨_, rfl, .inl ⟨rfl, _, SqL.of h17⟩, _, rfl, _, rfl, _, rfl, sz (by simp), fun l8 hl8 => ?_⟩
          have t8 := Same.upd (o := .tup [V.str "bring", .ref l7, .str x0, w4]) hl8
          have s28 := s27.trans t8
          have h18 := s28 _ _ h12
          refine ⟨p, _, _, rfl, rfl, h18, sz (by omega), ?_⟩
          have tu := tup_of (o := .lst (xs ++ [.ref l8])) h18 (fun _ z => nomatch z)
          refine ⟨_, _, _, _, _, _, _, _, _, xs ++ [.ref l8], ss ++ [.br z3 ((n.fdiv 180).fmod d2) x0 r4], rfl, (s02.trans s28).updD hp, upd_same, ?_, ?_, by rw [List.length_append, hl]; rfl, fun s hs => (List.mem_append.mp hs).elim (hQ s) fun e => by rw [List.mem_singleton.mp e]; exact okq⟩
          · refine Paired.snoc (Paired.mapP hP2 fun _ _ f => (f.same s28).tup tu) ?_
            exact ⟨l8, l7, w4, rfl, tu _ _ upd_same, tu _ _ (t8 _ _ upd_same), (f4.same (t57.trans t8)).tup tu⟩
          · intro s hs
            rcases List.mem_append.mp hs with e | e
            · exact hO s e
            · rw [List.mem_singleton.mp e]; exact ⟨hx0, lay3' z3 hz3⟩
      · have q4 := fmod_lt (c := n.fdiv 60) (m := 4) (by decide)
        refine ⟨_, rfl, _, _, rfl, rfl, ddv (by decide) (by decide), _, _, rfl, rfl, (show (4 : Int) ≠ 0 by decide), _, _, rfl, rfl, sz (by simp), fun l3 hl3 => ?_⟩
        have t3 := Same.upd (o := .lst [V.int (1 + (n.fdiv 60).fmod 4), .int 999999999989]) hl3
        refine ⟨_, rfl, _, _, rfl, rfl, ddv (by decide) (by decide), _, _, rfl, rfl, (show (7 : Int) ≠ 0 by decide), rfl, _, rfl, ?_⟩
        have ab : ∀ b : Bool, ∃ v, v ∈ [V.int (1 + (n.fdiv 60).fmod 4), .int 999999999989] ∧ atI [V.int (1 + (n.fdiv 60).fmod 4), .int 999999999989] (if b = true then 1 else 0) = some v := fun b => by
          cases b
          · exact ⟨_, List.mem_cons_self, rfl⟩
          · exact ⟨_, List.mem_cons_of_mem _ List.mem_cons_self, rfl⟩
        refine ite2 (fun _ => ?A2) (fun _ => ?B2)
        case' A2 =>
          obtain ⟨v, hv, hatb⟩ := ab (decide (V.int ((i : Int).fmod 32) = V.int 5))
          refine ⟨_, rfl, _, _, rfl, rfl, (show (32 : Int) ≠ 0 by decide), rfl, .inr ⟨_, rfl, l3, _, _, _, rfl, rfl, SqL.of upd_same, hatb, ?_⟩⟩
        case' B2 =>
          obtain ⟨v, hv, hatb⟩ := ab false
          refine .inr ⟨_, rfl, l3, _, _, _, rfl, rfl, SqL.of upd_same, hatb, ?_⟩
        all_goals
          have hb : ∃ b : Int, v = .int b ∧ 1 ≤ b ∧ b ≤ 999999999989 := by
            simp only [List.mem_cons, List.not_mem_nil, or_false] at hv
            rcases hv with rfl | rfl
            · exact ⟨_, rfl, by omega, by omega⟩
            · exact ⟨_, rfl, by omega, by omega⟩
          obtain ⟨b, rfl, b1, b2⟩ := hb
          have bb : b.natAbs < 2 ^ 40 := Nat.lt_of_le_of_lt (m := 999999999989) (by omega) (by decide)
          refine ⟨_, rfl, _, _, rfl, rfl, ddv (by decide) (by decide), _, rfl, _, _, rfl, rfl, _, _, rfl, rfl, (show b + 1 ≠ 0 by omega), _, rfl, _, _, rfl, (show 0 < b by omega), Nat.lt_of_lt_of_le bb (pow_le (by decide)), fun w4 H4 s4 f4 => ?_⟩
          have qs := fmod_lt (c := n.fdiv 240) (m := b + 1) (by omega)
          have fr := frac01 (u := (n.fdiv 240).fmod (b + 1)) (b := b) qs.1 (by omega) (by omega)
          have fd : (Rat.divInt ((n.fdiv 240).fmod (b + 1)) b).den < 2 ^ 40 := Nat.lt_of_le_of_lt (fq_den_le _ b (by omega)) bb
          have hlen := other_of hn h2 x0
          let os : List Str := L.filter fun z => decide (z ≠ x0)
          have hlen : 1 ≤ os.length := hlen
          have s24 := t3.trans s4
          have hd4 := s24 _ _ hd
          have h14 := s24 _ _ h12
          have hml : (os.map V.str).length = os.length := List.length_map ..
          have qy := fmod_lt (c := n.fdiv 11) (m := (((os.map V.str).length : Nat) : Int)) (by rw [hml]; omega)
          obtain ⟨y0, hy0, haty⟩ := str_at (zs := os) qy.1 (by have := qy.2; omega)
          have hyL : y0 ∈ L ∧ y0 ≠ x0 := by
            have := List.mem_filter.mp hy0
            exact ⟨this.1, by simpa using this.2⟩
          refine ⟨_, rfl, .inl ⟨rfl, _, SqL.of h14⟩, _, rfl, _, rfl, _, rfl, _, _, rfl, rfl, ddv (by decide) (by decide), _, rfl, _, _, rfl, .inl ⟨_, SqL.of hd4, rfl⟩, _, _, rfl, rfl, (show ((((os.map V.str).length : Nat)) : Int) ≠ 0 by rw [hml]; omega), D, _, _, _, rfl, rfl, SqL.of hd4, haty, _, rfl, sz (by simp), fun l5 hl5 => ?_⟩
          have t5 := Same.upd (o := .tup [V.str "pass", .str x0, .str y0, w4]) hl5
          have s25 := s24.trans t5
          have h15 := s25 _ _ h12
          refine ⟨p, _, _, rfl, rfl, h15, sz (by omega), ?_⟩
          have tu := tup_of (o := .lst (xs ++ [.ref l5])) h15 (fun _ z => nomatch z)
          refine ⟨_, _, _, _, _, _, _, _, _, xs ++ [.ref l5], ss ++ [.ps x0 y0 (Rat.divInt ((n.fdiv 240).fmod (b + 1)) b)], rfl, (s02.trans s25).updD hp, upd_same, ?_, ?_, by rw [List.length_append, hl]; rfl, fun s hs => (List.mem_append.mp hs).elim (hQ s) fun e => by rw [List.mem_singleton.mp e]; exact trivial⟩
          · refine Paired.snoc (Paired.mapP hP2 fun _ _ f => (f.same s25).tup tu) ?_
            exact ⟨l5, w4, rfl, tu _ _ upd_same, (f4.same t5).tup tu⟩
          · intro s hs
            rcases List.mem_append.mp hs with e | e
            · exact hO s e
            · rw [List.mem_singleton.mp e]; exact ⟨hx0, hyL.1, hyL.2.symm, fr.1, fr.2, fd⟩
    · rintro σ H1 ⟨v4, v5, v6, v7, v8, v9, v10, v11, v12, xs, ss, rfl, s1, h1, hP, hO, hl, hQ⟩
      rw [List.length_map] at hl
      exact ⟨_, rfl, k p H1 xs ss hp s1 h1 hP hO (by omega) hQ⟩
end
end T34
namespace T34
open PySem L2 Tc
section
variable {P : Program} {w : World} {K : PySem.W.Frag} {mg : Str → Option Value} {base : Heap}
abbrev s__law_all : Stmt := top 29
theorem sc__law_all : FnScope ["_law_script", "_law_number", "_law_casks", "_law_names_here", "_law_steps_here", "_law_at"] ["_law_script"] (defScope s__law_all) := ⟨rfl, rfl, rfl, by decide +kernel, rfl, by decide +kernel, by decide +kernel⟩
theorem ok__law_all (D : DefAt K mg "_law_all" s__law_all) (T : Txt K mg) (G__law_mixed : FnAt P w K mg base CX0 1 "_law_mixed" ["_law_cell"] (spMix)) (G__law_cell_at : FnAt P w K mg base CX0 1 "_law_cell_at" ["_law_script", "_law_k"] (spCell K)) (G__law_names : FnAt P w K mg base CX0 2 "_law_names" ["_law_number", "_law_many"] (spNames)) (G__law_steps : FnAt P w K mg base CX0 2 "_law_steps" ["_law_cells", "_law_names_here", "_law_casks"] (spStepsE K)) : FnAt P w K mg base CX0 3 "_law_all" ["_law_script"] (spAll K) := by
  refine D.ok sc__law_all (fun vs H Q E h => ?_) (fun _ _ _ _ _ _ us hl => match us, hl with | [_], _ => rfl) (fun f cdv A outer s H vs Q E hr h => ?_)
  · obtain ⟨a, ns, rfl, hS, k⟩ := h; rfl
  · obtain ⟨a, ns, rfl, hS, k⟩ := h
    have nd := sc__law_all.nd
    refine ⟨_, (@pss_cons _ _ _ _ _ (@ps_set _ _ 1 _ _ _ _ nd rfl (Or.inl rfl) (pe_fn G__law_mixed hr (by rfl) pass0 (@pa_cons _ _ _ _ _ (pe_fn G__law_cell_at hr (by rfl) pass0 (@pa_cons _ _ _ _ _ (pv 0) (@pa_cons _ _ _ _ _ pe_int pa_nil (by rfl)) (by rfl))) pa_nil (by rfl))) (by rfl) (Or.inl rfl))
      (@pss_cons _ _ _ _ _ (@ps_set _ _ 2 _ _ _ _ nd rfl (Or.inl rfl) (@pe_op _ _ _ _ _ _ _ _ op_add pe_int (@pe_op _ _ _ _ _ _ _ _ op_modN (pv 1) pe_int)) (by rfl) (Or.inl rfl))
      (@pss_cons _ _ _ _ _ (@ps_set _ _ 3 _ _ _ _ nd rfl (Or.inl rfl) (pe_fn G__law_names hr (by rfl) pass0 (@pa_cons _ _ _ _ _ (@pe_op _ _ _ _ _ _ _ _ op_fdivB (pv 1) pe_int) (@pa_cons _ _ _ _ _ (@pe_op _ _ _ _ _ _ _ _ op_add (@pe_op _ _ _ _ _ _ _ _ op_add (pv 2) pe_int) (@pe_op _ _ _ _ _ _ _ _ op_modN (@pe_op _ _ _ _ _ _ _ _ op_fdivB (pv 1) pe_int) pe_int)) pa_nil (by rfl)) (by rfl))) (by rfl) (Or.inl rfl))
      (@pss_cons _ _ _ _ _ (@ps_set _ _ 4 _ _ _ _ nd rfl (Or.inl rfl) (pe_fn G__law_steps hr (by rfl) pass0 (@pa_cons _ _ _ _ _ (pe_slice (sl_list' (K := K) rfl) (pv 0) (po_some pe_int) (po_some pe_int)) (@pa_cons _ _ _ _ _ (pv 3) (@pa_cons _ _ _ _ _ (pv 2) pa_nil (by rfl)) (by rfl)) (by rfl))) (by rfl) (Or.inl rfl))
      (@pss_cons _ _ _ _ _ (@ps_set _ _ 5 _ _ _ _ nd rfl (Or.inl rfl) (@pe_op _ _ _ _ _ _ _ _ op_modN (@pe_op _ _ _ _ _ _ _ _ op_fdivB (pv 1) pe_int) (pe_callB (call_len' (K := K) rfl) (by rfl) T.z_len PySem.boot_len (@pa_cons _ _ _ _ _ (pv 3) pa_nil (by rfl)))) (by rfl) (Or.inl rfl))
      (@pss_one _ _ _ (ps_ret (@pe_tup _ _ _ _ _ (@pa_cons _ _ _ _ _ (@pe_op _ _ _ _ _ _ _ _ op_cat (pe_slice (sl_list' (K := K) rfl) (pv 3) (po_some (pv 5)) po_none) (pe_slice (sl_list' (K := K) rfl) (pv 3) po_none (po_some (pv 5)))) (@pa_cons _ _ _ _ _ (pv 4) pa_nil (by rfl)) (by rfl)))))))))), ?_⟩
    refine ⟨_, rfl, a, ns, 0, rfl, hS, by decide, fun c0 => ⟨c0, rfl, fun m m0 m1 => ?_⟩⟩
    have q5 := fmod_lt (c := m) (m := 5) (by decide)
    have q3 := fmod_lt (c := m.fdiv 5) (m := 3) (by decide)
    refine ⟨_, rfl, _, _, rfl, rfl, (show (5 : Int) ≠ 0 by decide), _, _, rfl, rfl, ?_⟩
    obtain ⟨n0, en⟩ := Int.eq_ofNat_of_zero_le (show 0 ≤ 1 + m.fmod 5 + 1 + (m.fdiv 5).fmod 3 by omega)
    refine ⟨_, rfl, _, _, rfl, rfl, ddv (by decide) (by decide), _, rfl, _, _, rfl, rfl, _, rfl, _, _, rfl, rfl, ddv (by decide) (by decide), _, _, rfl, rfl, (show (3 : Int) ≠ 0 by decide), _, _, rfl, rfl, m.fdiv 15, n0, ?_, by omega, fun an H1 L hna s1 hN hL nd lay => ?_⟩
    · show [V.int (m.fdiv 15), V.int (1 + m.fmod 5 + 1 + (m.fdiv 5).fmod 3)] ++ [] = _
      rw [en]; rfl
    have hml : (L.map V.str).length = L.length := List.length_map ..
    obtain ⟨ms, ems, hms⟩ := cut42 ns
    refine ⟨_, rfl, 1, rfl, 43, rfl, a, _, rfl, s1.seq hS, fun q2 u2 => ?_⟩
    have t2 := Same.upd (o := .lst (cutV (ns.map V.int) (some 1) (some 43))) u2
    refine ⟨_, rfl, _, rfl, q2, an, ms, L, 1 + m.fmod 5, rfl, (by rw [← ems]; exact SqL.of upd_same), (by omega), t2 _ _ hN, nd, by omega, by omega, by omega, by omega, fun ap H3 xs ss hap s3 h3 hP hO h62 hQ => ?_⟩
    have hN3 := s3 _ _ (t2 _ _ hN)
    have qa := fmod_lt (c := m.fdiv 7) (m := (((L.map V.str).length : Nat) : Int)) (by rw [hml]; omega)
    obtain ⟨a0, ea⟩ := Int.eq_ofNat_of_zero_le qa.1
    have ha0 : a0 ≤ L.length := by have := qa.2; rw [ea, hml] at this; omega
    refine ⟨_, rfl, _, _, rfl, rfl, ddv (by decide) (by decide), _, rfl, _, _, rfl, .inl ⟨_, SqL.of hN3, rfl⟩, _, _, rfl, rfl, (show (((L.map V.str).length : Nat) : Int) ≠ 0 by rw [hml]; omega), ?_⟩
    refine ⟨_, rfl, _, rfl, _, rfl, an, _, rfl, SqL.of hN3, fun l1 hl1 => ?_⟩
    have t4 := Same.upd (o := .lst (cutV (L.map V.str) (some ((m.fdiv 7).fmod (((L.map V.str).length : Nat) : Int))) none)) hl1
    refine ⟨_, rfl, _, rfl, _, rfl, an, _, rfl, SqL.of (t4 _ _ hN3), fun l2 hl2 => ?_⟩
    have t5 := Same.upd (o := .lst (cutV (L.map V.str) none (some ((m.fdiv 7).fmod (((L.map V.str).length : Nat) : Int))))) hl2
    have ec : cutV (L.map V.str) (some ((m.fdiv 7).fmod (((L.map V.str).length : Nat) : Int))) none ++ cutV (L.map V.str) none (some ((m.fdiv 7).fmod (((L.map V.str).length : Nat) : Int))) = (L.drop a0 ++ L.take a0).map V.str := by
      rw [ea, cut_from L ha0, cut_upto L ha0, List.map_append]
    have pm : (L.drop a0 ++ L.take a0).Perm L := by
      refine List.perm_append_comm.trans ?_
      rw [List.take_append_drop]
    refine ⟨l1, l2, _, _, rfl, rfl, t5 _ _ upd_same, upd_same, ?_, fun l3 hl3 => ?_⟩
    · have e2 : ((L.drop a0 ++ L.take a0).map V.str).length = L.length := by rw [List.length_map]; exact pm.length_eq
      have e := (congrArg List.length ec).trans e2
      rw [List.length_append] at e
      rw [e]; exact sz (by omega)
    have t6 := Same.upd (o := .lst (cutV (L.map V.str) (some ((m.fdiv 7).fmod (((L.map V.str).length : Nat) : Int))) none ++ cutV (L.map V.str) none (some ((m.fdiv 7).fmod (((L.map V.str).length : Nat) : Int))))) hl3
    refine ⟨_, rfl, sz (by simp), fun p hp => ?_⟩
    have t7 := Same.upd (o := .tup [V.ref l3, V.ref ap]) hp
    have s37 := t4.trans (t5.trans (t6.trans t7))
    refine k p _ l3 ap (L.drop a0 ++ L.take a0) xs ss (s1.trans (t2.trans (s3.trans s37))) upd_same ?_ (pm.nodup_iff.mpr nd) (fun z hz => lay z (pm.mem_iff.mp hz)) (by rw [pm.length_eq]; omega) (s37 _ _ h3) (steps_same hP s37) (fun s hs => (hO s hs).mem fun z hz => pm.mem_iff.mpr hz) h62 hQ
    rw [← ec]; exact t7 _ _ upd_same
end
end T34
namespace T34
open PySem L2 Tc
section
variable {P : Program} {w : World} {K : PySem.W.Frag} {mg : Str → Option Value} {base : Heap}
abbrev s__law_is_fraction : Stmt := top 30
theorem sc__law_is_fraction : FnScope ["_law_found", "_law_number"] ["_law_found"] (defScope s__law_is_fraction) := ⟨rfl, rfl, rfl, by decide +kernel, rfl, by decide +kernel, by decide +kernel⟩
theorem ok__law_is_fraction (D : DefAt K mg "_law_is_fraction" s__law_is_fraction) (T : Txt K mg) : FnAt P w K mg base CX0 1 "_law_is_fraction" ["_law_found"] (spIsFr) := by
  refine D.ok sc__law_is_fraction (fun vs H Q E h => ?_) (fun _ _ _ _ _ _ us hl => match us, hl with | [_], _ => rfl) (fun f cdv A outer s H vs Q E hr h => ?_)
  · obtain ⟨v, r, rfl, hv, k⟩ := h; rfl
  · obtain ⟨v, r, rfl, hv, k⟩ := h
    have nd := sc__law_is_fraction.nd
    refine ⟨_, (@pss_cons _ _ _ _ _ (ps_if (PW.pt (pw_or (pt_not (pt_val (pe_callB (call_isi' (K := K) rfl) (by rfl) T.z_isinstance bt_isinstance (@pa_cons _ _ _ _ _ (pv 0) (@pa_cons _ _ _ _ _ (pe_bltn (v := .ty "tuple") (by rfl) T.z_tuple bt_tuple rfl) pa_nil (by rfl)) (by rfl))))) (pw_or1 (pt_cmpR op_ne (pe_callB (call_len' (K := K) rfl) (by rfl) T.z_len PySem.boot_len (@pa_cons _ _ _ _ _ (pv 0) pa_nil (by rfl))) pe_int (nomark _))))) (@pss_one _ _ _ (ps_ret pe_bl)) pss_nil)
      (@pss_cons _ _ _ _ _ (ps_for PassesOwn.never rfl (pi_tup' (K := K) rfl (pv 0)) (pg_name (i := 1) nd rfl (Or.inl rfl)) (@pss_one _ _ _ (ps_if (PW.pt (pw_or (pt_not (pt_val (pe_callB (call_isi' (K := K) rfl) (by rfl) T.z_isinstance bt_isinstance (@pa_cons _ _ _ _ _ (pv 1) (@pa_cons _ _ _ _ _ (pe_bltn (v := .ty "int") (by rfl) T.z_int bt_int rfl) pa_nil (by rfl)) (by rfl))))) (pw_or1 (pt_val (pe_callB (call_isi' (K := K) rfl) (by rfl) T.z_isinstance bt_isinstance (@pa_cons _ _ _ _ _ (pv 1) (@pa_cons _ _ _ _ _ (pe_bltn (v := .ty "bool") (by rfl) T.z_bool bt_bool rfl) pa_nil (by rfl)) (by rfl))))))) (@pss_one _ _ _ (ps_ret pe_bl)) pss_nil)))
      (@pss_one _ _ _ (ps_ret pe_bl)))), ?_⟩
    have tx := hv.ty
    obtain ⟨a, rfl, ha⟩ := hv
    refine ⟨_, rfl, _, _, _, _, rfl, tyOf_of tx, kit_tt (by decide) (by decide), _, rfl, ?_⟩
    refine iteF ?_
    refine ⟨_, rfl, _, _, rfl, .inr ⟨_, SqT.of ha, rfl⟩, rfl, _, rfl, ?_⟩
    refine iteF ?_
    refine ⟨_, rfl, a, rfl, ⟨_, SqT.of ha⟩, ?_⟩
    refine for_tup (xs := fq r) (fun i σ H1 => ∃ v1 : Option V, σ = [some (.ref a), v1] ∧ H1 = H) ⟨none, rfl, rfl⟩ ?_ ?_ ?_
    · rintro i σ H1 hi ⟨v1, rfl, rfl⟩
      exact SqT.of ha
    · rintro i x σ H1 hx ⟨v1, rfl, rfl⟩
      obtain ⟨n, rfl⟩ : ∃ n, x = .int n := by
        have := List.mem_of_getElem? hx
        simp only [List.mem_cons, List.not_mem_nil, or_false] at this
        rcases this with e | e
        · exact ⟨_, e⟩
        · exact ⟨_, e⟩
      refine ⟨_, rfl, _, _, _, _, rfl, tyOf_of (n := "int") rfl, kit_tt (by decide) (by decide), _, rfl, ?_⟩
      refine iteF ?_
      refine ⟨_, rfl, _, _, _, _, rfl, tyOf_of (n := "int") rfl, kit_tt (by decide) (by decide), _, rfl, ?_⟩
      refine iteF ?_
      exact ⟨_, rfl, rfl⟩
    · rintro σ H1 ⟨v1, rfl, rfl⟩
      exact k _ (Same.refl _)
end
end T34
namespace T34
open PySem L2 Tc
section
variable {P : Program} {w : World} {K : PySem.W.Frag} {mg : Str → Option Value} {base : Heap}
abbrev s__law_some : Stmt := top 32
theorem sc__law_some : FnScope ["_law_steps_here", "_law_cell", "_law_sources", "_law_found", "_law_k"] ["_law_steps_here", "_law_cell"] (defScope s__law_some) := ⟨rfl, rfl, rfl, by decide +kernel, rfl, by decide +kernel, by decide +kernel⟩
theorem ok__law_some (D : DefAt K mg "_law_some" s__law_some) (T : Txt K mg) : FnAt P w K mg base CX0 1 "_law_some" ["_law_steps_here", "_law_cell"] (spSome2 K) := by
  refine D.ok sc__law_some (fun vs H Q E h => ?_) (fun _ _ _ _ _ _ us hl => match us, hl with | [_, _], _ => rfl) (fun f cdv A outer s H vs Q E hr h => ?_)
  · obtain ⟨as, L, ys, ss, c, rfl, hS, hP, hO, h64, k⟩ := h; rfl
  · obtain ⟨as, L, ys, ss, c, rfl, hS, hP, hO, h64, k⟩ := h
    have nd := sc__law_some.nd
    refine ⟨_, (@pss_cons _ _ _ _ _ (ps_setcomp ["_law_at"] ["_law_steps_here"] [0] (i := 2) nd rfl rfl rfl (by rfl) (pi_range1 (by rfl) T.z_range (@pa_cons _ _ _ _ _ (pe_callB (call_len' (K := K) rfl) (by rfl) T.z_len PySem.boot_len (@pa_cons _ _ _ _ _ (pv 0) pa_nil (by rfl))) pa_nil (by rfl))) (fun _ _ _ _ => (pg_name (i := 0) (show List.Nodup (["_law_at", "_law_steps_here"] : List Str) from by decide) rfl (Or.inl rfl))) (fun _ _ _ _ => (pif_one (pt_cmpR op_eq (pe_ix (ix_tup' (K := K) rfl) (pe_ix (ix_list' (K := K) rfl) (pv 1) (pv 0) (fun _ _ => rfl)) pe_int (fun _ _ => rfl)) pe_str (nomark _)))) (fun _ _ _ _ => (pv 0)))
      (@pss_cons _ _ _ _ _ (@ps_set _ _ 3 _ _ _ _ nd rfl (Or.inl rfl) (@pe_lst _ _ _ _ pa_nil) (by rfl) (Or.inl rfl))
      (@pss_cons _ _ _ _ _ (ps_for PassesOwn.never rfl (pi_range1 (by rfl) T.z_range (@pa_cons _ _ _ _ _ (pe_callB (call_len' (K := K) rfl) (by rfl) T.z_len PySem.boot_len (@pa_cons _ _ _ _ _ (pv 2) pa_nil (by rfl))) pa_nil (by rfl))) (pg_name (i := 4) nd rfl (Or.inl rfl)) (@pss_one _ _ _ (ps_if (PW.pt (pw_or (pt_cmpR op_eq (pv 4) pe_int (nomark _)) (pw_or (pt_cmpR op_eq (pv 4) (@pe_op _ _ _ _ _ _ _ _ op_sub (pe_callB (call_len' (K := K) rfl) (by rfl) T.z_len PySem.boot_len (@pa_cons _ _ _ _ _ (pv 2) pa_nil (by rfl))) pe_int) (nomark _)) (pw_or1 (pt_cmpR op_eq (pv 4) (@pe_op _ _ _ _ _ _ _ _ op_modN (pv 1) (pe_callB (call_len' (K := K) rfl) (by rfl) T.z_len PySem.boot_len (@pa_cons _ _ _ _ _ (pv 2) pa_nil (by rfl)))) (nomark _)))))) (@pss_one _ _ _ (ps_expr (pe_bm PySem.F.plainAttrs_list PySem.F.slot_list_append PySem.F.type_list_append mt_append (pv 3) (@pa_cons _ _ _ _ _ (@pe_tup _ _ _ _ _ (@pa_cons _ _ _ _ _ (pv 4) (@pa_cons _ _ _ _ _ (pe_ix (ix_list' (K := K) rfl) (pv 2) (pv 4) (fun _ _ => rfl)) pa_nil (by rfl)) (by rfl))) pa_nil (by rfl))))) pss_nil)))
      (@pss_one _ _ _ (ps_ret (pv 3)))))), ?_⟩
    have hlen : ys.length = ss.length := hP.length
    refine ⟨_, rfl, _, _, rfl, .inl ⟨_, hS, rfl⟩, _, rfl, by omega, by omega, fun D hD => ?_⟩
    refine block_range (fun j σ' H' => ∃ (v : Option V) (is : List Int), σ' = [v, some (.ref as)] ∧ Same H H' ∧ H' D = some (.lst (is.map V.int)) ∧ is.length = (brL (ss.take j)).length ∧ is = (brIx 0 (ss.take j)).map fun n => ((n : Nat) : Int)) ⟨none, [], rfl, Same.upd hD, upd_same, rfl, rfl⟩ ?_ ?_
    · rintro j σ' H' hj ⟨v, is, rfl, s1, hd, hl, hix⟩
      have hj : j < ss.length := by
        have hj : j < ((ys.length : Nat) : Int).toNat := hj
        rw [hlen] at hj; simpa using hj
      obtain ⟨st, hst⟩ : ∃ st, ss[j]? = some st := ⟨_, List.getElem?_eq_getElem hj⟩
      obtain ⟨y, hy⟩ : ∃ y, ys[j]? = some y := ⟨_, List.getElem?_eq_getElem (by omega)⟩
      have sv := paired_at hP hy hst
      have hyat : atI ys (0 + (j : Int)) = some y := by rw [Int.zero_add]; exact atI_nat hy
      have ed := List.take_add_one (l := ss) (i := j)
      rw [hst] at ed
      have ed : ss.take (j + 1) = ss.take j ++ [st] := ed
      have hb := brL_snoc st (hO st (List.mem_of_getElem? hst)) (ss.take j)
      rw [← ed] at hb
      have hb2 := brIx_snoc st 0 (ss.take j)
      rw [← ed, List.length_take, Nat.min_eq_left (by omega)] at hb2
      have bl := brL_len (ss.take j)
      rw [List.length_take] at bl
      cases st with
      | br z yr x0 q0 =>
        obtain ⟨a, l, f, rfl, ha, _, _⟩ := sv
        refine ⟨_, rfl, _, rfl, as, _, _, _, rfl, rfl, s1.seq hS, hyat, a, _, _, _, rfl, rfl, SqT.of (s1 _ _ ha), rfl, rfl, _, rfl, ?_⟩
        refine dec_true rfl ?_
        refine ⟨_, rfl, _, hd, sz (by rw [List.length_map]; omega), _, is ++ [0 + (j : Int)], rfl, s1.updD hD, by rw [upd_same, List.map_append]; rfl, ?_, ?_⟩
        · rw [hb, List.length_append, List.length_append, List.length_map, hl]; rfl
        · rw [hb2, hix, List.map_append]
          have e9 : (0 + (j : Int)) = ((0 + j : Nat) : Int) := by omega
          rw [e9]; rfl
      | ps x0 y0 t =>
        obtain ⟨a, f, rfl, ha, _⟩ := sv
        refine ⟨_, rfl, _, rfl, as, _, _, _, rfl, rfl, s1.seq hS, hyat, a, _, _, _, rfl, rfl, SqT.of (s1 _ _ ha), rfl, rfl, _, rfl, ?_⟩
        refine dec_false (by decide +kernel) ?_
        refine ⟨_, is, rfl, s1, hd, ?_, ?_⟩
        · rw [hb, List.length_append, List.length_map, hl]; rfl
        · rw [hb2, hix, List.map_append]
          exact (List.append_nil _).symm
    rintro σ' H1 ⟨v, is, rfl, s1, hd, hl, hix⟩
    have ej : ((ys.length : Nat) : Int).toNat = ss.length := by rw [hlen]; simp
    rw [ej, List.take_length] at hl hix
    have bl := brL_len ss
    have hml : (is.map V.int).length = is.length := List.length_map ..
    refine ⟨sz (by simp), fun p hp => ?_⟩
    have tp := Same.upd (o := .lst []) hp
    have hp0 := s1.free hp
    refine ⟨_, rfl, _, _, rfl, .inl ⟨_, SqL.of (tp _ _ hd), rfl⟩, _, rfl, by rw [hml]; omega, by rw [hml]; omega, ?_⟩
    refine for_range (fun i σ H2 => ∃ (v4 : Option V) (xs : List V), σ = [some (.ref as), some (.int c), some (.ref D), some (.ref p), v4] ∧ Same H1 H2 ∧ H2 p = some (.lst xs) ∧ xs.length ≤ i ∧ ∀ v ∈ xs, ∃ (a : Addr) (k : Nat) (at' : Int), v = .ref a ∧ H2 a = some (.tup [.int (k : Nat), .int at']) ∧ ∃ i : Nat, (brIx 0 ss)[k]? = some i ∧ at' = (i : Nat)) ⟨none, [], rfl, tp, upd_same, Nat.le_refl _, (fun _ z => nomatch z)⟩ ?_ ?_
    · rintro i σ H2 hi ⟨v4, xs, rfl, s2, h2, hxl, hall⟩
      have hi : i < is.length := by
        have hi : i < (((is.map V.int).length : Nat) : Int).toNat := hi
        rw [hml] at hi; simpa using hi
      have hd2 := s2 _ _ hd
      obtain ⟨c1, hc1⟩ := map_at (ns := is) (k := 0 + (i : Int)) (by omega) (by rw [hml]; omega)
      have e0 : (0 + (i : Int)) = ((i : Nat) : Int) := Int.zero_add _
      refine ⟨_, rfl, rfl, _, rfl, ?_⟩
      refine ite2 (fun _ => ?A) (fun _ => ?X)
      case' A => refine iteT ?_
      case' X =>
        refine ⟨_, rfl, _, rfl, _, _, rfl, .inl ⟨_, SqL.of hd2, rfl⟩, _, _, rfl, rfl, rfl, _, rfl, ?_⟩
        refine ite2 (fun _ => ?B) (fun _ => ?Y)
      case' B => skip
      case' Y =>
        refine ⟨_, rfl, _, rfl, _, rfl, _, _, rfl, .inl ⟨_, SqL.of hd2, rfl⟩, _, _, rfl, rfl, (show (((is.map V.int).length : Nat) : Int) ≠ 0 by rw [hml]; omega), rfl, _, rfl, ?_⟩
        refine ite2 (fun _ => ?C) (fun _ => ?N)
      case N => exact ⟨_, xs, rfl, s2, h2, by omega, hall⟩
      all_goals
        refine ⟨_, rfl, .inl ⟨rfl, _, SqL.of h2⟩, _, rfl, _, rfl, _, rfl, D, _, _, _, rfl, rfl, SqL.of hd2, hc1, sz (by simp), fun t ht => ?_⟩
        have u := Same.upd (o := .tup [.int (0 + (i : Int)), .int c1]) ht
        have h3 := u _ _ h2
        refine ⟨p, _, _, rfl, rfl, h3, sz (by omega), ?_⟩
        have tu := tup_of (o := .lst (xs ++ [.ref t])) h3 (fun _ z => nomatch z)
        refine ⟨_, xs ++ [.ref t], rfl, (s2.trans u).updD hp, upd_same, by rw [List.length_append, List.length_singleton]; omega, fun v hv => ?_⟩
        rcases List.mem_append.mp hv with e | e
        · obtain ⟨a, kk, at', e1, e2, e3⟩ := hall v e
          exact ⟨a, kk, at', e1, tu _ _ (u _ _ e2), e3⟩
        · rw [List.mem_singleton.mp e]
          refine ⟨t, i, c1, rfl, (tu _ _ upd_same).trans (by rw [e0]), ?_⟩
          have h0 : (is.map V.int)[i]? = some (.int c1) := by
            rw [List.getElem?_map, List.getElem?_eq_getElem hi]
            rw [e0] at hc1
            rw [atI_nat (by rw [List.getElem?_map, List.getElem?_eq_getElem hi]; rfl)] at hc1
            exact hc1
          rw [hix, List.getElem?_map, List.getElem?_map] at h0
          cases q : (brIx 0 ss)[i]? with
          | none => rw [q] at h0; cases h0
          | some n => rw [q] at h0; exact ⟨n, rfl, (V.int.inj (Option.some.inj h0)).symm⟩
    · rintro σ H2 ⟨v4, xs, rfl, s2, h2, hxl, hall⟩
      exact ⟨_, rfl, k p H2 xs hp0 (s1.trans s2) h2 hall⟩
end
end T34
namespace T34
open PySem L2 Tc
section
variable {P : Program} {w : World} {K : PySem.W.Frag} {mg : Str → Option Value} {base : Heap}
abbrev s__law_part : Stmt := top 33
theorem sc__law_part : FnScope ["_law_step", "_law_here", "_law_there"] ["_law_step", "_law_here", "_law_there"] (defScope s__law_part) := ⟨rfl, rfl, rfl, by decide +kernel, rfl, by decide +kernel, by decide +kernel⟩
theorem ok__law_part (D : DefAt K mg "_law_part" s__law_part) (T : Txt K mg) : FnAt P w K mg base CX0 1 "_law_part" ["_law_step", "_law_here", "_law_there"] (spPart) := by
  refine D.ok sc__law_part (fun vs H Q E h => ?_) (fun _ _ _ _ _ _ us hl => match us, hl with | [_, _, _], _ => rfl) (fun f cdv A outer s H vs Q E hr h => ?_)
  · obtain ⟨st, s', L, a, b, rfl, hst, ok, leg, k⟩ := h; rfl
  · obtain ⟨st, s', L, a, b, rfl, hst, ok, leg, k⟩ := h
    have nd := sc__law_part.nd
    refine ⟨_, (@pss_cons _ _ _ _ _ (ps_if (PW.pt (pw_or (pt_cmpR op_eq (pe_ix (ix_tup' (K := K) rfl) (pv 0) pe_int (fun _ _ => rfl)) pe_str (nomark _)) (pw_or1 (pt_cmpR op_ne (pe_ix (ix_tup' (K := K) rfl) (pv 0) pe_int (fun _ _ => rfl)) (pv 1) (nomark _))))) (@pss_one _ _ _ (ps_ret (@pe_tup _ _ _ _ _ (@pa_cons _ _ _ _ _ (pe_callTy call_int1 (by rfl) T.z_int bt_int (@pa_cons _ _ _ _ _ (pe_cmpR op_eq (pv 1) (pv 2) (nomark _)) pa_nil (by rfl))) (@pa_cons _ _ _ _ _ pe_int pa_nil (by rfl)) (by rfl))))) pss_nil)
      (@pss_cons _ _ _ _ _ (ps_if (pt_cmpR op_eq (pv 2) (pv 1) (nomark _)) (@pss_one _ _ _ (ps_ret (@pe_tup _ _ _ _ _ (@pa_cons _ _ _ _ _ (@pe_op _ _ _ _ _ _ _ _ op_sub (pe_ix (ix_tup' (K := K) rfl) (pe_ix (ix_tup' (K := K) rfl) (pv 0) pe_int (fun _ _ => rfl)) pe_int (fun _ _ => rfl)) (pe_ix (ix_tup' (K := K) rfl) (pe_ix (ix_tup' (K := K) rfl) (pv 0) pe_int (fun _ _ => rfl)) pe_int (fun _ _ => rfl))) (@pa_cons _ _ _ _ _ (pe_ix (ix_tup' (K := K) rfl) (pe_ix (ix_tup' (K := K) rfl) (pv 0) pe_int (fun _ _ => rfl)) pe_int (fun _ _ => rfl)) pa_nil (by rfl)) (by rfl))))) pss_nil)
      (@pss_one _ _ _ (ps_ret (@pe_tup _ _ _ _ _ (@pa_cons _ _ _ _ _ (@pe_op _ _ _ _ _ _ _ _ op_mulB (pe_ix (ix_tup' (K := K) rfl) (pe_ix (ix_tup' (K := K) rfl) (pv 0) pe_int (fun _ _ => rfl)) pe_int (fun _ _ => rfl)) (pe_callTy call_int1 (by rfl) T.z_int bt_int (@pa_cons _ _ _ _ _ (pe_cmpR op_eq (pv 2) (pe_ix (ix_tup' (K := K) rfl) (pv 0) pe_int (fun _ _ => rfl)) (nomark _)) pa_nil (by rfl)))) (@pa_cons _ _ _ _ _ (pe_ix (ix_tup' (K := K) rfl) (pe_ix (ix_tup' (K := K) rfl) (pv 0) pe_int (fun _ _ => rfl)) pe_int (fun _ _ => rfl)) pa_nil (by rfl)) (by rfl))))))), ?_⟩
    cases s' with
    | br z yr x q =>
      obtain ⟨b0, l0, f0, eb, hb0, _, _⟩ := hst
      have eb : st = b0 := V.ref.inj eb
      subst eb
      have leg : b = a := leg
      subst leg
      refine ⟨_, rfl, st, _, _, _, rfl, rfl, SqT.of hb0, rfl, rfl, _, rfl, ?_⟩
      refine dec_true rfl ?_
      refine iteT ?_
      refine ⟨_, rfl, _, rfl, rfl, .inr ⟨_, rfl, sz (by simp), fun p hp => ?_⟩⟩
      have e1 : (if decide (V.str b = V.str b) = true then (1 : Int) else 0) = (1 : Rat).num := by rw [if_pos (decide_eq_true rfl)]; rfl
      exact k _ _ (Same.upd hp) (FrV.newOf (r := 1) e1 rfl)
    | ps x y t =>
      obtain ⟨hx0, hy0, hxy, t0, tle, td⟩ := id ok
      obtain ⟨b0, f0, eb, hb0, ff0⟩ := hst
      have eb : st = b0 := V.ref.inj eb
      subst eb
      obtain ⟨c3, rfl, hc3⟩ := id ff0
      have lg : if a = x then b = a ∨ b = y else b = a := leg
      have kk : ∀ v H', Same H H' → FrV H' v (if a = x then (if b = a then 1 - t else t) else 1) → Q v H' := k
      refine ⟨_, rfl, st, _, _, _, rfl, rfl, SqT.of hb0, rfl, rfl, _, rfl, ?_⟩
      refine dec_false (by decide +kernel) ?_
      refine ⟨_, rfl, st, _, _, _, rfl, rfl, SqT.of hb0, rfl, _, rfl, rfl, _, rfl, ?_⟩
      by_cases e : a = x
      case neg =>
        rw [if_neg e] at lg kk
        subst lg
        refine ite2 (fun _ => ?_) (fun h => absurd (by show (!decide (V.str x = V.str b)) = true; rw [decide_eq_false (fun z => e (V.str.inj z).symm)]; rfl) h)
        refine ⟨_, rfl, _, rfl, rfl, .inr ⟨_, rfl, sz (by simp), fun p hp => ?_⟩⟩
        have e1 : (if decide (V.str b = V.str b) = true then (1 : Int) else 0) = (1 : Rat).num := by rw [if_pos (decide_eq_true rfl)]; rfl
        exact kk _ _ (Same.upd hp) (FrV.newOf (r := 1) e1 rfl)
      case pos =>
        rw [if_pos e] at lg kk
        subst e
        refine ite2 (fun h => absurd h (by show ¬ (!decide (V.str a = V.str a)) = true; simp)) (fun _ => ?_)
        refine ⟨_, rfl, _, rfl, rfl, _, rfl, ?_⟩
        by_cases e2 : b = a
        · rw [if_pos e2] at kk
          refine dec_true (by rw [e2]) ?_
          refine ⟨_, rfl, st, _, _, _, rfl, rfl, SqT.of hb0, rfl, c3, _, _, _, rfl, rfl, SqT.of hc3, rfl, _, rfl, st, _, _, _, rfl, rfl, SqT.of hb0, rfl, c3, _, _, _, rfl, rfl, SqT.of hc3, rfl, _, _, rfl, rfl, _, rfl, st, _, _, _, rfl, rfl, SqT.of hb0, rfl, c3, _, _, _, rfl, rfl, SqT.of hc3, rfl, sz (by simp), fun p hp => ?_⟩
          exact kk _ _ (Same.upd hp) (FrV.newOf (r := 1 - t) (frac_rest t).1 (frac_rest t).2)
        · rw [if_neg e2] at kk
          have eb : b = y := lg.resolve_left e2
          subst eb
          refine dec_false (fun z => e2 (V.str.inj z)) ?_
          refine ⟨_, rfl, st, _, _, _, rfl, rfl, SqT.of hb0, rfl, c3, _, _, _, rfl, rfl, SqT.of hc3, rfl, _, rfl, _, rfl, st, _, _, _, rfl, rfl, SqT.of hb0, rfl, rfl, .inr ⟨_, rfl, _, _, rfl, rfl, ?_, _, rfl, st, _, _, _, rfl, rfl, SqT.of hb0, rfl, c3, _, _, _, rfl, rfl, SqT.of hc3, rfl, sz (by simp), fun p hp => ?_⟩⟩
          · exact IntMulOk.of_right (by split <;> decide)
          have e3 : t.num * (if decide (V.str b = V.str b) = true then (1 : Int) else 0) = t.num := by rw [if_pos (decide_eq_true rfl), Int.mul_one]
          exact kk _ _ (Same.upd hp) (FrV.newOf (r := t) e3 rfl)
end
end T34
namespace T34
open PySem L2 Tc
section
variable {P : Program} {w : World} {K : PySem.W.Frag} {mg : Str → Option Value} {base : Heap}
abbrev s__law_walked : Stmt := top 34
theorem sc__law_walked : FnScope ["_law_way", "_law_steps_here", "_law_at", "_law_share", "_law_j"] ["_law_way", "_law_steps_here", "_law_at"] (defScope s__law_walked) := ⟨rfl, rfl, rfl, by decide +kernel, rfl, by decide +kernel, by decide +kernel⟩
theorem ok__law_walked (D : DefAt K mg "_law_walked" s__law_walked) (T : Txt K mg) (G__law_product : FnAt P w K mg base CX0 2 "_law_product" ["_law_one", "_law_other"] (sp2 4000 (· * ·))) (G__law_part : FnAt P w K mg base CX0 1 "_law_part" ["_law_step", "_law_here", "_law_there"] (spPart)) : FnAt P w K mg base CX0 3 "_law_walked" ["_law_way", "_law_steps_here", "_law_at"] (spWalked K) := by
  refine D.ok sc__law_walked (fun vs H Q E h => ?_) (fun _ _ _ _ _ _ us hl => match us, hl with | [_, _, _], _ => rfl) (fun f cdv A outer s H vs Q E hr h => ?_)
  · obtain ⟨pw, as, L, xs, ss, n, x, W, rfl, hG, hW, way, k⟩ := h; rfl
  · obtain ⟨pw, as, L, xs, ss, n, x, W, rfl, hG, hW, way, k⟩ := h
    have nd := sc__law_walked.nd
    refine ⟨_, (@pss_cons _ _ _ _ _ (ps_if (PW.pt (pw_or (pt_not (pt_val (pe_callB (call_isi' (K := K) rfl) (by rfl) T.z_isinstance bt_isinstance (@pa_cons _ _ _ _ _ (pv 0) (@pa_cons _ _ _ _ _ (pe_bltn (v := .ty "list") (by rfl) T.z_list bt_list rfl) pa_nil (by rfl)) (by rfl))))) (pw_or (pt_cmpR op_ne (pe_callB (call_len' (K := K) rfl) (by rfl) T.z_len PySem.boot_len (@pa_cons _ _ _ _ _ (pv 0) pa_nil (by rfl))) (@pe_op _ _ _ _ _ _ _ _ op_sub (pe_callB (call_len' (K := K) rfl) (by rfl) T.z_len PySem.boot_len (@pa_cons _ _ _ _ _ (pv 1) pa_nil (by rfl))) (pv 2)) (nomark _)) (pw_or1 (pt_cmpR op_ne (pe_ix (ix_list' (K := K) rfl) (pv 0) pe_int (fun _ _ => rfl)) (pe_ix (ix_tup' (K := K) rfl) (pe_ix (ix_list' (K := K) rfl) (pv 1) (pv 2) (fun _ _ => rfl)) pe_int (fun _ _ => rfl)) (nomark _)))))) (@pss_one _ _ _ (ps_ret pe_non)) pss_nil)
      (@pss_cons _ _ _ _ _ (@ps_set _ _ 3 _ _ _ _ nd rfl (Or.inl rfl) (@pe_tup _ _ _ _ _ (@pa_cons _ _ _ _ _ pe_int (@pa_cons _ _ _ _ _ pe_int pa_nil (by rfl)) (by rfl))) (by rfl) (Or.inl rfl))
      (@pss_cons _ _ _ _ _ (ps_for PassesOwn.never rfl (pi_range2 (by rfl) T.z_range (@pa_cons _ _ _ _ _ pe_int (@pa_cons _ _ _ _ _ (pe_callB (call_len' (K := K) rfl) (by rfl) T.z_len PySem.boot_len (@pa_cons _ _ _ _ _ (pv 0) pa_nil (by rfl))) pa_nil (by rfl)) (by rfl))) (pg_name (i := 4) nd rfl (Or.inl rfl)) (@pss_cons _ _ _ _ _ (ps_if (pt_not (pt_val (pe_callB (call_isi' (K := K) rfl) (by rfl) T.z_isinstance bt_isinstance (@pa_cons _ _ _ _ _ (pe_ix (ix_list' (K := K) rfl) (pv 0) (pv 4) (fun _ _ => rfl)) (@pa_cons _ _ _ _ _ (pe_bltn (v := .ty "str") (by rfl) T.z_str bt_str rfl) pa_nil (by rfl)) (by rfl))))) (@pss_one _ _ _ (ps_ret pe_non)) pss_nil)
      (@pss_one _ _ _ (@ps_set _ _ 3 _ _ _ _ nd rfl (Or.inl rfl) (pe_fn G__law_product hr (by rfl) pass0 (@pa_cons _ _ _ _ _ (pv 3) (@pa_cons _ _ _ _ _ (pe_fn G__law_part hr (by rfl) pass0 (@pa_cons _ _ _ _ _ (pe_ix (ix_list' (K := K) rfl) (pv 1) (@pe_op _ _ _ _ _ _ _ _ op_add (pv 2) (pv 4)) (fun _ _ => rfl)) (@pa_cons _ _ _ _ _ (pe_ix (ix_list' (K := K) rfl) (pv 0) (@pe_op _ _ _ _ _ _ _ _ op_sub (pv 4) pe_int) (fun _ _ => rfl)) (@pa_cons _ _ _ _ _ (pe_ix (ix_list' (K := K) rfl) (pv 0) (pv 4) (fun _ _ => rfl)) pa_nil (by rfl)) (by rfl)) (by rfl))) pa_nil (by rfl)) (by rfl))) (by rfl) (Or.inl rfl)))))
      (@pss_one _ _ _ (ps_ret (pv 3)))))), ?_⟩
    obtain ⟨h8, hX, hP, hO, h64, z, yr, q, hsn⟩ := hG
    have hlen : xs.length = ss.length := hP.length
    have hns : n < ss.length := (List.getElem?_eq_some_iff.mp hsn).1
    let sr := ss.drop (n + 1)
    have way : Way sr x W := way
    have hrl : sr.length = ss.length - (n + 1) := List.length_drop
    have hOr : ∀ s ∈ sr, OkS L s := fun s hs => hO s (List.mem_of_mem_drop hs)
    have wl := way.len
    have wm : (W.map V.str).length = W.length := List.length_map ..
    have tyf : tyS H (.ref pw) = some "list" := by show tyH (H pw) = _; rw [hW]; rfl
    refine ⟨_, rfl, _, _, _, _, rfl, tyOf_of tyf, kit_tt (by decide) (by decide), _, rfl, ?_⟩
    refine iteF ?_
    refine ⟨_, rfl, _, _, rfl, .inl ⟨_, SqL.of hW, rfl⟩, _, rfl, _, _, rfl, .inl ⟨_, hX, rfl⟩, _, rfl, _, _, rfl, rfl, rfl, _, rfl, ?_⟩
    refine ite2 (fun z => ?_) (fun _ => ?_)
    · have z : (!decide (V.int ((W.map V.str).length : Nat) = V.int ((xs.length : Nat) - (n : Nat)))) = true := z
      have e : (((W.map V.str).length : Nat) : Int) = ((xs.length : Nat) : Int) - ((n : Nat) : Int) := by omega
      rw [e] at z; simp at z
    obtain ⟨y, hy⟩ : ∃ y, xs[n]? = some y := ⟨_, List.getElem?_eq_getElem (by omega)⟩
    obtain ⟨st, hst, sv⟩ := paired_get hP hy
    rw [hsn] at hst
    cases hst
    obtain ⟨a, l, f, rfl, hA, hl, hf⟩ := sv
    have hw0 : atI (W.map V.str) (0 : Int) = some (.str x) := by
      have := nth_at (W := W) (j := 0) (by omega)
      rw [way.first] at this
      exact atI_nat this
    refine ⟨_, rfl, pw, _, _, _, rfl, rfl, SqL.of hW, hw0, _, rfl, _, rfl, as, _, _, _, rfl, rfl, hX, atI_nat hy, a, _, _, _, rfl, rfl, SqT.of hA, rfl, rfl, _, rfl, ?_⟩
    refine ite2 (fun h => absurd h (by show ¬ (!decide (V.str x = V.str x)) = true; simp)) (fun _ => ?_)
    refine ⟨sz (by simp), fun q0 hq0 => ?_⟩
    have u := Same.upd (o := .tup [.int 1, .int 1]) hq0
    refine ⟨_, rfl, _, _, rfl, .inl ⟨_, SqL.of (u _ _ hW), rfl⟩, _, _, rfl, ⟨by decide, by decide, by omega, by omega⟩, ?_⟩
    refine for_range (fun j σ H4 => ∃ (w : V) (v4 : Option V), σ = [some (.ref pw), some (.ref as), some (.int (n : Nat)), some w, v4] ∧ Same H H4 ∧ FrV H4 w (shr sr W j)) ⟨_, none, rfl, u, FrV.newOf (r := 1) rfl rfl⟩ ?_ ?_
    · rintro j σ H4 hj ⟨w, v4, rfl, s4, fw4⟩
      have hj : j < sr.length := by
        have hj : j < ((((W.map V.str).length : Nat) : Int) - 1).toNat := hj
        omega
      have hs : sr[j]? = some sr[j] := List.getElem?_eq_getElem hj
      generalize sr[j] = s' at hs
      obtain ⟨b, hb, svj⟩ := step_at hP (n := n) (j := j) hs
      have okj := hOr _ (List.mem_of_getElem? hs)
      have w0 := nth_at (W := W) (j := j) (by omega)
      have w1 := nth_at (W := W) (j := j + 1) (by omega)
      have hat1 : atI (W.map V.str) (1 + (j : Int)) = some (.str (nth W (j + 1))) := by
        have e : (1 + (j : Int)) = ((j + 1 : Nat) : Int) := by omega
        rw [e]; exact atI_nat w1
      have hat0 : atI (W.map V.str) (1 + (j : Int) - 1) = some (.str (nth W j)) := by
        have e : (1 + (j : Int) - 1) = ((j : Nat) : Int) := by omega
        rw [e]; exact atI_nat w0
      have hats : atI xs (((n : Nat) : Int) + (1 + (j : Int))) = some (.ref b) := by
        have e : (((n : Nat) : Int) + (1 + (j : Int))) = ((n + (j + 1) : Nat) : Int) := by omega
        rw [e]; exact atI_nat hb
      have hW4 := s4 _ _ hW
      refine ⟨_, rfl, _, rfl, pw, _, _, _, rfl, rfl, SqL.of hW4, hat1, _, _, _, _, rfl, tyOf_of (n := "str") rfl, kit_tt (by decide) (by decide), _, rfl, ?_⟩
      refine iteF ?_
      refine ⟨_, rfl, _, rfl, _, rfl, _, rfl, _, _, rfl, rfl, as, _, _, _, rfl, rfl, s4.seq hX, hats, _, rfl, _, rfl, _, _, rfl, rfl, pw, _, _, _, rfl, rfl, SqL.of hW4, hat0, _, rfl, _, rfl, pw, _, _, _, rfl, rfl, SqL.of hW4, hat1, b, s', L, nth W j, nth W (j + 1), rfl, svj.same s4, okj, way.leg j _ hs, fun w5 H5 s5 f5 => ?_⟩
      have bs := shr_bd hOr (by omega) W (Nat.le_of_lt hj)
      have bp := pt_bd okj (nth W j) (nth W (j + 1))
      refine ⟨_, _, shr sr W j, _, rfl, fw4.same s5, f5, bs.2.mono (by decide), bp.2.mono (by decide), fun w6 H6 s6 f6 => ?_⟩
      refine ⟨w6, _, rfl, s4.trans (s5.trans s6), ?_⟩
      rw [shr_succ hs]; exact f6
    · rintro σ H4 ⟨w, v4, rfl, s4, fw4⟩
      have e : ((((W.map V.str).length : Nat) : Int) - 1).toNat = sr.length := by omega
      have fw4 : FrV H4 w (shr sr W ((((W.map V.str).length : Nat) : Int) - 1).toNat) := fw4
      rw [e] at fw4
      exact ⟨_, rfl, k w H4 s4 fw4⟩
end
end T34
namespace T34
open PySem L2 Tc
section
variable {P : Program} {w : World} {K : PySem.W.Frag} {mg : Str → Option Value} {base : Heap}
abbrev s__law_drawn : Stmt := top 35
theorem sc__law_drawn : FnScope ["_law_steps_here", "_law_at", "_law_bits", "_law_way", "_law_step", "_law_place"] ["_law_steps_here", "_law_at", "_law_bits"] (defScope s__law_drawn) := ⟨rfl, rfl, rfl, by decide +kernel, rfl, by decide +kernel, by decide +kernel⟩
theorem ok__law_drawn (D : DefAt K mg "_law_drawn" s__law_drawn) (T : Txt K mg) : FnAt P w K mg base CX0 1 "_law_drawn" ["_law_steps_here", "_law_at", "_law_bits"] (spDrawn K) := by
  refine D.ok sc__law_drawn (fun vs H Q E h => ?_) (fun _ _ _ _ _ _ us hl => match us, hl with | [_, _, _], _ => rfl) (fun f cdv A outer s H vs Q E hr h => ?_)
  · obtain ⟨as, L, xs, ss, n, x, c, rfl, hG, k⟩ := h; rfl
  · obtain ⟨as, L, xs, ss, n, x, c, rfl, hG, k⟩ := h
    have nd := sc__law_drawn.nd
    refine ⟨_, (@pss_cons _ _ _ _ _ (@ps_set _ _ 3 _ _ _ _ nd rfl (Or.inl rfl) (@pe_lst _ _ _ _ (@pa_cons _ _ _ _ _ (pe_ix (ix_tup' (K := K) rfl) (pe_ix (ix_list' (K := K) rfl) (pv 0) (pv 1) (fun _ _ => rfl)) pe_int (fun _ _ => rfl)) pa_nil (by rfl))) (by rfl) (Or.inl rfl))
      (@pss_cons _ _ _ _ _ (ps_for PassesOwn.never rfl (pi_list' (K := K) rfl (pe_slice (sl_list' (K := K) rfl) (pv 0) (po_some (@pe_op _ _ _ _ _ _ _ _ op_add (pv 1) pe_int)) po_none)) (pg_name (i := 4) nd rfl (Or.inl rfl)) (@pss_cons _ _ _ _ _ (@ps_set _ _ 5 _ _ _ _ nd rfl (Or.inl rfl) (pe_ix (ix_list' (K := K) rfl) (pv 3) (pe_un un_neg pe_int) (fun _ _ => rfl)) (by rfl) (Or.inl rfl))
      (@pss_cons _ _ _ _ _ (ps_if (PW.pt (pw_and (pt_cmpR op_eq (pe_ix (ix_tup' (K := K) rfl) (pv 4) pe_int (fun _ _ => rfl)) pe_str (nomark _)) (pw_and1 (pt_cmpR op_eq (pe_ix (ix_tup' (K := K) rfl) (pv 4) pe_int (fun _ _ => rfl)) (pv 5) (nomark _))))) (@pss_cons _ _ _ _ _ (ps_if (pt_cmpR op_eq (@pe_op _ _ _ _ _ _ _ _ op_modN (pv 2) pe_int) pe_int (nomark _)) (@pss_one _ _ _ (@ps_set _ _ 5 _ _ _ _ nd rfl (Or.inl rfl) (pe_ix (ix_tup' (K := K) rfl) (pv 4) pe_int (fun _ _ => rfl)) (by rfl) (Or.inl rfl))) pss_nil)
      (@pss_one _ _ _ (@ps_set _ _ 2 _ _ _ _ nd rfl (Or.inl rfl) (@pe_op _ _ _ _ _ _ _ _ op_fdivB (pv 2) pe_int) (by rfl) (Or.inl rfl)))) pss_nil)
      (@pss_one _ _ _ (ps_expr (pe_bm PySem.F.plainAttrs_list PySem.F.slot_list_append PySem.F.type_list_append mt_append (pv 3) (@pa_cons _ _ _ _ _ (pv 5) pa_nil (by rfl))))))))
      (@pss_one _ _ _ (ps_ret (pv 3))))), ?_⟩
    obtain ⟨h8, hX, hP, hO, h64, z, yr, q, hsn⟩ := hG
    have hlen : xs.length = ss.length := hP.length
    have hns : n < ss.length := (List.getElem?_eq_some_iff.mp hsn).1
    let sr := ss.drop (n + 1)
    have hrl : sr.length = ss.length - (n + 1) := List.length_drop
    have hOr : ∀ s ∈ sr, OkS L s := fun s hs => hO s (List.mem_of_mem_drop hs)
    obtain ⟨y, hy⟩ : ∃ y, xs[n]? = some y := ⟨_, List.getElem?_eq_getElem (by omega)⟩
    obtain ⟨st, hst, sv⟩ := paired_get hP hy
    rw [hsn] at hst
    cases hst
    obtain ⟨a, l, f, rfl, hA, hl, hf⟩ := sv
    refine ⟨_, rfl, _, rfl, as, _, _, _, rfl, rfl, hX, atI_nat hy, a, _, _, _, rfl, rfl, SqT.of hA, rfl, sz (by simp), fun p hp => ?_⟩
    have u := Same.upd (o := .lst [V.str x]) hp
    refine ⟨_, rfl, _, rfl, _, _, rfl, rfl, _, rfl, as, _, rfl, u.seq hX, fun l6 hl6 => ?_⟩
    have ecut : cutV xs (some (((n : Nat) : Int) + 1)) none = xs.drop (n + 1) := by
      have e : (((n : Nat) : Int) + 1) = ((n + 1 : Nat) : Int) := by omega
      rw [e]; exact cutd_from xs (by omega)
    rw [ecut]
    have t6 := Same.upd (o := .lst (xs.drop (n + 1))) hl6
    have s6 := u.trans t6
    refine ⟨l6, rfl, ⟨_, SqL.of upd_same⟩, ?_⟩
    have hPd := Paired.drop hP (n + 1)
    have e6 := upd_same (H := upd H p (.lst [V.str x])) (a := l6) (o := .lst (xs.drop (n + 1)))
    have n6 : l6 ≠ p := fun e => by rw [e, upd_same] at hl6; cases hl6
    refine for_list (xs := xs.drop (n + 1)) (fun j σ H4 => ∃ (c : Int) (v4 v5 : Option V) (W : List Str), σ = [some (.ref as), some (.int (n : Nat)), some (.int c), some (.ref p), v4, v5] ∧ Same H H4 ∧ H4 l6 = some (.lst (xs.drop (n + 1))) ∧ H4 p = some (.lst (W.map V.str)) ∧ Way (sr.take j) x W) ⟨c, none, none, [x], rfl, s6, e6, t6 _ _ upd_same, Way.one x⟩ ?_ ?_ ?_
    · rintro j σ H4 hj ⟨c, v4, v5, W, rfl, s4, h6, hp4, way⟩
      exact SqL.of h6
    · rintro j w σ H4 hxj ⟨c, v4, v5, W, rfl, s4, h6, hp4, way⟩
      obtain ⟨st, hstj, sv⟩ := paired_get hPd hxj
      have hstj : sr[j]? = some st := hstj
      have hj : j < sr.length := (List.getElem?_eq_some_iff.mp hstj).1
      have ed : sr.take (j + 1) = sr.take j ++ [st] := by rw [List.take_add_one, hstj]; rfl
      have wl := way.len
      have tl : (sr.take j).length = j := by rw [List.length_take]; omega
      rw [tl] at wl
      have hlast := way.last (K := K)
      have snoc : ∀ b, Leg st (nth W (sr.take j).length) b → Way (sr.take (j + 1)) x (W ++ [b]) := fun b hb => by rw [ed]; exact way.snoc hb
      have fin : ∀ b, Way (sr.take (j + 1)) x (W ++ [b]) → Same H (upd H4 p (.lst (W.map V.str ++ [V.str b]))) ∧ upd H4 p (.lst (W.map V.str ++ [V.str b])) l6 = some (.lst (xs.drop (n + 1))) ∧ upd H4 p (.lst (W.map V.str ++ [V.str b])) p = some (.lst ((W ++ [b]).map V.str)) ∧ Way (sr.take (j + 1)) x (W ++ [b]) := fun b hb => ⟨s4.updD hp, by rw [upd_ne n6]; exact h6, by rw [upd_same, List.map_append]; rfl, hb⟩
      have sz1 : (W.map V.str).length < sizeLine := sz (by rw [List.length_map]; omega)
      refine ⟨_, rfl, 1, rfl, p, _, _, _, rfl, rfl, SqL.of hp4, hlast, ?_⟩
      cases st with
      | br z' yr' x0' q0' =>
        obtain ⟨a', l', f', rfl, ha', hl', hf'⟩ := sv
        refine ⟨_, rfl, a', _, _, _, rfl, rfl, SqT.of (s4 _ _ ha'), rfl, rfl, _, rfl, ?_⟩
        refine dec_false (by decide +kernel) ?_
        refine iteF ?_
        refine ⟨_, rfl, .inl ⟨rfl, _, SqL.of hp4⟩, _, rfl, p, _, _, rfl, rfl, hp4, sz1, ?_⟩
        exact ⟨c, _, _, _, rfl, fin _ (snoc _ rfl)⟩
      | ps x1 y1 t =>
        obtain ⟨a', f', rfl, ha', hf'⟩ := sv
        have ha4 := s4 _ _ ha'
        refine ⟨_, rfl, a', _, _, _, rfl, rfl, SqT.of ha4, rfl, rfl, _, rfl, ?_⟩
        refine dec_true rfl ?_
        refine ⟨_, rfl, a', _, _, _, rfl, rfl, SqT.of ha4, rfl, _, rfl, rfl, _, rfl, ?_⟩
        by_cases e : x1 = nth W (sr.take j).length
        · refine dec_true (by rw [e]) ?_
          refine ⟨_, rfl, _, _, rfl, rfl, (show (2 : Int) ≠ 0 by decide), rfl, _, rfl, ?_⟩
          refine ite2 (fun _ => ?_) (fun _ => ?_)
          · refine ⟨_, rfl, a', _, _, _, rfl, rfl, SqT.of ha4, rfl, ?_⟩
            refine ⟨_, rfl, _, _, rfl, rfl, ddv (by decide) (by decide), ?_⟩
            refine ⟨_, rfl, .inl ⟨rfl, _, SqL.of hp4⟩, _, rfl, p, _, _, rfl, rfl, hp4, sz1, ?_⟩
            refine ⟨_, _, _, _, rfl, fin _ (snoc y1 ?_)⟩
            show if nth W (sr.take j).length = x1 then y1 = nth W (sr.take j).length ∨ y1 = y1 else y1 = nth W (sr.take j).length
            rw [if_pos e.symm]; exact .inr rfl
          · refine ⟨_, rfl, _, _, rfl, rfl, ddv (by decide) (by decide), ?_⟩
            refine ⟨_, rfl, .inl ⟨rfl, _, SqL.of hp4⟩, _, rfl, p, _, _, rfl, rfl, hp4, sz1, ?_⟩
            refine ⟨_, _, _, _, rfl, fin _ (snoc (nth W (sr.take j).length) ?_)⟩
            show if nth W (sr.take j).length = x1 then nth W (sr.take j).length = nth W (sr.take j).length ∨ nth W (sr.take j).length = y1 else nth W (sr.take j).length = nth W (sr.take j).length
            rw [if_pos e.symm]; exact .inl rfl
        · refine dec_false (fun z => e (V.str.inj z)) ?_
          refine ⟨_, rfl, .inl ⟨rfl, _, SqL.of hp4⟩, _, rfl, p, _, _, rfl, rfl, hp4, sz1, ?_⟩
          refine ⟨c, _, _, _, rfl, fin _ (snoc (nth W (sr.take j).length) ?_)⟩
          show if nth W (sr.take j).length = x1 then nth W (sr.take j).length = nth W (sr.take j).length ∨ nth W (sr.take j).length = y1 else nth W (sr.take j).length = nth W (sr.take j).length
          rw [if_neg fun z => e z.symm]
    · rintro σ H4 ⟨c, v4, v5, W, rfl, s4, h6, hp4, way⟩
      have el : (xs.drop (n + 1)).length = sr.length := hPd.length
      rw [el, List.take_length] at way
      exact ⟨_, rfl, k p H4 W hp s4 hp4 way⟩
end
end T34
namespace T34
open PySem L2 Tc
section
variable {P : Program} {w : World} {K : PySem.W.Frag} {mg : Str → Option Value} {base : Heap}
abbrev s__law_no_more : Stmt := top 36
theorem sc__law_no_more : FnScope ["_law_one", "_law_other"] ["_law_one", "_law_other"] (defScope s__law_no_more) := ⟨rfl, rfl, rfl, by decide +kernel, rfl, by decide +kernel, by decide +kernel⟩
theorem ok__law_no_more (D : DefAt K mg "_law_no_more" s__law_no_more) (T : Txt K mg) : FnAt P w K mg base CX0 1 "_law_no_more" ["_law_one", "_law_other"] (spNoMore) := by
  refine D.ok sc__law_no_more (fun vs H Q E h => ?_) (fun _ _ _ _ _ _ us hl => match us, hl with | [_, _], _ => rfl) (fun f cdv A outer s H vs Q E hr h => ?_)
  · obtain ⟨_, _, r, q, rfl, ⟨a, rfl, ha⟩, ⟨b, rfl, hb⟩, br, bq, k⟩ := h; rfl
  · obtain ⟨_, _, r, q, rfl, ⟨a, rfl, ha⟩, ⟨b, rfl, hb⟩, br, bq, k⟩ := h
    have nd := sc__law_no_more.nd
    refine ⟨_, (@pss_one _ _ _ (ps_ret (pe_cmpR op_le (@pe_op _ _ _ _ _ _ _ _ op_mulB (pe_ix (ix_tup' (K := K) rfl) (pv 0) pe_int (fun _ _ => rfl)) (pe_ix (ix_tup' (K := K) rfl) (pv 1) pe_int (fun _ _ => rfl))) (@pe_op _ _ _ _ _ _ _ _ op_mulB (pe_ix (ix_tup' (K := K) rfl) (pv 1) pe_int (fun _ _ => rfl)) (pe_ix (ix_tup' (K := K) rfl) (pv 0) pe_int (fun _ _ => rfl))) (nomark _)))), ?_⟩
    refine ⟨_, rfl, a, _, _, _, rfl, rfl, SqT.of ha, rfl, _, rfl, b, _, _, _, rfl, rfl, SqT.of hb, rfl, _, _, rfl, rfl, mulOk_of 8000 br.num bq.den (by decide), _, rfl, b, _, _, _, rfl, rfl, SqT.of hb, rfl, _, rfl, a, _, _, _, rfl, rfl, SqT.of ha, rfl, _, _, rfl, rfl, mulOk_of 8000 bq.num br.den (by decide), _, _, rfl, rfl, ?_⟩
    rw [← le_ok] at k
    exact k
end
end T34
namespace T34
open PySem L2 Tc
section
variable {P : Program} {w : World} {K : PySem.W.Frag} {mg : Str → Option Value} {base : Heap}
abbrev s__law_below : Stmt := top 37
theorem sc__law_below : FnScope ["_law_way", "_law_steps_here", "_law_at", "_law_tops", "_law_share", "_law_j"] ["_law_way", "_law_steps_here", "_law_at", "_law_tops"] (defScope s__law_below) := ⟨rfl, rfl, rfl, by decide +kernel, rfl, by decide +kernel, by decide +kernel⟩
theorem ok__law_below (D : DefAt K mg "_law_below" s__law_below) (T : Txt K mg) (G__law_product : FnAt P w K mg base CX0 2 "_law_product" ["_law_one", "_law_other"] (sp2 4000 (· * ·))) (G__law_part : FnAt P w K mg base CX0 1 "_law_part" ["_law_step", "_law_here", "_law_there"] (spPart)) (G__law_no_more : FnAt P w K mg base CX0 1 "_law_no_more" ["_law_one", "_law_other"] (spNoMore)) : FnAt P w K mg base CX0 3 "_law_below" ["_law_way", "_law_steps_here", "_law_at", "_law_tops"] (spBelow K) := by
  refine D.ok sc__law_below (fun vs H Q E h => ?_) (fun _ _ _ _ _ _ us hl => match us, hl with | [_, _, _, _], _ => rfl) (fun f cdv A outer s H vs Q E hr h => ?_)
  · obtain ⟨pw, as, pt', L, xs, ss, n, x, W, rfl, hG, hW, way, top, k⟩ := h; rfl
  · obtain ⟨pw, as, pt', L, xs, ss, n, x, W, rfl, hG, hW, way, top, k⟩ := h
    have nd := sc__law_below.nd
    refine ⟨_, (@pss_cons _ _ _ _ _ (@ps_set _ _ 4 _ _ _ _ nd rfl (Or.inl rfl) (@pe_tup _ _ _ _ _ (@pa_cons _ _ _ _ _ pe_int (@pa_cons _ _ _ _ _ pe_int pa_nil (by rfl)) (by rfl))) (by rfl) (Or.inl rfl))
      (@pss_cons _ _ _ _ _ (ps_for PassesOwn.never rfl (pi_range1 (by rfl) T.z_range (@pa_cons _ _ _ _ _ (pe_callB (call_len' (K := K) rfl) (by rfl) T.z_len PySem.boot_len (@pa_cons _ _ _ _ _ (pv 0) pa_nil (by rfl))) pa_nil (by rfl))) (pg_name (i := 5) nd rfl (Or.inl rfl)) (@pss_cons _ _ _ _ _ (ps_if (pt_cmpR op_gt (pv 5) pe_int (nomark _)) (@pss_one _ _ _ (@ps_set _ _ 4 _ _ _ _ nd rfl (Or.inl rfl) (pe_fn G__law_product hr (by rfl) pass0 (@pa_cons _ _ _ _ _ (pv 4) (@pa_cons _ _ _ _ _ (pe_fn G__law_part hr (by rfl) pass0 (@pa_cons _ _ _ _ _ (pe_ix (ix_list' (K := K) rfl) (pv 1) (@pe_op _ _ _ _ _ _ _ _ op_add (pv 2) (pv 5)) (fun _ _ => rfl)) (@pa_cons _ _ _ _ _ (pe_ix (ix_list' (K := K) rfl) (pv 0) (@pe_op _ _ _ _ _ _ _ _ op_sub (pv 5) pe_int) (fun _ _ => rfl)) (@pa_cons _ _ _ _ _ (pe_ix (ix_list' (K := K) rfl) (pv 0) (pv 5) (fun _ _ => rfl)) pa_nil (by rfl)) (by rfl)) (by rfl))) pa_nil (by rfl)) (by rfl))) (by rfl) (Or.inl rfl))) pss_nil)
      (@pss_one _ _ _ (ps_if (PW.pt (pw_and (pt_cmpR op_gt (pe_ix (ix_tup' (K := K) rfl) (pv 4) pe_int (fun _ _ => rfl)) pe_int (nomark _)) (pw_and1 (pt_not (pt_val (pe_fn G__law_no_more hr (by rfl) pass0 (@pa_cons _ _ _ _ _ (pv 4) (@pa_cons _ _ _ _ _ (pe_dget2 (hu_of hr) (pe_ix (ix_list' (K := K) rfl) (pv 3) (pv 5) (fun _ _ => rfl)) (pe_ix (ix_list' (K := K) rfl) (pv 0) (pv 5) (fun _ _ => rfl)) (@pe_tup _ _ _ _ _ (@pa_cons _ _ _ _ _ pe_int (@pa_cons _ _ _ _ _ pe_int pa_nil (by rfl)) (by rfl))) ⟨by rfl, by rfl, by rfl, by rfl⟩) pa_nil (by rfl)) (by rfl)))))))) (@pss_one _ _ _ (ps_ret pe_bl)) pss_nil))))
      (@pss_one _ _ _ (ps_ret pe_bl)))), ?_⟩
    obtain ⟨h8, hX, hP, hO, h64, z, yr, q, hsn⟩ := hG
    have hlen : xs.length = ss.length := hP.length
    have hns : n < ss.length := (List.getElem?_eq_some_iff.mp hsn).1
    let sr := ss.drop (n + 1)
    have way : Way sr x W := way
    obtain ⟨ys, ht, tyl, trow⟩ := top
    have hrl : sr.length = ss.length - (n + 1) := List.length_drop
    have hOr : ∀ s ∈ sr, OkS L s := fun s hs => hO s (List.mem_of_mem_drop hs)
    have hxL : x ∈ L := (hO _ (List.mem_of_getElem? hsn)).1
    have wl := way.len
    have wm : (W.map V.str).length = W.length := List.length_map ..
    refine ⟨sz (by simp), fun q0 hq0 => ?_⟩
    have u := Same.upd (o := .tup [.int 1, .int 1]) hq0
    refine ⟨_, rfl, _, _, rfl, .inl ⟨_, SqL.of (u _ _ hW), rfl⟩, _, rfl, by omega, by omega, ?_⟩
    refine for_range (fun j σ H4 => ∃ (w : V) (v5 : Option V), σ = [some (.ref pw), some (.ref as), some (.int (n : Nat)), some (.ref pt'), some w, v5] ∧ Same H H4 ∧ FrV H4 w (shr sr W (j - 1))) ⟨_, none, rfl, u, FrV.newOf (r := 1) rfl rfl⟩ ?_ ?_
    · rintro j σ H4 hj ⟨w, v5, rfl, s4, fw4⟩
      have hj : j ≤ sr.length := by
        have hj : j < (((W.map V.str).length : Nat) : Int).toNat := hj
        omega
      have hW4 := s4 _ _ hW
      have hatj : atI (W.map V.str) (0 + (j : Int)) = some (.str (nth W j)) := by
        rw [Int.zero_add]; exact atI_nat (nth_at (by omega))
      obtain ⟨d, kvs, hyj, hdj, rowj⟩ := trow j hj
      have haty : atI ys (0 + (j : Int)) = some (.ref d) := by rw [Int.zero_add]; exact atI_nat hyj
      refine ⟨_, rfl, _, _, rfl, rfl, _, rfl, ?_⟩
      by_cases e0 : j = 0
      case' pos =>
        refine dec_false (by omega) ?_
        let jj : Nat := j
        let w6 : V := w
        let H6 : Hp := H4
        have s46 : Same H4 H6 := Same.refl _
        have f6 : FrV H6 w6 (shr sr W j) := by
          rw [e0] at fw4 ⊢; exact fw4
      case' neg =>
        refine dec_true (by omega) ?_
        obtain ⟨j', rfl⟩ : ∃ j', j = j' + 1 := ⟨j - 1, by omega⟩
        have hs : sr[j']? = some sr[j'] := List.getElem?_eq_getElem (by omega)
        generalize sr[j'] = s' at hs
        obtain ⟨b, hb, svj⟩ := step_at hP (n := n) (j := j') hs
        have okj := hOr _ (List.mem_of_getElem? hs)
        have hat0 : atI (W.map V.str) (0 + ((j' + 1 : Nat) : Int) - 1) = some (.str (nth W j')) := by
          have e : (0 + ((j' + 1 : Nat) : Int) - 1) = ((j' : Nat) : Int) := by omega
          rw [e]; exact atI_nat (nth_at (by omega))
        have hats : atI xs (((n : Nat) : Int) + (0 + ((j' + 1 : Nat) : Int))) = some (.ref b) := by
          have e : (((n : Nat) : Int) + (0 + ((j' + 1 : Nat) : Int))) = ((n + (j' + 1) : Nat) : Int) := by omega
          rw [e]; exact atI_nat hb
        refine ⟨_, rfl, _, rfl, _, rfl, _, rfl, _, _, rfl, rfl, as, _, _, _, rfl, rfl, s4.seq hX, hats, _, rfl, _, rfl, _, _, rfl, rfl, pw, _, _, _, rfl, rfl, SqL.of hW4, hat0, _, rfl, _, rfl, pw, _, _, _, rfl, rfl, SqL.of hW4, hatj, b, s', L, nth W j', nth W (j' + 1), rfl, svj.same s4, okj, way.leg j' _ hs, fun w5 H5 s5 f5 => ?_⟩
        have bs := shr_bd hOr (by omega) W (show j' ≤ sr.length by omega)
        have bp := pt_bd okj (nth W j') (nth W (j' + 1))
        refine ⟨_, _, shr sr W j', _, rfl, fw4.same s5, f5, bs.2.mono (by decide), bp.2.mono (by decide), fun w6 H6 s6 f6' => ?_⟩
        have s46 : Same H4 H6 := s5.trans s6
        let jj : Nat := j' + 1
        have f6 : FrV H6 w6 (shr sr W (j' + 1)) := by rw [shr_succ hs]; exact f6'
      all_goals
        have s06 := s4.trans s46
        obtain ⟨c6, e6, hc6⟩ := id f6
        have bs6 := shr_bd hOr (by omega) W hj
        refine ⟨_, rfl, c6, _, _, _, e6, rfl, SqT.of hc6, rfl, _, _, rfl, rfl, _, rfl, ?_⟩
        refine ite2 (fun hpos => ?_) (fun _ => ?_)
        · have hd6 := s06 _ _ hdj
          refine ⟨_, rfl, _, rfl, _, rfl, pt', _, _, _, rfl, rfl, SqL.of (s06 _ _ ht), haty, d, rfl, .inl ⟨kvs, .inl hd6⟩, _, rfl, _, rfl, pw, _, _, _, rfl, rfl, SqL.of (s06 _ _ hW), hatj, sz (by simp), fun q1 hq1 => ⟨valV kvs (.inr (nth W jj)), DGet.k (k := .inr (nth W jj)) (Same.upd hq1 _ _ hd6), ?_⟩⟩
          have z1 := Same.upd (o := .tup [.int 0, .int 1]) hq1
          have fg := ((rowj.same (fun v r g => g.same s06)).same (fun v r f => f.same z1)).getD (FrV.newOf (r := 0) (p := q1) rfl rfl) (nth W jj)
          rw [op_get] at fg
          have bg := gmN_bd hOr (by omega) hxL hj (nth W jj)
          refine ⟨_, _, shr sr W jj, gmN sr (dlt x) jj (nth W jj), rfl, f6.same z1, fg, bs6.2.mono (by decide), bg.2.mono (by decide), _, rfl, ?_⟩
          rw [decide_eq_true (show shr sr W jj ≤ gmN sr (dlt x) jj (nth W jj) from shr_le hxL hOr way _ hj)]
          refine iteF ?_
          exact ⟨w6, _, rfl, s06.trans z1, f6.same z1⟩
        · refine iteF ?_
          exact ⟨w6, _, rfl, s06, f6⟩
    · rintro σ H4 ⟨w, v5, rfl, s4, fw4⟩
      exact k H4 s4
end
end T34
namespace T34
open PySem L2 Tc
section
variable {P : Program} {w : World} {K : PySem.W.Frag} {mg : Str → Option Value} {base : Heap}
abbrev s__law_fits : Stmt := top 38
theorem sc__law_fits : FnScope ["_law_told_one", "_law_steps_here", "_law_at", "_law_place", "_law_tops", "_law_share"] ["_law_told_one", "_law_steps_here", "_law_at", "_law_place", "_law_tops"] (defScope s__law_fits) := ⟨rfl, rfl, rfl, by decide +kernel, rfl, by decide +kernel, by decide +kernel⟩
theorem ok__law_fits (D : DefAt K mg "_law_fits" s__law_fits) (T : Txt K mg) (G__law_is_fraction : FnAt P w K mg base CX0 1 "_law_is_fraction" ["_law_found"] (spIsFr)) (G__law_walked : FnAt P w K mg base CX0 3 "_law_walked" ["_law_way", "_law_steps_here", "_law_at"] (spWalked K)) : FnAt P w K mg base CX0 4 "_law_fits" ["_law_told_one", "_law_steps_here", "_law_at", "_law_place", "_law_tops"] (spFits2 K) := by
  refine D.ok sc__law_fits (fun vs H Q E h => ?_) (fun _ _ _ _ _ _ us hl => match us, hl with | [_, _, _, _, _], _ => rfl) (fun f cdv A outer s H vs Q E hr h => ?_)
  · obtain ⟨v, pw, as, pt', L, xs, ss, n, x, pl, rfl, hG, hF, gn, top, k⟩ := h; rfl
  · obtain ⟨v, pw, as, pt', L, xs, ss, n, x, pl, rfl, hG, hF, gn, top, k⟩ := h
    have nd := sc__law_fits.nd
    refine ⟨_, (@pss_cons _ _ _ _ _ (ps_if (PW.pt (pw_or (pt_not (pt_val (pe_callB (call_isi' (K := K) rfl) (by rfl) T.z_isinstance bt_isinstance (@pa_cons _ _ _ _ _ (pv 0) (@pa_cons _ _ _ _ _ (pe_bltn (v := .ty "tuple") (by rfl) T.z_tuple bt_tuple rfl) pa_nil (by rfl)) (by rfl))))) (pw_or (pt_cmpR op_ne (pe_callB (call_len' (K := K) rfl) (by rfl) T.z_len PySem.boot_len (@pa_cons _ _ _ _ _ (pv 0) pa_nil (by rfl))) pe_int (nomark _)) (pw_or1 (pt_not (pt_val (pe_fn G__law_is_fraction hr (by rfl) pass0 (@pa_cons _ _ _ _ _ (pe_ix (ix_tup' (K := K) rfl) (pv 0) pe_int (fun _ _ => rfl)) pa_nil (by rfl))))))))) (@pss_one _ _ _ (ps_ret pe_bl)) pss_nil)
      (@pss_cons _ _ _ _ _ (@ps_set _ _ 5 _ _ _ _ nd rfl (Or.inl rfl) (pe_fn G__law_walked hr (by rfl) pass0 (@pa_cons _ _ _ _ _ (pe_ix (ix_tup' (K := K) rfl) (pv 0) pe_int (fun _ _ => rfl)) (@pa_cons _ _ _ _ _ (pv 1) (@pa_cons _ _ _ _ _ (pv 2) pa_nil (by rfl)) (by rfl)) (by rfl))) (by rfl) (Or.inl rfl))
      (@pss_cons _ _ _ _ _ (ps_if (PW.pt (pw_or (pt_cmpR op_isN (pv 5) pe_non (nomark _)) (pw_or (pt_cmpR op_lt (pe_ix (ix_tup' (K := K) rfl) (pv 5) pe_int (fun _ _ => rfl)) pe_int (nomark _)) (pw_or (pt_cmpR (op_neD' (K := K) rfl hr) (pv 5) (pe_ix (ix_tup' (K := K) rfl) (pv 0) pe_int (fun _ _ => rfl)) (nomark _)) (pw_or1 (pt_cmpR op_ne (pe_ix (ix_list' (K := K) rfl) (pe_ix (ix_tup' (K := K) rfl) (pv 0) pe_int (fun _ _ => rfl)) (pe_un un_neg pe_int) (fun _ _ => rfl)) (pv 3) (nomark _))))))) (@pss_one _ _ _ (ps_ret pe_bl)) pss_nil)
      (@pss_one _ _ _ (ps_ret (pe_cmpR (op_eqD' (K := K) rfl hr) (pe_dget2 (hu_of hr) (pe_ix (ix_list' (K := K) rfl) (pv 4) (pe_un un_neg pe_int) (fun _ _ => rfl)) (pv 3) (@pe_tup _ _ _ _ _ (@pa_cons _ _ _ _ _ pe_int (@pa_cons _ _ _ _ _ pe_int pa_nil (by rfl)) (by rfl))) ⟨by rfl, by rfl, by rfl, by rfl⟩) (pv 5) (nomark _))))))), ?_⟩
    obtain ⟨t, f, W, rfl, ht, hpw, hf, way, hlast, hshr⟩ := hF
    obtain ⟨h8, hX, hP, hO, h64, z, yr, q, hsn⟩ := id hG
    obtain ⟨ys, htp, tyl, trow⟩ := id top
    let sr := ss.drop (n + 1)
    have hrl : sr.length = ss.length - (n + 1) := List.length_drop
    have hOr : ∀ s ∈ sr, OkS L s := fun s hs => hO s (List.mem_of_mem_drop hs)
    have hxL : x ∈ L := (hO _ (List.mem_of_getElem? hsn)).1
    have bg := gmN_bd hOr (by omega) hxL (Nat.le_refl _) pl
    have tyt : tyS H (.ref t) = some "tuple" := by show tyH (H t) = _; rw [ht]; rfl
    refine ⟨_, rfl, _, _, _, _, rfl, tyOf_of tyt, kit_tt (by decide) (by decide), _, rfl, ?_⟩
    refine iteF ?_
    refine ⟨_, rfl, _, _, rfl, .inr ⟨_, SqT.of ht, rfl⟩, rfl, _, rfl, ?_⟩
    refine iteF ?_
    refine ⟨_, rfl, t, _, _, _, rfl, rfl, SqT.of ht, rfl, f, _, rfl, hf, fun H1 s1 => ⟨_, rfl, ?_⟩⟩
    refine iteF ?_
    have ht1 := s1 _ _ ht
    refine ⟨_, rfl, t, _, _, _, rfl, rfl, SqT.of ht1, rfl, _, rfl, _, rfl, pw, as, L, xs, ss, n, x, W, rfl, hG.same s1, s1 _ _ hpw, way, fun w2 H2 s2 f2 => ?_⟩
    have hshr : shr sr W sr.length = gmN sr (dlt x) sr.length pl := hshr
    have f2 : FrV H2 w2 (shr sr W sr.length) := f2
    rw [hshr] at f2
    have s12 := s1.trans s2
    have ht2 := s12 _ _ ht
    obtain ⟨c2, e2, hc2⟩ := id f2
    subst e2
    refine ⟨_, rfl, rfl, _, rfl, ?_⟩
    refine dec_false (by intro z; cases z) ?_
    refine ⟨_, rfl, c2, _, _, _, rfl, rfl, SqT.of hc2, rfl, _, _, rfl, rfl, _, rfl, ?_⟩
    have gpos : 0 < gmN sr (dlt x) sr.length pl := pos_of bg.1 gn
    have npos : 0 < (gmN sr (dlt x) sr.length pl).num := by
      have h1 := Rat.num_nonneg.mpr bg.1
      have h2 : (gmN sr (dlt x) sr.length pl).num ≠ 0 := fun e => gn (Rat.num_eq_zero.mp e)
      omega
    refine dec_false (by omega) ?_
    refine ⟨_, rfl, _, rfl, t, _, _, _, rfl, rfl, SqT.of ht2, rfl, _, _, f2.rep, (hf.same s12).rep, pq_depth _ _, _, rfl, ?_⟩
    rw [eqv_pq, fq_dec, decide_eq_true rfl]
    refine iteF ?_
    have hlast' : atI (W.map V.str) (-1) = some (.str pl) := by
      have := Way.last (K := K) way
      rw [hlast] at this; exact this
    refine ⟨_, rfl, t, _, _, _, rfl, rfl, SqT.of ht2, rfl, 1, rfl, pw, _, _, _, rfl, rfl, SqL.of (s12 _ _ hpw), hlast', _, rfl, rfl, _, rfl, ?_⟩
    refine ite2 (fun h => absurd h (by show ¬ (!decide (V.str pl = V.str pl)) = true; simp)) (fun _ => ?_)
    obtain ⟨d, kvs, hyj, hdj, rowj⟩ := trow sr.length (Nat.le_refl _)
    have hatT : atI ys (-1) = some (.ref d) := by
      obtain ⟨ys', b, e⟩ : ∃ ys' b, ys = ys' ++ [b] := ⟨ys.dropLast, ys.getLast (by intro e; rw [e] at tyl; cases tyl), (List.dropLast_concat_getLast _).symm⟩
      subst e
      rw [List.length_append] at tyl
      have e1 : [b].length = 1 := rfl
      have e3 : sr.length = ys'.length := by
        have : ys'.length + [b].length = sr.length + 1 := tyl
        omega
      rw [e3, List.getElem?_append_right (Nat.le_refl _), Nat.sub_self] at hyj
      have hyj : b = .ref d := Option.some.inj hyj
      rw [hyj]
      exact atI_last _ _
    have hd2 := s12 _ _ hdj
    refine ⟨_, rfl, 1, rfl, pt', _, _, _, rfl, rfl, SqL.of (s12 _ _ htp), hatT, d, rfl, .inl ⟨kvs, .inl hd2⟩, _, rfl, sz (by simp), fun q1 hq1 => ⟨valV kvs (.inr pl), DGet.k (k := .inr pl) (Same.upd hq1 _ _ hd2), ?_⟩⟩
    have z1 := Same.upd (o := .tup [.int 0, .int 1]) hq1
    have fg := ((rowj.same (fun v r g => g.same s12)).same (fun v r f => f.same z1)).getD (FrV.newOf (r := 0) (p := q1) rfl rfl) pl
    rw [op_get] at fg
    refine ⟨_, rfl, _, _, fg.rep, (f2.same z1).rep, pq_depth _ _, ?_⟩
    rw [eqv_pq, fq_dec, decide_eq_true rfl]
    exact k _ (s12.trans z1)
end
end T34
namespace T34
open PySem L2 Tc
section
variable {P : Program} {w : World} {K : PySem.W.Frag} {mg : Str → Option Value} {base : Heap}
abbrev s__law_twice : Stmt := top 39
theorem sc__law_twice : FnScope ["_law_handed", "_law_k", "_law_way", "_law_found", "_law_steps_here", "_law_at", "_law_tops", "_law_share", "_law_again"] ["_law_handed", "_law_k", "_law_way", "_law_found", "_law_steps_here", "_law_at", "_law_tops"] (defScope s__law_twice) := ⟨rfl, rfl, rfl, by decide +kernel, rfl, by decide +kernel, by decide +kernel⟩
theorem ok__law_twice (D : DefAt K mg "_law_twice" s__law_twice) (T : Txt K mg) (G__law_walked : FnAt P w K mg base CX0 3 "_law_walked" ["_law_way", "_law_steps_here", "_law_at"] (spWalked K)) (G__law_no_more : FnAt P w K mg base CX0 1 "_law_no_more" ["_law_one", "_law_other"] (spNoMore)) (G_greatest_way : FnAt P w K mg base CX0 6 "greatest_way" ["steps", "k", "place"] (spGWay K)) (G__law_fits : FnAt P w K mg base CX0 4 "_law_fits" ["_law_told_one", "_law_steps_here", "_law_at", "_law_place", "_law_tops"] (spFits2 K)) : FnAt P w K mg base CX0 7 "_law_twice" ["_law_handed", "_law_k", "_law_way", "_law_found", "_law_steps_here", "_law_at", "_law_tops"] (spTwice K) := by
  refine D.ok sc__law_twice (fun vs H Q E h => ?_) (fun _ _ _ _ _ _ us hl => match us, hl with | [_, _, _, _, _, _, _], _ => rfl) (fun f cdv A outer s H vs Q E hr h => ?_)
  · obtain ⟨fnd, hd, py, pw, as, pt', L, xs, ss, kk, n, x, W, rfl, hkn, lay, hG, hHd, hAs, hPy, way, top, hF, k⟩ := h; rfl
  · obtain ⟨fnd, hd, py, pw, as, pt', L, xs, ss, kk, n, x, W, rfl, hkn, lay, hG, hHd, hAs, hPy, way, top, hF, k⟩ := h
    have nd := sc__law_twice.nd
    refine ⟨_, (@pss_cons _ _ _ _ _ (@ps_set _ _ 7 _ _ _ _ nd rfl (Or.inl rfl) (pe_fn G__law_walked hr (by rfl) pass0 (@pa_cons _ _ _ _ _ (pv 2) (@pa_cons _ _ _ _ _ (pv 4) (@pa_cons _ _ _ _ _ (pv 5) pa_nil (by rfl)) (by rfl)) (by rfl))) (by rfl) (Or.inl rfl))
      (@pss_cons _ _ _ _ _ (ps_if (pt_cmpR op_eq (pe_ix (ix_tup' (K := K) rfl) (pv 7) pe_int (fun _ _ => rfl)) pe_int (nomark _)) (@pss_one _ _ _ (ps_ret pe_bl)) pss_nil)
      (@pss_cons _ _ _ _ _ (ps_if (PW.pt (pw_or (pt_cmpR op_isN (pv 3) pe_non (nomark _)) (pw_or1 (pt_not (pt_val (pe_fn G__law_no_more hr (by rfl) pass0 (@pa_cons _ _ _ _ _ (pv 7) (@pa_cons _ _ _ _ _ (pe_ix (ix_tup' (K := K) rfl) (pv 3) pe_int (fun _ _ => rfl)) pa_nil (by rfl)) (by rfl)))))))) (@pss_one _ _ _ (ps_ret pe_bl)) pss_nil)
      (@pss_cons _ _ _ _ _ (ps_expr (pe_bm0' (K := K) rfl PySem.F.plainAttrs_list PySem.F.slot_list_clear PySem.F.type_list_clear mt_clear (pe_ix (ix_tup' (K := K) rfl) (pv 3) pe_int (fun _ _ => rfl))))
      (@pss_cons _ _ _ _ _ (@ps_set _ _ 8 _ _ _ _ nd rfl (Or.inl rfl) (pe_fn G_greatest_way hr (by rfl) pass0 (@pa_cons _ _ _ _ _ (pv 0) (@pa_cons _ _ _ _ _ (pv 1) (@pa_cons _ _ _ _ _ (pe_ix (ix_list' (K := K) rfl) (pv 2) (pe_un un_neg pe_int) (fun _ _ => rfl)) pa_nil (by rfl)) (by rfl)) (by rfl))) (by rfl) (Or.inl rfl))
      (@pss_one _ _ _ (ps_ret (pe_and (pe_cmpR (op_eqD' (K := K) rfl hr) (pv 0) (pv 4) (nomark _)) (pe_one (pe_fn G__law_fits hr (by rfl) pass0 (@pa_cons _ _ _ _ _ (pv 8) (@pa_cons _ _ _ _ _ (pv 4) (@pa_cons _ _ _ _ _ (pv 5) (@pa_cons _ _ _ _ _ (pe_ix (ix_list' (K := K) rfl) (pv 2) (pe_un un_neg pe_int) (fun _ _ => rfl)) (@pa_cons _ _ _ _ _ (pv 6) pa_nil (by rfl)) (by rfl)) (by rfl)) (by rfl)) (by rfl)))))))))))), ?_⟩
    obtain ⟨h8, hX, hP, hO, h64, z, yr, q, hsn⟩ := id hG
    let sr := ss.drop (n + 1)
    have hrl : sr.length = ss.length - (n + 1) := List.length_drop
    have hOr : ∀ s ∈ sr, OkS L s := fun s hs => hO s (List.mem_of_mem_drop hs)
    have hxL : x ∈ L := (hO _ (List.mem_of_getElem? hsn)).1
    let pl := nth W sr.length
    refine ⟨_, rfl, _, rfl, _, rfl, py, as, L, xs, ss, n, x, W, rfl, hG, hPy, way, fun w2 H2 s2 f2 => ?_⟩
    have f2 : FrV H2 w2 (shr sr W sr.length) := f2
    obtain ⟨c2, e2, hc2⟩ := id f2
    subst e2
    refine ⟨_, rfl, c2, _, _, _, rfl, rfl, SqT.of hc2, rfl, rfl, _, rfl, ?_⟩
    refine ite2 (fun _ => k H2 fun c o e _ => s2 _ _ e) (fun hnz => ?_)
    have bs := shr_bd hOr (by omega) W (Nat.le_refl sr.length)
    have bg := gmN_bd hOr (by omega) hxL (Nat.le_refl _) pl
    have hle := shr_le hxL hOr way sr.length (Nat.le_refl _)
    have snz : shr sr W sr.length ≠ 0 := fun e => hnz (decide_eq_true (by rw [e]; rfl))
    have gn : gmN sr (dlt x) sr.length pl ≠ 0 := by
      have h1 := pos_of bs.1 snz
      have hle : shr sr W sr.length ≤ gmN sr (dlt x) sr.length pl := hle
      grind
    obtain ⟨⟨t, f, W', rfl, ht, hpw, hf, way', hlast', hshr'⟩, n1, n2, n3, n4⟩ := hF.resolve_left gn
    have hf : FrV H f (gmN sr (dlt x) sr.length pl) := hf
    refine ⟨_, rfl, rfl, _, rfl, ?_⟩
    refine dec_false (by intro z; cases z) ?_
    have ht2 := s2 _ _ ht
    refine ⟨_, rfl, _, rfl, t, _, _, _, rfl, rfl, SqT.of ht2, rfl, _, _, _, _, rfl, f2, hf.same s2, bs.2.mono (by decide), bg.2.mono (by decide), _, rfl, ?_⟩
    rw [decide_eq_true (show shr sr W sr.length ≤ gmN sr (dlt x) sr.length pl from hle)]
    refine iteF ?_
    have hpw2 := s2 _ _ hpw
    refine ⟨_, rfl, t, _, _, _, rfl, rfl, SqT.of ht2, rfl, .inl ⟨rfl, _, SqL.of hpw2⟩, pw, _, rfl, rfl, hpw2, ?_⟩
    have keep : ∀ c o, H c = some o → c ≠ pw → upd H2 pw (.lst []) c = some o := fun c o e n => by rw [upd_ne n]; exact s2 _ _ e
    have tk : ∀ c m, H c = some (.tup m) → upd H2 pw (.lst []) c = some (.tup m) := fun c m e => keep _ _ e (ne_of e hpw (by intro z; cases z))
    have dk : ∀ c m, H c = some (.dK m) → upd H2 pw (.lst []) c = some (.dK m) := fun c m e => keep _ _ e (ne_of e hpw (by intro z; cases z))
    have top3 := top.keep tk dk fun ys e => keep _ _ e n4.symm
    have hHd3 := keep _ _ hHd n1.symm
    have hAs3 := keep _ _ hAs n2.symm
    have hPy3 := keep _ _ hPy n3.symm
    have hP3 : Paired (StV (upd H2 pw (.lst []))) xs ss := Paired.mapP hP fun _ _ s => s.tup tk
    generalize upd H2 pw (.lst []) = H3 at *
    have hlast : atI (W.map V.str) (-1) = some (.str pl) := Way.last (K := K) way
    have hG3 : GrL K H3 hd L xs ss n x := ⟨h8, SqL.of hHd3, hP3, hO, h64, z, yr, q, hsn⟩
    have hG3' : GrL K H3 as L xs ss n x := ⟨h8, SqL.of hAs3, hP3, hO, h64, z, yr, q, hsn⟩
    refine ⟨_, rfl, _, rfl, _, rfl, 1, rfl, py, _, _, _, rfl, rfl, SqL.of hPy3, hlast, hd, L, xs, ss, kk, n, x, pl, rfl, hG3, hkn, fun e => absurd e gn, fun _ v4 H4 pw4 s4 hF4 _ => ?_⟩
    have r1 : RepD K H4 (.list (ss.map dSt)) (.ref hd) := repL (SqL.of (s4 _ _ hHd3)) (rep_steps lay (steps_same hP3 s4) hO)
    have r2 : RepD K H4 (.list (ss.map dSt)) (.ref as) := repL (SqL.of (s4 _ _ hAs3)) (rep_steps lay (steps_same hP3 s4) hO)
    refine ⟨_, rfl, _, rfl, _, _, r1, r2, list_depth ss, _, rfl, ?_⟩
    rw [PySem.SeqAt.eqv_refl _ r1.lay]
    refine iteT ?_
    refine ⟨_, rfl, _, rfl, _, rfl, _, rfl, 1, rfl, py, _, _, _, rfl, rfl, SqL.of (s4 _ _ hPy3), hlast, _, rfl, v4, pw4, as, pt', L, xs, ss, n, x, pl, rfl, hG3'.same s4, hF4, gn, top3.same s4, fun H5 s5 => k H5 fun c o e nn => s5 _ _ (s4 _ _ (keep c o e (nn gn)))⟩
end
end T34
namespace T34
open PySem L2 Tc
section
variable {P : Program} {w : World} {K : PySem.W.Frag} {mg : Str → Option Value} {base : Heap}
abbrev s_law : Stmt := top 40
theorem sc_law : FnScope ["_law_script", "_law_names_here", "_law_steps_here", "_law_k", "_law_at", "_law_ends", "_law_tops", "_law_way", "_law_handed", "_law_place", "_law_found"] ["_law_script"] (defScope s_law) := ⟨rfl, rfl, rfl, by decide +kernel, rfl, by decide +kernel, by decide +kernel⟩
theorem ok_law {f : Addr} {fd : FuncData} (D : Fun K "law" "law" s_law f fd) (T : Txt K mg) (G__law_all : FnAt P w K mg base CX0 3 "_law_all" ["_law_script"] (spAll K)) (G__law_some : FnAt P w K mg base CX0 1 "_law_some" ["_law_steps_here", "_law_cell"] (spSome2 K)) (G__law_cell_at : FnAt P w K mg base CX0 1 "_law_cell_at" ["_law_script", "_law_k"] (spCell K)) (G_forth : FnAt P w K mg base CX0 6 "forth" ["names", "steps", "k"] (spForth K)) (G_greatest_shares : FnAt P w K mg base CX0 5 "greatest_shares" ["steps", "k"] (spGreatest K)) (G__law_drawn : FnAt P w K mg base CX0 1 "_law_drawn" ["_law_steps_here", "_law_at", "_law_bits"] (spDrawn K)) (G__law_mixed : FnAt P w K mg base CX0 1 "_law_mixed" ["_law_cell"] (spMix)) (G__law_below : FnAt P w K mg base CX0 3 "_law_below" ["_law_way", "_law_steps_here", "_law_at", "_law_tops"] (spBelow K)) (G_greatest_way : FnAt P w K mg base CX0 6 "greatest_way" ["steps", "k", "place"] (spGWay K)) (G__law_fits : FnAt P w K mg base CX0 4 "_law_fits" ["_law_told_one", "_law_steps_here", "_law_at", "_law_place", "_law_tops"] (spFits2 K)) (G__law_twice : FnAt P w K mg base CX0 7 "_law_twice" ["_law_handed", "_law_k", "_law_way", "_law_found", "_law_steps_here", "_law_at", "_law_tops"] (spTwice K)) : FnOk P w K mg base CX0 8 f fd ["_law_script"] (spLaw K) := by
  refine D.ok sc_law (fun vs H Q E h => ?_) (fun cdv A outer s H vs Q E hr h => ?_)
  · obtain ⟨a, ns, rfl, hS, hlen, k⟩ := h; rfl
  · obtain ⟨a, ns, rfl, hS, hlen, k⟩ := h
    have nd := sc_law.nd
    refine ⟨_, (@pss_cons _ _ _ _ _ (ps_asg (pe_fn G__law_all hr (by rfl) pass0 (@pa_cons _ _ _ _ _ (pv 0) pa_nil (by rfl))) (pg_tup rfl (pgs_cons (pg_name (i := 1) nd rfl (Or.inl rfl)) (pgs_cons (pg_name (i := 2) nd rfl (Or.inl rfl)) pgs_nil))))
      (@pss_cons _ _ _ _ _ (ps_for PassesOwn.never rfl (pi_list' (K := K) rfl (pe_fn G__law_some hr (by rfl) pass0 (@pa_cons _ _ _ _ _ (pv 2) (@pa_cons _ _ _ _ _ (pe_fn G__law_cell_at hr (by rfl) pass0 (@pa_cons _ _ _ _ _ (pv 0) (@pa_cons _ _ _ _ _ pe_int pa_nil (by rfl)) (by rfl))) pa_nil (by rfl)) (by rfl)))) (pg_tup rfl (pgs_cons (pg_name (i := 3) nd rfl (Or.inl rfl)) (pgs_cons (pg_name (i := 4) nd rfl (Or.inl rfl)) pgs_nil))) (@pss_cons _ _ _ _ _ (@ps_set _ _ 5 _ _ _ _ nd rfl (Or.inl rfl) (pe_fn G_forth hr (by rfl) pass0 (@pa_cons _ _ _ _ _ (pe_callTy (call_list_of' (K := K) rfl) (by rfl) T.z_list bt_list (@pa_cons _ _ _ _ _ (pv 1) pa_nil (by rfl))) (@pa_cons _ _ _ _ _ (pe_callTy (call_list_of' (K := K) rfl) (by rfl) T.z_list bt_list (@pa_cons _ _ _ _ _ (pv 2) pa_nil (by rfl))) (@pa_cons _ _ _ _ _ (pv 3) pa_nil (by rfl)) (by rfl)) (by rfl))) (by rfl) (Or.inl rfl))
      (@pss_cons _ _ _ _ _ (@ps_set _ _ 6 _ _ _ _ nd rfl (Or.inl rfl) (pe_fn G_greatest_shares hr (by rfl) pass0 (@pa_cons _ _ _ _ _ (pe_callTy (call_list_of' (K := K) rfl) (by rfl) T.z_list bt_list (@pa_cons _ _ _ _ _ (pv 2) pa_nil (by rfl))) (@pa_cons _ _ _ _ _ (pv 3) pa_nil (by rfl)) (by rfl))) (by rfl) (Or.inl rfl))
      (@pss_cons _ _ _ _ _ (@ps_set _ _ 7 _ _ _ _ nd rfl (Or.inl rfl) (pe_fn G__law_drawn hr (by rfl) pass0 (@pa_cons _ _ _ _ _ (pv 2) (@pa_cons _ _ _ _ _ (pv 4) (@pa_cons _ _ _ _ _ (pe_fn G__law_mixed hr (by rfl) pass0 (@pa_cons _ _ _ _ _ (pe_fn G__law_cell_at hr (by rfl) pass0 (@pa_cons _ _ _ _ _ (pv 0) (@pa_cons _ _ _ _ _ (pv 4) pa_nil (by rfl)) (by rfl))) pa_nil (by rfl))) pa_nil (by rfl)) (by rfl)) (by rfl))) (by rfl) (Or.inl rfl))
      (@pss_cons _ _ _ _ _ (ps_if (pt_not (pt_val (pe_fn G__law_below hr (by rfl) pass0 (@pa_cons _ _ _ _ _ (pv 7) (@pa_cons _ _ _ _ _ (pv 2) (@pa_cons _ _ _ _ _ (pv 4) (@pa_cons _ _ _ _ _ (pv 6) pa_nil (by rfl)) (by rfl)) (by rfl)) (by rfl))))) (@pss_one _ _ _ (ps_ret pe_bl)) pss_nil)
      (@pss_cons _ _ _ _ _ (@ps_set _ _ 8 _ _ _ _ nd rfl (Or.inl rfl) (pe_callTy (call_list_of' (K := K) rfl) (by rfl) T.z_list bt_list (@pa_cons _ _ _ _ _ (pv 2) pa_nil (by rfl))) (by rfl) (Or.inl rfl))
      (@pss_one _ _ _ (ps_for PassesOwn.never rfl (pi_list' (K := K) rfl (pv 1)) (pg_name (i := 9) nd rfl (Or.inl rfl)) (@pss_cons _ _ _ _ _ (@ps_set _ _ 10 _ _ _ _ nd rfl (Or.inl rfl) (pe_fn G_greatest_way hr (by rfl) pass0 (@pa_cons _ _ _ _ _ (pv 8) (@pa_cons _ _ _ _ _ (pv 3) (@pa_cons _ _ _ _ _ (pv 9) pa_nil (by rfl)) (by rfl)) (by rfl))) (by rfl) (Or.inl rfl))
      (@pss_cons _ _ _ _ _ (ps_if (PW.pt (pw_or (PW.pt (pw_and (pt_cmp (pc_dnotin (hu_of hr) (pv 9) (pv 5))) (pw_and1 (pt_cmpR op_notN (pv 10) pe_non (nomark _))))) (pw_or1 (pt_cmpR (op_neD' (K := K) rfl hr) (pv 8) (pv 2) (nomark _))))) (@pss_one _ _ _ (ps_ret pe_bl)) pss_nil)
      (@pss_cons _ _ _ _ _ (ps_if (PW.pt (pw_and (pt_cmp (pc_din (hu_of hr) (pv 9) (pv 5))) (pw_and1 (pt_not (pt_val (pe_fn G__law_fits hr (by rfl) pass0 (@pa_cons _ _ _ _ _ (pv 10) (@pa_cons _ _ _ _ _ (pv 2) (@pa_cons _ _ _ _ _ (pv 4) (@pa_cons _ _ _ _ _ (pv 9) (@pa_cons _ _ _ _ _ (pv 6) pa_nil (by rfl)) (by rfl)) (by rfl)) (by rfl)) (by rfl)))))))) (@pss_one _ _ _ (ps_ret pe_bl)) pss_nil)
      (@pss_one _ _ _ (ps_if (pt_cmpR op_eq (pv 9) (pe_ix (ix_list' (K := K) rfl) (pv 7) (pe_un un_neg pe_int) (fun _ _ => rfl)) (nomark _)) (@pss_one _ _ _ (ps_if (pt_not (pt_val (pe_fn G__law_twice hr (by rfl) pass0 (@pa_cons _ _ _ _ _ (pv 8) (@pa_cons _ _ _ _ _ (pv 3) (@pa_cons _ _ _ _ _ (pv 7) (@pa_cons _ _ _ _ _ (pv 10) (@pa_cons _ _ _ _ _ (pv 2) (@pa_cons _ _ _ _ _ (pv 4) (@pa_cons _ _ _ _ _ (pv 6) pa_nil (by rfl)) (by rfl)) (by rfl)) (by rfl)) (by rfl)) (by rfl)) (by rfl))))) (@pss_one _ _ _ (ps_ret pe_bl)) pss_nil)) pss_nil)))))))))))))
      (@pss_one _ _ _ (ps_ret pe_bl)))), ?_⟩
    refine ⟨_, rfl, a, ns, rfl, hS, fun p0 H1 an as L xs ss s1 hp0 hN nd' lay L8 hA hP hO h62 _ => ?_⟩
    refine ⟨p0, _, rfl, SqT.of hp0, rfl, _, _, rfl, _, _, rfl, rfl, ?_⟩
    refine ⟨_, rfl, _, rfl, a, ns, 0, rfl, s1.seq hS, by decide, fun c0 => ⟨as, L, xs, ss, c0, rfl, SqL.of hA, hP, hO, by omega, fun pq' H4 ks hpk s4 h4 hk => ?_⟩⟩
    refine ⟨pq', rfl, ⟨_, SqL.of h4⟩, ?_⟩
    have hA4 := s4 _ _ hA
    have hN4 := s4 _ _ hN
    have hP4 := steps_same hP s4
    refine for_list (xs := ks) (fun i σ H5 => ∃ (v3 v4 v5 v6 v7 v8 v9 v10 : Option V), σ = [some (.ref a), some (.ref an), some (.ref as), v3, v4, v5, v6, v7, v8, v9, v10] ∧ Same H4 H5) ⟨none, none, none, none, none, none, none, none, rfl, Same.refl _⟩ ?_ ?_ ?_
    · rintro i σ H5 hi ⟨v3, v4, v5, v6, v7, v8, v9, v10, rfl, s5⟩
      exact SqL.of (s5 _ _ h4)
    · rintro i x σ H5 hx ⟨v3, v4, v5, v6, v7, v8, v9, v10, rfl, s5⟩
      obtain ⟨t, kk, at', rfl, ht, n, hkn, rfl⟩ := hk x (List.mem_of_getElem? hx)
      obtain ⟨z, yr, x0, q, hsn⟩ := brIx_at hkn
      have hns : n < ss.length := (List.getElem?_eq_some_iff.mp hsn).1
      have hxL : x0 ∈ L := (hO _ (List.mem_of_getElem? hsn)).1
      let sr := ss.drop (n + 1)
      have hrl : sr.length = ss.length - (n + 1) := List.length_drop
      have hOr : ∀ s ∈ sr, OkS L s := fun s hs => hO s (List.mem_of_mem_drop hs)
      have hbk : (brL ss)[kk]? = some ⟨z, yr, q, back sr x0⟩ := by
        have := brL_at (o := 0) hkn (by rw [Nat.sub_zero]; exact hsn)
        rw [Nat.sub_zero] at this; exact this
      have sup : ∀ z, back sr x0 z = 0 ↔ gmN sr (dlt x0) sr.length z = 0 := fun z => by
        have := sup_eq nd' hOr hxL sr.length (Nat.le_refl _) z
        rw [List.take_length] at this; exact this
      refine ⟨t, _, rfl, SqT.of (s5 _ _ ht), rfl, _, _, rfl, _, _, rfl, rfl, ?_⟩
      refine ⟨_, rfl, an, _, rfl, .inl (SqL.of (s5 _ _ hN4)), fun l1 hl1 => ?_⟩
      have t1 := Same.upd (o := .lst (L.map V.str)) hl1
      refine ⟨_, rfl, as, _, rfl, .inl (SqL.of (t1 _ _ (s5 _ _ hA4))), fun l2 hl2 => ?_⟩
      have t2 := Same.upd (o := .lst xs) hl2
      have s6 := s5.trans (t1.trans t2)
      refine ⟨_, rfl, l1, l2, L, xs, ss, kk, _, rfl, SqL.of (t2 _ _ upd_same), nd', L8, SqL.of upd_same, steps_same hP4 s6, hO, by omega, hbk, fun de H7 kve hde s7 h7 r7 => ?_⟩
      have s07 := s6.trans s7
      refine ⟨_, rfl, as, _, rfl, .inl (SqL.of (s07 _ _ hA4)), fun l3 hl3 => ?_⟩
      have t3 := Same.upd (o := .lst xs) hl3
      have s08 := s07.trans t3
      refine ⟨_, rfl, l3, L, xs, ss, kk, n, z, yr, x0, q, rfl, L8, SqL.of upd_same, steps_same hP4 s08, hO, by omega, hkn, hsn, fun pt' H9 ys tds hpt s9 h9 hB hm hnd hfr => ?_⟩
      have s09 := s08.trans s9
      have tl : tds.length = sr.length + 1 := by
        have := congrArg List.length hm
        unfold gmL at this
        rw [List.length_map, List.length_map, List.length_range] at this
        omega
      have yl : ys.length = sr.length + 1 := hB.length.trans tl
      have top9 : TopL H9 pt' sr x0 := by
        refine ⟨ys, h9, yl, fun j hj => ?_⟩
        obtain ⟨yv, hyv⟩ : ∃ yv, ys[j]? = some yv := ⟨_, List.getElem?_eq_getElem (by omega)⟩
        obtain ⟨td, htd, ⟨e, kvs, hk1, hk2⟩⟩ := paired_get hB hyv
        have etd : td.1 = gmN sr (dlt x0) j := by
          have h1 : (tds.map (·.1))[j]? = some td.1 := by rw [List.getElem?_map, htd]; rfl
          rw [hm] at h1
          unfold gmL at h1
          rw [List.getElem?_map, List.getElem?_range (by omega)] at h1
          exact (Option.some.inj h1).symm
        rw [etd] at hk2
        exact ⟨td.2, kvs, by rw [hyv, e], hk1, hk2⟩
      have gr : ∀ {H' : Hp}, Same H4 H' → GrL K H' as L xs ss n x0 := fun {H'} s => ⟨L8, SqL.of (s _ _ hA4), steps_same hP4 s, hO, by omega, z, yr, q, hsn⟩
      have sA : Same H H9 := s1.trans (s4.trans s09)
      refine ⟨_, rfl, _, rfl, _, rfl, _, rfl, a, ns, (n : Nat), rfl, sA.seq hS, by omega, fun c1 => ⟨c1, rfl, fun m m0 m1 => ?_⟩⟩
      refine ⟨as, L, xs, ss, n, x0, m, rfl, gr s09, fun py H10 W hpy s10 h10 way => ?_⟩
      have way : Way sr x0 W := way
      have top10 := top9.same s10
      have s010 := s09.trans s10
      refine ⟨_, rfl, _, rfl, _, rfl, _, rfl, py, as, pt', L, xs, ss, n, x0, W, rfl, gr s010, h10, way, top10, fun H11 s11 => ⟨_, rfl, ?_⟩⟩
      refine iteF ?_
      have s011 := s010.trans s11
      refine ⟨_, rfl, as, _, rfl, .inl (SqL.of (s011 _ _ hA4)), fun hd hhd => ?_⟩
      have t12 := Same.upd (o := .lst xs) hhd
      have s012 := s011.trans t12
      have top12 := (top10.same s11).same t12
      have h12 := upd_same (H := H11) (a := hd) (o := .lst xs)
      have hpy12 := t12 _ _ (s11 _ _ h10)
      have s712 : Same H7 (upd H11 hd (.lst xs)) := t3.trans (s9.trans (s10.trans (s11.trans t12)))
      have hde12 := s712 _ _ h7
      generalize upd H11 hd (.lst xs) = H12 at *
      have hN12 := s012 _ _ hN4
      refine ⟨_, rfl, an, rfl, ⟨_, SqL.of hN12⟩, ?_⟩
      refine for_list (xs := L.map V.str) (fun i σ H13 => ∃ (v9 v10 : Option V), σ = [some (.ref a), some (.ref an), some (.ref as), some (.int (kk : Nat)), some (.int (n : Nat)), some (.ref de), some (.ref pt'), some (.ref py), some (.ref hd), v9, v10] ∧ Same H12 H13) ⟨_, _, rfl, Same.refl _⟩ ?_ ?_ ?_
      · rintro i σ H13 hi ⟨v9, v10, rfl, s13⟩
        exact SqL.of (s13 _ _ hN12)
      · rintro i pv σ H13 hpv ⟨v9, v10, rfl, s13⟩
        obtain ⟨pl, rfl, hpl⟩ := str_get hpv
        have s013 := s012.trans s13
        have hd13 := s13 _ _ h12
        have ghd : ∀ {H' : Hp}, Same H13 H' → GrL K H' hd L xs ss n x0 := fun {H'} s => ⟨L8, SqL.of (s _ _ hd13), steps_same hP4 (s013.trans s), hO, by omega, z, yr, q, hsn⟩
        have hde13 := s13 _ _ hde12
        have dget : ∀ {H' : Hp}, Same H13 H' → DGet H' de (.str pl) (valV kve (.inr pl)) := fun {H'} s => DGet.k (k := .inr pl) (s _ _ hde13)
        have reps : ∀ {H' : Hp}, Same H13 H' → RepD K H' (.list (ss.map dSt)) (.ref hd) ∧ RepD K H' (.list (ss.map dSt)) (.ref as) := fun {H'} s => ⟨repL (SqL.of (s _ _ hd13)) (rep_steps lay (steps_same hP4 (s013.trans s)) hO), repL (SqL.of (s _ _ (s013 _ _ hA4))) (rep_steps lay (steps_same hP4 (s013.trans s)) hO)⟩
        have lastW : atI (W.map V.str) (-1) = some (.str (nth W sr.length)) := Way.last (K := K) way
        refine ⟨_, rfl, _, rfl, _, rfl, hd, L, xs, ss, kk, n, x0, pl, rfl, ghd (Same.refl _), hkn, fun g0 H14 s14 => ?_, fun gn v14 H14 pw s14 hF hpw => ?_⟩
        · have g0 : gmN sr (dlt x0) sr.length pl = 0 := g0
          have s1314 := s14
          have vn : valV kve (.inr pl) = none := r7.not pl (by unfold op; rw [if_pos ((sup pl).mpr g0)])
          have dg := dget s14
          rw [vn] at dg
          obtain ⟨q1, q2⟩ := reps s14
          refine ⟨_, rfl, _, rfl, de, none, rfl, dg, _, rfl, ?_⟩
          refine iteT ?_
          refine ⟨_, rfl, rfl, _, rfl, ?_⟩
          refine ite2 (fun h => absurd h (by show ¬ (!decide (V.non = V.non)) = true; simp)) (fun _ => ?_)
          refine ⟨_, rfl, _, rfl, _, _, q1, q2, list_depth ss, _, rfl, ?_⟩
          rw [PySem.SeqAt.eqv_refl _ q1.lay]
          refine iteF ?_
          refine ⟨_, rfl, _, rfl, de, none, rfl, dg, _, rfl, ?_⟩
          refine iteF ?_
          have hpy14 := s14 _ _ (s13 _ _ hpy12)
          refine ⟨_, rfl, _, rfl, 1, rfl, py, _, _, _, rfl, rfl, SqL.of hpy14, lastW, rfl, _, rfl, ?_⟩
          refine ite2 (fun e => ?_) (fun _ => ⟨_, _, rfl, s13.trans s14⟩)
          have e : pl = nth W sr.length := V.str.inj (of_decide_eq_true e)
          have s1214 := s13.trans s14
          have s014 := s013.trans s14
          refine ⟨_, rfl, _, rfl, _, rfl, _, rfl, _, rfl, _, rfl, _, rfl, .non, hd, py, hd, as, pt', L, xs, ss, kk, n, x0, W, rfl, hkn, lay, gr s014, s14 _ _ hd13, s014 _ _ hA4, hpy14, way, top12.same s1214, .inl (by rw [e] at g0; exact g0), fun H15 k15 => ⟨_, rfl, ?_⟩⟩
          refine iteF ?_
          exact ⟨_, _, rfl, fun c o ec => k15 _ _ (s1214 _ _ ec) fun gn => absurd (by rw [e] at g0; exact g0) gn⟩
        · have gn : gmN sr (dlt x0) sr.length pl ≠ 0 := gn
          have bn : back sr x0 pl ≠ 0 := fun e => gn ((sup pl).mp e)
          obtain ⟨we, hwe, _⟩ := r7.has pl _ (show op (back sr x0) pl = some (back sr x0 pl) by unfold op; rw [if_neg bn])
          have dg := dget s14
          rw [hwe] at dg
          obtain ⟨q1, q2⟩ := reps s14
          have s1214 := s13.trans s14
          have s014 := s013.trans s14
          refine ⟨_, rfl, _, rfl, de, some we, rfl, dg, _, rfl, ?_⟩
          refine iteF ?_
          refine ⟨_, rfl, _, rfl, _, _, q1, q2, list_depth ss, _, rfl, ?_⟩
          rw [PySem.SeqAt.eqv_refl _ q1.lay]
          refine iteF ?_
          refine ⟨_, rfl, _, rfl, de, some we, rfl, dg, _, rfl, ?_⟩
          refine iteT ?_
          have hF : FndV H14 v14 sr x0 pl pw := hF
          refine ⟨_, rfl, _, rfl, _, rfl, _, rfl, _, rfl, v14, pw, as, pt', L, xs, ss, n, x0, pl, rfl, gr s014, hF, gn, top12.same s1214, fun H15 s15 => ⟨_, rfl, ?_⟩⟩
          refine iteF ?_
          have s1315 := s14.trans s15
          have s1215 := s13.trans s1315
          have s015 := s013.trans s1315
          have hpy15 := s1315 _ _ (s13 _ _ hpy12)
          refine ⟨_, rfl, _, rfl, 1, rfl, py, _, _, _, rfl, rfl, SqL.of hpy15, lastW, rfl, _, rfl, ?_⟩
          refine ite2 (fun e => ?_) (fun _ => ⟨_, _, rfl, s1215⟩)
          have e : pl = nth W sr.length := V.str.inj (of_decide_eq_true e)
          have fr : ∀ {c : Addr} {o : HO}, H13 c = some o → pw ≠ c := fun {c o} hc e => by rw [e, hc] at hpw; cases hpw
          have hF15 : FndV H15 v14 sr x0 (nth W sr.length) pw := by
            rw [← e]
            obtain ⟨t', f', W', e1, e2, e3, e4, e5, e6, e7⟩ := hF
            exact ⟨t', f', W', e1, s15 _ _ e2, s15 _ _ e3, e4.same s15, e5, e6, e7⟩
          have htp : ∃ ys, H13 pt' = some (.lst ys) := (let ⟨ys, h, _⟩ := top12; ⟨ys, s13 _ _ h⟩)
          obtain ⟨ysp, htp⟩ := htp
          refine ⟨_, rfl, _, rfl, _, rfl, _, rfl, _, rfl, _, rfl, _, rfl, v14, hd, py, pw, as, pt', L, xs, ss, kk, n, x0, W, rfl, hkn, lay, gr s015, s1315 _ _ hd13, s015 _ _ hA4, hpy15, way, top12.same s1215, .inr ⟨hF15, fr hd13, fr (s013 _ _ hA4), fr (s13 _ _ hpy12), fr htp⟩, fun H16 k16 => ⟨_, rfl, ?_⟩⟩
          refine iteF ?_
          exact ⟨_, _, rfl, fun c o ec => k16 _ _ (s1215 _ _ ec) fun _ => (fr (s13 _ _ ec)).symm⟩
      · rintro σ H13 ⟨v9, v10, rfl, s13⟩
        exact ⟨_, _, _, _, _, _, _, _, rfl, s012.trans s13⟩
    · rintro σ H5 ⟨v3, v4, v5, v6, v7, v8, v9, v10, rfl, s5⟩
      exact k H5
end
end T34
namespace T34
open PySem L2 Tc
theorem all_mk {l : PySem.W.OpenLaw} {w : World} {K : PySem.W.Frag} {h : Heap} {mg : Str → Option Value} {fa : Addr} (X : K.In h) (G : h.Ns mainGlobals mg) (hfa : mg "law" = some (.ref fa))
    {f0 : Addr} {oc0 kV0 dc0 pm0 cd0 ct0 : Value} {od0 an0 : Option Addr} {sl0 : Array (Option Value)}
    {f1 : Addr} {oc1 kV1 dc1 pm1 cd1 ct1 : Value} {od1 an1 : Option Addr} {sl1 : Array (Option Value)}
    {f2 : Addr} {oc2 kV2 dc2 pm2 cd2 ct2 : Value} {od2 an2 : Option Addr} {sl2 : Array (Option Value)}
    {f3 : Addr} {oc3 kV3 dc3 pm3 cd3 ct3 : Value} {od3 an3 : Option Addr} {sl3 : Array (Option Value)}
    {f4 : Addr} {oc4 kV4 dc4 pm4 cd4 ct4 : Value} {od4 an4 : Option Addr} {sl4 : Array (Option Value)}
    {f5 : Addr} {oc5 kV5 dc5 pm5 cd5 ct5 : Value} {od5 an5 : Option Addr} {sl5 : Array (Option Value)}
    {f6 : Addr} {oc6 kV6 dc6 pm6 cd6 ct6 : Value} {od6 an6 : Option Addr} {sl6 : Array (Option Value)}
    {f7 : Addr} {oc7 kV7 dc7 pm7 cd7 ct7 : Value} {od7 an7 : Option Addr} {sl7 : Array (Option Value)}
    {f8 : Addr} {oc8 kV8 dc8 pm8 cd8 ct8 : Value} {od8 an8 : Option Addr} {sl8 : Array (Option Value)}
    {f9 : Addr} {oc9 kV9 dc9 pm9 cd9 ct9 : Value} {od9 an9 : Option Addr} {sl9 : Array (Option Value)}
    {f10 : Addr} {oc10 kV10 dc10 pm10 cd10 ct10 : Value} {od10 an10 : Option Addr} {sl10 : Array (Option Value)}
    {f11 : Addr} {oc11 kV11 dc11 pm11 cd11 ct11 : Value} {od11 an11 : Option Addr} {sl11 : Array (Option Value)}
    {f12 : Addr} {oc12 kV12 dc12 pm12 cd12 ct12 : Value} {od12 an12 : Option Addr} {sl12 : Array (Option Value)}
    {f13 : Addr} {oc13 kV13 dc13 pm13 cd13 ct13 : Value} {od13 an13 : Option Addr} {sl13 : Array (Option Value)}
    {f14 : Addr} {oc14 kV14 dc14 pm14 cd14 ct14 : Value} {od14 an14 : Option Addr} {sl14 : Array (Option Value)}
    {f15 : Addr} {oc15 kV15 dc15 pm15 cd15 ct15 : Value} {od15 an15 : Option Addr} {sl15 : Array (Option Value)}
    {f16 : Addr} {oc16 kV16 dc16 pm16 cd16 ct16 : Value} {od16 an16 : Option Addr} {sl16 : Array (Option Value)}
    {f17 : Addr} {oc17 kV17 dc17 pm17 cd17 ct17 : Value} {od17 an17 : Option Addr} {sl17 : Array (Option Value)}
    {f18 : Addr} {oc18 kV18 dc18 pm18 cd18 ct18 : Value} {od18 an18 : Option Addr} {sl18 : Array (Option Value)}
    {f19 : Addr} {oc19 kV19 dc19 pm19 cd19 ct19 : Value} {od19 an19 : Option Addr} {sl19 : Array (Option Value)}
    {f20 : Addr} {oc20 kV20 dc20 pm20 cd20 ct20 : Value} {od20 an20 : Option Addr} {sl20 : Array (Option Value)}
    {f21 : Addr} {oc21 kV21 dc21 pm21 cd21 ct21 : Value} {od21 an21 : Option Addr} {sl21 : Array (Option Value)}
    {f22 : Addr} {oc22 kV22 dc22 pm22 cd22 ct22 : Value} {od22 an22 : Option Addr} {sl22 : Array (Option Value)}
    {f23 : Addr} {oc23 kV23 dc23 pm23 cd23 ct23 : Value} {od23 an23 : Option Addr} {sl23 : Array (Option Value)}
    {f24 : Addr} {oc24 kV24 dc24 pm24 cd24 ct24 : Value} {od24 an24 : Option Addr} {sl24 : Array (Option Value)}
    {f25 : Addr} {oc25 kV25 dc25 pm25 cd25 ct25 : Value} {od25 an25 : Option Addr} {sl25 : Array (Option Value)}
    {f26 : Addr} {oc26 kV26 dc26 pm26 cd26 ct26 : Value} {od26 an26 : Option Addr} {sl26 : Array (Option Value)}
    {f27 : Addr} {oc27 kV27 dc27 pm27 cd27 ct27 : Value} {od27 an27 : Option Addr} {sl27 : Array (Option Value)}
    {f28 : Addr} {oc28 kV28 dc28 pm28 cd28 ct28 : Value} {od28 an28 : Option Addr} {sl28 : Array (Option Value)}
    {f29 : Addr} {oc29 kV29 dc29 pm29 cd29 ct29 : Value} {od29 an29 : Option Addr} {sl29 : Array (Option Value)}
    {f30 : Addr} {oc30 kV30 dc30 pm30 cd30 ct30 : Value} {od30 an30 : Option Addr} {sl30 : Array (Option Value)}
    {f31 : Addr} {oc31 kV31 dc31 pm31 cd31 ct31 : Value} {od31 an31 : Option Addr} {sl31 : Array (Option Value)}
    {f32 : Addr} {oc32 kV32 dc32 pm32 cd32 ct32 : Value} {od32 an32 : Option Addr} {sl32 : Array (Option Value)}
    {f33 : Addr} {oc33 kV33 dc33 pm33 cd33 ct33 : Value} {od33 an33 : Option Addr} {sl33 : Array (Option Value)}
    (a0 : PySem.W.nsIn K mainGlobals "common_divisor" = some (some (.ref f0))) (l0 : K.lookup f0 = some ⟨oc0, od0, .func (PySem.W.fnOf "common_divisor" "common_divisor" (defArgs s_common_divisor) (defBody s_common_divisor) (defScope s_common_divisor) .none kV0 dc0 pm0 an0 cd0 ct0), sl0⟩) (c0 : PySem.W.codeIn K cd0 "common_divisor" = true) (k0 : PySem.W.keepIn K (.ref f0) = true)
    (a1 : PySem.W.nsIn K mainGlobals "plus" = some (some (.ref f1))) (l1 : K.lookup f1 = some ⟨oc1, od1, .func (PySem.W.fnOf "plus" "plus" (defArgs s_plus) (defBody s_plus) (defScope s_plus) .none kV1 dc1 pm1 an1 cd1 ct1), sl1⟩) (c1 : PySem.W.codeIn K cd1 "plus" = true) (k1 : PySem.W.keepIn K (.ref f1) = true)
    (a2 : PySem.W.nsIn K mainGlobals "minus" = some (some (.ref f2))) (l2 : K.lookup f2 = some ⟨oc2, od2, .func (PySem.W.fnOf "minus" "minus" (defArgs s_minus) (defBody s_minus) (defScope s_minus) .none kV2 dc2 pm2 an2 cd2 ct2), sl2⟩) (c2 : PySem.W.codeIn K cd2 "minus" = true) (k2 : PySem.W.keepIn K (.ref f2) = true)
    (a3 : PySem.W.nsIn K mainGlobals "times" = some (some (.ref f3))) (l3 : K.lookup f3 = some ⟨oc3, od3, .func (PySem.W.fnOf "times" "times" (defArgs s_times) (defBody s_times) (defScope s_times) .none kV3 dc3 pm3 an3 cd3 ct3), sl3⟩) (c3 : PySem.W.codeIn K cd3 "times" = true) (k3 : PySem.W.keepIn K (.ref f3) = true)
    (a4 : PySem.W.nsIn K mainGlobals "under" = some (some (.ref f4))) (l4 : K.lookup f4 = some ⟨oc4, od4, .func (PySem.W.fnOf "under" "under" (defArgs s_under) (defBody s_under) (defScope s_under) .none kV4 dc4 pm4 an4 cd4 ct4), sl4⟩) (c4 : PySem.W.codeIn K cd4 "under" = true) (k4 : PySem.W.keepIn K (.ref f4) = true)
    (a5 : PySem.W.nsIn K mainGlobals "bring_at" = some (some (.ref f5))) (l5 : K.lookup f5 = some ⟨oc5, od5, .func (PySem.W.fnOf "bring_at" "bring_at" (defArgs s_bring_at) (defBody s_bring_at) (defScope s_bring_at) .none kV5 dc5 pm5 an5 cd5 ct5), sl5⟩) (c5 : PySem.W.codeIn K cd5 "bring_at" = true) (k5 : PySem.W.keepIn K (.ref f5) = true)
    (a6 : PySem.W.nsIn K mainGlobals "raise_share" = some (some (.ref f6))) (l6 : K.lookup f6 = some ⟨oc6, od6, .func (PySem.W.fnOf "raise_share" "raise_share" (defArgs s_raise_share) (defBody s_raise_share) (defScope s_raise_share) .none kV6 dc6 pm6 an6 cd6 ct6), sl6⟩) (c6 : PySem.W.codeIn K cd6 "raise_share" = true) (k6 : PySem.W.keepIn K (.ref f6) = true)
    (a7 : PySem.W.nsIn K mainGlobals "behind_step" = some (some (.ref f7))) (l7 : K.lookup f7 = some ⟨oc7, od7, .func (PySem.W.fnOf "behind_step" "behind_step" (defArgs s_behind_step) (defBody s_behind_step) (defScope s_behind_step) .none kV7 dc7 pm7 an7 cd7 ct7), sl7⟩) (c7 : PySem.W.codeIn K cd7 "behind_step" = true) (k7 : PySem.W.keepIn K (.ref f7) = true)
    (a8 : PySem.W.nsIn K mainGlobals "greatest_shares" = some (some (.ref f8))) (l8 : K.lookup f8 = some ⟨oc8, od8, .func (PySem.W.fnOf "greatest_shares" "greatest_shares" (defArgs s_greatest_shares) (defBody s_greatest_shares) (defScope s_greatest_shares) .none kV8 dc8 pm8 an8 cd8 ct8), sl8⟩) (c8 : PySem.W.codeIn K cd8 "greatest_shares" = true) (k8 : PySem.W.keepIn K (.ref f8) = true)
    (a9 : PySem.W.nsIn K mainGlobals "place_ahead" = some (some (.ref f9))) (l9 : K.lookup f9 = some ⟨oc9, od9, .func (PySem.W.fnOf "place_ahead" "place_ahead" (defArgs s_place_ahead) (defBody s_place_ahead) (defScope s_place_ahead) .none kV9 dc9 pm9 an9 cd9 ct9), sl9⟩) (c9 : PySem.W.codeIn K cd9 "place_ahead" = true) (k9 : PySem.W.keepIn K (.ref f9) = true)
    (a10 : PySem.W.nsIn K mainGlobals "greatest_way" = some (some (.ref f10))) (l10 : K.lookup f10 = some ⟨oc10, od10, .func (PySem.W.fnOf "greatest_way" "greatest_way" (defArgs s_greatest_way) (defBody s_greatest_way) (defScope s_greatest_way) .none kV10 dc10 pm10 an10 cd10 ct10), sl10⟩) (c10 : PySem.W.codeIn K cd10 "greatest_way" = true) (k10 : PySem.W.keepIn K (.ref f10) = true)
    (a11 : PySem.W.nsIn K mainGlobals "unmoved" = some (some (.ref f11))) (l11 : K.lookup f11 = some ⟨oc11, od11, .func (PySem.W.fnOf "unmoved" "unmoved" (defArgs s_unmoved) (defBody s_unmoved) (defScope s_unmoved) .none kV11 dc11 pm11 an11 cd11 ct11), sl11⟩) (c11 : PySem.W.codeIn K cd11 "unmoved" = true) (k11 : PySem.W.keepIn K (.ref f11) = true)
    (a12 : PySem.W.nsIn K mainGlobals "add_shares" = some (some (.ref f12))) (l12 : K.lookup f12 = some ⟨oc12, od12, .func (PySem.W.fnOf "add_shares" "add_shares" (defArgs s_add_shares) (defBody s_add_shares) (defScope s_add_shares) .none kV12 dc12 pm12 an12 cd12 ct12), sl12⟩) (c12 : PySem.W.codeIn K cd12 "add_shares" = true) (k12 : PySem.W.keepIn K (.ref f12) = true)
    (a13 : PySem.W.nsIn K mainGlobals "passed" = some (some (.ref f13))) (l13 : K.lookup f13 = some ⟨oc13, od13, .func (PySem.W.fnOf "passed" "passed" (defArgs s_passed) (defBody s_passed) (defScope s_passed) .none kV13 dc13 pm13 an13 cd13 ct13), sl13⟩) (c13 : PySem.W.codeIn K cd13 "passed" = true) (k13 : PySem.W.keepIn K (.ref f13) = true)
    (a14 : PySem.W.nsIn K mainGlobals "brought" = some (some (.ref f14))) (l14 : K.lookup f14 = some ⟨oc14, od14, .func (PySem.W.fnOf "brought" "brought" (defArgs s_brought) (defBody s_brought) (defScope s_brought) .none kV14 dc14 pm14 an14 cd14 ct14), sl14⟩) (c14 : PySem.W.codeIn K cd14 "brought" = true) (k14 : PySem.W.keepIn K (.ref f14) = true)
    (a15 : PySem.W.nsIn K mainGlobals "forth" = some (some (.ref f15))) (l15 : K.lookup f15 = some ⟨oc15, od15, .func (PySem.W.fnOf "forth" "forth" (defArgs s_forth) (defBody s_forth) (defScope s_forth) .none kV15 dc15 pm15 an15 cd15 ct15), sl15⟩) (c15 : PySem.W.codeIn K cd15 "forth" = true) (k15 : PySem.W.keepIn K (.ref f15) = true)
    (a16 : PySem.W.nsIn K mainGlobals "_law_cell_at" = some (some (.ref f16))) (l16 : K.lookup f16 = some ⟨oc16, od16, .func (PySem.W.fnOf "_law_cell_at" "_law_cell_at" (defArgs s__law_cell_at) (defBody s__law_cell_at) (defScope s__law_cell_at) .none kV16 dc16 pm16 an16 cd16 ct16), sl16⟩) (c16 : PySem.W.codeIn K cd16 "_law_cell_at" = true) (k16 : PySem.W.keepIn K (.ref f16) = true)
    (a17 : PySem.W.nsIn K mainGlobals "_law_mixed" = some (some (.ref f17))) (l17 : K.lookup f17 = some ⟨oc17, od17, .func (PySem.W.fnOf "_law_mixed" "_law_mixed" (defArgs s__law_mixed) (defBody s__law_mixed) (defScope s__law_mixed) .none kV17 dc17 pm17 an17 cd17 ct17), sl17⟩) (c17 : PySem.W.codeIn K cd17 "_law_mixed" = true) (k17 : PySem.W.keepIn K (.ref f17) = true)
    (a18 : PySem.W.nsIn K mainGlobals "_law_digits" = some (some (.ref f18))) (l18 : K.lookup f18 = some ⟨oc18, od18, .func (PySem.W.fnOf "_law_digits" "_law_digits" (defArgs s__law_digits) (defBody s__law_digits) (defScope s__law_digits) .none kV18 dc18 pm18 an18 cd18 ct18), sl18⟩) (c18 : PySem.W.codeIn K cd18 "_law_digits" = true) (k18 : PySem.W.keepIn K (.ref f18) = true)
    (a19 : PySem.W.nsIn K mainGlobals "_law_lowest" = some (some (.ref f19))) (l19 : K.lookup f19 = some ⟨oc19, od19, .func (PySem.W.fnOf "_law_lowest" "_law_lowest" (defArgs s__law_lowest) (defBody s__law_lowest) (defScope s__law_lowest) .none kV19 dc19 pm19 an19 cd19 ct19), sl19⟩) (c19 : PySem.W.codeIn K cd19 "_law_lowest" = true) (k19 : PySem.W.keepIn K (.ref f19) = true)
    (a20 : PySem.W.nsIn K mainGlobals "_law_product" = some (some (.ref f20))) (l20 : K.lookup f20 = some ⟨oc20, od20, .func (PySem.W.fnOf "_law_product" "_law_product" (defArgs s__law_product) (defBody s__law_product) (defScope s__law_product) .none kV20 dc20 pm20 an20 cd20 ct20), sl20⟩) (c20 : PySem.W.codeIn K cd20 "_law_product" = true) (k20 : PySem.W.keepIn K (.ref f20) = true)
    (a21 : PySem.W.nsIn K mainGlobals "_law_names" = some (some (.ref f21))) (l21 : K.lookup f21 = some ⟨oc21, od21, .func (PySem.W.fnOf "_law_names" "_law_names" (defArgs s__law_names) (defBody s__law_names) (defScope s__law_names) .none kV21 dc21 pm21 an21 cd21 ct21), sl21⟩) (c21 : PySem.W.codeIn K cd21 "_law_names" = true) (k21 : PySem.W.keepIn K (.ref f21) = true)
    (a22 : PySem.W.nsIn K mainGlobals "_law_steps" = some (some (.ref f22))) (l22 : K.lookup f22 = some ⟨oc22, od22, .func (PySem.W.fnOf "_law_steps" "_law_steps" (defArgs s__law_steps) (defBody s__law_steps) (defScope s__law_steps) .none kV22 dc22 pm22 an22 cd22 ct22), sl22⟩) (c22 : PySem.W.codeIn K cd22 "_law_steps" = true) (k22 : PySem.W.keepIn K (.ref f22) = true)
    (a23 : PySem.W.nsIn K mainGlobals "_law_all" = some (some (.ref f23))) (l23 : K.lookup f23 = some ⟨oc23, od23, .func (PySem.W.fnOf "_law_all" "_law_all" (defArgs s__law_all) (defBody s__law_all) (defScope s__law_all) .none kV23 dc23 pm23 an23 cd23 ct23), sl23⟩) (c23 : PySem.W.codeIn K cd23 "_law_all" = true) (k23 : PySem.W.keepIn K (.ref f23) = true)
    (a24 : PySem.W.nsIn K mainGlobals "_law_is_fraction" = some (some (.ref f24))) (l24 : K.lookup f24 = some ⟨oc24, od24, .func (PySem.W.fnOf "_law_is_fraction" "_law_is_fraction" (defArgs s__law_is_fraction) (defBody s__law_is_fraction) (defScope s__law_is_fraction) .none kV24 dc24 pm24 an24 cd24 ct24), sl24⟩) (c24 : PySem.W.codeIn K cd24 "_law_is_fraction" = true) (k24 : PySem.W.keepIn K (.ref f24) = true)
    (a25 : PySem.W.nsIn K mainGlobals "_law_some" = some (some (.ref f25))) (l25 : K.lookup f25 = some ⟨oc25, od25, .func (PySem.W.fnOf "_law_some" "_law_some" (defArgs s__law_some) (defBody s__law_some) (defScope s__law_some) .none kV25 dc25 pm25 an25 cd25 ct25), sl25⟩) (c25 : PySem.W.codeIn K cd25 "_law_some" = true) (k25 : PySem.W.keepIn K (.ref f25) = true)
    (a26 : PySem.W.nsIn K mainGlobals "_law_part" = some (some (.ref f26))) (l26 : K.lookup f26 = some ⟨oc26, od26, .func (PySem.W.fnOf "_law_part" "_law_part" (defArgs s__law_part) (defBody s__law_part) (defScope s__law_part) .none kV26 dc26 pm26 an26 cd26 ct26), sl26⟩) (c26 : PySem.W.codeIn K cd26 "_law_part" = true) (k26 : PySem.W.keepIn K (.ref f26) = true)
    (a27 : PySem.W.nsIn K mainGlobals "_law_walked" = some (some (.ref f27))) (l27 : K.lookup f27 = some ⟨oc27, od27, .func (PySem.W.fnOf "_law_walked" "_law_walked" (defArgs s__law_walked) (defBody s__law_walked) (defScope s__law_walked) .none kV27 dc27 pm27 an27 cd27 ct27), sl27⟩) (c27 : PySem.W.codeIn K cd27 "_law_walked" = true) (k27 : PySem.W.keepIn K (.ref f27) = true)
    (a28 : PySem.W.nsIn K mainGlobals "_law_drawn" = some (some (.ref f28))) (l28 : K.lookup f28 = some ⟨oc28, od28, .func (PySem.W.fnOf "_law_drawn" "_law_drawn" (defArgs s__law_drawn) (defBody s__law_drawn) (defScope s__law_drawn) .none kV28 dc28 pm28 an28 cd28 ct28), sl28⟩) (c28 : PySem.W.codeIn K cd28 "_law_drawn" = true) (k28 : PySem.W.keepIn K (.ref f28) = true)
    (a29 : PySem.W.nsIn K mainGlobals "_law_no_more" = some (some (.ref f29))) (l29 : K.lookup f29 = some ⟨oc29, od29, .func (PySem.W.fnOf "_law_no_more" "_law_no_more" (defArgs s__law_no_more) (defBody s__law_no_more) (defScope s__law_no_more) .none kV29 dc29 pm29 an29 cd29 ct29), sl29⟩) (c29 : PySem.W.codeIn K cd29 "_law_no_more" = true) (k29 : PySem.W.keepIn K (.ref f29) = true)
    (a30 : PySem.W.nsIn K mainGlobals "_law_below" = some (some (.ref f30))) (l30 : K.lookup f30 = some ⟨oc30, od30, .func (PySem.W.fnOf "_law_below" "_law_below" (defArgs s__law_below) (defBody s__law_below) (defScope s__law_below) .none kV30 dc30 pm30 an30 cd30 ct30), sl30⟩) (c30 : PySem.W.codeIn K cd30 "_law_below" = true) (k30 : PySem.W.keepIn K (.ref f30) = true)
    (a31 : PySem.W.nsIn K mainGlobals "_law_fits" = some (some (.ref f31))) (l31 : K.lookup f31 = some ⟨oc31, od31, .func (PySem.W.fnOf "_law_fits" "_law_fits" (defArgs s__law_fits) (defBody s__law_fits) (defScope s__law_fits) .none kV31 dc31 pm31 an31 cd31 ct31), sl31⟩) (c31 : PySem.W.codeIn K cd31 "_law_fits" = true) (k31 : PySem.W.keepIn K (.ref f31) = true)
    (a32 : PySem.W.nsIn K mainGlobals "_law_twice" = some (some (.ref f32))) (l32 : K.lookup f32 = some ⟨oc32, od32, .func (PySem.W.fnOf "_law_twice" "_law_twice" (defArgs s__law_twice) (defBody s__law_twice) (defScope s__law_twice) .none kV32 dc32 pm32 an32 cd32 ct32), sl32⟩) (c32 : PySem.W.codeIn K cd32 "_law_twice" = true) (k32 : PySem.W.keepIn K (.ref f32) = true)
    (a33 : PySem.W.nsIn K mainGlobals "law" = some (some (.ref f33))) (l33 : K.lookup f33 = some ⟨oc33, od33, .func (PySem.W.fnOf "law" "law" (defArgs s_law) (defBody s_law) (defScope s_law) .none kV33 dc33 pm33 an33 cd33 ct33), sl33⟩) (c33 : PySem.W.codeIn K cd33 "law" = true) (k33 : PySem.W.keepIn K (.ref f33) = true)
    (z_abs : PySem.W.nsIn K mainGlobals "abs" = some none)
    (z_bool : PySem.W.nsIn K mainGlobals "bool" = some none)
    (z_dict : PySem.W.nsIn K mainGlobals "dict" = some none)
    (z_enumerate : PySem.W.nsIn K mainGlobals "enumerate" = some none)
    (z_int : PySem.W.nsIn K mainGlobals "int" = some none)
    (z_isinstance : PySem.W.nsIn K mainGlobals "isinstance" = some none)
    (z_len : PySem.W.nsIn K mainGlobals "len" = some none)
    (z_list : PySem.W.nsIn K mainGlobals "list" = some none)
    (z_range : PySem.W.nsIn K mainGlobals "range" = some none)
    (z_reversed : PySem.W.nsIn K mainGlobals "reversed" = some none)
    (z_str : PySem.W.nsIn K mainGlobals "str" = some none)
    (z_tuple : PySem.W.nsIn K mainGlobals "tuple" = some none)
    : ∃ fd : FuncData, (∀ (s : Shared) (v : Value), BindsTo s fd ⟨[v], []⟩ [("_law_script", v)]) ∧ ∀ base : Heap, K.In base → base.Ns mainGlobals mg → FnOk l.prog w K mg base CX0 8 fa fd ["_law_script"] (spLaw K) := by
  have T : Txt K mg := ⟨PySem.W.mg_none_of X G z_abs, PySem.W.mg_none_of X G z_bool, PySem.W.mg_none_of X G z_dict, PySem.W.mg_none_of X G z_enumerate, PySem.W.mg_none_of X G z_int, PySem.W.mg_none_of X G z_isinstance, PySem.W.mg_none_of X G z_len, PySem.W.mg_none_of X G z_list, PySem.W.mg_none_of X G z_range, PySem.W.mg_none_of X G z_reversed, PySem.W.mg_none_of X G z_str, PySem.W.mg_none_of X G z_tuple⟩
  have D_common_divisor : DefAt K mg "common_divisor" s_common_divisor := DefAt.mk' X G a0 l0 c0 k0
  have D_plus : DefAt K mg "plus" s_plus := DefAt.mk' X G a1 l1 c1 k1
  have D_minus : DefAt K mg "minus" s_minus := DefAt.mk' X G a2 l2 c2 k2
  have D_times : DefAt K mg "times" s_times := DefAt.mk' X G a3 l3 c3 k3
  have D_under : DefAt K mg "under" s_under := DefAt.mk' X G a4 l4 c4 k4
  have D_bring_at : DefAt K mg "bring_at" s_bring_at := DefAt.mk' X G a5 l5 c5 k5
  have D_raise_share : DefAt K mg "raise_share" s_raise_share := DefAt.mk' X G a6 l6 c6 k6
  have D_behind_step : DefAt K mg "behind_step" s_behind_step := DefAt.mk' X G a7 l7 c7 k7
  have D_greatest_shares : DefAt K mg "greatest_shares" s_greatest_shares := DefAt.mk' X G a8 l8 c8 k8
  have D_place_ahead : DefAt K mg "place_ahead" s_place_ahead := DefAt.mk' X G a9 l9 c9 k9
  have D_greatest_way : DefAt K mg "greatest_way" s_greatest_way := DefAt.mk' X G a10 l10 c10 k10
  have D_unmoved : DefAt K mg "unmoved" s_unmoved := DefAt.mk' X G a11 l11 c11 k11
  have D_add_shares : DefAt K mg "add_shares" s_add_shares := DefAt.mk' X G a12 l12 c12 k12
  have D_passed : DefAt K mg "passed" s_passed := DefAt.mk' X G a13 l13 c13 k13
  have D_brought : DefAt K mg "brought" s_brought := DefAt.mk' X G a14 l14 c14 k14
  have D_forth : DefAt K mg "forth" s_forth := DefAt.mk' X G a15 l15 c15 k15
  have D__law_cell_at : DefAt K mg "_law_cell_at" s__law_cell_at := DefAt.mk' X G a16 l16 c16 k16
  have D__law_mixed : DefAt K mg "_law_mixed" s__law_mixed := DefAt.mk' X G a17 l17 c17 k17
  have D__law_digits : DefAt K mg "_law_digits" s__law_digits := DefAt.mk' X G a18 l18 c18 k18
  have D__law_lowest : DefAt K mg "_law_lowest" s__law_lowest := DefAt.mk' X G a19 l19 c19 k19
  have D__law_product : DefAt K mg "_law_product" s__law_product := DefAt.mk' X G a20 l20 c20 k20
  have D__law_names : DefAt K mg "_law_names" s__law_names := DefAt.mk' X G a21 l21 c21 k21
  have D__law_steps : DefAt K mg "_law_steps" s__law_steps := DefAt.mk' X G a22 l22 c22 k22
  have D__law_all : DefAt K mg "_law_all" s__law_all := DefAt.mk' X G a23 l23 c23 k23
  have D__law_is_fraction : DefAt K mg "_law_is_fraction" s__law_is_fraction := DefAt.mk' X G a24 l24 c24 k24
  have D__law_some : DefAt K mg "_law_some" s__law_some := DefAt.mk' X G a25 l25 c25 k25
  have D__law_part : DefAt K mg "_law_part" s__law_part := DefAt.mk' X G a26 l26 c26 k26
  have D__law_walked : DefAt K mg "_law_walked" s__law_walked := DefAt.mk' X G a27 l27 c27 k27
  have D__law_drawn : DefAt K mg "_law_drawn" s__law_drawn := DefAt.mk' X G a28 l28 c28 k28
  have D__law_no_more : DefAt K mg "_law_no_more" s__law_no_more := DefAt.mk' X G a29 l29 c29 k29
  have D__law_below : DefAt K mg "_law_below" s__law_below := DefAt.mk' X G a30 l30 c30 k30
  have D__law_fits : DefAt K mg "_law_fits" s__law_fits := DefAt.mk' X G a31 l31 c31 k31
  have D__law_twice : DefAt K mg "_law_twice" s__law_twice := DefAt.mk' X G a32 l32 c32 k32
  have e := hfa.symm.trans (PySem.W.mg_of X G a33)
  cases e
  refine ⟨PySem.W.fnOf "law" "law" (defArgs s_law) (defBody s_law) (defScope s_law) .none kV33 dc33 pm33 an33 cd33 ct33, fun s v => .of_eq rfl, fun base _ _ => ?_⟩
  have G_common_divisor := ok_common_divisor (P := l.prog) (w := w) (base := base) D_common_divisor T 
  have G_plus := ok_plus (P := l.prog) (w := w) (base := base) D_plus T G_common_divisor
  have G_minus := ok_minus (P := l.prog) (w := w) (base := base) D_minus T G_plus
  have G_times := ok_times (P := l.prog) (w := w) (base := base) D_times T G_common_divisor
  have G_under := ok_under (P := l.prog) (w := w) (base := base) D_under T 
  have G_bring_at := ok_bring_at (P := l.prog) (w := w) (base := base) D_bring_at T 
  have G_raise_share := ok_raise_share (P := l.prog) (w := w) (base := base) D_raise_share T G_under
  have G_behind_step := ok_behind_step (P := l.prog) (w := w) (base := base) D_behind_step T G_raise_share G_times G_minus
  have G_greatest_shares := ok_greatest_shares (P := l.prog) (w := w) (base := base) D_greatest_shares T G_bring_at G_behind_step
  have G_place_ahead := ok_place_ahead (P := l.prog) (w := w) (base := base) D_place_ahead T G_times
  have G_greatest_way := ok_greatest_way (P := l.prog) (w := w) (base := base) D_greatest_way T G_greatest_shares G_bring_at G_place_ahead
  have G_unmoved := ok_unmoved (P := l.prog) (w := w) (base := base) D_unmoved T 
  have G_add_shares := ok_add_shares (P := l.prog) (w := w) (base := base) D_add_shares T G_plus G_times
  have G_passed := ok_passed (P := l.prog) (w := w) (base := base) D_passed T G_add_shares G_minus
  have G_brought := ok_brought (P := l.prog) (w := w) (base := base) D_brought T G_unmoved G_passed
  have G_forth := ok_forth (P := l.prog) (w := w) (base := base) D_forth T G_brought
  have G__law_cell_at := ok__law_cell_at (P := l.prog) (w := w) (base := base) D__law_cell_at T 
  have G__law_mixed := ok__law_mixed (P := l.prog) (w := w) (base := base) D__law_mixed T 
  have G__law_digits := ok__law_digits (P := l.prog) (w := w) (base := base) D__law_digits T 
  have G__law_lowest := ok__law_lowest (P := l.prog) (w := w) (base := base) D__law_lowest T 
  have G__law_product := ok__law_product (P := l.prog) (w := w) (base := base) D__law_product T G__law_lowest
  have G__law_names := ok__law_names (P := l.prog) (w := w) (base := base) D__law_names T G__law_digits
  have G__law_steps := ok__law_steps (P := l.prog) (w := w) (base := base) D__law_steps T G__law_mixed G__law_lowest
  have G__law_all := ok__law_all (P := l.prog) (w := w) (base := base) D__law_all T G__law_mixed G__law_cell_at G__law_names G__law_steps
  have G__law_is_fraction := ok__law_is_fraction (P := l.prog) (w := w) (base := base) D__law_is_fraction T 
  have G__law_some := ok__law_some (P := l.prog) (w := w) (base := base) D__law_some T 
  have G__law_part := ok__law_part (P := l.prog) (w := w) (base := base) D__law_part T 
  have G__law_walked := ok__law_walked (P := l.prog) (w := w) (base := base) D__law_walked T G__law_product G__law_part
  have G__law_drawn := ok__law_drawn (P := l.prog) (w := w) (base := base) D__law_drawn T 
  have G__law_no_more := ok__law_no_more (P := l.prog) (w := w) (base := base) D__law_no_more T 
  have G__law_below := ok__law_below (P := l.prog) (w := w) (base := base) D__law_below T G__law_product G__law_part G__law_no_more
  have G__law_fits := ok__law_fits (P := l.prog) (w := w) (base := base) D__law_fits T G__law_is_fraction G__law_walked
  have G__law_twice := ok__law_twice (P := l.prog) (w := w) (base := base) D__law_twice T G__law_walked G__law_no_more G_greatest_way G__law_fits
  exact ok_law (fun_mk (st := s_law) l33 c33 k33) T G__law_all G__law_some G__law_cell_at G_forth G_greatest_shares G__law_drawn G__law_mixed G__law_below G_greatest_way G__law_fits G__law_twice
end T34
open PySem PySem.W PyProof.Rows
set_option maxRecDepth 100000 in
set_option maxHeartbeats 0 in
theorem PySem.Challenge.cw_tiercask_k34_whole_greatest_way_holds : PySem.Challenge.rw_tiercask_k34_whole_greatest_way.Holds := by
  w_on; o_law; k_head; (case hw => w_witness2)
  k_fill
  refine L2.walk_ofK (l := PySem.Challenge.rw_tiercask_k34_whole_greatest_way) (n := 63) (k := 8) (x := "_law_script") (CX := L2.CX0) (sp := Tc.spLaw) rfl (by decide) rfl ⟨rfl, by decide, by decide⟩ (fun w h Y => PySem.W.kIn_of Y) ?F ?S ?C
  case F =>
    intro w mg fa h KX G hmg
    refine' T34.all_mk KX G hmg ?a0 ?l0 ?c0 ?k0 ?a1 ?l1 ?c1 ?k1 ?a2 ?l2 ?c2 ?k2 ?a3 ?l3 ?c3 ?k3 ?a4 ?l4 ?c4 ?k4 ?a5 ?l5 ?c5 ?k5 ?a6 ?l6 ?c6 ?k6 ?a7 ?l7 ?c7 ?k7 ?a8 ?l8 ?c8 ?k8 ?a9 ?l9 ?c9 ?k9 ?a10 ?l10 ?c10 ?k10 ?a11 ?l11 ?c11 ?k11 ?a12 ?l12 ?c12 ?k12 ?a13 ?l13 ?c13 ?k13 ?a14 ?l14 ?c14 ?k14 ?a15 ?l15 ?c15 ?k15 ?a16 ?l16 ?c16 ?k16 ?a17 ?l17 ?c17 ?k17 ?a18 ?l18 ?c18 ?k18 ?a19 ?l19 ?c19 ?k19 ?a20 ?l20 ?c20 ?k20 ?a21 ?l21 ?c21 ?k21 ?a22 ?l22 ?c22 ?k22 ?a23 ?l23 ?c23 ?k23 ?a24 ?l24 ?c24 ?k24 ?a25 ?l25 ?c25 ?k25 ?a26 ?l26 ?c26 ?k26 ?a27 ?l27 ?c27 ?k27 ?a28 ?l28 ?c28 ?k28 ?a29 ?l29 ?c29 ?k29 ?a30 ?l30 ?c30 ?k30 ?a31 ?l31 ?c31 ?k31 ?a32 ?l32 ?c32 ?k32 ?a33 ?l33 ?c33 ?k33 ?z_abs ?z_bool ?z_dict ?z_enumerate ?z_int ?z_isinstance ?z_len ?z_list ?z_range ?z_reversed ?z_str ?z_tuple
    (case a0 => k_is); (case l0 => k_is); (case c0 => k_is); (case k0 => k_is); (case a1 => k_is); (case l1 => k_is); (case c1 => k_is); (case k1 => k_is)
    (case a2 => k_is); (case l2 => k_is); (case c2 => k_is); (case k2 => k_is); (case a3 => k_is); (case l3 => k_is); (case c3 => k_is); (case k3 => k_is)
    (case a4 => k_is); (case l4 => k_is); (case c4 => k_is); (case k4 => k_is); (case a5 => k_is); (case l5 => k_is); (case c5 => k_is); (case k5 => k_is)
    (case a6 => k_is); (case l6 => k_is); (case c6 => k_is); (case k6 => k_is); (case a7 => k_is); (case l7 => k_is); (case c7 => k_is); (case k7 => k_is)
    (case a8 => k_is); (case l8 => k_is); (case c8 => k_is); (case k8 => k_is); (case a9 => k_is); (case l9 => k_is); (case c9 => k_is); (case k9 => k_is)
    (case a10 => k_is); (case l10 => k_is); (case c10 => k_is); (case k10 => k_is); (case a11 => k_is); (case l11 => k_is); (case c11 => k_is); (case k11 => k_is)
    (case a12 => k_is); (case l12 => k_is); (case c12 => k_is); (case k12 => k_is); (case a13 => k_is); (case l13 => k_is); (case c13 => k_is); (case k13 => k_is)
    (case a14 => k_is); (case l14 => k_is); (case c14 => k_is); (case k14 => k_is); (case a15 => k_is); (case l15 => k_is); (case c15 => k_is); (case k15 => k_is)
    (case a16 => k_is); (case l16 => k_is); (case c16 => k_is); (case k16 => k_is); (case a17 => k_is); (case l17 => k_is); (case c17 => k_is); (case k17 => k_is)
    (case a18 => k_is); (case l18 => k_is); (case c18 => k_is); (case k18 => k_is); (case a19 => k_is); (case l19 => k_is); (case c19 => k_is); (case k19 => k_is)
    (case a20 => k_is); (case l20 => k_is); (case c20 => k_is); (case k20 => k_is); (case a21 => k_is); (case l21 => k_is); (case c21 => k_is); (case k21 => k_is)
    (case a22 => k_is); (case l22 => k_is); (case c22 => k_is); (case k22 => k_is); (case a23 => k_is); (case l23 => k_is); (case c23 => k_is); (case k23 => k_is)
    (case a24 => k_is); (case l24 => k_is); (case c24 => k_is); (case k24 => k_is); (case a25 => k_is); (case l25 => k_is); (case c25 => k_is); (case k25 => k_is)
    (case a26 => k_is); (case l26 => k_is); (case c26 => k_is); (case k26 => k_is); (case a27 => k_is); (case l27 => k_is); (case c27 => k_is); (case k27 => k_is)
    (case a28 => k_is); (case l28 => k_is); (case c28 => k_is); (case k28 => k_is); (case a29 => k_is); (case l29 => k_is); (case c29 => k_is); (case k29 => k_is)
    (case a30 => k_is); (case l30 => k_is); (case c30 => k_is); (case k30 => k_is); (case a31 => k_is); (case l31 => k_is); (case c31 => k_is); (case k31 => k_is)
    (case a32 => k_is); (case l32 => k_is); (case c32 => k_is); (case k32 => k_is); (case a33 => k_is); (case l33 => k_is); (case c33 => k_is); (case k33 => k_is)
    (case z_abs => k_is); (case z_bool => k_is); (case z_dict => k_is); (case z_enumerate => k_is); (case z_int => k_is); (case z_isinstance => k_is); (case z_len => k_is); (case z_list => k_is)
    (case z_range => k_is); (case z_reversed => k_is); (case z_str => k_is); (case z_tuple => k_is)
  case S => exact fun K H a ns hl hO hS => ⟨a, ns, rfl, hS, hl, fun _ => rfl⟩
  case C => exact fun H s e s' z => z

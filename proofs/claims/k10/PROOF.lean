import PyProof.Rows.All
import Wide.All
import OpenK.AllK
import Wide.FinOn
import Lean
import PyProof.EqAt
import PyProof.EqKinds
import PyProof.TupleCall
import PySem.Challenge.RW_tiercask_k10_counted_ahead
set_option Elab.async false
set_option linter.all false
set_option maxRecDepth 100000
set_option genSizeOf false
set_option maxHeartbeats 4000000
set_option exponentiation.threshold 100000
/-! THE HAND LAYER, for ints, bools, texts, own classes, LISTS and tuples (index, slices, in, append, pop ..), calls, loops. Paste it whole ahead of your own text; what your proof does not reach may be deleted. -/
namespace L2
open PySem PySem.Spec PyProof.Rows

noncomputable abbrev Key := Sum Int Str
noncomputable def keyIs : Key → Value → Bool
  | .inl k, v => Value.isInt k v
  | .inr x, v => Value.isStrOf x v
noncomputable def keyH (w : World) : Key → Int
  | .inl k => hashInt k
  | .inr x => hashStr w x
theorem keyIs_shape : ∀ {k : Key} {v : Value}, keyIs k v = true → (∃ i t, k = Sum.inl i ∧ v = Value.int i t) ∨ (∃ x t, k = Sum.inr x ∧ v = Value.str x t)
  | .inl i, v, h => by
    obtain ⟨t, e⟩ := Value.isInt_shape (k := i) (v := v) h
    exact .inl ⟨i, t, rfl, e⟩
  | .inr x, v, h => by
    obtain ⟨t, e⟩ := Value.isStrOf_shape (x := x) (v := v) h
    exact .inr ⟨x, t, rfl, e⟩
theorem keyIs_int (i : Int) (t : Tok) : keyIs (.inl i) (.int i t) = true := by simp [keyIs, Value.isInt]
theorem keyIs_str (x : Str) (t : Tok) : keyIs (.inr x) (.str x t) = true := by simp [keyIs, Value.isStrOf]
theorem key_ll (a b : Int) : decide ((Sum.inl a : Key) = Sum.inl b) = (a == b) := by
  by_cases e : a = b
  · subst e; simp
  · have h : ¬ (Sum.inl a : Key) = Sum.inl b := fun q => e (Sum.inl.inj q)
    rw [decide_eq_false h]
    exact (beq_eq_false_iff_ne.mpr e).symm
theorem key_rr (a b : Str) : decide ((Sum.inr a : Key) = Sum.inr b) = decide (a = b) := by
  by_cases e : a = b
  · subst e; simp
  · have h : ¬ (Sum.inr a : Key) = Sum.inr b := fun q => e (Sum.inr.inj q)
    rw [decide_eq_false h, decide_eq_false e]
theorem key_lr (a : Int) (b : Str) : decide ((Sum.inl a : Key) = Sum.inr b) = false := decide_eq_false (fun q => nomatch q)
theorem key_rl (a : Str) (b : Int) : decide ((Sum.inr a : Key) = Sum.inl b) = false := decide_eq_false (fun q => nomatch q)

noncomputable def mixKind (prog : Program) (w : World) : PySem.KeyKind prog w Key where
  is := keyIs
  hash := keyH w
  inj := fun v a b ha hb => by
    rcases keyIs_shape ha with ⟨i, t, rfl, rfl⟩ | ⟨x, t, rfl, rfl⟩
    · rcases keyIs_shape hb with ⟨j, u, rfl, e⟩ | ⟨y, u, rfl, e⟩
      · injection e with e1 _; rw [e1]
      · exact nomatch e
    · rcases keyIs_shape hb with ⟨j, u, rfl, e⟩ | ⟨y, u, rfl, e⟩
      · exact nomatch e
      · injection e with e1 _; rw [e1]
  byValue := fun k v h => by
    rcases keyIs_shape h with ⟨i, t, rfl, rfl⟩ | ⟨x, t, rfl, rfl⟩ <;> rfl
  pyHash := fun hv h => by
    rcases keyIs_shape hv with ⟨i, t, rfl, rfl⟩ | ⟨x, t, rfl, rfl⟩
    · exact wpAny_pyHash_int h
    · exact wpAny_pyHash_str h
  eqBool := fun hu hv h => by
    rcases keyIs_shape hu with ⟨i, t, rfl, rfl⟩ | ⟨x, t, rfl, rfl⟩
    · rcases keyIs_shape hv with ⟨j, u, rfl, rfl⟩ | ⟨y, u, rfl, rfl⟩
      · rw [key_ll] at h; exact wpAny_eqBool_int h
      · rw [key_lr] at h; exact SeqAt.EqAt.int_str i t y u _ _ _ _ h
    · rcases keyIs_shape hv with ⟨j, u, rfl, rfl⟩ | ⟨y, u, rfl, rfl⟩
      · rw [key_rl] at h; exact SeqAt.EqAt.str_int x t j u _ _ _ _ h
      · rw [key_rr] at h; exact wpAny_eqBool_str h
  «strs» := fun k x t v h => by
    rcases keyIs_shape h with ⟨i, u, rfl, e⟩ | ⟨y, u, rfl, e⟩
    · exact nomatch e
    · injection e with e1 _
      subst e1
      cases v <;> rfl

theorem mixKind_int (prog : Program) (w : World) (i : Int) (t : Tok) : (mixKind prog w).is (.inl i) (.int i t) = true := keyIs_int i t
theorem mixKind_str (prog : Program) (w : World) (x : Str) (t : Tok) : (mixKind prog w).is (.inr x) (.str x t) = true := keyIs_str x t
end L2

namespace L2
open PySem PySem.Spec PyProof.Rows

inductive V where
  | non | bl (b : Bool) | int (i : Int) | str (x : Str) | byt (b : Array UInt8) | flt (b : UInt64) | ref (a : Addr) | ty (n : String)
  deriving DecidableEq

noncomputable def RelV : V → Value → Prop
  | .non, u => u = Value.none
  | .bl b, u => u = Value.bool b
  | .int i, u => ∃ t, u = Value.int i t
  | .str x, u => ∃ t, u = Value.str x t
  | .byt b, u => ∃ t, u = Value.bytes b t
  | .flt b, u => ∃ t, u = Value.float b t
  | .ref a, u => u = Value.ref a
  | .ty n, u => u = Value.type n

noncomputable abbrev Vals : List V → List Value → Prop := Paired RelV
theorem Vals.length {xs : List V} {us : List Value} (r : Vals xs us) : xs.length = us.length := Paired.length r
theorem Vals.get : ∀ {xs : List V} {us : List Value} {i : Nat} {x : V}, Vals xs us → xs[i]? = some x → ∃ u, us[i]? = some u ∧ RelV x u
  | _, _, _, _, .nil, e => by simp at e
  | _, _, 0, _, .cons r _, e => by simp at e; subst e; exact ⟨_, rfl, r⟩
  | _, _, i + 1, x, .cons _ t, e => by
    obtain ⟨u, h1, h2⟩ := Vals.get (i := i) (x := x) t (by simpa using e)
    exact ⟨u, by simpa using h1, h2⟩
theorem Vals.append : ∀ {xs ys : List V} {us ws : List Value}, Vals xs us → Vals ys ws → Vals (xs ++ ys) (us ++ ws)
  | _, _, _, _, .nil, s => s
  | _, _, _, _, .cons r t, s => .cons r (Vals.append t s)
theorem Vals.take : ∀ {xs : List V} {us : List Value} (n : Nat), Vals xs us → Vals (xs.take n) (us.take n)
  | _, _, 0, _ => .nil
  | _, _, _ + 1, .nil => .nil
  | _, _, n + 1, .cons r t => .cons r (Vals.take n t)
theorem Vals.drop : ∀ {xs : List V} {us : List Value} (n : Nat), Vals xs us → Vals (xs.drop n) (us.drop n)
  | _, _, 0, r => r
  | _, _, _ + 1, .nil => .nil
  | _, _, n + 1, .cons _ t => Vals.drop n t
noncomputable def RelO : Option V → Option Value → Prop
  | some v, some u => RelV v u
  | none, none => True
  | _, _ => False
noncomputable def KV {κ : Type} : List (κ × V) → List (κ × Value) → Prop := Paired fun (p : κ × V) (q : κ × Value) => p.1 = q.1 ∧ RelV p.2 q.2

noncomputable def kV : Key → V
  | .inl i => .int i
  | .inr x => .str x

inductive HO where
  | lst (xs : List V)
  | tup (xs : List V)
  | dK (kvs : List (Key × V)) | dT (kvs : List (List Key × V))
  | set (S : Int → Bool) (n : Nat)
  | ins (C dx : Addr) (fs : List (Str × V))
  | own (x : Addr)
  | xd (fs : List (Str × V))
  | met (f x : Addr)
  | rng (lo hi : Int)
  | frz (o : Obj) (u : HO)
  | tbl (ps : Array Value)
  | ext (φ : Heap → Prop)

noncomputable abbrev Hp := Addr → Option HO
noncomputable def upd (H : Hp) (a : Addr) (o : HO) : Hp := fun b => if b = a then some o else H b
theorem upd_same {H : Hp} {a : Addr} {o : HO} : upd H a o a = some o := by unfold upd; rw [if_pos rfl]
theorem upd_ne {H : Hp} {a b : Addr} {o : HO} (h : b ≠ a) : upd H a o b = H b := by unfold upd; rw [if_neg h]
theorem ne_of {H : Hp} {a b : Addr} {o u : HO} (h : H a = some o) (h' : H b = some u) (d : o ≠ u) : a ≠ b := by
  intro e; subst e; rw [h] at h'; exact d (Option.some.inj h')
theorem ne_of_none {H : Hp} {a b : Addr} {o : HO} (h : H a = some o) (h' : H b = none) : a ≠ b := by
  intro e; subst e; rw [h] at h'; cases h'

section
variable (P : Program) (w : World)
noncomputable def ObjOk (H : Hp) (h : Heap) (a : Addr) : HO → Prop
  | .lst xs => xs.length ≤ sizeLine ∧ ∃ (its : List Value) (n : Nat), Vals xs its ∧ h.get? a = some { cls := .type "list", data := .seq its.toArray n }
  | .tup xs => xs.length ≤ sizeLine ∧ ∃ its : List Value, Vals xs its ∧ IsTup h a its.toArray
  | .dK kvs => kvs.length ≤ sizeLine ∧ (a == sysModules) = false ∧ ∃ vs, KV kvs vs ∧ h.DictOf (mixKind P w) a vs
  | .dT kvs => kvs.length ≤ sizeLine ∧ (a == sysModules) = false ∧ ∃ xs : List (List Key × Addr × Value),
      Paired (fun (p : List Key × V) (q : List Key × Addr × Value) => p.1 = q.1 ∧ H q.2.1 = some (.tup (p.1.map kV)) ∧ RelV p.2 q.2.2) kvs xs ∧
      ∃ o es ep, h.get? a = some o ∧ o.ExactDict ∧ o.data = .dict es ep ∧ es.toList = xs.map (entryOfKey (tupleKind (mixKind P w))) ∧ (xs.map (·.1)).Nodup
  | .set S n => h.SetOf (intKind P w) a S n
  | .ins C dx fs => H dx = some (.own a) ∧ fs.length ≤ 1000 ∧ dx ≠ a ∧ h.get? a = some (PySem.W.instObj C dx) ∧
      ∃ mA, h.Ns1 dx mA ∧ (∀ f, RelO (fs.lookup f) (mA f)) ∧ PySem.Within mA (fs.map (·.1))
  | .own _ => ∃ o, h.get? a = some o
  | .xd fs => ∃ mA, h.Ns1 a mA ∧ ∀ f, RelO (fs.lookup f) (mA f)
  | .rng lo hi => ∃ t u v, h.get? a = some { cls := .type "range", data := .fields #[.int lo t, .int hi u, .int 1 v] }
  | .frz o u => h.get? a = some o ∧ ObjOk H h a u
  | .tbl ps => h.get? a = some { cls := .none, data := .fields ps }
  | .met f x => h.get? a = some (PySem.W.methodObj (.ref f) (.ref x))
  | .ext φ => φ h ∧ (∃ o, h.get? a = some o) ∧ ∀ h1 h2 : Heap, φ h1 → (∀ o, h1.get? a = some o → h2.get? a = some o) → φ h2
noncomputable def HOk (H : Hp) (h : Heap) : Prop := ∀ a o, H a = some o → ObjOk P w H h a o
end

section
variable {P : Program} {w : World} {H H' : Hp} {h h' : Heap} {a : Addr} {o : HO}
theorem ObjOk.lt (x : ObjOk P w H h a o) : a < h.objs.size := by
  cases o with
  | lst xs => obtain ⟨_, _, _, _, e⟩ := x; exact Heap.lt_size e
  | tup xs => obtain ⟨_, _, _, p⟩ := x; exact p.lt
  | dK kvs => obtain ⟨_, _, _, _, o, _, _, e, _⟩ := x; exact Heap.lt_size e
  | dT kvs => obtain ⟨_, _, _, _, o, _, _, e, _⟩ := x; exact Heap.lt_size e
  | set S n => obtain ⟨o, _, _, _, e, _⟩ := x; exact Heap.lt_size e
  | ins C dx fs => obtain ⟨_, _, _, e, _⟩ := x; exact Heap.lt_size e
  | own y => obtain ⟨_, e⟩ := x; exact Heap.lt_size e
  | xd fs => obtain ⟨_, ⟨_, _, _, e, _⟩, _⟩ := x; exact Heap.lt_size e
  | rng lo hi => obtain ⟨_, _, _, e⟩ := x; exact Heap.lt_size e
  | frz ob u => obtain ⟨e, _⟩ := x; exact Heap.lt_size e
  | tbl ps => exact Heap.lt_size (show h.get? a = some _ from x)
  | met f y => exact Heap.lt_size (show h.get? a = some _ from x)
  | ext φ => obtain ⟨_, ⟨_, e⟩, _⟩ := x; exact Heap.lt_size e
theorem Paired.mapP {α β : Type} {F G : α → β → Prop} : ∀ {l₁ : List α} {l₂ : List β}, Paired F l₁ l₂ → (∀ a b, F a b → G a b) → Paired G l₁ l₂
  | _, _, .nil, _ => .nil
  | _, _, .cons r t, f => .cons (f _ _ r) (Paired.mapP t f)
theorem ObjOk.stay (x : ObjOk P w H h a o) (k : ∀ b u, (b = a ∨ H b = some (.own a)) → h.get? b = some u → h'.get? b = some u)
    (ho : ∀ b, H b = some (.own a) → H' b = some (.own a)) (ht : ∀ b xs, H b = some (.tup xs) → H' b = some (.tup xs)) : ObjOk P w H' h' a o := by
  induction o with
  | lst xs => obtain ⟨z, its, n, r, e⟩ := x; exact ⟨z, its, n, r, k _ _ (.inl rfl) e⟩
  | tup xs => obtain ⟨z, its, r, ob, e, c⟩ := x; exact ⟨z, its, r, ob, k _ _ (.inl rfl) e, c⟩
  | dK kvs => obtain ⟨z, y, vs, r, ob, es, ep, e, c⟩ := x; exact ⟨z, y, vs, r, ob, es, ep, k _ _ (.inl rfl) e, c⟩
  | dT kvs =>
    obtain ⟨z, y, xs, r, ob, es, ep, e, c⟩ := x
    exact ⟨z, y, xs, Paired.mapP r fun p q z => ⟨z.1, ht _ _ z.2.1, z.2.2⟩, ob, es, ep, k _ _ (.inl rfl) e, c⟩
  | set S n => obtain ⟨ob, es, ep, t, e, c⟩ := x; exact ⟨ob, es, ep, t, k _ _ (.inl rfl) e, c⟩
  | ins C dx fs =>
    obtain ⟨d, z, ne, e, mA, ⟨od, es, ep, e2, c⟩, r⟩ := x
    exact ⟨ho _ d, z, ne, k _ _ (.inl rfl) e, mA, ⟨od, es, ep, k _ _ (.inr d) e2, c⟩, r⟩
  | own y => obtain ⟨ob, e⟩ := x; exact ⟨ob, k _ _ (.inl rfl) e⟩
  | xd fs => obtain ⟨mA, ⟨od, es, ep, e, c⟩, r⟩ := x; exact ⟨mA, ⟨od, es, ep, k _ _ (.inl rfl) e, c⟩, r⟩
  | rng lo hi => obtain ⟨t, u, v, e⟩ := x; exact ⟨t, u, v, k _ _ (.inl rfl) e⟩
  | frz ob u ih => obtain ⟨e, q⟩ := x; exact ⟨k _ _ (.inl rfl) e, ih q⟩
  | tbl ps =>
    have e : h.get? a = some { cls := .none, data := .fields ps } := x
    show h'.get? a = some { cls := .none, data := .fields ps }
    exact k a _ (.inl rfl) e
  | met f y =>
    have e : h.get? a = some (PySem.W.methodObj (.ref f) (.ref y)) := x
    show h'.get? a = some (PySem.W.methodObj (.ref f) (.ref y))
    exact k a _ (.inl rfl) e
  | ext φ => obtain ⟨p, ⟨o, e⟩, st⟩ := x; exact ⟨st _ _ p fun o q => k _ _ (.inl rfl) q, ⟨o, k _ _ (.inl rfl) e⟩, st⟩
theorem HOk.lt (x : HOk P w H h) (e : H a = some o) : a < h.objs.size := (x a o e).lt
theorem HOk.fresh (x : HOk P w H h) (e : h.objs.size ≤ a) : H a = none := by
  cases q : H a with
  | none => rfl
  | some u => exact absurd (Nat.lt_of_lt_of_le (x.lt q) e) (Nat.lt_irrefl _)
theorem HOk.kept (x : HOk P w H h) (k : ∀ b u, h.get? b = some u → h'.get? b = some u) : HOk P w H h' := fun a o e =>
  (x a o e).stay (fun b u _ q => k b u q) (fun _ q => q) fun _ _ q => q
theorem HOk.laid (x : HOk P w H h) (k : ∀ b u, h.get? b = some u → h'.get? b = some u) (hp : h.objs.size ≤ a) (new : ObjOk P w (upd H a o) h' a o) : HOk P w (upd H a o) h' := fun b u e => by
  have hn := x.fresh hp
  by_cases hb : b = a
  · subst hb; rw [upd_same] at e; cases e; exact new
  · rw [upd_ne hb] at e
    exact (x b u e).stay (fun c v _ q => k c v q) (fun c q => by rw [upd_ne (ne_of_none q hn)]; exact q) fun c xs q => by rw [upd_ne (ne_of_none q hn)]; exact q
end

noncomputable def Rd (H : Hp) (a : Addr) (u : HO) : Prop := H a = some u ∨ ∃ o, H a = some (.frz o u)
theorem Rd.ok {P : Program} {w : World} {H : Hp} {h : Heap} {a : Addr} {u : HO} (r : Rd H a u) (x : HOk P w H h) : ObjOk P w H h a u := by
  rcases r with r | ⟨o, r⟩
  · exact x a u r
  · obtain ⟨_, q⟩ := x a _ r
    exact q
noncomputable def Mut : Option HO → Prop
  | some (.lst _) => True
  | some (.dK _) => True
  | some (.dT _) => True
  | some (.set _ _) => True
  | some (.ins _ _ _) => True
  | some (.ext _) => True
  | _ => False
section
variable {P : Program} {w : World} {H : Hp} {h h' : Heap} {x e : Addr} {o' : HO}
theorem HOk.write (ok : HOk P w H h) (mu : Mut (H x)) (he : e = x ∨ H e = some (.own x)) (k : ∀ b u, b ≠ e → h.get? b = some u → h'.get? b = some u) (heo : ∃ u, h'.get? e = some u)
    (new : ObjOk P w (upd H x o') h' x o') : HOk P w (upd H x o') h' := fun b u q => by
  have nown : ∀ c y, H c = some (.own y) → c ≠ x := fun c y r z => by subst z; rw [r] at mu; exact mu
  have ntup : ∀ c xs, H c = some (.tup xs) → c ≠ x := fun c xs r z => by subst z; rw [r] at mu; exact mu
  by_cases hb : b = x
  · subst hb; rw [upd_same] at q; cases q; exact new
  · rw [upd_ne hb] at q
    by_cases hbe : b = e
    · have q' : H b = some (.own x) := by
        rcases he with z | z
        · exact absurd (hbe.trans z) hb
        · rw [hbe]; exact z
      rw [q] at q'; cases q'
      obtain ⟨v, hv⟩ := heo
      exact ⟨v, by rw [hbe]; exact hv⟩
    · refine (ok b u q).stay (fun c v hc r => k c v ?_ r) (fun c r => by rw [upd_ne (nown c b r)]; exact r) fun c xs r => by rw [upd_ne (ntup c xs r)]; exact r
      rcases hc with rfl | hc
      · exact hbe
      · rintro rfl
        rcases he with z | z
        · exact nown c b hc z
        · rw [hc] at z; cases z; exact hb rfl
end

/-! ### kept unless tracked; of the frames at fs (the callers') the slots may change (an exception that passes writes there); of the records at ex (iterators) nothing is said -/
structure Un (fs ex : List Addr) (H H' : Hp) (h h' : Heap) : Prop where
  keep : ∀ b o, h.get? b = some o → H b = none → b ∉ fs → b ∉ ex → h'.get? b = some o
  slot : ∀ b o, h.get? b = some o → H b = none → b ∈ fs → b ∉ ex → ∃ sl, h'.get? b = some { o with slots := sl }
  free : ∀ b o, h.get? b = some o → H b = none → b ∉ ex → H' b = none
  there : ∀ b o, h.get? b = some o → b ∉ ex → ∃ o', h'.get? b = some o'
  tups : ∀ b xs, H b = some (.tup xs) → H' b = some (.tup xs)
  frzs : ∀ b o u, H b = some (.frz o u) → H' b = some (.frz o u)
  tbls : ∀ b ps, H b = some (.tbl ps) → ∃ more, H' b = some (.tbl (ps ++ more))
section
variable {fs fs' ex ex' : List Addr} {H H1 H2 : Hp} {h h1 h2 h' : Heap} {a x e : Addr} {o : HO}
theorem Un.any (u : Un fs ex H H1 h h1) {b : Addr} {ob : Obj} (q : h.get? b = some ob) (n : H b = none) (hx : b ∉ ex) : ∃ sl, h1.get? b = some { ob with slots := sl } := by
  by_cases hb : b ∈ fs
  · exact u.slot b ob q n hb hx
  · exact ⟨ob.slots, u.keep b ob q n hb hx⟩
theorem Un.kept (k : ∀ b u, h.get? b = some u → h'.get? b = some u) : Un fs ex H H h h' :=
  ⟨fun b ob q _ _ _ => k b ob q, fun b ob q _ _ _ => ⟨ob.slots, k b ob q⟩, fun _ _ _ n _ => n, fun b ob q _ => ⟨ob, k b ob q⟩, fun _ _ q => q, fun _ _ _ q => q, fun _ ps q => ⟨#[], by rw [q]; simp⟩⟩
theorem Un.refl : Un fs ex H H h h := Un.kept fun _ _ q => q
theorem Un.laid (k : ∀ b u, h.get? b = some u → h'.get? b = some u) (hp : h.objs.size ≤ a) (hn : H a = none) : Un fs ex H (upd H a o) h h' where
  keep := fun b u q _ _ _ => k b u q
  slot := fun b u q _ _ _ => ⟨u.slots, k b u q⟩
  free := fun b u q n _ => by rw [upd_ne (Nat.ne_of_lt (Nat.lt_of_lt_of_le (Heap.lt_size q) hp))]; exact n
  there := fun b u q _ => ⟨u, k b u q⟩
  tups := fun b xs q => by rw [upd_ne (ne_of_none q hn)]; exact q
  frzs := fun b u xs q => by rw [upd_ne (ne_of_none q hn)]; exact q
  tbls := fun b ps q => ⟨#[], by rw [upd_ne (ne_of_none q hn), q]; simp⟩
theorem Un.write (mu : Mut (H x)) (he : e = x ∨ H e = some (.own x)) (k : ∀ b u, b ≠ e → h.get? b = some u → h'.get? b = some u) (heo : ∃ u, h'.get? e = some u) : Un fs ex H (upd H x o) h h' := by
  have hx : ∀ b, H b = none → b ≠ x := fun b n z => by subst z; rw [n] at mu; exact mu
  have hb : ∀ b, H b = none → b ≠ e := fun b n z => by
    subst z
    rcases he with r | r
    · exact hx b n r
    · rw [n] at r; cases r
  have hm : ∀ b u, H b = some u → ¬ Mut (some u) → b ≠ x := fun b u q nm z => by subst z; rw [q] at mu; exact nm mu
  refine ⟨fun b u q n _ _ => k b u (hb b n) q, fun b u q n _ _ => ⟨u.slots, k b u (hb b n) q⟩, fun b u q n _ => by rw [upd_ne (hx b n)]; exact n, fun b u q _ => ?_,
    fun b xs q => by rw [upd_ne (hm b _ q fun z => z)]; exact q, fun b u xs q => by rw [upd_ne (hm b _ q fun z => z)]; exact q, fun b ps q => ⟨#[], by rw [upd_ne (hm b _ q fun z => z), q]; simp⟩⟩
  by_cases hbe : b = e
  · subst hbe; exact heo
  · exact ⟨u, k b u hbe q⟩
end

/-! ### the heap without what is tracked -/
noncomputable def trk (h : Heap) (H : Hp) : List Addr := (List.range h.objs.size).filter fun a => (H a).isSome
noncomputable def hidT (h : Heap) (H : Hp) : Heap := PySem.W.hideAll h (trk h H)
theorem hidT_size (h : Heap) (H : Hp) : (hidT h H).objs.size = h.objs.size := PySem.W.hideAll_size _ _
theorem hidT_get {h : Heap} {H : Hp} {b : Addr} {o : Obj} (e : h.get? b = some o) (n : H b = none) : (hidT h H).get? b = some o :=
  PySem.W.hideAll_get _ e fun hm => by
    have q : (H b).isSome = true := (List.mem_filter.mp hm).2
    rw [n] at q; simp at q
theorem of_hidT {h : Heap} {H : Hp} {b : Addr} {o : Obj} (e : (hidT h H).get? b = some o) : h.get? b = some o ∧ H b = none := by
  have e' : h.get? b = some o := PySem.W.of_hideAll (trk h H) e
  refine ⟨e', ?_⟩
  cases q : H b with
  | none => rfl
  | some x =>
    have hm : b ∈ trk h H := List.mem_filter.mpr ⟨List.mem_range.mpr (Heap.lt_size e'), by simp [q]⟩
    have z : (hidT h H).get? b = none := PySem.W.hideAll_none (trk h H) hm
    rw [z] at e; cases e

/-! ### OpenK's ledger, filled with every new object but one -/
end L2

namespace L2
open PySem PySem.Spec PyProof.Rows

structure Mod (K : PySem.W.Frag) (mg : Str → Option Value) (base : Heap) : Prop where
  kin : K.In base
  glob : base.Ns mainGlobals mg
  blt : ∃ mb, base.Ns builtinsNs mb ∧ ∀ x : Str, x ≠ "__name__" → mb x = bootBuiltins x
  nolimit : base.NoLimit

set_option genInjectivity false in
structure Cx where
  prog : Program
  w : World
  K : PySem.W.Frag
  mg : Str → Option Value
  base : Heap
  A : Around
  N : List Str
  s₀ : Shared
  H₀ : Hp
  env : Env
  outer : List Env
  stack : List Env
  ex : List Addr
  fn : Str → Bool
  calm : Bool
  pn : List (Addr × Obj)
  xe : Value → Shared → Prop
noncomputable def frs (l : List Env) : List Addr := l.filterMap (·.frame)
noncomputable abbrev Cx.fs (X : Cx) : List Addr := frs X.outer

noncomputable def Vis (sc : Scope) (x : Str) : Prop := sc.names.lookup x = some .local ∨ sc.names.lookup x = some .cell ∨ sc.names.lookup x = some .free
noncomputable def Loc (sc : Scope) (x : Str) : Prop := sc.names.lookup x = some .local ∨ sc.names.lookup x = some .cell
noncomputable def Look (env : Env) (h : Heap) (m : Str → Option Value) (x : Str) (u : Value) : Prop :=
  (env.kindOf x = some .local ∧ m x = some u) ∨ ((env.kindOf x = some .cell ∨ env.kindOf x = some .free) ∧ ∃ c, env.cells.lookup x = some c ∧ h.IsCell c (some u))

structure Cx.Ok (X : Cx) : Prop where
  mod : Mod X.K X.mg X.base
  kind : X.env.scope.kind = .function
  glob : X.env.globals = mainGlobals
  blt : X.env.builtins = builtinsNs
  above : X.s₀.heap.objs.size ≤ X.env.locals
  inj : ∀ x y c, X.env.cells.lookup x = some c → X.env.cells.lookup y = some c → x = y
  has : ∀ x, (X.env.kindOf x = some .cell ∨ X.env.kindOf x = some .free) → ∃ c, X.env.cells.lookup x = some c
  cab : ∀ x c, X.fn x = true → X.env.cells.lookup x = some c → X.s₀.heap.objs.size ≤ c
  hd : X.calm = true → X.A.handled = none
  frames : X.A.frames = some X.stack
  stk : X.stack = X.outer ∨ (X.stack = X.env :: X.outer ∧ X.env.frame = some X.env.locals)
  exf : ∀ b ∈ X.ex, b ≠ X.env.locals ∧ ∀ x c, X.env.cells.lookup x = some c → c ≠ b
  bs : ∀ b o, X.base.get? b = some o → X.s₀.heap.get? b = some o ∧ X.H₀ b = none
  bsz : X.base.objs.size ≤ X.s₀.heap.objs.size
  noex : ∀ b o, X.base.get? b = some o → b ∉ X.ex
  exfs : ∀ b ∈ X.ex, b ∉ X.fs
  funs : X.s₀.heap.FunFrames X.base X.outer
  frf : ∀ b ∈ X.fs, X.H₀ b = none

structure Inv (X : Cx) (pins : List (Addr × Obj)) (σ : List (Option V)) (H : Hp) (s : Shared) : Prop where
  ok : X.Ok
  os : s.os = X.s₀.os
  bare : AllBare s.gens
  base : Un X.fs X.ex X.H₀ H X.s₀.heap s.heap
  loc : ∃ m, s.heap.Ns X.env.locals m ∧ ∀ (i : Nat) (x : Str) (v : V), X.N[i]? = some x → σ[i]? = some (some v) → Vis X.env.scope x → ∃ u, RelV v u ∧ Look X.env s.heap m x u
  cell : ∀ x c, X.env.cells.lookup x = some c → ∃ v, s.heap.IsCell c v
  free : H X.env.locals = none
  freeC : ∀ x c, X.env.cells.lookup x = some c → H c = none
  pin : ∀ p ∈ X.pn ++ pins, s.heap.get? p.1 = some p.2 ∧ H p.1 = none ∧ p.1 ≠ X.env.locals ∧ p.1 ∉ X.fs ∧ ∀ v, p.2.data ≠ .cell v
  hok : HOk X.prog X.w H s.heap
  len : σ.length = X.N.length

section
variable {X : Cx} {pins : List (Addr × Obj)} {σ : List (Option V)} {H H' : Hp} {s : Shared} {h' : Heap}

theorem Cx.Ok.nofr (ok : X.Ok) {b : Addr} {o : Obj} (e : X.base.get? b = some o) : b ∉ X.fs := fun hb => by
  have := (ok.funs.mem hb).1
  rw [e] at this; cases this
theorem Inv.bs (I : Inv X pins σ H s) : ∀ b o, X.base.get? b = some o → s.heap.get? b = some o ∧ H b = none := fun b o e =>
  ⟨I.base.keep b o (I.ok.bs b o e).1 (I.ok.bs b o e).2 (I.ok.nofr e) (I.ok.noex b o e), I.base.free b o (I.ok.bs b o e).1 (I.ok.bs b o e).2 (I.ok.noex b o e)⟩
theorem Inv.bk (I : Inv X pins σ H s) : ∀ b o, X.base.get? b = some o → s.heap.get? b = some o := fun b o e => (I.bs b o e).1
theorem Inv.mod (I : Inv X pins σ H s) : Mod X.K X.mg X.base := I.ok.mod
theorem Inv.kIn (I : Inv X pins σ H s) : X.K.In s.heap := I.ok.mod.kin.keeps I.bk
theorem Inv.lt (I : Inv X pins σ H s) : X.env.locals < s.heap.objs.size := let ⟨_, hn, _⟩ := I.loc; hn.lt
theorem Inv.sz (I : Inv X pins σ H s) : X.s₀.heap.objs.size ≤ s.heap.objs.size := Nat.le_trans I.ok.above (Nat.le_of_lt I.lt)
theorem Inv.nofs (I : Inv X pins σ H s) {a : Addr} (h : s.heap.objs.size ≤ a) : a ∉ X.fs := fun hb => by
  obtain ⟨_, o, ho, _⟩ := I.ok.funs.mem hb
  exact absurd (Nat.lt_of_lt_of_le (Heap.lt_size ho) (Nat.le_trans I.sz h)) (Nat.lt_irrefl _)
theorem Inv.cne (I : Inv X pins σ H s) : ∀ x c, X.env.cells.lookup x = some c → c ≠ X.env.locals := fun x c e z => by
  obtain ⟨v, o, ho, hd⟩ := I.cell x c e
  obtain ⟨m, ⟨o', es, ep, ho', hd', _⟩, _⟩ := I.loc
  rw [z, ho'] at ho; cases ho; rw [hd'] at hd; cases hd
theorem Inv.funs (I : Inv X pins σ H s) : s.heap.FunFrames X.base X.outer := by
  have all : ∀ (l : List Env), (∀ b ∈ frs l, b ∈ X.fs) → X.s₀.heap.FunFrames X.base l → s.heap.FunFrames X.base l := by
    intro l
    induction l with
    | nil => intro _ _; trivial
    | cons env r ih =>
      intro hs hl
      obtain ⟨hk, ⟨L, o, hf, hn, ho, hd⟩, hr⟩ := hl
      have hL : L ∈ X.fs := hs L (by unfold frs; rw [List.filterMap_cons, hf]; exact List.mem_cons_self)
      obtain ⟨sl, e⟩ := I.base.slot L o ho (I.ok.frf L hL) hL fun z => I.ok.exfs L z hL
      exact ⟨hk, ⟨L, _, hf, hn, e, hd⟩, ih (fun b hb => hs b (by unfold frs; rw [List.filterMap_cons, hf]; exact List.mem_cons_of_mem _ hb)) hr⟩
  exact all X.outer (fun _ hb => hb) I.ok.funs

theorem Inv.stack (I : Inv X pins σ H s) : s.heap.FunFrames X.base X.stack := by
  rcases I.ok.stk with e | ⟨e, hf⟩
  · rw [e]; exact I.funs
  · rw [e]
    obtain ⟨m, hn, _⟩ := I.loc
    refine .cons (by rw [I.ok.kind]; decide) hf hn ?_ I.funs
    exact Heap.get?_none_of_le (Nat.le_trans I.ok.bsz I.ok.above)
theorem Inv.stkSub (I : Inv X pins σ H s) : ∀ b ∈ frs X.stack, b ∈ X.env.locals :: X.fs := fun b hb => by
  rcases I.ok.stk with e | ⟨e, hf⟩
  · rw [e] at hb; exact List.mem_cons_of_mem _ hb
  · rw [e] at hb
    unfold frs at hb
    rw [List.filterMap_cons, hf] at hb
    exact hb
theorem Inv.stkFree (I : Inv X pins σ H s) : ∀ b ∈ frs X.stack, H b = none := fun b hb => by
  rcases List.mem_cons.mp (I.stkSub b hb) with e | hb
  · rw [e]; exact I.free
  · obtain ⟨_, o, ho, _⟩ := I.ok.funs.mem hb
    exact I.base.free b o ho (I.ok.frf b hb) fun z => I.ok.exfs b z hb

theorem Inv.step {g' : Array GenState} {t' : Nat} {d' : Drawn} {ch : List Addr} (I : Inv X pins σ H s)
    (hch : ∀ b ∈ ch, (b ∈ X.ex ∨ X.s₀.heap.objs.size ≤ b) ∧ b ≠ X.env.locals ∧ (∀ x c, X.env.cells.lookup x = some c → c ≠ b) ∧ ∀ p ∈ X.pn ++ pins, p.1 ≠ b)
    (keep : ∀ b o, b ≠ X.env.locals → b ∉ X.fs → b ∉ ch → s.heap.get? b = some o → H b = none → h'.get? b = some o)
    (slot : ∀ b o, b ≠ X.env.locals → b ∈ X.fs → b ∉ ch → s.heap.get? b = some o → H b = none → ∃ sl, h'.get? b = some { o with slots := sl }) (free : ∀ b o, b ∉ ch → s.heap.get? b = some o → H b = none → H' b = none)
    (there : ∀ b o, b ∉ ch → s.heap.get? b = some o → ∃ o', h'.get? b = some o')
    (tups : ∀ b xs, H b = some (.tup xs) → H' b = some (.tup xs)) (frzs : ∀ b o u, H b = some (.frz o u) → H' b = some (.frz o u)) (tbls : ∀ b ps, H b = some (.tbl ps) → ∃ more, H' b = some (.tbl (ps ++ more)))
    (ns : ∀ m, s.heap.Ns X.env.locals m → h'.Ns X.env.locals m) (hok : HOk X.prog X.w H' h') (hg : AllBare g') :
    Inv X pins σ H' { s with heap := h', gens := g', drawn := d', toks := t' } := by
  have neL : ∀ b o, X.s₀.heap.get? b = some o → b ≠ X.env.locals := fun b o e => Nat.ne_of_lt (Nat.lt_of_lt_of_le (Heap.lt_size e) I.ok.above)
  have neC : ∀ b o, X.s₀.heap.get? b = some o → b ∉ X.ex → b ∉ ch := fun b o e hx hb => by
    rcases (hch b hb).1 with z | z
    · exact hx z
    · exact absurd (Nat.lt_of_lt_of_le (Heap.lt_size e) z) (Nat.lt_irrefl _)
  have cellK : ∀ x c, X.env.cells.lookup x = some c → ∀ v, s.heap.IsCell c v → h'.IsCell c v := fun x c e v ⟨o, ho, hd⟩ => by
    have nch : c ∉ ch := fun z => (hch c z).2.2.1 x c e rfl
    by_cases hc : c ∈ X.fs
    · obtain ⟨sl, q⟩ := slot c o (I.cne x c e) hc nch ho (I.freeC x c e)
      exact ⟨_, q, hd⟩
    · exact ⟨o, keep c o (I.cne x c e) hc nch ho (I.freeC x c e), hd⟩
  refine ⟨I.ok, I.os, hg, ⟨fun b o e n hb hx => ?_, fun b o e n hb hx => ?_, fun b o e n hx => ?_, fun b o e hx => ?_, fun b xs e => tups b xs (I.base.tups b xs e), fun b o xs e => frzs b o xs (I.base.frzs b o xs e), fun b ps e => ?_⟩, ?_, fun x c e => ?_, ?_, fun x c e => ?_, fun p hp => ?_, hok, I.len⟩
  · exact keep b o (neL b o e) hb (neC b o e hx) (I.base.keep b o e n hb hx) (I.base.free b o e n hx)
  · obtain ⟨sl, e1⟩ := I.base.slot b o e n hb hx
    obtain ⟨sl', e2⟩ := slot b _ (neL b o e) hb (neC b o e hx) e1 (I.base.free b o e n hx)
    exact ⟨sl', e2⟩
  · obtain ⟨o', e1⟩ := I.base.there b o e hx
    exact free b o' (neC b o e hx) e1 (I.base.free b o e n hx)
  · obtain ⟨o', e1⟩ := I.base.there b o e hx
    exact there b o' (neC b o e hx) e1
  · obtain ⟨m1, e1⟩ := I.base.tbls b ps e
    obtain ⟨m2, e2⟩ := tbls b _ e1
    exact ⟨m1 ++ m2, by rw [e2, Array.append_assoc]⟩
  · obtain ⟨m, hn, hl⟩ := I.loc
    refine ⟨m, ns m hn, fun i x v e1 e2 e3 => ?_⟩
    obtain ⟨u, r, l⟩ := hl i x v e1 e2 e3
    refine ⟨u, r, ?_⟩
    rcases l with l | ⟨k, c, e, z⟩
    · exact .inl l
    · exact .inr ⟨k, c, e, cellK x c e _ z⟩
  · obtain ⟨v, z⟩ := I.cell x c e
    exact ⟨v, cellK x c e v z⟩
  · obtain ⟨m, ⟨o, _, _, ho, _⟩, _⟩ := I.loc
    exact free _ o (fun z => (hch _ z).2.1 rfl) ho I.free
  · obtain ⟨v, o, ho, hd⟩ := I.cell x c e
    exact free c o (fun z => (hch c z).2.2.1 x c e rfl) ho (I.freeC x c e)
  · obtain ⟨e, n, ne, nf, d⟩ := I.pin p hp
    have nch : p.1 ∉ ch := fun z => (hch p.1 z).2.2.2 p hp rfl
    exact ⟨keep p.1 p.2 ne nf nch e n, free p.1 p.2 nch e n, ne, nf, d⟩
theorem Inv.un {t' : Nat} (I : Inv X pins σ H s) (u : Un X.fs [] H H' s.heap h') (hok : HOk X.prog X.w H' h') : Inv X pins σ H' { s with heap := h', toks := t' } := by
  obtain ⟨m, ⟨o, es, ep, ho, r⟩, _⟩ := id I.loc
  obtain ⟨sl, hL⟩ := u.any ho I.free (by simp)
  exact I.step (g' := s.gens) (d' := s.drawn) (ch := []) (fun _ z => nomatch z) (fun b o _ hb _ e n => u.keep b o e n hb (by simp)) (fun b o _ hb _ e n => u.slot b o e n hb (by simp)) (fun b o _ e n => u.free b o e n (by simp)) (fun b o _ e => u.there b o e (by simp)) u.tups u.frzs u.tbls (fun m' hm => by
    obtain ⟨o', es', ep', ho', r'⟩ := hm
    rw [ho] at ho'; cases ho'
    exact ⟨_, es', ep', hL, r'⟩) hok I.bare
theorem Inv.call {g' : Array GenState} {t' : Nat} {d' : Drawn} {ch : List Addr} (I : Inv X pins σ H s) (u : Un (frs X.stack) ch H H' s.heap h') (hok : HOk X.prog X.w H' h') (hg : AllBare g')
    (hch : ∀ b ∈ ch, (b ∈ X.ex ∨ X.s₀.heap.objs.size ≤ b) ∧ b ≠ X.env.locals ∧ (∀ x c, X.env.cells.lookup x = some c → c ≠ b) ∧ ∀ p ∈ X.pn ++ pins, p.1 ≠ b) :
    Inv X pins σ H' { s with heap := h', gens := g', drawn := d', toks := t' } := by
  obtain ⟨m, ⟨o, es, ep, ho, r⟩, _⟩ := id I.loc
  obtain ⟨sl, hL⟩ := u.any ho I.free fun z => (hch _ z).2.1 rfl
  exact I.step (ch := ch) hch (fun b o hL hb hc e n => u.keep b o e n (fun z => (List.mem_cons.mp (I.stkSub b z)).elim hL hb) hc) (fun b o _ _ hc e n => u.any e n hc) (fun b o hc e n => u.free b o e n hc) (fun b o hc e => u.there b o e hc) u.tups u.frzs u.tbls (fun m' hm => by
    obtain ⟨o', es', ep', ho', r'⟩ := hm
    rw [ho] at ho'; cases ho'
    exact ⟨_, es', ep', hL, r'⟩) hok hg
theorem Inv.turned {t' : Nat} {it : Addr} (I : Inv X pins σ H s) (k : ∀ b o, b ≠ it → s.heap.get? b = some o → h'.get? b = some o) (hn : H it = none) (hL : it ≠ X.env.locals)
    (h1 : it ∈ X.ex ∨ X.s₀.heap.objs.size ≤ it) (h2 : ∀ x c, X.env.cells.lookup x = some c → c ≠ it) (h3 : ∀ p ∈ X.pn ++ pins, p.1 ≠ it) : Inv X pins σ H { s with heap := h', toks := t' } := by
  have nit : ∀ b u, H b = some u → b ≠ it := fun b u e z => by rw [z, hn] at e; cases e
  refine I.step (g' := s.gens) (d' := s.drawn) (ch := [it]) (fun b hb => ?_) (fun b o _ _ hc e _ => k b o (fun z => hc (by simp [z])) e) (fun b o _ _ hc e _ => ⟨o.slots, k b o (fun z => hc (by simp [z])) e⟩) (fun _ _ _ _ n => n)
    (fun b o hc e => ⟨o, k b o (fun z => hc (by simp [z])) e⟩) (fun _ _ e => e) (fun _ _ _ e => e) (fun b ps e => ⟨#[], by rw [e]; simp⟩) (fun m hm => ?_) (fun b u e => ?_) I.bare
  · have e : b = it := by simpa using hb
    subst e
    exact ⟨h1, hL, h2, h3⟩
  · obtain ⟨o, es, ep, ho, r⟩ := hm
    exact ⟨o, es, ep, k _ o (Ne.symm hL) ho, r⟩
  · refine (I.hok b u e).stay (fun c v hc q => k c v ?_ q) (fun _ q => q) fun _ _ q => q
    rcases hc with z | z
    · rw [z]; exact nit b u e
    · exact nit c _ z
theorem Inv.tok (I : Inv X pins σ H s) (t : Nat) : Inv X pins σ H { s with toks := t } := I.un (h' := s.heap) (t' := t) Un.refl I.hok
theorem Inv.kept {t' : Nat} (I : Inv X pins σ H s) (k : ∀ b u, s.heap.get? b = some u → h'.get? b = some u) : Inv X pins σ H { s with heap := h', toks := t' } := I.un (Un.kept k) (I.hok.kept k)
theorem Inv.laid {a : Addr} {o : HO} {t' : Nat} (I : Inv X pins σ H s) (k : ∀ b u, s.heap.get? b = some u → h'.get? b = some u) (hp : s.heap.objs.size ≤ a) (new : ObjOk X.prog X.w (upd H a o) h' a o) :
    Inv X pins σ (upd H a o) { s with heap := h', toks := t' } := I.un (Un.laid k hp (I.hok.fresh hp)) (I.hok.laid k hp new)
theorem Inv.write {x e : Addr} {o : HO} {t' : Nat} (I : Inv X pins σ H s) (mu : Mut (H x)) (he : e = x ∨ H e = some (.own x)) (k : ∀ b u, b ≠ e → s.heap.get? b = some u → h'.get? b = some u) (heo : ∃ u, h'.get? e = some u)
    (new : ObjOk X.prog X.w (upd H x o) h' x o) : Inv X pins σ (upd H x o) { s with heap := h', toks := t' } := I.un (Un.write mu he k heo) (I.hok.write mu he k heo new)
theorem Inv.pins_of {pins' : List (Addr × Obj)} (I : Inv X pins σ H s) (h : ∀ p ∈ pins', s.heap.get? p.1 = some p.2 ∧ H p.1 = none ∧ p.1 ≠ X.env.locals ∧ p.1 ∉ X.fs ∧ ∀ v, p.2.data ≠ .cell v) : Inv X pins' σ H s :=
  ⟨I.ok, I.os, I.bare, I.base, I.loc, I.cell, I.free, I.freeC, fun p hp => (List.mem_append.mp hp).elim (fun z => I.pin p (List.mem_append_left _ z)) (h p), I.hok, I.len⟩

theorem nodup_ix {N : List Str} (hN : N.Nodup) {i j : Nat} {x : Str} (a : N[i]? = some x) (b : N[j]? = some x) : i = j := by
  obtain ⟨h1, e1⟩ := List.getElem?_eq_some_iff.mp a
  obtain ⟨h2, e2⟩ := List.getElem?_eq_some_iff.mp b
  exact (List.getElem_inj hN).mp (e1.trans e2.symm)

theorem store_ok2 {M : Model} {A : Around} {E : Value → Shared → Prop} {i : Nat} {x : Str} {v : V} {u : Value} {Q : Unit → Shared → Prop} (I : Inv X pins σ H s) (hN : X.N.Nodup) (hi : X.N[i]? = some x) (hx : Loc X.env.scope x) (r : RelV v u)
    (h : ∀ s', Inv X pins (σ.set i (some v)) H s' → (∃ a, Heap.SameBut a s.heap s'.heap ∧ (a = X.env.locals ∨ X.env.cells.lookup x = some a)) → Q () s') (hf : X.fn x = true ∨ X.env.scope.names.lookup x = some .local := by first | exact .inl rfl | exact .inr rfl | assumption) : wpAny M A (storeName X.env x u) Q E s := by
  obtain ⟨m, hn, hl⟩ := id I.loc
  have hcls : (X.env.scope.kind == .class || (X.env.scope.kind == .module && X.env.locals != X.env.globals)) = false := by rw [I.ok.kind]; rfl
  have hiσ : i < σ.length := by rw [I.len]; exact (List.getElem?_eq_some_iff.mp hi).1
  have cne := I.cne
  have tracked : ∀ {a : Addr} {h' : Heap}, (∃ o, s.heap.get? a = some o ∧ H a = none) → Heap.SameBut a s.heap h' → HOk X.prog X.w H h' := fun {a h'} ha hs b ob e => by
    obtain ⟨_, _, hfree⟩ := ha
    refine (I.hok b ob e).stay (fun c w' hc q => (hs.2 c ?_).trans q) (fun _ q => q) fun _ _ q => q
    rintro rfl
    rcases hc with rfl | hc
    · rw [hfree] at e; cases e
    · rw [hfree] at hc; cases hc
  rcases hx with hk | hk
  · refine wpAny_storeName_local hk hn (fun h' hn' hs => ?_) hcls
    obtain ⟨oL, _, _, hoL, _⟩ := id hn
    refine h _ ⟨I.ok, I.os, I.bare, ⟨fun b o e n hb hx => ?_, fun b o e n hb hx => ?_, I.base.free, fun b o e hx => ?_, I.base.tups, I.base.frzs, I.base.tbls⟩, ⟨_, hn', fun j y v' e1 e2 e3 => ?_⟩, fun y c e => ?_, I.free, I.freeC, fun p hp => ?_, tracked ⟨oL, hoL, I.free⟩ hs, by simpa using I.len⟩ ⟨_, hs, .inl rfl⟩
    · exact (hs.2 b (Nat.ne_of_lt (Nat.lt_of_lt_of_le (Heap.lt_size e) I.ok.above))).trans (I.base.keep b o e n hb hx)
    · obtain ⟨sl, e1⟩ := I.base.slot b o e n hb hx
      exact ⟨sl, (hs.2 b (Nat.ne_of_lt (Nat.lt_of_lt_of_le (Heap.lt_size e) I.ok.above))).trans e1⟩
    · obtain ⟨o', e1⟩ := I.base.there b o e hx
      exact ⟨o', (hs.2 b (Nat.ne_of_lt (Nat.lt_of_lt_of_le (Heap.lt_size e) I.ok.above))).trans e1⟩
    · by_cases hj : j = i
      · subst hj
        rw [hi] at e1; cases e1
        rw [List.getElem?_set_self hiσ] at e2
        cases e2
        exact ⟨u, r, .inl ⟨hk, by simp⟩⟩
      · rw [List.getElem?_set_ne (Ne.symm hj)] at e2
        obtain ⟨u', r', q⟩ := hl j y v' e1 e2 e3
        refine ⟨u', r', ?_⟩
        rcases q with ⟨k, e⟩ | ⟨k, c, e, z⟩
        · refine .inl ⟨k, ?_⟩
          have : y ≠ x := fun e => hj (nodup_ix hN e1 (e ▸ hi))
          simp [this, e]
        · exact .inr ⟨k, c, e, z.sameBut hs (cne y c e)⟩
    · obtain ⟨w', z⟩ := I.cell y c e
      exact ⟨w', z.sameBut hs (cne y c e)⟩
    · obtain ⟨e, n, ne, nf, d⟩ := I.pin p hp
      exact ⟨(hs.2 p.1 ne).trans e, n, ne, nf, d⟩
  · have hfn : X.fn x = true := by
      rcases hf with z | z
      · exact z
      · rw [z] at hk; cases hk
    obtain ⟨c, hc⟩ := I.ok.has x (.inl hk)
    obtain ⟨w', z⟩ := I.cell x c hc
    refine wpAny_storeName_cell I.ok.kind hk hc z (fun h' hc' hs => ?_)
    obtain ⟨oc, hoc, hocd⟩ := id z
    refine h { s with heap := h' } ⟨I.ok, I.os, I.bare, ⟨fun b o e n hb hx => ?_, fun b o e n hb hx => ?_, I.base.free, fun b o e hx => ?_, I.base.tups, I.base.frzs, I.base.tbls⟩, ⟨m, hn.sameBut hs (Ne.symm (cne x c hc)), fun j y v' e1 e2 e3 => ?_⟩, fun y c' e => ?_, I.free, I.freeC, fun p hp => ?_, tracked ⟨oc, hoc, I.freeC x c hc⟩ hs, by simpa using I.len⟩ ⟨c, hs, .inr hc⟩
    · exact (hs.2 b (Nat.ne_of_lt (Nat.lt_of_lt_of_le (Heap.lt_size e) (I.ok.cab x c hfn hc)))).trans (I.base.keep b o e n hb hx)
    · obtain ⟨sl, e1⟩ := I.base.slot b o e n hb hx
      exact ⟨sl, (hs.2 b (Nat.ne_of_lt (Nat.lt_of_lt_of_le (Heap.lt_size e) (I.ok.cab x c hfn hc)))).trans e1⟩
    · obtain ⟨o', e1⟩ := I.base.there b o e hx
      exact ⟨o', (hs.2 b (Nat.ne_of_lt (Nat.lt_of_lt_of_le (Heap.lt_size e) (I.ok.cab x c hfn hc)))).trans e1⟩
    · by_cases hj : j = i
      · subst hj
        rw [hi] at e1; cases e1
        rw [List.getElem?_set_self hiσ] at e2
        cases e2
        exact ⟨u, r, .inr ⟨.inl hk, c, hc, hc'⟩⟩
      · rw [List.getElem?_set_ne (Ne.symm hj)] at e2
        obtain ⟨u', r', q⟩ := hl j y v' e1 e2 e3
        refine ⟨u', r', ?_⟩
        rcases q with q | ⟨k, c', e, z'⟩
        · exact .inl q
        · refine .inr ⟨k, c', e, z'.sameBut hs ?_⟩
          rintro rfl
          exact hj (nodup_ix hN e1 (I.ok.inj _ _ _ e hc ▸ hi))
    · by_cases hcc : c' = c
      · subst hcc; exact ⟨_, hc'⟩
      · obtain ⟨w2, z2⟩ := I.cell y c' e
        exact ⟨w2, z2.sameBut hs hcc⟩
    · obtain ⟨e, n, ne, nf, d⟩ := I.pin p hp
      refine ⟨(hs.2 p.1 ?_).trans e, n, ne, nf, d⟩
      intro q
      rw [q, hoc] at e
      have q' : oc = p.2 := Option.some.inj e
      exact d w' (by rw [← q']; exact hocd)
theorem store_ok {M : Model} {A : Around} {E : Value → Shared → Prop} {i : Nat} {x : Str} {v : V} {u : Value} {Q : Unit → Shared → Prop} (I : Inv X pins σ H s) (hN : X.N.Nodup) (hi : X.N[i]? = some x) (hx : Loc X.env.scope x) (r : RelV v u)
    (h : ∀ s', Inv X pins (σ.set i (some v)) H s' → Q () s') (hf : X.fn x = true ∨ X.env.scope.names.lookup x = some .local := by first | exact .inl rfl | exact .inr rfl | assumption) : wpAny M A (storeName X.env x u) Q E s :=
  store_ok2 I hN hi hx r (fun s' I' _ => h s' I') hf
theorem Inv.call' {s' : Shared} {ch : List Addr} (I : Inv X pins σ H s) (ho : s'.os = s.os) (u : Un (frs X.stack) ch H H' s.heap s'.heap) (hok : HOk X.prog X.w H' s'.heap) (hg : AllBare s'.gens)
    (hch : ∀ b ∈ ch, (b ∈ X.ex ∨ X.s₀.heap.objs.size ≤ b) ∧ b ≠ X.env.locals ∧ (∀ x c, X.env.cells.lookup x = some c → c ≠ b) ∧ ∀ p ∈ X.pn ++ pins, p.1 ≠ b) : Inv X pins σ H' s' := by
  obtain ⟨h', g', d', t', o'⟩ := s'
  have e : o' = s.os := ho
  subst e
  exact I.call (g' := g') (t' := t') (d' := d') u hok hg hch
end

/-! ### the judgements -/
noncomputable abbrev XK := Value → Option Addr → Hp → Prop
noncomputable abbrev St := List (Option V)
noncomputable abbrev VK := V → Hp → Prop
noncomputable abbrev TE := St → Hp → VK → Prop
noncomputable abbrev TT := St → Hp → (Bool → Hp → Prop) → Prop
noncomputable abbrev TA := St → Hp → (List V → Hp → Prop) → Prop
set_option genInjectivity false in
structure Ends where
  nx : St → Hp → Prop
  rt : VK
  bk : St → Hp → Prop := fun _ _ => False
  ct : St → Hp → Prop := fun _ _ => False
noncomputable abbrev TS := Ends → St → Hp → Prop

noncomputable def EP (X : Cx) (pins : List (Addr × Obj)) (σ : St) (Q : VK) (u : Value) (s' : Shared) : Prop := ∃ v H', Inv X pins σ H' s' ∧ RelV v u ∧ Q v H'
noncomputable def TP (X : Cx) (pins : List (Addr × Obj)) (σ : St) (Q : Bool → Hp → Prop) (b : Bool) (s' : Shared) : Prop := ∃ H', Inv X pins σ H' s' ∧ Q b H'
noncomputable def AP (X : Cx) (pins : List (Addr × Obj)) (σ : St) (Q : List V → Hp → Prop) (us : List Value) (s' : Shared) : Prop := ∃ vs H', Inv X pins σ H' s' ∧ Vals vs us ∧ Q vs H'
noncomputable def SP (X : Cx) (pins : List (Addr × Obj)) (D : Ends) (f : Flow) (s' : Shared) : Prop :=
  match f with
  | .next => ∃ σ' H', Inv X pins σ' H' s' ∧ D.nx σ' H'
  | .brk => ∃ σ' H', Inv X pins σ' H' s' ∧ D.bk σ' H'
  | .cont => ∃ σ' H', Inv X pins σ' H' s' ∧ D.ct σ' H'
  | .ret u => ∃ v σ' H', Inv X pins σ' H' s' ∧ RelV v u ∧ D.rt v H'

noncomputable def PE (X : Cx) (e : Expr) (t : TE) : Prop :=
  ∀ (pins : List (Addr × Obj)) (s : Shared) (σ : St) (H : Hp) (Q : VK), Inv X pins σ H s → t σ H Q → wpAny (model X.prog X.w) X.A (eval e X.env) (EP X pins σ Q) X.xe s
noncomputable def PT (X : Cx) (e : Expr) (t : TT) : Prop :=
  ∀ (pins : List (Addr × Obj)) (s : Shared) (σ : St) (H : Hp) (Q : Bool → Hp → Prop), Inv X pins σ H s → t σ H Q → wpAny (model X.prog X.w) X.A (isTrue e X.env (eval e X.env)) (TP X pins σ Q) X.xe s
noncomputable def PW (X : Cx) (e : Expr) (t : TT) : Prop :=
  ∀ (whole : Sem Value) (pins : List (Addr × Obj)) (s : Shared) (σ : St) (H : Hp) (Q : Bool → Hp → Prop), Inv X pins σ H s → t σ H Q → wpAny (model X.prog X.w) X.A (isTrue e X.env whole) (TP X pins σ Q) X.xe s
theorem PW.pt {X : Cx} {e : Expr} {t : TT} (h : PW X e t) : PT X e t := h _
noncomputable def PA (X : Cx) (es : List Expr) (t : TA) : Prop :=
  ∀ (pos : Pos) (pins : List (Addr × Obj)) (s : Shared) (σ : St) (H : Hp) (Q : List V → Hp → Prop), Inv X pins σ H s → t σ H Q → wpAny (model X.prog X.w) X.A (spliced (backTo pos (starEach es X.env))) (AP X pins σ Q) X.xe s
noncomputable def PS (X : Cx) (st : Stmt) (t : TS) : Prop :=
  ∀ (pins : List (Addr × Obj)) (s : Shared) (σ : St) (H : Hp) (D : Ends), Inv X pins σ H s → t D σ H → wpAny (model X.prog X.w) X.A (exec st X.env) (SP X pins D) X.xe s
noncomputable def PSs (X : Cx) (st : List Stmt) (t : TS) : Prop :=
  ∀ (pins : List (Addr × Obj)) (s : Shared) (σ : St) (H : Hp) (D : Ends), Inv X pins σ H s → t D σ H → wpAny (model X.prog X.w) X.A (execs st X.env) (SP X pins D) X.xe s
theorem thn {α : Type} {t : Sem α} {Q Q' : α → Shared → Prop} {M : Model} {A : Around} {E : Value → Shared → Prop} {s : Shared} (h : wpAny M A t Q E s) (hQ : ∀ a s, Q a s → Q' a s) : wpAny M A t Q' E s := wpAny_mono h hQ fun _ _ x => x
end L2

namespace L2
open PySem PySem.Spec PyProof.Rows
section
variable {X : Cx}

/-! ### names and constants -/
noncomputable def tVar (i : Nat) : TE := fun σ H Q => ∃ v, σ[i]? = some (some v) ∧ Q v H
noncomputable def tC (v : V) : TE := fun _ H Q => Q v H
theorem pe_var {i : Nat} {x : Str} {pos : Pos} (hN : X.N[i]? = some x) (hv : Vis X.env.scope x) (hd : (x == ("__debug__" : Str)) = false := by decide) (hcd : (x == ("__classdict__" : Str)) = false := by decide) : PE X (.Name x pos) (tVar i) := by
  intro pins s σ H Q I h
  obtain ⟨v, e, h⟩ := h
  obtain ⟨m, hn, hl⟩ := I.loc
  obtain ⟨u, r, l⟩ := hl i x v hN e hv
  have fin : EP X pins σ Q u s := ⟨v, H, I, r, h⟩
  rcases l with ⟨hk, hm⟩ | ⟨hk, c, hc, hcell⟩
  · exact wpAny_Name (wpAny_loadName_local I.ok.kind hk hn hm fin) hd
  · rcases hk with hk | hk
    · exact wpAny_Name (wpAny_loadName_cell I.ok.kind hk hc hcell fin) hd
    · exact wpAny_Name (wpAny_loadName_free I.ok.kind hk hc hcell fin hcd) hd
theorem pe_int {i j pos} : PE X (.Constant (.int i) j pos) (tC (.int i)) := fun _ _ _ H _ I h => wpAny_Constant_int ⟨.int i, H, I.tok _, ⟨_, rfl⟩, h⟩
theorem pe_bl {b j pos} : PE X (.Constant (.bool b) j pos) (tC (.bl b)) := fun _ _ _ H _ I h => Constant_bool ⟨.bl b, H, I, rfl, h⟩
theorem pe_non {j pos} : PE X (.Constant .none j pos) (tC .non) := fun _ _ _ H _ I h => Constant_none ⟨.non, H, I, rfl, h⟩
theorem pe_str {x j pos} : PE X (.Constant (.str x) j pos) (tC (.str x)) := fun _ _ _ H _ I h => Calls.Constant_str ⟨.str x, H, I.tok _, ⟨_, rfl⟩, h⟩

noncomputable def Gl (X : Cx) (x : Str) : Prop := X.env.kindOf x = some .globalImplicit
theorem ld_glob {E : Value → Shared → Prop} {pins : List (Addr × Obj)} {s : Shared} {σ : St} {H : Hp} {x : Str} {u : Value} {pos : Pos} {Q : Value → Shared → Prop} (I : Inv X pins σ H s) (hg : Gl X x) (hm : X.mg x = some u) (h : Q u s)
    (hd : (x == ("__debug__" : Str)) = false := by decide) : wpAny (model X.prog X.w) X.A (eval (.Name x pos) X.env) Q E s :=
  Calls.Name_function_global I.ok.kind hg (Calls.loadGlobal_global (by rw [I.ok.glob]; exact I.mod.glob.keeps I.bk) hm h) hd
theorem ld_blt {E : Value → Shared → Prop} {pins : List (Addr × Obj)} {s : Shared} {σ : St} {H : Hp} {x : Str} {u : Value} {pos : Pos} {Q : Value → Shared → Prop} (I : Inv X pins σ H s) (hg : Gl X x) (hm : X.mg x = none) (hv : bootBuiltins x = some u) (h : Q u s)
    (hn : x ≠ "__name__" := by decide) (hd : (x == ("__debug__" : Str)) = false := by decide) : wpAny (model X.prog X.w) X.A (eval (.Name x pos) X.env) Q E s := by
  obtain ⟨mb, h1, h2⟩ := I.mod.blt
  exact Calls.Name_function_global I.ok.kind hg (Calls.loadGlobal_builtin (by rw [I.ok.glob]; exact I.mod.glob.keeps I.bk) hm (by rw [I.ok.blt]; exact h1.keeps I.bk) ((h2 x hn).trans hv) h) hd
theorem pe_glob {x : Str} {v : V} {u : Value} {pos : Pos} (hg : Gl X x) (hm : X.mg x = some u) (r : RelV v u) (hd : (x == ("__debug__" : Str)) = false := by decide) : PE X (.Name x pos) (tC v) :=
  fun _ _ _ H _ I h => ld_glob I hg hm ⟨v, H, I, r, h⟩ hd
theorem pe_bltn {x : Str} {v : V} {u : Value} {pos : Pos} (hg : Gl X x) (hm : X.mg x = none) (hv : bootBuiltins x = some u) (r : RelV v u) (hn : x ≠ "__name__" := by decide) (hd : (x == ("__debug__" : Str)) = false := by decide) : PE X (.Name x pos) (tC v) :=
  fun _ _ _ H _ I h => ld_blt I hg hm hv ⟨v, H, I, r, h⟩ hn hd

/-! ### arithmetic -/
variable {a b : Expr} {ta tb : TE} {pos : Pos}
/-! ### comparisons -/
noncomputable def PC (X : Cx) (op : CmpOp) (a b : Expr) (t : TE) : Prop :=
  ∀ (pins : List (Addr × Obj)) (s : Shared) (σ : St) (H : Hp) (Q : VK), Inv X pins σ H s → t σ H Q →
    wpAny (model X.prog X.w) X.A (eval a X.env) (fun v s₁ => wpAny (model X.prog X.w) X.A (eval b X.env) (fun u s₂ => wpAny (model X.prog X.w) X.A (compareOp op v u) (EP X pins σ Q) X.xe s₂) X.xe s₁) X.xe s
noncomputable def tB (t : TE) : TT := fun σ H Q => t σ H fun x H1 => ∃ c, x = .bl c ∧ Q c H1
theorem pt_cmp {op : CmpOp} {t : TE} (h : PC X op a b t) (h1 : behindInMarks op b = false := by first | exact nobehind _ (by decide) (by decide) | rfl) : PT X (.Compare a [op] [b] pos) (tB t) := by
  intro pins s σ H Q I hw
  refine wpAny_isTrue_Compare1 (thn (h pins s σ H _ I hw) fun v s1 h1 => thn h1 fun u s2 h2 => thn h2 fun c s3 ⟨x, H1, I1, r1, q1⟩ => ?_) h1
  obtain ⟨d, rfl, q⟩ := q1
  cases r1
  exact wpAny_truthy_bool ⟨H1, I1, q⟩
theorem pt_val {e : Expr} {t : TE} (h : PE X e t) (he : ∀ whole, isTrue e X.env whole = (do let v ← whole; standAt e.pos; holding [v] (truthy v)) := by intro _; rfl) : PT X e (tB t) := by
  intro pins s σ H Q I hw
  refine isTrue_plain (thn (h pins s σ H _ I hw) fun v s1 ⟨x, H1, I1, r1, q1⟩ => ?_) (he _)
  obtain ⟨d, rfl, q⟩ := q1
  cases r1
  exact wpAny_truthy_bool ⟨H1, I1, q⟩

/-! ### and, or, not -/
variable {tA tB' : TT} {rest : List Expr}
noncomputable def tAnd (t u : TT) : TT := fun σ H Q => t σ H fun c H1 => if c = true then u σ H1 Q else Q false H1
noncomputable def tOr (t u : TT) : TT := fun σ H Q => t σ H fun c H1 => if c = true then Q true H1 else u σ H1 Q
theorem pw_and1 (ha : PT X a tA) : PW X (.BoolOp .And [a] pos) tA := by
  intro wh pins s σ H Q I h
  refine isTrue_and (thn (ha pins s σ H Q I h) fun c s1 e => ?_)
  cases c with
  | true => exact isTrue_and_nil e
  | false => exact e
theorem pw_or1 (ha : PT X a tA) : PW X (.BoolOp .Or [a] pos) tA := by
  intro wh pins s σ H Q I h
  refine isTrue_or (thn (ha pins s σ H Q I h) fun c s1 e => ?_)
  cases c with
  | false => exact isTrue_or_nil e
  | true => exact e
theorem pw_and (ha : PT X a tA) (hb : PW X (.BoolOp .And (b :: rest) pos) tB') : PW X (.BoolOp .And (a :: b :: rest) pos) (tAnd tA tB') := by
  intro wh pins s σ H Q I h
  refine isTrue_and (thn (ha pins s σ H _ I h) fun c s1 ⟨H1, I1, q1⟩ => ?_)
  cases c with
  | true => exact hb wh pins s1 σ H1 Q I1 q1
  | false => exact ⟨H1, I1, q1⟩
theorem pw_or (ha : PT X a tA) (hb : PW X (.BoolOp .Or (b :: rest) pos) tB') : PW X (.BoolOp .Or (a :: b :: rest) pos) (tOr tA tB') := by
  intro wh pins s σ H Q I h
  refine isTrue_or (thn (ha pins s σ H _ I h) fun c s1 ⟨H1, I1, q1⟩ => ?_)
  cases c with
  | true => exact ⟨H1, I1, q1⟩
  | false => exact hb wh pins s1 σ H1 Q I1 q1
noncomputable def tAndV (ta tb : TE) : TE := fun σ H Q => ta σ H fun x H1 => ∃ c, x = .bl c ∧ if c = true then tb σ H1 Q else Q (.bl false) H1
noncomputable def tOrV (ta tb : TE) : TE := fun σ H Q => ta σ H fun x H1 => ∃ c, x = .bl c ∧ if c = true then Q (.bl true) H1 else tb σ H1 Q
theorem pe_one {op} {t : TE} (h : PE X a t) : PE X (.BoolOp op [a] pos) t := fun pins s σ H Q I hw => BoolOp_one (h pins s σ H Q I hw)
theorem pe_and (ha : PE X a ta) (hb : PE X (.BoolOp .And (b :: rest) pos) tb) : PE X (.BoolOp .And (a :: b :: rest) pos) (tAndV ta tb) := by
  intro pins s σ H Q I h
  refine BoolOp_and (thn (ha pins s σ H _ I h) fun v s1 ⟨x, H1, I1, r1, q1⟩ => ?_)
  obtain ⟨c, rfl, q1⟩ := q1
  cases r1
  refine wpAny_truthy_bool ?_
  cases c with
  | true => exact hb pins s1 σ H1 Q I1 q1
  | false => exact ⟨.bl false, H1, I1, rfl, q1⟩
theorem pe_or (ha : PE X a ta) (hb : PE X (.BoolOp .Or (b :: rest) pos) tb) : PE X (.BoolOp .Or (a :: b :: rest) pos) (tOrV ta tb) := by
  intro pins s σ H Q I h
  refine BoolOp_or (thn (ha pins s σ H _ I h) fun v s1 ⟨x, H1, I1, r1, q1⟩ => ?_)
  obtain ⟨c, rfl, q1⟩ := q1
  cases r1
  refine wpAny_truthy_bool ?_
  cases c with
  | false => exact hb pins s1 σ H1 Q I1 q1
  | true => exact ⟨.bl true, H1, I1, rfl, q1⟩
end
end L2

namespace L2
open PySem PySem.Spec PyProof.Rows

/-! ### a list, a tuple that is read: tracked, frozen, or an object of the module -/
noncomputable def SqL (K : PySem.W.Frag) (H : Hp) (a : Addr) (xs : List V) : Prop :=
  Rd H a (.lst xs) ∨
    ∃ (o : Obj) (its : Array Value) (n : Nat), K.lookup a = some o ∧ o.cls = .type "list" ∧ o.dict = none ∧ o.data = .seq its n ∧ its.size ≤ sizeLine ∧ Vals xs its.toList
noncomputable def SqT (K : PySem.W.Frag) (H : Hp) (a : Addr) (xs : List V) : Prop :=
  Rd H a (.tup xs) ∨
    ∃ (o : Obj) (its : Array Value) (n : Nat), K.lookup a = some o ∧ o.cls = .type "tuple" ∧ o.data = .seq its n ∧ its.size ≤ sizeLine ∧ Vals xs its.toList
noncomputable def absV : Value → Option V
  | .none => some .non
  | .bool b => some (.bl b)
  | .int i _ => some (.int i)
  | .str x _ => some (.str x)
  | .bytes b _ => some (.byt b)
  | .float b _ => some (.flt b)
  | .ref a => some (.ref a)
  | .type n => some (.ty n)
  | _ => none
theorem RelV.abs {x : V} {u : Value} (r : RelV x u) : absV u = some x := by
  cases x with
  | non => cases r; rfl
  | bl _ => cases r; rfl
  | int _ => obtain ⟨t, rfl⟩ := r; rfl
  | str _ => obtain ⟨t, rfl⟩ := r; rfl
  | byt _ => obtain ⟨t, rfl⟩ := r; rfl
  | flt _ => obtain ⟨t, rfl⟩ := r; rfl
  | ref _ => cases r; rfl
  | ty _ => cases r; rfl
theorem RelV.inj {x y : V} {u : Value} (r : RelV x u) (q : RelV y u) : x = y := Option.some.inj (r.abs.symm.trans q.abs)
theorem Vals.inj : ∀ {xs ys : List V} {us : List Value}, Vals xs us → Vals ys us → xs = ys
  | _, _, _, .nil, .nil => rfl
  | _, _, _, .cons r t, .cons r' t' => by rw [r.inj r', Vals.inj t t']
section
variable {X : Cx} {pins : List (Addr × Obj)} {σ : St} {H : Hp} {s : Shared} {a : Addr} {xs ys : List V}
theorem SqL.of {K : PySem.W.Frag} (h : H a = some (.lst xs)) : SqL K H a xs := .inl (.inl h)
theorem SqT.of {K : PySem.W.Frag} (h : H a = some (.tup xs)) : SqT K H a xs := .inl (.inl h)
theorem Inv.list (I : Inv X pins σ H s) (h : SqL X.K H a xs) : ∃ its : List Value, Vals xs its ∧ PlainL s.heap a its.toArray ∧ xs.length ≤ sizeLine := by
  rcases h with h | ⟨o, its, n, hk, hc, hd, hs, hz, r⟩
  · obtain ⟨z, its, n, r, e⟩ := h.ok I.hok
    exact ⟨its, r, ⟨_, n, e, rfl, rfl, rfl⟩, z⟩
  · refine ⟨its.toList, r, ⟨o, n, I.kIn a o hk, hc, hd, by simpa using hs⟩, ?_⟩
    have e := r.length
    simp only [Array.length_toList] at e
    omega
theorem Inv.tuple (I : Inv X pins σ H s) (h : SqT X.K H a xs) : ∃ its : List Value, Vals xs its ∧ IsTup s.heap a its.toArray ∧ xs.length ≤ sizeLine := by
  rcases h with h | ⟨o, its, n, hk, hc, hs, hz, r⟩
  · obtain ⟨z, its, r, p⟩ := h.ok I.hok
    exact ⟨its, r, p, z⟩
  · refine ⟨its.toList, r, ⟨o, I.kIn a o hk, hc, n, by simpa using hs⟩, ?_⟩
    have e := r.length
    simp only [Array.length_toList] at e
    omega
theorem Inv.list_inj (I : Inv X pins σ H s) (h : SqL X.K H a xs) (h' : SqL X.K H a ys) : xs = ys := by
  obtain ⟨its, r, ⟨o, n, e, _, _, d⟩, _⟩ := I.list h
  obtain ⟨its', r', ⟨o', n', e', _, _, d'⟩, _⟩ := I.list h'
  rw [e] at e'; cases e'
  rw [d] at d'
  injection d' with d1 _
  have : its = its' := by simpa using congrArg Array.toList d1
  subst this
  exact r.inj r'
theorem Inv.tuple_inj (I : Inv X pins σ H s) (h : SqT X.K H a xs) (h' : SqT X.K H a ys) : xs = ys := by
  obtain ⟨its, r, ⟨o, e, _, n, d⟩, _⟩ := I.tuple h
  obtain ⟨its', r', ⟨o', e', _, n', d'⟩, _⟩ := I.tuple h'
  rw [e] at e'; cases e'
  rw [d] at d'
  injection d' with d1 _
  have : its = its' := by simpa using congrArg Array.toList d1
  subst this
  exact r.inj r'
end

/-! ### another wish about exceptions -/
noncomputable abbrev Cx.wish (X : Cx) (E : Value → Shared → Prop) : Cx := { X with xe := E }
noncomputable abbrev Cx.nox (X : Cx) : Cx := X.wish fun _ _ => False
theorem Cx.Ok.wish {X : Cx} (ok : X.Ok) (E : Value → Shared → Prop) : (X.wish E).Ok :=
  ⟨ok.mod, ok.kind, ok.glob, ok.blt, ok.above, ok.inj, ok.has, ok.cab, ok.hd, ok.frames, ok.stk, ok.exf, ok.bs, ok.bsz, ok.noex, ok.exfs, ok.funs, ok.frf⟩
theorem Cx.Ok.unwish {X : Cx} {E : Value → Shared → Prop} (ok : (X.wish E).Ok) : X.Ok :=
  ⟨ok.mod, ok.kind, ok.glob, ok.blt, ok.above, ok.inj, ok.has, ok.cab, ok.hd, ok.frames, ok.stk, ok.exf, ok.bs, ok.bsz, ok.noex, ok.exfs, ok.funs, ok.frf⟩
section
variable {X : Cx} {pins : List (Addr × Obj)} {σ : St} {H : Hp} {s : Shared} {E : Value → Shared → Prop}
theorem Inv.wish (I : Inv X pins σ H s) (E : Value → Shared → Prop) : Inv (X.wish E) pins σ H s := ⟨I.ok.wish E, I.os, I.bare, I.base, I.loc, I.cell, I.free, I.freeC, I.pin, I.hok, I.len⟩
theorem Inv.unwish (I : Inv (X.wish E) pins σ H s) : Inv X pins σ H s := ⟨I.ok.unwish, I.os, I.bare, I.base, I.loc, I.cell, I.free, I.freeC, I.pin, I.hok, I.len⟩
theorem SP.unwish {D : Ends} {f : Flow} {s' : Shared} (h : SP (X.wish E) pins D f s') : SP X pins D f s' := by
  cases f with
  | next => obtain ⟨σ', H', I, q⟩ := h; exact ⟨σ', H', I.unwish, q⟩
  | brk => obtain ⟨σ', H', I, q⟩ := h; exact ⟨σ', H', I.unwish, q⟩
  | cont => obtain ⟨σ', H', I, q⟩ := h; exact ⟨σ', H', I.unwish, q⟩
  | ret u => obtain ⟨v, σ', H', I, r, q⟩ := h; exact ⟨v, σ', H', I.unwish, r, q⟩
theorem PSs.nox {st : List Stmt} {t : TS} (h : PSs X.nox st t) : PSs X st t := fun pins s σ H D I hw =>
  wpAny_mono (h pins s σ H D (I.wish _) hw) (fun _ _ q => q.unwish) fun _ _ z => False.elim z
end

/-! ### blocks and small statements -/
section
variable {X : Cx} {st : Stmt} {rest : List Stmt} {t u : TS} {e : Expr} {te : TE} {pos : Pos}
noncomputable def tNext : TS := fun D σ H => D.nx σ H
noncomputable def tSeq (t u : TS) : TS := fun D σ H => t { D with nx := u D } σ H
theorem pss_nil : PSs X [] tNext := fun _ _ σ H _ I h => wpAny_execs_nil ⟨σ, H, I, h⟩
theorem pss_cons (h1 : PS X st t) (h2 : PSs X rest u) : PSs X (st :: rest) (tSeq t u) := by
  intro pins s σ H D I h
  refine wpAny_execs_cons (thn (h1 pins s σ H { D with nx := u D } I h) fun f s1 q => ?_)
  cases f with
  | next =>
    obtain ⟨σ', H', I', q⟩ := q
    exact h2 pins s1 σ' H' D I' q
  | ret v => exact q
  | brk => exact q
  | cont => exact q
theorem pss_one (h1 : PS X st t) : PSs X [st] t := by
  intro pins s σ H D I h
  refine wpAny_execs_cons (thn (h1 pins s σ H D I h) fun f s1 q => ?_)
  cases f with
  | next => exact wpAny_execs_nil q
  | ret v => exact q
  | brk => exact q
  | cont => exact q
theorem Inv.quiet {pins : List (Addr × Obj)} {σ : St} {H : Hp} {s : Shared} (I : Inv X pins σ H s) : interactive X.env = false := by simp [interactive, I.ok.kind]
noncomputable def tDrop (te : TE) : TS := fun D σ H => te σ H fun _ H1 => D.nx σ H1
theorem ps_expr (he : PE X e te) (hs : swapsWith e none pos.line X.env = pure false := by rfl) : PS X (.Expr e pos) (tDrop te) := by
  intro pins s σ H D I h
  exact wpAny_Expr_any (thn (he pins s σ H _ I h) fun v s1 ⟨x, H1, I1, r1, q1⟩ => ⟨σ, H1, I1, q1⟩) I.quiet hs
noncomputable def tRet (te : TE) : TS := fun D σ H => te σ H D.rt
theorem ps_ret (he : PE X e te) : PS X (.Return (some e) pos) (tRet te) := by
  intro pins s σ H D I h
  exact wpAny_Return_some (thn (he pins s σ H _ I h) fun v s1 ⟨x, H1, I1, r1, q1⟩ => ⟨x, σ, H1, I1, r1, q1⟩)
noncomputable def tIfS (c : TT) (t u : TS) : TS := fun D σ H => c σ H fun b H1 => if b = true then t D σ H1 else u D σ H1
theorem ps_if {c : Expr} {a b : List Stmt} {tc : TT} (hc : PT X c tc) (ha : PSs X a t) (hb : PSs X b u) : PS X (.If c a b pos) (tIfS tc t u) := by
  intro pins s σ H D I h
  refine wpAny_If (thn (hc pins s σ H _ I h) fun d s1 ⟨H1, I1, q1⟩ => ?_)
  cases d with
  | true => exact ha pins s1 σ H1 D I1 q1
  | false => exact hb pins s1 σ H1 D I1 q1
noncomputable def tNever : TS := fun _ _ _ => False
theorem ps_never : PS X st tNever := fun _ _ _ _ _ _ h => h.elim
end

/-! ### targets -/
noncomputable abbrev TG := V → St → Hp → (St → Hp → Prop) → Prop
noncomputable abbrev TGs := List V → St → Hp → (St → Hp → Prop) → Prop
noncomputable def PG (X : Cx) (target : Expr) (t : TG) : Prop :=
  ∀ (pins : List (Addr × Obj)) (s : Shared) (σ : St) (H : Hp) (v : V) (u : Value) (Q : St → Hp → Prop), Inv X pins σ H s → RelV v u → t v σ H Q →
    wpAny (model X.prog X.w) X.A (assign target X.env u) (fun _ s' => ∃ σ' H', Inv X pins σ' H' s' ∧ Q σ' H') X.xe s
noncomputable def PGs (X : Cx) (ts : List Expr) (t : TGs) : Prop :=
  ∀ (pins : List (Addr × Obj)) (s : Shared) (σ : St) (H : Hp) (vs : List V) (us : List Value) (Q : St → Hp → Prop), Inv X pins σ H s → Vals vs us → t vs σ H Q →
    wpAny (model X.prog X.w) X.A (assignInOrder ((assignEach ts X.env).map (·.2)) us) (fun _ s' => ∃ σ' H', Inv X pins σ' H' s' ∧ Q σ' H') X.xe s
noncomputable abbrev TIp := V → V → Hp → VK → Prop
noncomputable def PIp (X : Cx) (op : Operator) (t : TIp) : Prop :=
  ∀ (pins : List (Addr × Obj)) (s : Shared) (σ : St) (H : Hp) (x y : V) (v u : Value) (Q : VK), Inv X pins σ H s → RelV x v → RelV y u → t x y H Q →
    wpAny (model X.prog X.w) X.A (inplaceOp op v u) (EP X pins σ Q) X.xe s
section
variable {X : Cx} {pos : Pos}
noncomputable def gName (i : Nat) : TG := fun v σ H Q => Q (σ.set i (some v)) H
theorem pg_name {i : Nat} {x : Str} (hN : X.N.Nodup) (hi : X.N[i]? = some x) (hx : Loc X.env.scope x) (hf : X.fn x = true ∨ X.env.scope.names.lookup x = some .local := by first | exact .inl rfl | exact .inr rfl | assumption) : PG X (.Name x pos) (gName i) := by
  intro pins s σ H v u Q I r h
  exact wpAny_assign_Name (store_ok I hN hi hx r (fun s' I' => ⟨_, H, I', h⟩) hf)
noncomputable def gNil : TGs := fun vs σ H Q => vs = [] ∧ Q σ H
noncomputable def gCons (t : TG) (u : TGs) : TGs := fun vs σ H Q => ∃ v r, vs = v :: r ∧ t v σ H fun σ' H' => u r σ' H' Q
theorem pgs_nil : PGs X [] gNil := by
  intro pins s σ H vs us Q I r h
  obtain ⟨e, h⟩ := h
  subst e
  cases r
  exact assignInOrder_nil ⟨σ, H, I, h⟩
theorem pgs_cons {e : Expr} {es : List Expr} {t : TG} {u : TGs} (h1 : PG X e t) (h2 : PGs X es u)
    (hs : (assignEach (e :: es) X.env).map (·.2) = assign e X.env :: (assignEach es X.env).map (·.2) := by rfl) : PGs X (e :: es) (gCons t u) := by
  intro pins s σ H vs us Q I r h
  obtain ⟨v, vr, e1, h⟩ := h
  subst e1
  cases r with
  | cons r rr =>
    rw [hs]
    refine assignInOrder_cons (thn (h1 pins s σ H _ _ _ I r h) fun _ s1 ⟨σ1, H1, I1, q1⟩ => ?_)
    exact h2 pins s1 σ1 H1 _ _ Q I1 rr q1
noncomputable def gTup (K : PySem.W.Frag) (n : Nat) (t : TGs) : TG := fun v σ H Q => ∃ a xs, v = .ref a ∧ SqT K H a xs ∧ xs.length = n ∧ t xs σ H Q
theorem pg_tup {es : List Expr} {k : Nat} {t : TGs} {n : Nat} (hc : X.calm = true) (h : PGs X es t)
    (hn : (assignEach es X.env).length = n := by rfl) (hst : (assignEach es X.env).findIdx? (·.1) = none := by rfl) : PG X (.Tuple es k pos) (gTup X.K n t) := by
  intro pins s σ H v u Q I r hw
  obtain ⟨a, xs, e1, hq, hl, hw⟩ := hw
  subst e1
  cases r
  obtain ⟨its, rv, ht, hz⟩ := I.tuple hq
  refine assign_Tuple_tuple (I.ok.hd hc) ht (by simp [hn, ← hl, rv.length]) hst fun h' hx => ?_
  have I1 : Inv X pins σ H { s with heap := h' } := I.kept (t' := s.toks) fun b o e => hx b o (Nat.ne_of_lt (Heap.lt_size e)) e
  exact h pins _ σ H xs _ Q I1 (by simpa using rv) hw
noncomputable def tAsg (te : TE) (g : TG) : TS := fun D σ H => te σ H fun x H1 => g x σ H1 D.nx
theorem ps_asg {tg e : Expr} {te : TE} {g : TG} (he : PE X e te) (hg : PG X tg g) (hs : swapsWithSole [tg] e pos.line X.env = pure false := by rfl) (hw : swappedStores [tg] e X.env = pure none := by rfl)
    (h1 : (assignEach [tg] X.env).map (·.2) = [assign tg X.env] := by rfl) : PS X (.Assign [tg] e pos) (tAsg te g) := by
  intro pins s σ H D I h
  refine wpAny_Assign_stores (thn (he pins s σ H _ I h) fun v s1 ⟨x, H1, I1, r1, q1⟩ => ?_) hs hw
  rw [h1]
  exact thn (hg pins s1 σ H1 x v _ I1 r1 q1) fun _ s2 q => q
theorem ps_set {i : Nat} {x : Str} {e : Expr} {te : TE} {pos' : Pos} (hN : X.N.Nodup) (hi : X.N[i]? = some x) (hx : Loc X.env.scope x) (he : PE X e te) (hs : swapsWith e (some (.Name x pos')) pos.line X.env = pure false := by rfl) (hf : X.fn x = true ∨ X.env.scope.names.lookup x = some .local := by first | exact .inl rfl | exact .inr rfl | assumption) :
    PS X (.Assign [.Name x pos'] e pos) (tAsg te (gName i)) := by
  intro pins s σ H D I h
  refine wpAny_Assign_Name (thn (he pins s σ H _ I h) fun v s1 ⟨y, H1, I1, r1, q1⟩ => ?_) hs
  exact store_ok I1 hN hi hx r1 (fun s2 I2 => ⟨_, H1, I2, q1⟩) hf
noncomputable def tAug (i : Nat) (te : TE) (ti : TIp) : TS := fun D σ H => ∃ x, σ[i]? = some (some x) ∧ te σ H fun y H1 => ti x y H1 fun z H2 => D.nx (σ.set i (some z)) H2
theorem ps_aug {i : Nat} {x : Str} {e : Expr} {te : TE} {op : Operator} {ti : TIp} {pos' : Pos} (hN : X.N.Nodup) (hi : X.N[i]? = some x) (hx : Loc X.env.scope x) (he : PE X e te) (ho : PIp X op ti) (hf : X.fn x = true ∨ X.env.scope.names.lookup x = some .local := by first | exact .inl rfl | exact .inr rfl | assumption) :
    PS X (.AugAssign (.Name x pos') op e pos) (tAug i te ti) := by
  intro pins s σ H D I h
  obtain ⟨v, e1, h⟩ := h
  obtain ⟨m, hn, hl⟩ := I.loc
  have vis : Vis X.env.scope x := by rcases hx with k | k; exact .inl k; exact .inr (.inl k)
  obtain ⟨u, r, l⟩ := hl i x v hi e1 vis
  refine wpAny_AugAssign_Name ?_
  have go : wpAny (model X.prog X.w) X.A (eval e X.env) (fun w s₂ => wpAny (model X.prog X.w) X.A (inplaceOp op u w) (fun r s₃ => wpAny (model X.prog X.w) X.A (storeName X.env x r) (fun _ => SP X pins D .next) X.xe s₃) X.xe s₂) X.xe s := by
    refine thn (he pins s σ H _ I h) fun w s1 ⟨y, H1, I1, r1, q1⟩ => ?_
    refine thn (ho pins s1 σ H1 v y u w _ I1 r r1 q1) fun z s2 ⟨zv, H2, I2, r2, q2⟩ => ?_
    exact store_ok I2 hN hi hx r2 (fun s3 I3 => ⟨_, H2, I3, q2⟩) hf
  rcases l with ⟨hk, hm⟩ | ⟨hk, c, hc, hcell⟩
  · exact wpAny_loadName_local I.ok.kind hk hn hm go
  · rcases hk with hk | hk
    · exact wpAny_loadName_cell I.ok.kind hk hc hcell go
    · rcases hx with k | k
      · have : X.env.scope.names.lookup x = some .free := hk
        rw [k] at this; cases this
      · have : X.env.scope.names.lookup x = some .free := hk
        rw [k] at this; cases this
noncomputable def ipI (f : Int → Int → Int) : TIp := fun x y H Q => ∃ i j, x = .int i ∧ y = .int j ∧ Q (.int (f i j)) H
theorem ip_add : PIp X .Add (ipI fun i j => i + j) := by
  intro pins s σ H x y v u Q I r1 r2 h
  obtain ⟨i, j, e1, e2, q⟩ := h
  subst e1; subst e2
  obtain ⟨t, rfl⟩ := r1
  obtain ⟨t', rfl⟩ := r2
  exact iadd_int ⟨.int _, H, I.tok _, ⟨_, rfl⟩, q⟩
end

/-! ### while -/
section
variable {X : Cx} {pos : Pos}
end

/-! ### what a loop or a comprehension walks -/
set_option genInjectivity false in
structure It where
  go : Nat → Hp → Prop
  yld : Nat → Hp → V → Hp → Prop
  stop : Nat → Hp → Prop
noncomputable def FpOk (X : Cx) (pins : List (Addr × Obj)) (H : Hp) (b : Addr) : Prop :=
  H b = none ∧ b ≠ X.env.locals ∧ b ∉ X.fs ∧ (b ∈ X.ex ∨ X.s₀.heap.objs.size ≤ b) ∧ (∀ x c, X.env.cells.lookup x = some c → c ≠ b) ∧ ∀ p ∈ X.pn ++ pins, p.1 ≠ b
theorem Inv.fpOk {X : Cx} {pins : List (Addr × Obj)} {σ : St} {H H' : Hp} {s : Shared} {b : Addr} (I : Inv X pins σ H s) (hb : s.heap.objs.size ≤ b) (hn : H' b = none) : FpOk X pins H' b := by
  refine ⟨hn, Nat.ne_of_gt (Nat.lt_of_lt_of_le I.lt hb), I.nofs hb, .inr (Nat.le_trans I.sz hb), fun x c e z => ?_, fun p hp z => ?_⟩
  · obtain ⟨v, q⟩ := I.cell x c e
    exact absurd (Nat.lt_of_lt_of_le q.lt (by rw [z]; exact hb)) (Nat.lt_irrefl _)
  · exact absurd (Nat.lt_of_lt_of_le (Heap.lt_size (I.pin p hp).1) (by rw [z]; exact hb)) (Nat.lt_irrefl _)
structure Turn (P : Program) (w : World) (K : PySem.W.Frag) (tg : Expr) (J : It) (fp : List Addr) (it : Addr) (tn : Nat → Heap → Prop) : Prop where
  mem : it ∈ fp
  obj : ∀ i h, tn i h → ∀ b ∈ fp, ∃ o, h.get? b = some o ∧ ∀ v, o.data ≠ .cell v
  keep : ∀ i h h', tn i h → (∀ b ∈ fp, ∀ o, h.get? b = some o → h'.get? b = some o) → tn i h'
  item : ∀ (X : Cx), X.prog = P → X.w = w → X.K = K → X.calm = true → ∀ (i : Nat) (pins : List (Addr × Obj)) (s : Shared) (σ : St) (H : Hp) (E : Value → Shared → Prop), Inv X pins σ H s → (∀ b ∈ fp, FpOk X pins H b) → tn i s.heap → J.go i H →
    wpAny (model P w) X.A (pyNext (.ref it)) (fun r s1 => ∃ u, r = some u ∧
      wpAny (model P w) X.A (letOwnedTupleGo tg (.ref it) u) (fun _ s2 => ∃ x H', Inv X pins σ H' s2 ∧ RelV x u ∧ J.yld i H x H' ∧ tn (i + 1) s2.heap ∧ ∀ b ∈ fp, H' b = none) E s1) E s
  done : ∀ (X : Cx), X.prog = P → X.w = w → X.K = K → X.calm = true → ∀ (i : Nat) (pins : List (Addr × Obj)) (s : Shared) (σ : St) (H : Hp) (E : Value → Shared → Prop), Inv X pins σ H s → (∀ b ∈ fp, FpOk X pins H b) → tn i s.heap → J.stop i H →
    wpAny (model P w) X.A (pyNext (.ref it)) (fun r s1 => r = none ∧ Inv X pins σ H s1) E s
  self : ∀ (A : Around) (i : Nat) (s : Shared) (Q : Value → Shared → Prop) (E : Value → Shared → Prop), tn i s.heap → Q (.ref it) s → wpAny (model P w) A (pyIter (.ref it)) Q E s
noncomputable abbrev TI := St → Hp → (It → Hp → Prop) → Prop
noncomputable def PIE (X : Cx) (pins : List (Addr × Obj)) (σ : St) (tg : Expr) (R : It → Hp → Prop) (itv : Value) (s2 : Shared) : Prop :=
  ∃ (it : Addr) (fp : List Addr) (tn : Nat → Heap → Prop) (J : It) (H' : Hp), itv = .ref it ∧ Inv X pins σ H' s2 ∧ Turn X.prog X.w X.K tg J fp it tn ∧ tn 0 s2.heap ∧ (∀ b ∈ fp, FpOk X pins H' b) ∧ R J H'
noncomputable def PI (X : Cx) (tg iter : Expr) (wi : TI) : Prop :=
  ∀ (pins : List (Addr × Obj)) (s : Shared) (σ : St) (H : Hp) (R : It → Hp → Prop), Inv X pins σ H s → wi σ H R →
    wpAny (model X.prog X.w) X.A (eval iter X.env) (fun v s1 => wpAny (model X.prog X.w) X.A (pyIter v) (PIE X pins σ tg R) X.xe s1) X.xe s

theorem go_of {M : Model} {A : Around} {E : Value → Shared → Prop} {s : Shared} {tg : Expr} {it : Addr} {u : Value} {o : Obj} {n : String} {vs : Array Value} {Q : Unit → Shared → Prop} (ho : s.heap.get? it = some o) (hc : o.cls = .type n) (hd : o.data = .fields vs)
    (hn : ["enumerate", "zip", "dict_itemiterator", "dict_reverseitemiterator", "odict_iterator", "itertools.zip_longest", "itertools.pairwise"].contains n = false) (hQ : Q () s) : wpAny M A (letOwnedTupleGo tg (.ref it) u) Q E s := by
  unfold letOwnedTupleGo
  cases tg <;> first
    | exact wpAny_pure hQ
    | (cases u <;> first
        | exact wpAny_pure hQ
        | (refine wpAny_bind (wpAny_load ho ?_)
           rw [hc, hd]
           show wpAny M A (if (["enumerate", "zip", "dict_itemiterator", "dict_reverseitemiterator", "odict_iterator", "itertools.zip_longest", "itertools.pairwise"].contains n && vs[0]? == some (rawInt _)) = true then _ else _) Q E s
           rw [if_neg (by intro h; rw [hn, Bool.false_and] at h; cases h)]
           exact wpAny_pure hQ))

noncomputable def Itl (K : PySem.W.Frag) (a : Addr) : It :=
  ⟨fun i H => ∃ xs x, SqL K H a xs ∧ xs[i]? = some x, fun i H x H' => H' = H ∧ ∀ xs, SqL K H a xs → xs[i]? = some x, fun i H => ∃ xs, SqL K H a xs ∧ xs.length ≤ i⟩
noncomputable def Itt (K : PySem.W.Frag) (a : Addr) : It :=
  ⟨fun i H => ∃ xs x, SqT K H a xs ∧ xs[i]? = some x, fun i H x H' => H' = H ∧ ∀ xs, SqT K H a xs → xs[i]? = some x, fun i H => ∃ xs, SqT K H a xs ∧ xs.length ≤ i⟩
noncomputable def Itr (lo : Int) (n : Nat) : It := ⟨fun i _ => i < n, fun i H x H' => H' = H ∧ x = .int (lo + i), fun i _ => n ≤ i⟩
theorem turn_list {P : Program} {w : World} {K : PySem.W.Frag} {tg : Expr} (a it : Addr) : Turn P w K tg (Itl K a) [it] it (fun i h => h.IsListIter it a i) where
  mem := by simp
  obj := fun i h st b hb => by
    have e : b = it := by simpa using hb
    subst e
    obtain ⟨o, e, c, d⟩ := st
    exact ⟨o, e, fun v z => by rw [d] at z; cases z⟩
  keep := fun i h h' st k => st.at fun o e => k it (by simp) o e
  item := by
    intro X hP hw hK hc i pins s σ H E I hf st hg
    subst hP hw hK
    obtain ⟨xs, x, hq, hx⟩ := hg
    obtain ⟨its, rv, p, hz⟩ := I.list hq
    obtain ⟨u, hu, ru⟩ := rv.get hx
    obtain ⟨f0, f1, f2, f3, f4, f5⟩ := hf it (by simp)
    refine wpAny_pyNext_list_item st p.isList (x := u) (by simpa using hu) fun h' st' sb => ?_
    have I1 : Inv X pins σ H { s with heap := h' } := I.turned (t' := s.toks) (fun b o hb e => (sb.2 b hb).trans e) f0 f1 f3 f4 f5
    obtain ⟨o, e, c, d⟩ := id st'
    exact ⟨u, rfl, go_of (s := { s with heap := h' }) e c d (by decide) ⟨x, H, I1, ru, ⟨rfl, fun ys hy => by rw [I.list_inj hy hq]; exact hx⟩, st', fun b hb => (hf b hb).1⟩⟩
  done := by
    intro X hP hw hK hc i pins s σ H E I hf st hg
    subst hP hw hK
    obtain ⟨xs, hq, hx⟩ := hg
    obtain ⟨its, rv, p, hz⟩ := I.list hq
    obtain ⟨f0, f1, f2, f3, f4, f5⟩ := hf it (by simp)
    have hl := rv.length
    exact wpAny_pyNext_list_end (I.ok.hd hc) st p.isList (by simp; omega) fun h' eb => ⟨rfl, I.turned (t' := s.toks) (fun b o hb e => eb b o hb e) f0 f1 f3 f4 f5⟩
  self := fun _ _ _ _ _ st h => wpAny_pyIter_listiter st h
theorem turn_tuple {P : Program} {w : World} {K : PySem.W.Frag} {tg : Expr} (a it : Addr) : Turn P w K tg (Itt K a) [it] it (fun i h => h.IsTupleIter it a i) where
  mem := by simp
  obj := fun i h st b hb => by
    have e : b = it := by simpa using hb
    subst e
    obtain ⟨o, e, c, d⟩ := st
    exact ⟨o, e, fun v z => by rw [d] at z; cases z⟩
  keep := fun i h h' st k => st.at fun o e => k it (by simp) o e
  item := by
    intro X hP hw hK hc i pins s σ H E I hf st hg
    subst hP hw hK
    obtain ⟨xs, x, hq, hx⟩ := hg
    obtain ⟨its, rv, p, hz⟩ := I.tuple hq
    obtain ⟨u, hu, ru⟩ := rv.get hx
    obtain ⟨f0, f1, f2, f3, f4, f5⟩ := hf it (by simp)
    refine wpAny_pyNext_tuple_item st (show s.heap.IsTuple a its.toArray from p) (x := u) (by simpa using hu) fun h' st' sb => ?_
    have I1 : Inv X pins σ H { s with heap := h' } := I.turned (t' := s.toks) (fun b o hb e => (sb.2 b hb).trans e) f0 f1 f3 f4 f5
    obtain ⟨o, e, c, d⟩ := id st'
    exact ⟨u, rfl, go_of (s := { s with heap := h' }) e c d (by decide) ⟨x, H, I1, ru, ⟨rfl, fun ys hy => by rw [I.tuple_inj hy hq]; exact hx⟩, st', fun b hb => (hf b hb).1⟩⟩
  done := by
    intro X hP hw hK hc i pins s σ H E I hf st hg
    subst hP hw hK
    obtain ⟨xs, hq, hx⟩ := hg
    obtain ⟨its, rv, p, hz⟩ := I.tuple hq
    obtain ⟨f0, f1, f2, f3, f4, f5⟩ := hf it (by simp)
    have hl := rv.length
    exact wpAny_pyNext_tuple_end (I.ok.hd hc) st (show s.heap.IsTuple a its.toArray from p) (by simp; omega) fun h' eb => ⟨rfl, I.turned (t' := s.toks) (fun b o hb e => eb b o hb e) f0 f1 f3 f4 f5⟩
  self := fun _ _ _ _ _ st h => wpAny_pyIter_tupleiter st h
theorem turn_range {P : Program} {w : World} {K : PySem.W.Frag} {tg : Expr} (it : Addr) (lo : Int) (n : Nat) : Turn P w K tg (Itr lo n) [it] it (fun i h => IsRangeIter h it (lo + (i : Nat) * 1) ((n : Int) - (i : Nat)) 1) where
  mem := by simp
  obj := fun i h st b hb => by
    have e : b = it := by simpa using hb
    subst e
    exact ⟨_, st, fun v z => by
      have z' : Data.fields _ = Data.cell v := z
      cases z'⟩
  keep := fun i h h' st k => k it (by simp) _ st
  item := by
    intro X hP hw hK hc i pins s σ H E I hf st hg
    subst hP hw hK
    obtain ⟨f0, f1, f2, f3, f4, f5⟩ := hf it (by simp)
    have W := Walks.range (prog := X.prog) (w := X.w) (I.ok.hd hc) it lo 1 n
    refine W.item i s _ _ hg st fun v h' tk hv st' kk => ?_
    obtain ⟨t, rfl⟩ := hv
    have I1 : Inv X pins σ H { s with heap := h', toks := tk } := I.turned (fun b o hb e => kk b o (by simpa using hb) e) f0 f1 f3 f4 f5
    refine ⟨_, rfl, go_of (s := { s with heap := h', toks := tk }) (n := "range_iterator") st' rfl rfl (by decide) ⟨.int (lo + i), H, I1, ⟨t, ?_⟩, ⟨rfl, rfl⟩, st', fun b hb => (hf b hb).1⟩⟩
    rw [Int.mul_one]
  done := by
    intro X hP hw hK hc i pins s σ H E I hf st hg
    subst hP hw hK
    obtain ⟨f0, f1, f2, f3, f4, f5⟩ := hf it (by simp)
    exact wpAny_pyNext_range_end (I.ok.hd hc) st (by have : n ≤ i := hg; omega) fun h' eb => ⟨rfl, I.turned (t' := s.toks) (fun b o hb e => eb b o hb e) f0 f1 f3 f4 f5⟩
  self := fun _ _ _ _ _ st h => wpAny_pyIter_rangeiter st h
end L2

namespace L2
open PySem PySem.Spec PyProof.Rows
section
variable {X : Cx} {tg : Expr}
noncomputable def iList (K : PySem.W.Frag) (tl : TE) : TI := fun σ H R => tl σ H fun x H1 => ∃ a, x = .ref a ∧ (∃ xs, SqL K H1 a xs) ∧ R (Itl K a) H1
noncomputable def iTup (K : PySem.W.Frag) (tl : TE) : TI := fun σ H R => tl σ H fun x H1 => ∃ a, x = .ref a ∧ (∃ xs, SqT K H1 a xs) ∧ R (Itt K a) H1
theorem pi_list {l : Expr} {tl : TE} (hl : PE X l tl) : PI X tg l (iList X.K tl) := by
  intro pins s σ H R I h
  refine thn (hl pins s σ H _ I h) fun v s1 ⟨x, H1, I1, r1, q1⟩ => ?_
  obtain ⟨a, e, ⟨xs, hq⟩, q⟩ := q1
  subst e
  cases r1
  obtain ⟨its, rv, p, hz⟩ := I1.list hq
  refine wpAny_pyIter_list p.isList ?_
  refine ⟨s1.heap.objs.size, [s1.heap.objs.size], _, _, H1, rfl, I1.kept (t' := s1.toks) fun b o e => Heap.get?_push_of_some _ e, turn_list a _, ⟨_, Heap.get?_push_size _ rfl, rfl, rfl⟩, fun b hb => ?_, q⟩
  have e : b = s1.heap.objs.size := by simpa using hb
  subst e
  exact I1.fpOk (Nat.le_refl _) (I1.hok.fresh (Nat.le_refl _))
theorem pi_tup {l : Expr} {tl : TE} (hl : PE X l tl) : PI X tg l (iTup X.K tl) := by
  intro pins s σ H R I h
  refine thn (hl pins s σ H _ I h) fun v s1 ⟨x, H1, I1, r1, q1⟩ => ?_
  obtain ⟨a, e, ⟨xs, hq⟩, q⟩ := q1
  subst e
  cases r1
  obtain ⟨its, rv, p, hz⟩ := I1.tuple hq
  refine wpAny_pyIter_tuple (show s1.heap.IsTuple a its.toArray from p) ?_
  refine ⟨s1.heap.objs.size, [s1.heap.objs.size], _, _, H1, rfl, I1.kept (t' := s1.toks) fun b o e => Heap.get?_push_of_some _ e, turn_tuple a _, ⟨_, Heap.get?_push_size _ rfl, rfl, rfl⟩, fun b hb => ?_, q⟩
  have e : b = s1.heap.objs.size := by simpa using hb
  subst e
  exact I1.fpOk (Nat.le_refl _) (I1.hok.fresh (Nat.le_refl _))
theorem range_it {pins : List (Addr × Obj)} {σ : St} {H : Hp} {s : Shared} {R : It → Hp → Prop} {E : Value → Shared → Prop} {lo hi : Int} {t u v : Tok} {tk : Nat} (I : Inv X pins σ H s) (h1 : -(2 ^ 62) ≤ lo) (h2 : lo < 2 ^ 62) (h3 : -(2 ^ 62) ≤ hi) (h4 : hi < 2 ^ 62)
    (q : R (Itr lo (hi - lo).toNat) H) : wpAny (model X.prog X.w) X.A (pyIter (.ref s.heap.objs.size)) (PIE X pins σ tg R) E { s with heap := s.heap.push { cls := .type "range", data := .fields #[.int lo t, .int hi u, .int 1 v] }, toks := tk } := by
  refine wpAny_pyIter_range (IsRange.new ..) (small_one h1 h2 h3 h4) ?_
  have I1 : Inv X pins σ H { s with heap := s.heap.push { cls := .type "range", data := .fields #[.int lo t, .int hi u, .int 1 v] }, toks := tk } := I.kept fun b o e => Heap.get?_push_of_some _ e
  refine ⟨(s.heap.push { cls := .type "range", data := .fields #[.int lo t, .int hi u, .int 1 v] }).objs.size, [(s.heap.push { cls := .type "range", data := .fields #[.int lo t, .int hi u, .int 1 v] }).objs.size], _, _, H, rfl,
    I1.kept (t' := tk) fun b o e => Heap.get?_push_of_some _ e, turn_range _ lo (hi - lo).toNat, ?_, fun b hb => ?_, q⟩
  · have e1 : lo + ((0 : Nat) : Int) * 1 = lo := by simp
    have e2 : (((hi - lo).toNat : Nat) : Int) - ((0 : Nat) : Int) = Builtin.Range.rangeSize lo hi 1 := by rw [rangeSize_one]; split <;> omega
    show IsRangeIter _ _ (lo + ((0 : Nat) : Int) * 1) ((((hi - lo).toNat : Nat) : Int) - ((0 : Nat) : Int)) 1
    rw [e1, e2]
    exact Heap.get?_push_size _ rfl
  · have e : b = (s.heap.push { cls := .type "range", data := .fields #[.int lo t, .int hi u, .int 1 v] }).objs.size := by simpa using hb
    subst e
    exact I1.fpOk (Nat.le_refl _) (I1.hok.fresh (Nat.le_refl _))
noncomputable def iRng1 (ta : TA) : TI := fun σ H R => ta σ H fun vs H1 => ∃ j : Int, vs = [.int j] ∧ -(2 ^ 62) ≤ j ∧ j < 2 ^ 62 ∧ R (Itr 0 j.toNat) H1
theorem pi_range1 {a : Expr} {ta : TA} {p pos : Pos} (hg : Gl X "range") (hm : X.mg "range" = none) (ha : PA X [a] ta) (hs : starEach [a] X.env = [(false, eval a X.env)] := by rfl) : PI X tg (.Call (.Name "range" p) [a] [] pos) (iRng1 ta) := by
  intro pins s σ H R I h
  refine Call_ (ld_blt I hg hm boot_range (PyProof.Rows.callWith_type1 (thn (ha pos pins s σ H _ I h) fun us s1 ⟨vs, H1, I1, r1, q1⟩ => ?_) hs rfl))
  obtain ⟨j, e, q1, q2, q⟩ := q1
  subst e
  cases r1 with
  | cons r rr =>
    cases rr
    obtain ⟨t, rfl⟩ := r
    exact call_range_1 (range_it I1 (by omega) (by omega) q1 q2 (by simpa using q))
/-! ### for -/
noncomputable def tFor (wi : TI) (g : TG) (tb : TS) : TS := fun D σ H => wi σ H fun J H1 => ∃ W : Nat → Nat → St → Hp → Prop, (∃ m, W 0 m σ H1) ∧ ∀ i m σ H, W i m σ H →
  (J.stop i H ∧ D.nx σ H) ∨ (J.go i H ∧ ∃ N : St → Hp → Prop, (∀ σ' H', N σ' H' → ∃ m', m' < m ∧ W (i + 1) m' σ' H') ∧ ∀ x H', J.yld i H x H' → g x σ H' fun σ2 H2 => tb { D with nx := N, ct := N, bk := D.nx } σ2 H2)
noncomputable def pinsAt (fp : List Addr) (h : Heap) : List (Addr × Obj) := fp.filterMap fun b => (h.get? b).map fun o => (b, o)
theorem mem_pinsAt {fp : List Addr} {h : Heap} {b : Addr} {o : Obj} (hb : b ∈ fp) (e : h.get? b = some o) : (b, o) ∈ pinsAt fp h := List.mem_filterMap.mpr ⟨b, hb, by rw [e]; rfl⟩
theorem of_pinsAt {fp : List Addr} {h : Heap} {p : Addr × Obj} (hp : p ∈ pinsAt fp h) : p.1 ∈ fp ∧ h.get? p.1 = some p.2 := by
  obtain ⟨b, hb, e⟩ := List.mem_filterMap.mp hp
  cases q : h.get? b with
  | none => rw [q] at e; cases e
  | some o =>
    rw [q] at e
    have e' : (b, o) = p := Option.some.inj e
    subst e'
    exact ⟨hb, q⟩
theorem Inv.pinned {pins : List (Addr × Obj)} {σ : St} {H : Hp} {s : Shared} {fp : List Addr} (I : Inv X pins σ H s) (hf : ∀ b ∈ fp, FpOk X pins H b) (ho : ∀ b ∈ fp, ∃ o, s.heap.get? b = some o ∧ ∀ v, o.data ≠ .cell v) : Inv X (pins ++ pinsAt fp s.heap) σ H s :=
  I.pins_of fun p hp => (List.mem_append.mp hp).elim (fun z => I.pin p (List.mem_append_right _ z)) fun z => by
    obtain ⟨hb, e⟩ := of_pinsAt z
    obtain ⟨f0, f1, f2, _⟩ := hf p.1 hb
    obtain ⟨o, e', d⟩ := ho p.1 hb
    rw [e] at e'; cases e'
    exact ⟨e, f0, f1, f2, d⟩
theorem Inv.unpinned {pins pl : List (Addr × Obj)} {σ : St} {H : Hp} {s : Shared} (I : Inv X (pins ++ pl) σ H s) : Inv X pins σ H s := I.pins_of fun p hp => I.pin p (List.mem_append_right _ (List.mem_append_left _ hp))
theorem ps_for {iter : Expr} {body : List Stmt} {wi : TI} {g : TG} {tb : TS} {pos : Pos} (hp : PassesOwn (model X.prog X.w) X.A X.env X.xe) (hc : X.calm = true) (hi : PI X tg iter wi) (hg : PG X tg g) (hb : PSs X body tb)
    (hs : ∀ x, foldedSetIterable iter X.env x = pure x := by intro _; rfl) : PS X (.For tg iter body [] pos) (tFor wi g tb) := by
  intro pins s σ H D I h
  refine wpAny_For (thn (hi pins s σ H _ I h) fun v s1 h1 => thn h1 fun itv s2 h2 => ?_) hs
  obtain ⟨it, fp, tn, J, H2, e, I2, T, st2, f2, W, ⟨m0, w0⟩, turn⟩ := h2
  subst e
  -- what stays true of the iterator's objects through the loop
  have stat : ∀ {H' : Hp}, (∀ b ∈ fp, H' b = none) → ∀ b ∈ fp, FpOk X pins H' b := fun hn b hb => ⟨hn b hb, (f2 b hb).2⟩
  refine codeAny_forLoop_any (fun n s' => ∃ i σ' H', Inv X pins σ' H' s' ∧ tn i s'.heap ∧ (∀ b ∈ fp, H' b = none) ∧ W i n σ' H') ?_ m0 ⟨0, σ, H2, I2, st2, fun b hb => (f2 b hb).1, w0⟩
  rintro n s3 ⟨i, σ3, H3, I3, st3, fr3, w3⟩
  rcases turn i n σ3 H3 w3 with ⟨stop, qn⟩ | ⟨go, N, hN, step⟩
  · refine wpAny_passesOwn hp (thn (T.done X rfl rfl rfl hc i pins s3 σ3 H3 X.xe I3 (stat fr3) st3 stop) fun r s4 ⟨hr, I4⟩ => ?_)
    subst hr
    exact wpAny_execs_nil ⟨σ3, H3, I4, qn⟩
  · refine wpAny_passesOwn hp (thn (T.item X rfl rfl rfl hc i pins s3 σ3 H3 X.xe I3 (stat fr3) st3 go) fun r s4 ⟨u, hr, h4⟩ => ?_)
    subst hr
    refine wpAny_passesOwn hp (thn h4 fun _ s5 ⟨x, H5, I5, r5, y5, st5, fr5⟩ => ?_)
    have I5' := I5.pinned (stat fr5) (T.obj _ _ st5)
    refine wpAny_passesOwn hp (thn (hg _ s5 σ3 H5 x u _ I5' r5 (step x H5 y5)) fun _ s6 ⟨σ6, H6, I6, q6⟩ => ?_)
    refine wpAny_passesOwn hp (thn (hb _ s6 σ6 H6 _ I6 q6) fun f s7 q7 => ?_)
    have again : ∀ {σ7 : St} {H7 : Hp}, Inv X (pins ++ pinsAt fp s5.heap) σ7 H7 s7 → N σ7 H7 → ∃ m, m < n ∧ ∃ i σ' H', Inv X pins σ' H' s7 ∧ tn i s7.heap ∧ (∀ b ∈ fp, H' b = none) ∧ W i m σ' H' := fun {σ7 H7} I7 n7 => by
      obtain ⟨m', hm, w7⟩ := hN σ7 H7 n7
      refine ⟨m', hm, i + 1, σ7, H7, I7.unpinned, T.keep _ _ _ st5 fun b hb o e => (I7.pin (b, o) (List.mem_append_right _ (List.mem_append_right _ (mem_pinsAt hb e)))).1, fun b hb => ?_, w7⟩
      obtain ⟨o, e, d⟩ := T.obj _ _ st5 b hb
      exact (I7.pin (b, o) (List.mem_append_right _ (List.mem_append_right _ (mem_pinsAt hb e)))).2.1
    cases f with
    | next => obtain ⟨σ7, H7, I7, n7⟩ := q7; exact again I7 n7
    | cont => obtain ⟨σ7, H7, I7, n7⟩ := q7; exact again I7 n7
    | brk => obtain ⟨σ7, H7, I7, q7⟩ := q7; exact ⟨σ7, H7, I7.unpinned, q7⟩
    | ret v => obtain ⟨x7, σ7, H7, I7, r7, q7⟩ := q7; exact ⟨x7, σ7, H7, I7.unpinned, r7, q7⟩
end

/-! ### the forms one uses -/
theorem for_list {K : PySem.W.Frag} {a : Addr} {xs : List V} {g : TG} {tb : TS} {D : Ends} {σ : St} {H : Hp} (Pv : Nat → St → Hp → Prop) (h0 : Pv 0 σ H) (hl : ∀ i σ H, i ≤ xs.length → Pv i σ H → SqL K H a xs)
    (hs : ∀ i x σ H, xs[i]? = some x → Pv i σ H → g x σ H fun σ2 H2 => tb { D with nx := Pv (i + 1), ct := Pv (i + 1), bk := D.nx } σ2 H2) (hd : ∀ σ H, Pv xs.length σ H → D.nx σ H) :
    ∃ W : Nat → Nat → St → Hp → Prop, (∃ m, W 0 m σ H) ∧ ∀ i m σ H, W i m σ H →
      ((Itl K a).stop i H ∧ D.nx σ H) ∨ ((Itl K a).go i H ∧ ∃ N : St → Hp → Prop, (∀ σ' H', N σ' H' → ∃ m', m' < m ∧ W (i + 1) m' σ' H') ∧ ∀ x H', (Itl K a).yld i H x H' → g x σ H' fun σ2 H2 => tb { D with nx := N, ct := N, bk := D.nx } σ2 H2) := by
  refine ⟨fun i m σ H => m = xs.length - i ∧ i ≤ xs.length ∧ Pv i σ H, ⟨xs.length, by simp, Nat.zero_le _, h0⟩, ?_⟩
  rintro i m σ H ⟨rfl, hi, p⟩
  have q := hl i σ H hi p
  by_cases hlt : i < xs.length
  · refine .inr ⟨⟨xs, xs[i], q, by simp [hlt]⟩, Pv (i + 1), fun σ' H' p' => ⟨xs.length - (i + 1), by omega, rfl, hlt, p'⟩, fun x H' y => ?_⟩
    obtain ⟨e, y⟩ := y
    subst e
    exact hs i x σ _ (y xs q) p
  · have e : i = xs.length := by omega
    subst e
    exact .inl ⟨⟨xs, q, Nat.le_refl _⟩, hd σ H p⟩
theorem for_tup {K : PySem.W.Frag} {a : Addr} {xs : List V} {g : TG} {tb : TS} {D : Ends} {σ : St} {H : Hp} (Pv : Nat → St → Hp → Prop) (h0 : Pv 0 σ H) (hl : ∀ i σ H, i ≤ xs.length → Pv i σ H → SqT K H a xs)
    (hs : ∀ i x σ H, xs[i]? = some x → Pv i σ H → g x σ H fun σ2 H2 => tb { D with nx := Pv (i + 1), ct := Pv (i + 1), bk := D.nx } σ2 H2) (hd : ∀ σ H, Pv xs.length σ H → D.nx σ H) :
    ∃ W : Nat → Nat → St → Hp → Prop, (∃ m, W 0 m σ H) ∧ ∀ i m σ H, W i m σ H →
      ((Itt K a).stop i H ∧ D.nx σ H) ∨ ((Itt K a).go i H ∧ ∃ N : St → Hp → Prop, (∀ σ' H', N σ' H' → ∃ m', m' < m ∧ W (i + 1) m' σ' H') ∧ ∀ x H', (Itt K a).yld i H x H' → g x σ H' fun σ2 H2 => tb { D with nx := N, ct := N, bk := D.nx } σ2 H2) := by
  refine ⟨fun i m σ H => m = xs.length - i ∧ i ≤ xs.length ∧ Pv i σ H, ⟨xs.length, by simp, Nat.zero_le _, h0⟩, ?_⟩
  rintro i m σ H ⟨rfl, hi, p⟩
  have q := hl i σ H hi p
  by_cases hlt : i < xs.length
  · refine .inr ⟨⟨xs, xs[i], q, by simp [hlt]⟩, Pv (i + 1), fun σ' H' p' => ⟨xs.length - (i + 1), by omega, rfl, hlt, p'⟩, fun x H' y => ?_⟩
    obtain ⟨e, y⟩ := y
    subst e
    exact hs i x σ _ (y xs q) p
  · have e : i = xs.length := by omega
    subst e
    exact .inl ⟨⟨xs, q, Nat.le_refl _⟩, hd σ H p⟩
theorem for_range {lo : Int} {n : Nat} {g : TG} {tb : TS} {D : Ends} {σ : St} {H : Hp} (Pv : Nat → St → Hp → Prop) (h0 : Pv 0 σ H)
    (hs : ∀ i σ H, i < n → Pv i σ H → g (.int (lo + i)) σ H fun σ2 H2 => tb { D with nx := Pv (i + 1), ct := Pv (i + 1), bk := D.nx } σ2 H2) (hd : ∀ σ H, Pv n σ H → D.nx σ H) :
    ∃ W : Nat → Nat → St → Hp → Prop, (∃ m, W 0 m σ H) ∧ ∀ i m σ H, W i m σ H →
      ((Itr lo n).stop i H ∧ D.nx σ H) ∨ ((Itr lo n).go i H ∧ ∃ N : St → Hp → Prop, (∀ σ' H', N σ' H' → ∃ m', m' < m ∧ W (i + 1) m' σ' H') ∧ ∀ x H', (Itr lo n).yld i H x H' → g x σ H' fun σ2 H2 => tb { D with nx := N, ct := N, bk := D.nx } σ2 H2) := by
  refine ⟨fun i m σ H => m = n - i ∧ i ≤ n ∧ Pv i σ H, ⟨n, by simp, Nat.zero_le _, h0⟩, ?_⟩
  rintro i m σ H ⟨rfl, hi, p⟩
  by_cases hlt : i < n
  · refine .inr ⟨hlt, Pv (i + 1), fun σ' H' p' => ⟨n - (i + 1), by omega, rfl, hlt, p'⟩, fun x H' y => ?_⟩
    obtain ⟨e, y⟩ := y
    subst e y
    exact hs i σ _ hlt p
  · have e : i = n := by omega
    subst e
    exact .inl ⟨Nat.le_refl _, hd σ H p⟩
end L2

namespace L2
open PySem PySem.Spec PyProof.Rows

noncomputable abbrev R2 := V → V → Hp → VK → Prop
noncomputable def OpR (X : Cx) (f : Value → Value → Sem Value) (r : R2) : Prop :=
  ∀ (pins : List (Addr × Obj)) (s : Shared) (σ : St) (H : Hp) (x y : V) (v u : Value) (Q : VK), Inv X pins σ H s → RelV x v → RelV y u → r x y H Q →
    wpAny (model X.prog X.w) X.A (f v u) (EP X pins σ Q) X.xe s
noncomputable def UnR (X : Cx) (f : Value → Sem Value) (r : V → Hp → VK → Prop) : Prop :=
  ∀ (pins : List (Addr × Obj)) (s : Shared) (σ : St) (H : Hp) (x : V) (v : Value) (Q : VK), Inv X pins σ H s → RelV x v → r x H Q →
    wpAny (model X.prog X.w) X.A (f v) (EP X pins σ Q) X.xe s
noncomputable def CallR (X : Cx) (f : Value) (r : List V → Hp → VK → Prop) : Prop :=
  ∀ (pins : List (Addr × Obj)) (s : Shared) (σ : St) (H : Hp) (xs : List V) (us : List Value) (Q : VK), Inv X pins σ H s → Vals xs us → r xs H Q →
    wpAny (model X.prog X.w) X.A (call f us) (EP X pins σ Q) X.xe s
noncomputable def tOp (r : R2) (ta tb : TE) : TE := fun σ H Q => ta σ H fun x H1 => tb σ H1 fun y H2 => r x y H2 Q
noncomputable def tUn (r : V → Hp → VK → Prop) (ta : TE) : TE := fun σ H Q => ta σ H fun x H1 => r x H1 Q
noncomputable def rI (C : Int → Int → Prop) (g : Int → Int → V) : R2 := fun x y H Q => ∃ i j, x = .int i ∧ y = .int j ∧ C i j ∧ Q (g i j) H
noncomputable def rI0 (g : Int → Int → V) : R2 := fun x y H Q => ∃ i j, x = .int i ∧ y = .int j ∧ Q (g i j) H
noncomputable def rU (g : Int → V) : V → Hp → VK → Prop := fun x H Q => ∃ i, x = .int i ∧ Q (g i) H

section
variable {X : Cx} {a b c : Expr} {ta tb tc : TE} {pos : Pos}

theorem binT (ha : PE X a ta) (hb : PE X b tb) {pins : List (Addr × Obj)} {s : Shared} {σ : St} {H : Hp} {R : V → V → Hp → Prop} (I : Inv X pins σ H s)
    (h : ta σ H fun x H1 => tb σ H1 fun y H2 => R x y H2) {Q : Value → Shared → Prop} {f : Value → Value → Sem Value}
    (hf : ∀ v u s2 x y H2, Inv X pins σ H2 s2 → RelV x v → RelV y u → R x y H2 → wpAny (model X.prog X.w) X.A (f v u) Q X.xe s2) :
    wpAny (model X.prog X.w) X.A (eval a X.env) (fun v s₁ => wpAny (model X.prog X.w) X.A (eval b X.env) (fun u s₂ => wpAny (model X.prog X.w) X.A (f v u) Q X.xe s₂) X.xe s₁) X.xe s := by
  refine thn (ha pins s σ H _ I h) fun v s1 ⟨x, H1, I1, r1, q1⟩ => ?_
  refine thn (hb pins s1 σ H1 _ I1 q1) fun u s2 ⟨y, H2, I2, r2, q2⟩ => ?_
  exact hf v u s2 x y H2 I2 r1 r2 q2

theorem pe_op {op : Operator} {r : R2} (ho : OpR X (binaryOp op) r) (ha : PE X a ta) (hb : PE X b tb) : PE X (.BinOp a op b pos) (tOp r ta tb) := by
  intro pins s σ H Q I h
  exact wpAny_BinOp (binT ha hb I h fun v u s2 x y H2 I2 rx ry q => ho pins s2 σ H2 x y v u Q I2 rx ry q)
theorem pe_un {op : UnaryOp} {r : V → Hp → VK → Prop} (ho : UnR X (unaryOp op) r) (ha : PE X a ta) : PE X (.UnaryOp op a pos) (tUn r ta) := by
  intro pins s σ H Q I h
  exact UnaryOp_ (thn (ha pins s σ H _ I h) fun v s1 ⟨x, H1, I1, r1, q1⟩ => ho pins s1 σ H1 x v Q I1 r1 q1)
/-! ### ints -/
theorem opI {f : Value → Value → Sem Value} {C : Int → Int → Prop} {g : Int → Int → Int}
    (rule : ∀ (i j : Int) (t u : Tok) (s : Shared) (Q : Value → Shared → Prop) (E : Value → Shared → Prop), C i j → Q (.int (g i j) s.toks) { s with toks := s.toks + 1 } → wpAny (model X.prog X.w) X.A (f (.int i t) (.int j u)) Q E s) :
    OpR X f (rI C fun i j => .int (g i j)) := by
  intro pins s σ H x y v u Q I rx ry h
  obtain ⟨i, j, rfl, rfl, hc, q⟩ := h
  obtain ⟨t, rfl⟩ := rx
  obtain ⟨t', rfl⟩ := ry
  exact rule i j t t' s _ _ hc ⟨.int (g i j), H, I.tok _, ⟨_, rfl⟩, q⟩
theorem opI0 {f : Value → Value → Sem Value} {g : Int → Int → Int}
    (rule : ∀ (i j : Int) (t u : Tok) (s : Shared) (Q : Value → Shared → Prop) (E : Value → Shared → Prop), Q (.int (g i j) s.toks) { s with toks := s.toks + 1 } → wpAny (model X.prog X.w) X.A (f (.int i t) (.int j u)) Q E s) :
    OpR X f (rI0 fun i j => .int (g i j)) := by
  intro pins s σ H x y v u Q I rx ry h
  obtain ⟨i, j, rfl, rfl, q⟩ := h
  obtain ⟨t, rfl⟩ := rx
  obtain ⟨t', rfl⟩ := ry
  exact rule i j t t' s _ _ ⟨.int (g i j), H, I.tok _, ⟨_, rfl⟩, q⟩
theorem opB0 {f : Value → Value → Sem Value} {g : Int → Int → Bool}
    (rule : ∀ (i j : Int) (t u : Tok) (s : Shared) (Q : Value → Shared → Prop) (E : Value → Shared → Prop), Q (.bool (g i j)) s → wpAny (model X.prog X.w) X.A (f (.int i t) (.int j u)) Q E s) :
    OpR X f (rI0 fun i j => .bl (g i j)) := by
  intro pins s σ H x y v u Q I rx ry h
  obtain ⟨i, j, rfl, rfl, q⟩ := h
  obtain ⟨t, rfl⟩ := rx
  obtain ⟨t', rfl⟩ := ry
  exact rule i j t t' s _ _ ⟨.bl (g i j), H, I, rfl, q⟩

noncomputable def CPow (i j : Int) : Prop := 0 ≤ j ∧ j ≤ 1000000 ∧ i.natAbs < 2 ^ 64
theorem op_add : OpR X (binaryOp .Add) (rI0 fun i j => .int (i + j)) := opI0 fun _ _ _ _ _ _ _ q => add_int q
theorem op_sub : OpR X (binaryOp .Sub) (rI0 fun i j => .int (i - j)) := opI0 fun _ _ _ _ _ _ _ q => sub_int q
theorem op_modN : OpR X (binaryOp .Mod) (rI (fun _ j => j ≠ 0) fun i j => .int (i.fmod j)) := opI fun _ _ _ _ _ _ _ hc q => mod_int' hc q
theorem op_pow : OpR X (binaryOp .Pow) (rI CPow fun i j => .int (i ^ j.toNat)) := opI fun _ _ _ _ _ _ _ hc q => pow_int_small hc.1 hc.2.1 hc.2.2 q
theorem unI {f : Value → Sem Value} {g : Int → Int}
    (rule : ∀ (i : Int) (t : Tok) (s : Shared) (Q : Value → Shared → Prop) (E : Value → Shared → Prop), Q (.int (g i) s.toks) { s with toks := s.toks + 1 } → wpAny (model X.prog X.w) X.A (f (.int i t)) Q E s) :
    UnR X f (rU fun i => .int (g i)) := by
  intro pins s σ H x v Q I rx h
  obtain ⟨i, rfl, q⟩ := h
  obtain ⟨t, rfl⟩ := rx
  exact rule i t s _ _ ⟨.int (g i), H, I.tok _, ⟨_, rfl⟩, q⟩
theorem un_neg : UnR X (unaryOp .USub) (rU fun i => .int (-i)) := unI fun _ _ _ _ _ q => neg_int q
/-! ### bools among ints: n += (a < b) -/
end

/-! ### comparisons -/
noncomputable def scal : V → V → Bool
  | .non, .non => true | .non, .int _ => true | .int _, .non => true | .non, .bl _ => true | .bl _, .non => true | .non, .str _ => true | .str _, .non => true
  | .int _, .int _ => true | .bl _, .bl _ => true | .str _, .str _ => true | .byt _, .byt _ => true
  | .int _, .str _ => true | .str _, .int _ => true | .bl _, .str _ => true | .str _, .bl _ => true
  | _, _ => false
noncomputable def rEq : R2 := fun x y H Q => scal x y = true ∧ Q (.bl (decide (x = y))) H
noncomputable def rNe : R2 := fun x y H Q => scal x y = true ∧ Q (.bl (!decide (x = y))) H

theorem dec_int {i j : Int} : decide (V.int i = V.int j) = (i == j) := by
  rw [Bool.eq_iff_iff]
  simp
theorem dec_bl {i j : Bool} : decide (V.bl i = V.bl j) = (i == j) := by
  rw [Bool.eq_iff_iff]
  simp
theorem dec_str {i j : Str} : decide (V.str i = V.str j) = (i == j) := by
  rw [Bool.eq_iff_iff]
  simp
theorem dec_byt {i j : Array UInt8} : decide (V.byt i = V.byt j) = (i.toList == j.toList) := by
  rw [Bool.eq_iff_iff]
  cases i
  cases j
  simp

section
variable {X : Cx} {a b c : Expr} {ta tb tc : TE} {pos : Pos}
theorem fin_bl {pins : List (Addr × Obj)} {σ : St} {H : Hp} {s : Shared} {Q : VK} {k k' : Bool} (I : Inv X pins σ H s) (q : Q (.bl k) H) (e : k = k') : EP X pins σ Q (.bool k') s := by
  subst e
  exact ⟨.bl k, H, I, rfl, q⟩
theorem op_eq : OpR X (compareOp .Eq) rEq := by
  intro pins s σ H x y v u Q I rx ry h
  obtain ⟨hs, q⟩ := h
  cases x with
  | non =>
    cases rx
    cases y with
    | non => cases ry; exact PySem.EqNone.eq_none_none (fin_bl I q (by simp))
    | bl j => cases ry; exact PySem.EqNone.eq_none_bool (fin_bl I q (by simp))
    | int j => obtain ⟨t', rfl⟩ := ry; exact PySem.EqNone.eq_none_int (fin_bl I q (by simp))
    | str j => obtain ⟨t', rfl⟩ := ry; exact PySem.EqNone.eq_none_str (fin_bl I q (by simp))
    | _ => exact absurd (show false = true from hs) Bool.false_ne_true
  | bl i =>
    cases rx
    cases y with
    | non => cases ry; exact PySem.EqNone.eq_bool_none (fin_bl I q (by simp))
    | bl j => cases ry; exact eq_bool (fin_bl I q dec_bl)
    | str j => obtain ⟨t', rfl⟩ := ry; exact PySem.EqMixed.eq_bool_str (fin_bl I q (by simp))
    | _ => exact absurd (show false = true from hs) Bool.false_ne_true
  | int i =>
    obtain ⟨t, rfl⟩ := rx
    cases y with
    | non => cases ry; exact PySem.EqNone.eq_int_none (fin_bl I q (by simp))
    | int j => obtain ⟨t', rfl⟩ := ry; exact eq_int (fin_bl I q dec_int)
    | str j => obtain ⟨t', rfl⟩ := ry; exact PySem.EqMixed.eq_int_str (fin_bl I q (by simp))
    | _ => exact absurd (show false = true from hs) Bool.false_ne_true
  | str i =>
    obtain ⟨t, rfl⟩ := rx
    cases y with
    | non => cases ry; exact PySem.EqNone.eq_str_none (fin_bl I q (by simp))
    | bl j => cases ry; exact PySem.EqMixed.eq_str_bool (fin_bl I q (by simp))
    | int j => obtain ⟨t', rfl⟩ := ry; exact PySem.EqMixed.eq_str_int (fin_bl I q (by simp))
    | str j => obtain ⟨t', rfl⟩ := ry; exact eq_str (fin_bl I q dec_str)
    | _ => exact absurd (show false = true from hs) Bool.false_ne_true
  | byt i =>
    obtain ⟨t, rfl⟩ := rx
    cases y with
    | byt j => obtain ⟨t', rfl⟩ := ry; exact PySem.W.eq_bytes (fin_bl I q dec_byt)
    | _ => exact absurd (show false = true from hs) Bool.false_ne_true
  | _ => cases y <;> exact absurd (show false = true from hs) Bool.false_ne_true
theorem op_ne : OpR X (compareOp .NotEq) rNe := by
  intro pins s σ H x y v u Q I rx ry h
  obtain ⟨hs, q⟩ := h
  cases x with
  | non =>
    cases rx
    cases y with
    | non => cases ry; exact PySem.EqNone.ne_none_none (fin_bl I q (by simp))
    | bl j => cases ry; exact PySem.EqNone.ne_none_bool (fin_bl I q (by simp))
    | int j => obtain ⟨t', rfl⟩ := ry; exact PySem.EqNone.ne_none_int (fin_bl I q (by simp))
    | str j => obtain ⟨t', rfl⟩ := ry; exact PySem.EqNone.ne_none_str (fin_bl I q (by simp))
    | _ => exact absurd (show false = true from hs) Bool.false_ne_true
  | bl i =>
    cases rx
    cases y with
    | non => cases ry; exact PySem.EqNone.ne_bool_none (fin_bl I q (by simp))
    | bl j => cases ry; exact ne_bool (fin_bl I q (congrArg not dec_bl))
    | str j => obtain ⟨t', rfl⟩ := ry; exact PySem.EqMixed.ne_bool_str (fin_bl I q (by simp))
    | _ => exact absurd (show false = true from hs) Bool.false_ne_true
  | int i =>
    obtain ⟨t, rfl⟩ := rx
    cases y with
    | non => cases ry; exact PySem.EqNone.ne_int_none (fin_bl I q (by simp))
    | int j => obtain ⟨t', rfl⟩ := ry; exact ne_int (fin_bl I q (congrArg not dec_int))
    | str j => obtain ⟨t', rfl⟩ := ry; exact PySem.EqMixed.ne_int_str (fin_bl I q (by simp))
    | _ => exact absurd (show false = true from hs) Bool.false_ne_true
  | str i =>
    obtain ⟨t, rfl⟩ := rx
    cases y with
    | non => cases ry; exact PySem.EqNone.ne_str_none (fin_bl I q (by simp))
    | bl j => cases ry; exact PySem.EqMixed.ne_str_bool (fin_bl I q (by simp))
    | int j => obtain ⟨t', rfl⟩ := ry; exact PySem.EqMixed.ne_str_int (fin_bl I q (by simp))
    | str j => obtain ⟨t', rfl⟩ := ry; exact ne_str (fin_bl I q (congrArg not dec_str))
    | _ => exact absurd (show false = true from hs) Bool.false_ne_true
  | byt i =>
    obtain ⟨t, rfl⟩ := rx
    cases y with
    | byt j => obtain ⟨t', rfl⟩ := ry; exact PySem.W.ne_bytes (fin_bl I q (congrArg not dec_byt))
    | _ => exact absurd (show false = true from hs) Bool.false_ne_true
  | _ => cases y <;> exact absurd (show false = true from hs) Bool.false_ne_true

theorem op_lt : OpR X (compareOp .Lt) (rI0 fun i j => .bl (decide (i < j))) := opB0 fun _ _ _ _ _ _ _ q => lt_int q
theorem op_le : OpR X (compareOp .LtE) (rI0 fun i j => .bl (decide (i ≤ j))) := opB0 fun _ _ _ _ _ _ _ q => le_int q
theorem op_gt : OpR X (compareOp .Gt) (rI0 fun i j => .bl (decide (j < i))) := opB0 fun _ _ _ _ _ _ _ q => gt_int q
theorem op_isN : OpR X (compareOp .Is) (fun x y H Q => y = .non ∧ Q (.bl (decide (x = .non))) H) := by
  intro pins s σ H x y v u Q I rx ry h
  obtain ⟨rfl, q⟩ := h
  cases ry
  refine is_none_gen (fin_bl I q ?_)
  cases x <;> first
    | (cases rx; rfl)
    | (obtain ⟨t, rfl⟩ := rx; rfl)
theorem op_notN : OpR X (compareOp .IsNot) (fun x y H Q => y = .non ∧ Q (.bl (!decide (x = .non))) H) := by
  intro pins s σ H x y v u Q I rx ry h
  obtain ⟨rfl, q⟩ := h
  cases ry
  refine isnot_none_gen (fin_bl I q ?_)
  cases x <;> first
    | (cases rx; rfl)
    | (obtain ⟨t, rfl⟩ := rx; rfl)

theorem nomark (b : Expr) {op : CmpOp} (h : op ≠ .In := by decide) (h2 : op ≠ .NotIn := by decide) : behindInMarks op b = false := by
  have e1 : (op == CmpOp.In) = false := by cases op <;> first | rfl | exact absurd rfl h
  have e2 : (op == CmpOp.NotIn) = false := by cases op <;> first | rfl | exact absurd rfl h2
  cases b <;> simp [behindInMarks, e1, e2]
theorem pe_cmpR {op : CmpOp} {r : R2} (ho : OpR X (compareOp op) r) (ha : PE X a ta) (hb : PE X b tb) (hm : behindInMarks op b = false) : PE X (.Compare a [op] [b] pos) (tOp r ta tb) := by
  intro pins s σ H Q I h
  exact wpAny_Compare1 (binT ha hb I h fun v u s2 x y H2 I2 rx ry q => ho pins s2 σ H2 x y v u Q I2 rx ry q) hm
noncomputable def tTest (t : TE) : TT := fun σ H Q => t σ H fun x H' => ∃ k, x = .bl k ∧ Q k H'
theorem pt_cmpR {op : CmpOp} {r : R2} (ho : OpR X (compareOp op) r) (ha : PE X a ta) (hb : PE X b tb) (hm : behindInMarks op b = false) : PT X (.Compare a [op] [b] pos) (tTest (tOp r ta tb)) := by
  intro pins s σ H Q I h
  refine wpAny_isTrue_Compare1 (thn (ha pins s σ H _ I h) fun v s1 ⟨x, H1, I1, r1, q1⟩ => thn (hb pins s1 σ H1 _ I1 q1) fun u s2 ⟨y, H2, I2, r2, q2⟩ =>
    thn (ho pins s2 σ H2 x y v u _ I2 r1 r2 q2) fun c s3 ⟨z, H3, I3, r3, k, e, q3⟩ => ?_) hm
  subst e
  cases r3
  exact wpAny_truthy_bool ⟨H3, I3, q3⟩
/-! ### truth -/
theorem line63 : (sizeLine : Nat) < 2 ^ 63 := by rw [sizeLine_eq]; decide
/-! ### strs and bytes -/
/-! ### scalar builtins, by CallR -/
theorem vals1 {x : V} {us : List Value} (r : Vals [x] us) : ∃ u, us = [u] ∧ RelV x u := by
  cases r with
  | cons r1 r2 => cases r2; exact ⟨_, rfl, r1⟩
theorem vals2 {x y : V} {us : List Value} (r : Vals [x, y] us) : ∃ u w', us = [u, w'] ∧ RelV x u ∧ RelV y w' := by
  cases r with
  | cons r1 r2 =>
    cases r2 with
    | cons r3 r4 => cases r4; exact ⟨_, _, rfl, r1, r3⟩
theorem call_int1 : CallR X (.type "int") (fun xs H Q => (∃ i, xs = [.int i] ∧ Q (.int i) H) ∨ ∃ k, xs = [.bl k] ∧ Q (.int (if k then 1 else 0)) H) := by
  intro pins s σ H xs us Q I r h
  rcases h with ⟨i, rfl, q⟩ | ⟨k, rfl, q⟩
  · obtain ⟨u, rfl, t, rfl⟩ := vals1 r
    exact call_int_int ⟨.int i, H, I, ⟨_, rfl⟩, q⟩
  · obtain ⟨u, rfl, r1⟩ := vals1 r
    cases r1
    exact call_int_bool ⟨.int (if k then 1 else 0), H, I.tok _, ⟨_, rfl⟩, q⟩
noncomputable def LenV (K : PySem.W.Frag) (x : V) (H : Hp) (n : Nat) : Prop :=
  match x with
  | .str y => y.length ≤ sizeLine ∧ n = y.length
  | .byt y => y.size ≤ sizeLine ∧ n = y.size
  | .ref p => (∃ xs, SqL K H p xs ∧ n = xs.length) ∨ ∃ xs, SqT K H p xs ∧ n = xs.length
  | _ => False
theorem call_len : CallR X (.builtin "len") (fun xs H Q => ∃ x n, xs = [x] ∧ LenV X.K x H n ∧ Q (.int n) H) := by
  intro pins s σ H xs us Q I r h
  obtain ⟨x, n, rfl, e, q⟩ := h
  obtain ⟨u, rfl, rx⟩ := vals1 r
  have hl := line63
  have hs : sizeLine = 16777216 := sizeLine_eq
  cases x with
  | str y =>
    obtain ⟨t, rfl⟩ := rx
    obtain ⟨hy, e'⟩ : y.length ≤ sizeLine ∧ n = y.length := e
    subst e'
    exact len_str (by omega) ⟨.int _, H, I.tok _, ⟨_, rfl⟩, q⟩
  | byt y =>
    obtain ⟨t, rfl⟩ := rx
    obtain ⟨hy, e'⟩ : y.size ≤ sizeLine ∧ n = y.size := e
    subst e'
    exact PySem.W.len_bytes (by omega) ⟨.int _, H, I.tok _, ⟨_, rfl⟩, q⟩
  | ref p =>
    cases rx
    have e' : (∃ xs, SqL X.K H p xs ∧ n = xs.length) ∨ ∃ xs, SqT X.K H p xs ∧ n = xs.length := e
    rcases e' with ⟨xs, hx, e'⟩ | ⟨xs, hx, e'⟩
    · subst e'
      obtain ⟨its, r', pl, hz⟩ := I.list hx
      have hlen := r'.length
      exact Calls.call_len_list pl.isList (by simp only [List.size_toArray]; omega) ⟨.int xs.length, H, I.tok _, ⟨_, by simp only [List.size_toArray]; rw [hlen]⟩, q⟩
    · subst e'
      obtain ⟨its, r', pl, hz⟩ := I.tuple hx
      have hlen := r'.length
      exact len_tuple pl (by simp only [List.size_toArray]; omega) ⟨.int xs.length, H, I.tok _, ⟨_, by simp only [List.size_toArray]; rw [hlen]⟩, q⟩
  | _ => exact (show False from e).elim
end
end L2

namespace L2
open PySem PySem.Spec PyProof.Rows

/-! ### an instance, its attributes a map -/
structure ObjM (h : Heap) (x dx C : Addr) (mA : Str → Option Value) : Prop where
  obj : h.get? x = some (PySem.W.instObj C dx)
  ns : h.Ns1 dx mA
  ne : dx ≠ x

theorem lookIn_ns {h : Heap} {dx : Addr} {mA : Str → Option Value} (n : h.Ns1 dx mA) : ∃ od, h.get? dx = some od ∧ ∀ name, PySem.W.lookIn name od = some (mA name) := by
  obtain ⟨o, es, ep, ho, hd, hk, _, hm⟩ := n
  refine ⟨o, ho, fun name => ?_⟩
  have e := hm name
  unfold nsFind findBy at e
  rw [← Array.find?_toList] at e
  unfold PySem.W.lookIn
  rw [hd]
  dsimp only
  split
  · rename_i y q
    rw [q] at e
    exact congrArg some e
  · rename_i q
    rw [q] at e
    have a : es.toList.any (·.refKey) = false := by
      rw [List.any_eq_false]
      intro y hy
      obtain ⟨z, t, hkey⟩ := hk y (Array.mem_toList_iff.mp hy)
      simp [DictEntry.refKey, hkey]
    have a' : ¬ es.toList.any (·.refKey) = true := by rw [a]; exact Bool.false_ne_true
    rw [if_neg a']
    exact congrArg some e

theorem ObjM.look {h : Heap} {x dx C : Addr} {mA : Str → Option Value} (I : ObjM h x dx C mA) : ∃ od, PySem.W.InstAt h x (PySem.W.instObj C dx) C (some od) ∧ ∀ name, PySem.W.lookIn name od = some (mA name) :=
  let ⟨od, ho, hl⟩ := lookIn_ns I.ns
  ⟨od, ⟨I.obj, rfl, rfl, ho⟩, hl⟩

section
variable {prog : Program} {w : World} {A : Around} {E : Value → Shared → Prop} {s : Shared} {K : PySem.W.Frag} {x dx C f : Addr} {mA : Str → Option Value} {name : Str} {v : Value}

end

/-! ### the attributes as a list of pairs -/
theorem RelO.some_of {v : V} {o : Option Value} (r : RelO (some v) o) : ∃ u, o = some u ∧ RelV v u := by
  cases o with
  | none => exact (show False from r).elim
  | some u => exact ⟨u, rfl, r⟩
section
variable {P : Program} {w : World} {H H' : Hp} {h h' : Heap} {a C dx : Addr} {fs fs' : List (Str × V)}
theorem ins_get (hok : HOk P w H h) (e : H a = some (.ins C dx fs)) : ∃ mA, ObjM h a dx C mA ∧ (∀ f, RelO (fs.lookup f) (mA f)) ∧ PySem.Within mA (fs.map (·.1)) ∧ fs.length ≤ 1000 ∧ H dx = some (.own a) := by
  obtain ⟨d, z, ne, ob, mA, n, r, q⟩ := (show ObjOk P w H h a (.ins C dx fs) from hok a _ e)
  exact ⟨mA, ⟨ob, n, ne⟩, r, q, z, d⟩
end

/-! ### what of the text a class must have -/
structure Cls (K : PySem.W.Frag) (C : Addr) : Prop where
  pg : PySem.W.plainGet K C Str.empty = true
  hd : PySem.W.hasDictIn K C = true
  po : PySem.W.plainOver K C = true
  sa : PySem.W.findIn K (.ref C) "__setattr__" = some (some (.builtin "object.__setattr__"))
theorem Cls.get {K : PySem.W.Frag} {C : Addr} (c : Cls K C) (f : Str) : PySem.W.plainGet K C f = true := c.pg
section
variable {X : Cx} {pins : List (Addr × Obj)} {σ : St} {H : Hp} {s : Shared} {a C dx : Addr} {fs : List (Str × V)} {f : Str} {v : V} {A : Around} {E : Value → Shared → Prop}

end

/-! ### readings and rules -/
section
variable {X : Cx} {o e value : Expr} {f : Str} {pos pos' tpos : Pos} {ta tv : TE}
end

/-! ### isinstance -/
section
variable {X : Cx} {pins : List (Addr × Obj)} {σ : St} {H : Hp} {s : Shared} {A : Around} {E : Value → Shared → Prop} {Q : Value → Shared → Prop} {c : Value} {b : Bool}
inductive TyOf (K : PySem.W.Frag) (H : Hp) : V → Value → Prop where
  | non : TyOf K H .non (.type "NoneType")
  | bl (x : Bool) : TyOf K H (.bl x) (.type "bool")
  | int (i : Int) : TyOf K H (.int i) (.type "int")
  | str (x : Str) : TyOf K H (.str x) (.type "str")
  | flt (x : UInt64) : TyOf K H (.flt x) (.type "float")
  | lst {a : Addr} {xs : List V} (e : H a = some (.lst xs)) : TyOf K H (.ref a) (.type "list")
  | frz {a : Addr} {o : Obj} {xs : List V} (e : H a = some (.frz o (.lst xs))) : TyOf K H (.ref a) (.type "list")
  | tup {a : Addr} {xs : List V} (e : H a = some (.tup xs)) : TyOf K H (.ref a) (.type "tuple")
  | dK {a : Addr} {kvs : List (Key × V)} (e : H a = some (.dK kvs)) : TyOf K H (.ref a) (.type "dict")
  | dT {a : Addr} {kvs : List (List Key × V)} (e : H a = some (.dT kvs)) : TyOf K H (.ref a) (.type "dict")
  | ins {a C dx : Addr} {fs : List (Str × V)} (e : H a = some (.ins C dx fs)) (cl : Cls K C) (ha : PySem.W.findIn K (.ref C) "__class__" = some (some (.builtin "object.__class__")))
      (hn : PySem.W.specialIn K (.builtin "object.__class__") "__get__" = some (some (.builtin "getset_descriptor.__get__"))) (htk : PySem.W.takesIn K (.builtin "object.__class__") = some true)
      (hm : PySem.W.mroIn K C (.type "object") = some true) : TyOf K H (.ref a) (.ref C)
theorem isinst_ok {x : V} {u t : Value} (I : Inv X pins σ H s) (rx : RelV x u) (ty : TyOf X.K H x t) (e : PySem.W.kitOne X.K t c = some b) (h : ∀ tk, Q (.bool b) { s with toks := tk }) :
    wpAny (model X.prog X.w) A (call (.builtin "isinstance") [u, c]) Q E s := by
  cases ty with
  | non => cases (show u = Value.none from rx); exact PySem.W.kia_one PySem.W.kitx_none I.kIn True.intro e (fun z => nomatch z) h
  | bl y => cases (show u = Value.bool y from rx); exact PySem.W.kia_one PySem.W.kitx_bool I.kIn True.intro e (fun z => nomatch z) h
  | int i => obtain ⟨t, q⟩ := (show ∃ t, u = Value.int i t from rx); cases q; exact PySem.W.kia_one PySem.W.kitx_int I.kIn True.intro e (fun z => nomatch z) h
  | str y => obtain ⟨t, q⟩ := (show ∃ t, u = Value.str y t from rx); cases q; exact PySem.W.kia_one PySem.W.kitx_str I.kIn True.intro e (fun z => nomatch z) h
  | flt y => obtain ⟨t, q⟩ := (show ∃ t, u = Value.float y t from rx); cases q; exact PySem.W.kia_one PySem.W.kitx_float I.kIn True.intro e (fun z => nomatch z) h
  | @lst a xs ea =>
    cases (show u = Value.ref a from rx)
    obtain ⟨_, _, n, _, h1⟩ := (show ObjOk X.prog X.w H s.heap a (.lst xs) from I.hok a _ ea)
    exact PySem.W.kia_one PySem.W.kitx_list I.kIn ⟨_, h1, rfl⟩ e (fun z => nomatch z) h
  | @frz a ob xs ea =>
    cases (show u = Value.ref a from rx)
    obtain ⟨_, _, _, n, _, h1⟩ := (show ObjOk X.prog X.w H s.heap a (.frz ob (.lst xs)) from I.hok a _ ea)
    exact PySem.W.kia_one PySem.W.kitx_list I.kIn ⟨_, h1, rfl⟩ e (fun z => nomatch z) h
  | @tup a xs ea =>
    cases (show u = Value.ref a from rx)
    obtain ⟨_, _, _, p⟩ := (show ObjOk X.prog X.w H s.heap a (.tup xs) from I.hok a _ ea)
    obtain ⟨o, h1, h2, _⟩ := p
    exact PySem.W.kia_one PySem.W.kitx_tuple I.kIn ⟨o, h1, h2⟩ e (fun z => nomatch z) h
  | @dK a kvs ea =>
    cases (show u = Value.ref a from rx)
    obtain ⟨_, _, vs, _, p⟩ := (show ObjOk X.prog X.w H s.heap a (.dK kvs) from I.hok a _ ea)
    obtain ⟨o, es, ep, h1, h2, _⟩ := p
    exact PySem.W.kia_one PySem.W.kitx_dict I.kIn ⟨o, h1, h2.1⟩ e (fun z => nomatch z) h
  | @dT a kvs ea =>
    cases (show u = Value.ref a from rx)
    obtain ⟨_, _, xs, _, o, es, ep, h1, h2, _⟩ := (show ObjOk X.prog X.w H s.heap a (.dT kvs) from I.hok a _ ea)
    exact PySem.W.kia_one PySem.W.kitx_dict I.kIn ⟨o, h1, h2.1⟩ e (fun z => nomatch z) h
  | @ins a C dx fs ea cl ha hn htk hm =>
    cases (show u = Value.ref a from rx)
    obtain ⟨mA, O, _⟩ := ins_get I.hok ea
    obtain ⟨od, J, _⟩ := O.look
    exact PySem.W.kia_one (PySem.W.kitx_own (cl.get _) cl.hd ha hn htk hm) I.kIn J e (fun z => nomatch z) h
end
end L2

namespace L2
open PySem PySem.Spec PyProof.Rows

/-! ### room -/
structure Room (k : Nat) (A : Around) : Prop where
  hd : A.handled = none
  dp : A.depth + 3 * k + 5 < recursionLimit
  un : A.units + 16 * k + 200 < cLine
theorem Room.mono {j k : Nat} {A : Around} (r : Room k A) (h : j ≤ k) : Room j A := ⟨r.hd, by have := r.dp; omega, by have := r.un; omega⟩
theorem Room.deeper {k : Nat} {A : Around} (r : Room (k + 1) A) (env : Env) : Room k (A.deeper env) :=
  ⟨r.hd, by have := r.dp; show A.depth + 1 + 3 * k + 5 < _; omega, by have := r.un; show A.units + 3 + 16 * k + 200 < _; omega⟩
theorem Room.depth {k : Nat} {A : Around} (r : Room k A) : A.depth < recursionLimit := by have := r.dp; omega
theorem Room.units {k : Nat} {A : Around} (r : Room k A) : A.units + 64 < cLine := by have := r.un; omega
theorem Room.units0 {k : Nat} {A : Around} (r : Room k A) : A.units < cLine := by have := r.un; omega

/-! ### argument lists and displays -/
noncomputable def tNil : TA := fun _ H Q => Q [] H
noncomputable def tCons (ta : TE) (tr : TA) : TA := fun σ H Q => ta σ H fun x H1 => tr σ H1 fun xs H2 => Q (x :: xs) H2
section
variable {X : Cx} {e : Expr} {es : List Expr} {te : TE} {t : TA} {pos : Pos}
theorem pa_nil : PA X [] tNil := fun _ _ _ _ H Q I h => Calls.spliced_nil ⟨[], H, I, .nil, h⟩
theorem pa_cons (ha : PE X e te) (hr : PA X es t) (hs : starEach (e :: es) X.env = (false, eval e X.env) :: starEach es X.env := by rfl) : PA X (e :: es) (tCons te t) := by
  intro pos pins s σ H Q I h
  rw [hs]
  show wpAny _ _ (spliced ((false, eval e X.env) :: backTo pos (starEach es X.env))) _ _ s
  refine Calls.spliced_cons (thn (ha pins s σ H _ I h) fun u s1 ⟨x, H1, I1, r1, q1⟩ => ?_)
  exact thn (hr pos pins s1 σ H1 _ I1 q1) fun us s2 ⟨xs, H2, I2, r2, q2⟩ => ⟨x :: xs, H2, I2, .cons r1 r2, q2⟩

noncomputable def tTup (t : TA) : TE := fun σ H Q => t σ H fun xs H1 => xs.length ≤ sizeLine ∧ ∀ p, H1 p = none → Q (.ref p) (upd H1 p (.tup xs))
noncomputable def tLst (t : TA) : TE := fun σ H Q => t σ H fun xs H1 => xs.length ≤ sizeLine ∧ ∀ p, H1 p = none → Q (.ref p) (upd H1 p (.lst xs))
theorem pe_tup {x1} (h : PA X es t) : PE X (.Tuple es x1 pos) (tTup t) := by
  intro pins s σ H Q I hq
  refine wpAny_Tuple_spliced (thn (h pos pins s σ H _ I hq) fun us s1 ⟨xs, H1, I1, r, z, q⟩ => ⟨by rw [← r.length]; exact z, ?_⟩)
  have hf : H1 s1.heap.objs.size = none := I1.hok.fresh (Nat.le_refl _)
  refine ⟨.ref s1.heap.objs.size, upd H1 s1.heap.objs.size (.tup xs), I1.laid (t' := s1.toks) (fun b u e => Heap.get?_push_of_some _ e) (Nat.le_refl _) ?_, rfl, q _ hf⟩
  exact ⟨z, us, r, ⟨_, Heap.get?_push_size _ rfl, rfl, _, rfl⟩⟩
theorem pe_lst (h : PA X es t) : PE X (.List es pos) (tLst t) := by
  intro pins s σ H Q I hq
  refine wpAny_List_spliced (thn (h pos pins s σ H _ I hq) fun us s1 ⟨xs, H1, I1, r, z, q⟩ => ⟨by rw [← r.length]; exact z, ?_⟩)
  have hf : H1 s1.heap.objs.size = none := I1.hok.fresh (Nat.le_refl _)
  refine ⟨.ref s1.heap.objs.size, upd H1 s1.heap.objs.size (.lst xs), I1.laid (t' := s1.toks) (fun b u e => Heap.get?_push_of_some _ e) (Nat.le_refl _) ?_, rfl, q _ hf⟩
  exact ⟨z, us, 0, r, Heap.get?_push_size _ rfl⟩
end

/-! ### what a def promises -/
noncomputable abbrev Sp := List V → Hp → VK → XK → Prop
noncomputable abbrev CXT := List Env → Hp → Shared → XK → Value → Shared → Prop

structure Env0 (P : Program) (w : World) (K : PySem.W.Frag) (mg : Str → Option Value) (base : Heap) (A : Around) (outer : List Env) (s : Shared) (H : Hp) : Prop where
  frames : A.frames = some outer
  mod : Mod K mg base
  bs : ∀ b o, base.get? b = some o → s.heap.get? b = some o ∧ H b = none
  bsz : base.objs.size ≤ s.heap.objs.size
  funs : s.heap.FunFrames base outer
  frf : ∀ b ∈ frs outer, H b = none
  hok : HOk P w H s.heap
  bare : AllBare s.gens
noncomputable def CE (outer : List Env) (P : Program) (w : World) (H : Hp) (s : Shared) (Q : VK) (u : Value) (s' : Shared) : Prop :=
  ∃ v H', s'.os = s.os ∧ AllBare s'.gens ∧ Un (frs outer) [] H H' s.heap s'.heap ∧ HOk P w H' s'.heap ∧ RelV v u ∧ Q v H'
noncomputable def CR (CX : CXT) (outer : List Env) (P : Program) (w : World) (H : Hp) (s : Shared) (Q : VK) (E : XK) (r : Result) (s' : Shared) : Prop :=
  match r with
  | .ok (.ret u) => CE outer P w H s Q u s'
  | .ok _ => False
  | .error e => CX outer H s E e s'
structure FnOk (P : Program) (w : World) (K : PySem.W.Frag) (mg : Str → Option Value) (base : Heap) (CX : CXT) (k : Nat) (f : Addr) (fd : FuncData) (ps : List Str) (sp : Sp) : Prop where
  len : ∀ vs H Q E, sp vs H Q E → vs.length = ps.length
  run : ∀ (A : Around) (outer : List Env) (s : Shared) (H : Hp) (args : Args) (us : List Value) (vs : List V) (Q : VK) (E : XK), Room k A → Env0 P w K mg base A outer s H → BindsTo s fd args (ps.zip us) → Vals vs us → sp vs H Q E →
    codeAny (model P w) A (.call (.ref f) args) (CR CX outer P w H s Q E) s
section
variable {X : Cx} {pins : List (Addr × Obj)} {σ : St} {H : Hp} {s s' : Shared}
theorem Inv.env0 (I : Inv X pins σ H s) : Env0 X.prog X.w X.K X.mg X.base X.A X.stack s H :=
  ⟨I.ok.frames, I.ok.mod, I.bs, Nat.le_trans I.ok.bsz I.sz, I.stack, I.stkFree, I.hok, I.bare⟩
theorem Inv.after {Q : VK} {u : Value} (I : Inv X pins σ H s) (h : CE X.stack X.prog X.w H s Q u s') : EP X pins σ Q u s' := by
  obtain ⟨v, H', os, bare, un, hok, r, q⟩ := h
  obtain ⟨hh, g, d, t, os'⟩ := s'
  obtain rfl : os' = s.os := os
  exact ⟨v, H', I.call (h' := hh) (g' := g) (d' := d) (t' := t) (ch := []) un hok bare (fun b z => absurd z (by simp)), r, q⟩
end

/-! ### calls -/
noncomputable def tCall (sp : Sp) (dvs : List V) (E : XK) (t : TA) : TE := fun σ H Q => t σ H fun vs H1 => sp (vs ++ dvs) H1 Q E
noncomputable def Binds (K : PySem.W.Frag) (fd : FuncData) (ps : List Str) (ds : List Value) : Prop :=
  ∀ (s : Shared) (us : List Value), K.In s.heap → (us ++ ds).length = ps.length → BindsTo s fd ⟨us, []⟩ (ps.zip (us ++ ds))
theorem Binds.all {K : PySem.W.Frag} {fd : FuncData} {ps : List Str} (h : ∀ us : List Value, us.length = ps.length → bindArgs fd ⟨us, []⟩ = pure (ps.zip us)) : Binds K fd ps [] := fun s us _ hl => by
  rw [List.append_nil] at hl ⊢
  exact .of_eq (h us hl)

noncomputable def Passes (CX : CXT) (X : Cx) (E : XK) : Prop := ∀ (pins : List (Addr × Obj)) (σ : St) (H : Hp) (s : Shared) (e : Value) (s' : Shared), Inv X pins σ H s → CX X.stack H s E e s' → X.xe e s'

section
variable {X : Cx} {CX : CXT} {k : Nat} {f C : Addr} {fd : FuncData} {ps : List Str} {sp : Sp} {dvs : List V} {ds : List Value} {E : XK} {x m : Str} {p pos apos : Pos} {e o : Expr} {es : List Expr} {ta : TE} {t : TA}

theorem run_fn {pins : List (Addr × Obj)} {σ : St} {H : Hp} {s : Shared} {Q : VK} {us : List Value} {vs : List V} (F : FnOk X.prog X.w X.K X.mg X.base CX k f fd ps sp) (hr : Room k X.A) (hb : Binds X.K fd ps ds) (hd : Vals dvs ds) (hx : Passes CX X E)
    (I : Inv X pins σ H s) (r : Vals vs us) (h : sp (vs ++ dvs) H Q E) : wpAny (model X.prog X.w) X.A (call (.ref f) us) (EP X pins σ Q) X.xe s := by
  have r2 : Vals (vs ++ dvs) (us ++ ds) := r.append hd
  have hl : (us ++ ds).length = ps.length := by rw [← r2.length]; exact F.len _ _ _ _ h
  refine wpAny_call (codeAny_mono (F.run X.A X.stack s H ⟨us, []⟩ (us ++ ds) (vs ++ dvs) Q E hr I.env0 (hb s us I.kIn hl) r2 h) fun r s' hq => ?_)
  cases r with
  | error e => exact hx pins σ H s e s' I hq
  | ok fl =>
    cases fl with
    | ret u => exact I.after hq
    | next => exact False.elim hq
    | brk => exact False.elim hq
    | cont => exact False.elim hq

theorem pe_call (F : FnOk X.prog X.w X.K X.mg X.base CX k f fd ps sp) (hr : Room k X.A) (hg : Gl X x) (hm : X.mg x = some (.ref f)) (hk : PySem.W.keepIn X.K (.ref f) = true) (hb : Binds X.K fd ps ds) (hd : Vals dvs ds) (hx : Passes CX X E)
    (ha : PA X (e :: es) t) (hdb : (x == ("__debug__" : Str)) = false := by decide) (he : starEach (e :: es) X.env = (false, eval e X.env) :: starEach es X.env := by rfl) (hpl : (backTo pos (starEach es X.env)).any (·.1) = false := by rfl) :
    PE X (.Call (.Name x p) (e :: es) [] pos) (tCall sp dvs E t) := by
  intro pins s σ H Q I h
  refine wpAny_Call_Name_kw (ld_glob I hg hm ?_ hdb)
  refine PySem.W.callWith_K (h₀ := X.base) I.ok.mod.kin hk (thn (ha pos pins s σ H _ I h) fun us s1 ⟨vs, H1, I1, r, q⟩ => ⟨I1.kIn, ?_⟩) he hpl
  exact run_fn F hr hb hd hx I1 r q
end

/-! ### keywords -/
section
variable {X : Cx} {CX : CXT} {k : Nat} {f C : Addr} {fd : FuncData} {ps ks : List Str} {sp : Sp} {E : XK} {x m : Str} {p pos apos kpos : Pos} {e o : Expr} {es : List Expr} {kws : List Keyword} {te ta : TE} {t tk : TA} {nm : Option Str}
variable {g : List Value → List Value → List Value} {gV : List V → List V → List V}
end

/-! ### a def's body keeps its promise -/
structure FnScope (N P : List Str) (sc : Scope) : Prop where
  kind : sc.kind = .function
  co : sc.isCoroutine = false
  gen : sc.isGenerator = false
  nd : N.Nodup
  pre : N.take P.length = P
  par : ∀ x ∈ P, sc.names.lookup x = some .local ∨ sc.names.lookup x = some .cell
  nofree : ∀ y ∈ sc.names, y.2 ≠ .free

theorem bindL_out {kindOf : Str → Option NameKind} {x : Str} : ∀ {binds : List (Str × Value)} {m : Str → Option Value}, (∀ v, (x, v) ∉ binds) → bindL kindOf binds m x = m x
  | [], _, _ => rfl
  | (n, v) :: r, m, h => by
    unfold bindL
    rw [bindL_out fun w hw => h w (List.mem_cons_of_mem _ hw)]
    split
    · have : x ≠ n := by rintro rfl; exact h v List.mem_cons_self
      simp [this]
    · rfl
theorem bindC_out {kindOf : Str → Option NameKind} {x : Str} : ∀ {binds : List (Str × Value)} {m : Str → Option Value}, (∀ v, (x, v) ∉ binds) → bindC kindOf binds m x = m x
  | [], _, _ => rfl
  | (n, v) :: r, m, h => by
    unfold bindC
    rw [bindC_out fun w hw => h w (List.mem_cons_of_mem _ hw)]
    split
    · rfl
    · have : x ≠ n := by rintro rfl; exact h v List.mem_cons_self
      simp [this]
theorem bindL_get {kindOf : Str → Option NameKind} {x : Str} {v : Value} : ∀ {P : List Str} {vs : List Value} {i : Nat} {m : Str → Option Value}, P.Nodup → P[i]? = some x → vs[i]? = some v → kindOf x = some .local →
    bindL kindOf (P.zip vs) m x = some v
  | [], _, _, _, _, h, _, _ => by simp at h
  | _ :: _, [], _, _, _, _, h, _ => by simp at h
  | p :: P, w :: vs, 0, m, nd, h1, h2, hk => by
    simp at h1 h2; subst h1; subst h2
    show bindL kindOf ((p, w) :: P.zip vs) m p = _
    unfold bindL
    rw [bindL_out fun v hv => (List.nodup_cons.mp nd).1 (List.of_mem_zip hv).1, if_pos hk]
    simp
  | p :: P, w :: vs, i + 1, m, nd, h1, h2, hk => by
    show bindL kindOf ((p, w) :: P.zip vs) m x = _
    unfold bindL
    exact bindL_get (i := i) (List.nodup_cons.mp nd).2 (by simpa using h1) (by simpa using h2) hk
theorem bindC_get {kindOf : Str → Option NameKind} {x : Str} {v : Value} : ∀ {P : List Str} {vs : List Value} {i : Nat} {m : Str → Option Value}, P.Nodup → P[i]? = some x → vs[i]? = some v → kindOf x ≠ some .local →
    bindC kindOf (P.zip vs) m x = some v
  | [], _, _, _, _, h, _, _ => by simp at h
  | _ :: _, [], _, _, _, _, h, _ => by simp at h
  | p :: P, w :: vs, 0, m, nd, h1, h2, hk => by
    simp at h1 h2; subst h1; subst h2
    show bindC kindOf ((p, w) :: P.zip vs) m p = _
    unfold bindC
    rw [bindC_out fun v hv => (List.nodup_cons.mp nd).1 (List.of_mem_zip hv).1, if_neg hk]
    simp
  | p :: P, w :: vs, i + 1, m, nd, h1, h2, hk => by
    show bindC kindOf ((p, w) :: P.zip vs) m x = _
    unfold bindC
    exact bindC_get (i := i) (List.nodup_cons.mp nd).2 (by simpa using h1) (by simpa using h2) hk

noncomputable def start (N : List Str) (vs : List V) : St := vs.map some ++ List.replicate (N.length - vs.length) none

noncomputable def cxOf (CX : CXT) (P : Program) (w : World) (K : PySem.W.Frag) (mg : Str → Option Value) (base : Heap) (N : List Str) (qual : Str) (scope : Scope) (f : Addr) (cd : Value) (A : Around) (outer : List Env) (s : Shared) (H : Hp) (E : XK) : Cx where
  prog := P
  w := w
  K := K
  mg := mg
  base := base
  A := A.deeper (envOfC qual scope s.heap.objs.size f cd)
  N := N
  s₀ := s
  H₀ := H
  env := envOfC qual scope s.heap.objs.size f cd
  outer := outer
  stack := envOfC qual scope s.heap.objs.size f cd :: outer
  ex := []
  calm := true
  fn := fun _ => true
  pn := []
  xe := fun e s' => wpAny (model P w) (A.deeper (envOfC qual scope s.heap.objs.size f cd)) (leaving (envOfC qual scope s.heap.objs.size f cd) e) (fun _ s'' => CX outer H s E e s'') (fun e' s'' => CX outer H s E e' s'') s'

theorem cell_has {sc : Scope} {n : Nat} {x : Str} (h : sc.names.lookup x = some .cell) : ∃ c, (cellsFrom n sc.names []).lookup x = some c := by
  have q := PySem.W.cellsFrom_some sc.names n [] (.inl h)
  exact Option.isSome_iff_exists.mp q

theorem inv_start {CX : CXT} {P : Program} {w : World} {K : PySem.W.Frag} {mg : Str → Option Value} {base : Heap} {N ps : List Str} {qual : Str} {scope : Scope} {f : Addr} {cd : Value} {A : Around} {outer : List Env} {s s1 : Shared} {H : Hp} {E : XK} {us : List Value} {vs : List V}
    (S : FnScope N ps scope) (hd : A.handled = none) (e0 : Env0 P w K mg base A outer s H) (hl : vs.length = ps.length) (r : Vals vs us)
    (x : InCallC s s.heap.objs.size (bindL (envOfC qual scope s.heap.objs.size f cd).kindOf (ps.zip us) fun _ => none) (cellsFrom (s.heap.objs.size + 1) scope.names []) (bindC (envOfC qual scope s.heap.objs.size f cd).kindOf (ps.zip us) fun _ => none) s1) :
    Inv (cxOf CX P w K mg base N qual scope f cd A outer s H E) [] (start N vs) H s1 := by
  have hpl : ps.length ≤ N.length := by have := congrArg List.length S.pre; rw [List.length_take] at this; omega
  obtain ⟨h1, tk, rfl, hk⟩ := x.done
  have noA : ∀ b : Addr, b ∉ (cxOf CX P w K mg base N qual scope f cd A outer s H E).ex := fun b z => absurd (show b ∈ ([] : List Addr) from z) (by simp)
  refine ⟨⟨e0.mod, S.kind, rfl, rfl, Nat.le_refl _, fun y z c h1 h2 => ?_, fun y hy => ?_, fun y c _ h => ?_, fun _ => hd, Around.frames_deeper e0.frames, .inr ⟨rfl, rfl⟩, fun b z => absurd z (noA b), e0.bs, e0.bsz, fun b _ _ => noA b, fun b z => absurd z (noA b), e0.funs, e0.frf⟩,
    rfl, e0.bare, Un.kept hk, ⟨_, x.toInCall.ns, fun i y v h1 h2 h3 => ?_⟩, fun y c h => ⟨_, x.cell y c h⟩, e0.hok.fresh (Nat.le_refl _), fun y c h => ?_, fun p hp => absurd (show p ∈ ([] : List (Addr × Obj)) from hp) (by simp), e0.hok.kept hk, ?_⟩
  · exact name_of_addr x.apart (PySem.mem_of_lookup h1) (PySem.mem_of_lookup h2)
  · have hy : scope.names.lookup y = some .cell ∨ scope.names.lookup y = some .free := hy
    rcases hy with hy | hy
    · exact cell_has hy
    · exact absurd rfl (S.nofree _ (PySem.mem_of_lookup hy))
  · exact Nat.le_of_lt (x.above y c (PySem.mem_of_lookup h))
  · have hi : i < vs.length := by
      unfold start at h2
      by_cases hi : i < vs.length
      · exact hi
      · rw [List.getElem?_append_right (by simpa using hi)] at h2
        rw [List.getElem?_replicate] at h2
        split at h2 <;> cases h2
    have ha : vs[i]? = some v := by
      unfold start at h2
      rw [List.getElem?_append_left (by simpa using hi), List.getElem?_map] at h2
      cases e : vs[i]? with
      | none => rw [e] at h2; cases h2
      | some a => rw [e] at h2; cases h2; rfl
    obtain ⟨u, hu, rv⟩ := r.get ha
    have hp : ps[i]? = some y := by
      rw [← S.pre, List.getElem?_take_of_lt (by omega)]; exact h1
    have ndP : ps.Nodup := by rw [← S.pre]; exact S.nd.sublist (List.take_sublist _ _)
    refine ⟨u, rv, ?_⟩
    rcases S.par y (List.mem_of_getElem? hp) with k | k
    · exact .inl ⟨k, bindL_get ndP hp hu k⟩
    · obtain ⟨c, e⟩ := cell_has (n := s.heap.objs.size + 1) k
      refine .inr ⟨.inl k, c, e, ?_⟩
      have q := x.cell y c e
      rw [bindC_get ndP hp hu (by show scope.names.lookup y ≠ _; rw [k]; decide)] at q
      exact q
  · exact e0.hok.fresh (Nat.le_of_lt (x.above y c (PySem.mem_of_lookup h)))
  · unfold start
    show _ = N.length
    rw [List.length_append, List.length_map, List.length_replicate]
    omega

theorem fn_of {CX : CXT} {P : Program} {w : World} {K : PySem.W.Frag} {mg : Str → Option Value} {base : Heap} {k : Nat} {f : Addr} {name qual : Str} {params : Arguments} {body : List Stmt} {scope : Scope} {dV kV doc pm cdv ct oc : Value} {an od : Option Addr}
    {osl : Array (Option Value)} {N ps : List Str} {sp : Sp} (lk : K.lookup f = some ⟨oc, od, .func (PySem.W.fnOf name qual params body scope dV kV doc pm an cdv ct), osl⟩) (hcd : PySem.W.codeIn K cdv qual = true) (S : FnScope N ps scope)
    (len : ∀ vs H Q E, sp vs H Q E → vs.length = ps.length)
    (hbody : ∀ (A : Around) (outer : List Env) (s : Shared) (H : Hp) (vs : List V) (Q : VK) (E : XK), Room k (A.deeper (envOfC qual scope s.heap.objs.size f cdv)) → sp vs H Q E →
      ∃ t, PSs (cxOf CX P w K mg base N qual scope f cdv A outer s H E) body t ∧ t { nx := fun _ H' => Q .non H', rt := Q } (start N vs) H) :
    FnOk P w K mg base CX (k + 1) f (PySem.W.fnOf name qual params body scope dV kV doc pm an cdv ct) ps sp := by
  refine ⟨len, fun A outer s H args us vs Q E hr e0 hb r hsp => ?_⟩
  have hl := len _ _ _ _ hsp
  have KX : K.In s.heap := e0.mod.kin.keeps fun b o e => (e0.bs b o e).1
  have lim : s.heap.NoLimit := e0.mod.nolimit.keeps fun b o e => (e0.bs b o e).1
  have hkind : ∀ y ∈ ps.zip us, scope.names.lookup y.1 = some .local ∨ (scope.names.lookup y.1 = some .cell ∧ ((cellsFrom (s.heap.objs.size + 1) scope.names []).lookup y.1).isSome = true) := fun ⟨n, v⟩ hy => by
    rcases S.par n (List.of_mem_zip hy).1 with q | q
    · exact .inl q
    · exact .inr ⟨q, PySem.W.cellsFrom_some _ _ _ (.inl q)⟩
  refine codeAny_call_function hr.depth (KX _ _ lk) rfl S.co S.gen rfl (PySem.W.codeRec_of KX hcd) (hb _ _ _ _ ?_)
  refine wpAny_newFunctionEnv_cells S.kind hkind fun env he s1 x => ?_
  subst he
  refine ⟨lim.keeps x.toInCall.keep, codeAny_func ?_⟩
  obtain ⟨t, ht, hq⟩ := hbody A outer s H vs Q E (hr.deeper _) hsp
  have I : Inv (cxOf CX P w K mg base N qual scope f cdv A outer s H E) [] (start N vs) H s1 := inv_start S hr.hd e0 hl r x
  refine wpAny_mono (ht [] s1 (start N vs) H _ I hq) (fun fl s' hs => ?_) fun e s' hs => hs
  have fin : ∀ {σ' : St} {H' : Hp} {v : V} {u : Value}, Inv (cxOf CX P w K mg base N qual scope f cdv A outer s H E) [] σ' H' s' → RelV v u → Q v H' → CE outer P w H s Q u s' :=
    fun {σ' H' v u} J rv q => ⟨v, H', J.os, J.bare, J.base, J.hok, rv, q⟩
  cases fl with
  | ret u =>
    obtain ⟨v, σ', H', J, rv, q⟩ := hs
    exact fin J rv q
  | next =>
    obtain ⟨σ', H', J, q⟩ := hs
    exact fin (v := V.non) (u := Value.none) J rfl q
  | brk =>
    obtain ⟨_, _, _, q⟩ := hs
    exact False.elim q
  | cont =>
    obtain ⟨_, _, _, q⟩ := hs
    exact False.elim q
end L2

namespace L2
open PySem PySem.Spec PyProof.Rows
section
variable {X : Cx} {x : Str} {p pos : Pos} {e : Expr} {es : List Expr} {t : TA} {id T : String} {r : List V → Hp → VK → Prop}

noncomputable def tCB (r : List V → Hp → VK → Prop) (t : TA) : TE := fun σ H Q => t σ H fun vs H1 => r vs H1 Q
theorem pe_callB (hc : CallR X (.builtin id) r) (hg : Gl X x) (hm : X.mg x = none) (hv : bootBuiltins x = some (.builtin id)) (ha : PA X (e :: es) t) (hn : x ≠ "__name__" := by decide) (hdb : (x == ("__debug__" : Str)) = false := by decide)
    (he : starEach (e :: es) X.env = (false, eval e X.env) :: starEach es X.env := by rfl) (hpl : (backTo pos (starEach es X.env)).any (·.1) = false := by rfl) : PE X (.Call (.Name x p) (e :: es) [] pos) (tCB r t) := by
  intro pins s σ H Q I h
  refine wpAny_Call_Name_kw (ld_blt I hg hm hv ?_ hn hdb)
  exact PyProof.Rows.callWith_builtin1 (thn (ha pos pins s σ H _ I h) fun us s1 ⟨vs, H1, I1, r1, q1⟩ => hc pins s1 σ H1 vs us Q I1 r1 q1) he hpl
theorem pe_callTy (hc : CallR X (.type T) r) (hg : Gl X x) (hm : X.mg x = none) (hv : bootBuiltins x = some (.type T)) (ha : PA X (e :: es) t) (hn : x ≠ "__name__" := by decide) (hdb : (x == ("__debug__" : Str)) = false := by decide)
    (he : starEach (e :: es) X.env = (false, eval e X.env) :: starEach es X.env := by rfl) (hpl : (backTo pos (starEach es X.env)).any (·.1) = false := by rfl) : PE X (.Call (.Name x p) (e :: es) [] pos) (tCB r t) := by
  intro pins s σ H Q I h
  refine wpAny_Call_Name_kw (ld_blt I hg hm hv ?_ hn hdb)
  exact PyProof.Rows.callWith_type1 (thn (ha pos pins s σ H _ I h) fun us s1 ⟨vs, H1, I1, r1, q1⟩ => hc pins s1 σ H1 vs us Q I1 r1 q1) he hpl
end
end L2

namespace L2
open PySem PySem.Spec PyProof.Rows

/-! ### lists of pairs as tables -/
section
variable {κ : Type} [DecidableEq κ]
noncomputable def valV (kvs : List (κ × V)) (k : κ) : Option V := (kvs.find? fun kv => decide (kv.1 = k)).map (·.2)
noncomputable def putK (kvs : List (κ × V)) (k : κ) (v : V) : List (κ × V) :=
  if (kvs.any fun kv => decide (kv.1 = k)) = true then kvs.map (fun kv => if kv.1 = k then (kv.1, v) else kv) else kvs ++ [(k, v)]
theorem valV_nil {k : κ} : valV ([] : List (κ × V)) k = none := rfl
theorem valV_pos {p : κ × V} {r : List (κ × V)} {k : κ} (e : p.1 = k) : valV (p :: r) k = some p.2 := by simp [valV, List.find?_cons, e]
theorem valV_neg {p : κ × V} {r : List (κ × V)} {k : κ} (e : ¬ p.1 = k) : valV (p :: r) k = valV r k := by simp [valV, List.find?_cons, e]
theorem valV_any (k : κ) : ∀ kvs : List (κ × V), (kvs.any fun kv => decide (kv.1 = k)) = (valV kvs k).isSome
  | [] => rfl
  | p :: r => by
    rw [List.any_cons]
    by_cases e : p.1 = k
    · simp only [valV_pos e, decide_eq_true e, Bool.true_or, Option.isSome_some]
    · rw [valV_neg e, decide_eq_false e, Bool.false_or]; exact valV_any k r
theorem valV_map (k j : κ) (y : V) : ∀ kvs : List (κ × V), valV (kvs.map fun kv => if kv.1 = k then (kv.1, y) else kv) j = (valV kvs j).map fun x => if j = k then y else x
  | [] => rfl
  | p :: r => by
    have ih := valV_map k j y r
    rw [List.map_cons]
    by_cases h : p.1 = k
    · rw [if_pos h]
      by_cases e : p.1 = j
      · rw [valV_pos (p := (p.1, y)) e, valV_pos e, Option.map_some, if_pos (e.symm.trans h)]
      · rw [valV_neg (p := (p.1, y)) e, valV_neg e, ih]
    · rw [if_neg h]
      by_cases e : p.1 = j
      · rw [valV_pos (p := p) e, valV_pos e, Option.map_some, if_neg (fun z => h (e.trans z))]
      · rw [valV_neg (p := p) e, valV_neg e, ih]
theorem valV_snoc (k j : κ) (y : V) : ∀ kvs : List (κ × V), valV kvs k = none → valV (kvs ++ [(k, y)]) j = if j = k then some y else valV kvs j
  | [], _ => by
    by_cases e : k = j
    · rw [if_pos e.symm]; exact valV_pos (p := (k, y)) e
    · rw [if_neg (fun z => e z.symm)]; exact valV_neg (p := (k, y)) e
  | p :: r, hn => by
    rw [List.cons_append]
    have hk : ¬ p.1 = k := fun z => by rw [valV_pos z] at hn; cases hn
    rw [valV_neg hk] at hn
    have ih := valV_snoc k j y r hn
    by_cases e : p.1 = j
    · rw [valV_pos e, valV_pos e, if_neg (fun z => hk (e.trans z))]
    · rw [valV_neg e, valV_neg e, ih]
theorem valV_put (kvs : List (κ × V)) (k j : κ) (y : V) : valV (putK kvs k y) j = if j = k then some y else valV kvs j := by
  unfold putK
  by_cases a : (kvs.any fun kv => decide (kv.1 = k)) = true
  · rw [if_pos a, valV_map]
    rw [valV_any] at a
    by_cases e : j = k
    · obtain ⟨x, hx⟩ := Option.isSome_iff_exists.mp a
      rw [if_pos e, e, hx, Option.map_some, if_pos rfl]
    · rw [if_neg e]
      cases valV kvs j with
      | none => rfl
      | some x => rw [Option.map_some, if_neg e]
  · rw [if_neg a]
    refine valV_snoc k j y kvs ?_
    rw [valV_any] at a
    cases q : valV kvs k with
    | none => rfl
    | some x => rw [q] at a; exact (a rfl).elim
theorem length_putK (kvs : List (κ × V)) (k : κ) (v : V) : (putK kvs k v).length ≤ kvs.length + 1 := by
  unfold putK
  split
  · rw [List.length_map]; omega
  · rw [List.length_append, List.length_cons, List.length_nil]; omega
theorem RelO.isSome_eq {o : Option V} {u : Option Value} (r : RelO o u) : o.isSome = u.isSome := by
  cases o with
  | none => cases u with
    | none => rfl
    | some _ => exact (show False from r).elim
  | some _ => cases u with
    | none => exact (show False from r).elim
    | some _ => rfl
theorem RelO.getD {o : Option V} {u : Option Value} {d : V} {d' : Value} (r : RelO o u) (rd : RelV d d') : RelV (o.getD d) (u.getD d') := by
  cases o with
  | none => cases u with
    | none => exact rd
    | some _ => exact (show False from r).elim
  | some _ => cases u with
    | none => exact (show False from r).elim
    | some _ => exact r

theorem KV.val {kvs : List (κ × V)} {vs : List (κ × Value)} (r : KV kvs vs) (k : κ) : RelO (valV kvs k) (valueAt vs k) := by
  unfold KV at r
  induction r with
  | nil => exact True.intro
  | @cons p q ps qs h t ih =>
    obtain ⟨h1, h2⟩ := h
    by_cases e : p.1 = k
    · have e' : q.1 = k := h1.symm.trans e
      have b : valueAt (q :: qs) k = some q.2 := by simp [valueAt, List.find?_cons, e']
      rw [valV_pos e, b]; exact h2
    · have e' : ¬ q.1 = k := fun z => e (h1.trans z)
      have b : valueAt (q :: qs) k = valueAt qs k := by simp [valueAt, List.find?_cons, e']
      rw [valV_neg e, b]; exact ih
theorem KV.any {kvs : List (κ × V)} {vs : List (κ × Value)} (r : KV kvs vs) (k : κ) : (kvs.any fun kv => decide (kv.1 = k)) = vs.any fun kv => decide (kv.1 = k) := by
  unfold KV at r
  induction r with
  | nil => rfl
  | cons h t ih => rw [List.any_cons, List.any_cons, ih, h.1]
theorem KV.repl {kvs : List (κ × V)} {vs : List (κ × Value)} (r : KV kvs vs) (k : κ) {y : V} {u : Value} (ry : RelV y u) :
    KV (kvs.map fun kv => if kv.1 = k then (kv.1, y) else kv) (vs.map fun kv => if kv.1 = k then (kv.1, u) else kv) := by
  unfold KV at r ⊢
  induction r with
  | nil => exact .nil
  | @cons p q ps qs h t ih =>
    rw [List.map_cons, List.map_cons]
    refine .cons ?_ ih
    obtain ⟨h1, h2⟩ := h
    by_cases e : p.1 = k
    · rw [if_pos e, if_pos (h1.symm.trans e)]; exact ⟨h1, ry⟩
    · rw [if_neg e, if_neg (fun z => e (h1.trans z))]; exact ⟨h1, h2⟩
theorem KV.put {kvs : List (κ × V)} {vs : List (κ × Value)} (r : KV kvs vs) (k : κ) {y : V} {u : Value} (ry : RelV y u) : KV (putK kvs k y) (stored vs k u) := by
  unfold putK stored
  rw [r.any k]
  by_cases e : (vs.any fun kv => decide (kv.1 = k)) = true
  · rw [if_pos e, if_pos e]; exact r.repl k ry
  · rw [if_neg e, if_neg e]; exact Paired.snoc r ⟨rfl, ry⟩
theorem KV.length {kvs : List (κ × V)} {vs : List (κ × Value)} (r : KV kvs vs) : kvs.length = vs.length := Paired.length r
end


/-! ### a tracked dict, its keys ints and texts or tuples of these -/
theorem kV_is {P : Program} {w : World} {k : Key} {u : Value} (r : RelV (kV k) u) : (mixKind P w).is k u = true := by
  cases k with
  | inl i => obtain ⟨t, e⟩ := (show ∃ t, u = Value.int i t from r); subst e; exact mixKind_int P w i t
  | inr x => obtain ⟨t, e⟩ := (show ∃ t, u = Value.str x t from r); subst e; exact mixKind_str P w x t
theorem items_are {P : Program} {w : World} : ∀ {ks : List Key} {us : List Value}, Vals (ks.map kV) us → ItemsAre (mixKind P w) ks us
  | [], _, r => by rw [List.map_nil] at r; cases r; exact .nil
  | k :: ks, _, r => by
    rw [List.map_cons] at r
    cases r with
    | cons h t => exact .cons (kV_is h) (items_are t)

noncomputable abbrev KT (H : Hp) : List (List Key × V) → List (List Key × Addr × Value) → Prop := Paired fun p q => p.1 = q.1 ∧ H q.2.1 = some (.tup (p.1.map kV)) ∧ RelV p.2 q.2.2
theorem KT.val {H : Hp} {kvs : List (List Key × V)} {xs : List (List Key × Addr × Value)} (r : KT H kvs xs) (k : List Key) : RelO (valV kvs k) ((atKey xs k).map (·.2)) := by
  induction r with
  | nil => exact True.intro
  | @cons p q ps qs h t ih =>
    obtain ⟨h1, _, h2⟩ := h
    by_cases e : p.1 = k
    · have e' : q.1 = k := h1.symm.trans e
      have b : atKey (q :: qs) k = some q.2 := by simp [atKey, List.find?_cons, e']
      rw [valV_pos e, b]; exact h2
    · have e' : ¬ q.1 = k := fun z => e (h1.trans z)
      have b : atKey (q :: qs) k = atKey qs k := by simp [atKey, List.find?_cons, e']
      rw [valV_neg e, b]; exact ih
theorem KT.repl {H : Hp} {kvs : List (List Key × V)} {xs : List (List Key × Addr × Value)} (r : KT H kvs xs) (k : List Key) {y : V} {u : Value} (ry : RelV y u) :
    KT H (kvs.map fun kv => if kv.1 = k then (kv.1, y) else kv) (xs.map (putAt k u)) := by
  induction r with
  | nil => exact .nil
  | @cons p q ps qs h t ih =>
    rw [List.map_cons, List.map_cons]
    refine .cons ?_ ih
    obtain ⟨h1, h2, h3⟩ := h
    unfold putAt
    by_cases e : p.1 = k
    · rw [if_pos e, if_pos (h1.symm.trans e)]; exact ⟨h1, h2, ry⟩
    · rw [if_neg e, if_neg (fun z => e (h1.trans z))]; exact ⟨h1, h2, h3⟩
theorem KT.put {H : Hp} {kvs : List (List Key × V)} {xs : List (List Key × Addr × Value)} (r : KT H kvs xs) (k : List Key) {b : Addr} {y : V} {u : Value} (hb : H b = some (.tup (k.map kV))) (ry : RelV y u) :
    KT H (putK kvs k y) (storedH xs k b u) := by
  have e : (kvs.any fun kv => decide (kv.1 = k)) = (atKey xs k).isSome := by
    rw [valV_any, (r.val k).isSome_eq, Option.isSome_map]
  unfold putK storedH
  rw [e]
  by_cases q : (atKey xs k).isSome = true
  · rw [if_pos q, if_pos q]; exact r.repl k ry
  · rw [if_neg q, if_neg q]; exact Paired.snoc r ⟨rfl, hb, ry⟩
theorem KT.keeps {H H' : Hp} {kvs : List (List Key × V)} {xs : List (List Key × Addr × Value)} (r : KT H kvs xs) (ht : ∀ b ys, H b = some (.tup ys) → H' b = some (.tup ys)) : KT H' kvs xs :=
  Paired.mapP r fun _ _ z => ⟨z.1, ht _ _ z.2.1, z.2.2⟩

section
variable {P : Program} {w : World} {H : Hp} {h : Heap} {a : Addr}
theorem rd_of {u : HO} (ok : HOk P w H h) (e : Rd H a u) : ObjOk P w H h a u := e.ok ok
theorem dk_rd {kvs : List (Key × V)} (ok : HOk P w H h) (e : Rd H a (.dK kvs)) : kvs.length ≤ sizeLine ∧ (a == sysModules) = false ∧ ∃ vs, KV kvs vs ∧ h.DictOf (mixKind P w) a vs :=
  show ObjOk P w H h a (.dK kvs) from rd_of ok e
theorem dk_of {kvs : List (Key × V)} (ok : HOk P w H h) (e : H a = some (.dK kvs)) : kvs.length ≤ sizeLine ∧ (a == sysModules) = false ∧ ∃ vs, KV kvs vs ∧ h.DictOf (mixKind P w) a vs := dk_rd ok (.inl e)
theorem key_of {ks : List Key} (ok : HOk P w H h) (e : H a = some (.tup (ks.map kV))) : (tupleKind (mixKind P w)).is h ks a := by
  obtain ⟨_, its, r, o, h1, h2, n, h3⟩ := (show ObjOk P w H h a (.tup (ks.map kV)) from ok a _ e)
  exact ⟨o, its.toArray, n, h1, h2, h3, by simpa using items_are r⟩
theorem dt_rd {kvs : List (List Key × V)} (ok : HOk P w H h) (e : Rd H a (.dT kvs)) : kvs.length ≤ sizeLine ∧ (a == sysModules) = false ∧
    ∃ xs, KT H kvs xs ∧ h.DictOfH (tupleKind (mixKind P w)) a xs := by
  obtain ⟨z, y, xs, r, o, es, ep, h1, h2, h3, h4, h5⟩ := (show ObjOk P w H h a (.dT kvs) from rd_of ok e)
  refine ⟨z, y, xs, r, o, es, ep, h1, h2, h3, h4, fun x hx => ?_, h5⟩
  have all : ∀ {l : List (List Key × V)} {m : List (List Key × Addr × Value)}, KT H l m → ∀ x ∈ m, (tupleKind (mixKind P w)).is h x.1 x.2.1 := by
    intro l m q
    induction q with
    | nil => intro x hx; exact nomatch hx
    | @cons p q ps qs hq t ih =>
      intro x hx
      rcases List.mem_cons.mp hx with e | hx
      · subst e
        exact key_of ok (by rw [← hq.1]; exact hq.2.1)
      · exact ih x hx
  exact all r x hx
theorem dt_of {kvs : List (List Key × V)} (ok : HOk P w H h) (e : H a = some (.dT kvs)) : kvs.length ≤ sizeLine ∧ (a == sysModules) = false ∧
    ∃ xs, KT H kvs xs ∧ h.DictOfH (tupleKind (mixKind P w)) a xs := dt_rd ok (.inl e)
end

noncomputable def DGet (H : Hp) (a : Addr) (y : V) (r : Option V) : Prop :=
  (∃ kvs k, Rd H a (.dK kvs) ∧ y = kV k ∧ r = valV kvs k) ∨ ∃ kvs k b, Rd H a (.dT kvs) ∧ y = .ref b ∧ H b = some (.tup (k.map kV)) ∧ r = valV kvs k
noncomputable def DPut (H : Hp) (a : Addr) (y v : V) (H' : Hp) : Prop :=
  (∃ kvs k, H a = some (.dK kvs) ∧ y = kV k ∧ kvs.length < sizeLine ∧ H' = upd H a (.dK (putK kvs k v))) ∨
  ∃ kvs k b, H a = some (.dT kvs) ∧ y = .ref b ∧ H b = some (.tup (k.map kV)) ∧ kvs.length < sizeLine ∧ H' = upd H a (.dT (putK kvs k v))
theorem DGet.k {H : Hp} {a : Addr} {kvs : List (Key × V)} {k : Key} (e : H a = some (.dK kvs)) : DGet H a (kV k) (valV kvs k) := .inl ⟨kvs, k, .inl e, rfl, rfl⟩
theorem DPut.k {H : Hp} {a : Addr} {kvs : List (Key × V)} {k : Key} {v : V} (e : H a = some (.dK kvs)) (hl : kvs.length < sizeLine) : DPut H a (kV k) v (upd H a (.dK (putK kvs k v))) := .inl ⟨kvs, k, e, rfl, hl, rfl⟩
section
variable {X : Cx} {pins : List (Addr × Obj)} {σ : St} {H : Hp} {s : Shared} {a : Addr} {y v : V} {u r : Value} {o : Option V} {A : Around} {E : Value → Shared → Prop}

theorem Inv.big (I : Inv X pins σ H s) : sysModules < s.heap.objs.size := by
  have h : mainGlobals < s.heap.objs.size := (I.mod.glob.keeps I.bk).lt
  exact Nat.lt_trans (by decide) h

theorem d_getItem {Q : Value → Shared → Prop} (hu : A.units + 1 < cLine) (I : Inv X pins σ H s) (g : DGet H a y (some v)) (ry : RelV y u) (h : ∀ w' s', Inv X pins σ H s' → RelV v w' → Q w' s') :
    wpAny (model X.prog X.w) A (getItem (.ref a) u) Q E s := by
  rcases g with ⟨kvs, k, e, ey, l⟩ | ⟨kvs, k, b, e, ey, eb, l⟩
  · subst ey
    obtain ⟨z, hd, vs, rel, dd⟩ := dk_rd I.hok e
    obtain ⟨w', hw, rw'⟩ := RelO.some_of (v := v) (o := valueAt vs k) (by rw [l]; exact rel.val k)
    exact wpAny_getItem_of (kV_is ry) dd.mapOf hw (h w' _ (I.tok _) rw')
  · subst ey
    cases (show u = Value.ref b from ry)
    obtain ⟨z, hd, xs, rel, dd⟩ := dt_rd I.hok e
    obtain ⟨w', hw, rw'⟩ := RelO.some_of (v := v) (o := (atKey xs k).map (·.2)) (by rw [l]; exact rel.val k)
    obtain ⟨p, hp, hp2⟩ := Option.map_eq_some_iff.mp hw
    refine wpAny_getItem_heap (tupleKind_room_in1 hu) (key_of I.hok eb) dd hp ?_
    rw [hp2]
    exact h w' _ (I.tok _) rw'
theorem d_notIn {Q : Value → Shared → Prop} (hu : A.units + 1 < cLine) (I : Inv X pins σ H s) (g : DGet H a y o) (ry : RelV y u) (h : ∀ s', Inv X pins σ H s' → Q (.bool (!o.isSome)) s') :
    wpAny (model X.prog X.w) A (compareOp .NotIn u (.ref a)) Q E s := by
  rcases g with ⟨kvs, k, e, ey, l⟩ | ⟨kvs, k, b, e, ey, eb, l⟩
  · subst ey
    obtain ⟨z, hd, vs, rel, dd⟩ := dk_rd I.hok e
    refine wpAny_notIn_of (kV_is ry) hd dd.mapOf ?_
    rw [← (rel.val k).isSome_eq, ← l]
    exact h _ (I.tok _)
  · subst ey
    cases (show u = Value.ref b from ry)
    obtain ⟨z, hd, xs, rel, dd⟩ := dt_rd I.hok e
    refine wpAny_notIn_heap (tupleKind_room_in1 hu) (key_of I.hok eb) hd dd ?_
    have q := (rel.val k).isSome_eq
    rw [Option.isSome_map] at q
    rw [← q, ← l]
    exact h _ (I.tok _)
theorem d_write {h' : Heap} {t' : Nat} {ob : HO} (I : Inv X pins σ H s) (mu : Mut (H a)) (hs : Heap.SameBut a s.heap h') (he : ∃ q, h'.get? a = some q) (new : ObjOk X.prog X.w (upd H a ob) h' a ob) :
    Inv X pins σ (upd H a ob) { s with heap := h', toks := t' } :=
  I.write (x := a) (e := a) mu (.inl rfl) (fun b q hb z => (hs.2 b hb).trans z) he new
theorem dk_new {P : Program} {w : World} {H' : Hp} {h' : Heap} {kvs : List (Key × V)} {vs : List (Key × Value)} (z : kvs.length ≤ sizeLine) (hd : (a == sysModules) = false) (rel : KV kvs vs) (dd : h'.DictOf (mixKind P w) a vs) :
    ObjOk P w H' h' a (.dK kvs) := ⟨z, hd, vs, rel, dd⟩
theorem d_setItem {H' : Hp} {Q : Unit → Shared → Prop} (hu : A.units + 1 < cLine) (I : Inv X pins σ H s) (g : DPut H a y v H') (ry : RelV y u) (rv : RelV v r) (h : ∀ s', Inv X pins σ H' s' → Q () s') :
    wpAny (model X.prog X.w) A (setItem (.ref a) u r) Q E s := by
  rcases g with ⟨kvs, k, e, ey, l, eH⟩ | ⟨kvs, k, b, e, ey, eb, l, eH⟩
  · subst ey eH
    obtain ⟨z, hd, vs, rel, dd⟩ := dk_of I.hok e
    have hz : vs.length ≤ sizeLine := by rw [← rel.length]; exact z
    have hl : (putK kvs k v).length ≤ sizeLine := by have := length_putK kvs k v; omega
    refine wpAny_setItem_pairs (hsz := hz) (kV_is ry) dd fun h' dd' hs => h _ ?_
    have he : ∃ q, h'.get? a = some q := let ⟨q, _, _, hq, _⟩ := dd'; ⟨q, hq⟩
    exact d_write I (by rw [e]; exact True.intro) hs he (dk_new hl hd (rel.put k rv) dd')
  · subst ey eH
    cases (show u = Value.ref b from ry)
    obtain ⟨z, hd, xs, rel, dd⟩ := dt_of I.hok e
    have hz : xs.length ≤ sizeLine := by rw [← Paired.length rel]; exact z
    have hl : (putK kvs k v).length ≤ sizeLine := by have := length_putK kvs k v; omega
    refine wpAny_setItem_heap (hsz := hz) (tupleKind_room_in1 hu) (key_of I.hok eb) dd fun h' dd' hs => h _ ?_
    obtain ⟨q, es, ep, hq, h2, h3, h4, _, h5⟩ := dd'
    refine d_write I (by rw [e]; exact True.intro) hs ⟨q, hq⟩ ⟨hl, hd, _, (rel.put k eb rv).keeps fun c ys ec => ?_, q, es, ep, hq, h2, h3, h4, h5⟩
    rw [upd_ne (ne_of ec e (fun z => nomatch z))]
    exact ec
end

section
variable {X : Cx} {pins : List (Addr × Obj)} {σ : St} {H : Hp} {s : Shared} {a : Addr} {kvs : List (Key × V)} {k : Key} {u : Value} {A : Around} {E : Value → Shared → Prop}
end


/-! ### readings and rules -/
noncomputable def NoSl (i : Expr) : Prop := ∀ ov iv, subscripted i false ov iv = operate [ov, iv] (getItem ov iv)
theorem subD_of {prog : Program} {w : World} {A : Around} {E : Value → Shared → Prop} {s : Shared} {env : Env} {value slice : Expr} {pos : Pos} {T id : String} {Q : Value → Shared → Prop}
    (hl : typeLookup (.type T) "__getitem__" = pure (some (.builtin id))) (hs : NoSl slice)
    (h : wpAny (model prog w) A (eval value env) (fun o s₁ => wpAny (model prog w) A (eval slice env) (fun i s₂ => s₂.TypeIs o T ∧ wpAny (model prog w) A (getItem o i) Q E s₂) E s₁) E s) :
    wpAny (model prog w) A (eval (.Subscript value slice pos) env) Q E s := by
  refine Subscript_ (wpAny_mono h (fun o s₁ h₁ => wpAny_mono h₁ (fun i s₂ h₂ => ?_) fun _ _ x => x) fun _ _ x => x)
  obtain ⟨hT, h₂⟩ := h₂
  unfold subscriptTail
  refine wpAny_bind ?_
  rw [getitemInPython_of_ne hT.not_modules]
  refine wpAny_bind (wpAny_specialOf hT hl ?_)
  have fin : wpAny (model prog w) A (subscripted slice false o i) (fun r s₃ => wpAny (model prog w) A (letTemporaryGo value o r >>= fun _ => pure r) Q E s₃) E s₂ := by
    rw [hs o i]
    exact wpAny_operating (wpAny_mono h₂ (fun r s₃ h₃ => wpAny_bind (wpAny_letTemporaryGo (wpAny_pure h₃))) fun _ _ x => x)
  first
    | exact wpAny_pure (wpAny_bind fin)
    | exact wpAny_bind (wpAny_pure (wpAny_bind fin))
    | exact wpAny_bind fin

theorem dict_typeIs {X : Cx} {pins : List (Addr × Obj)} {σ : St} {H : Hp} {s : Shared} {a : Addr} {y : V} {o : Option V} (I : Inv X pins σ H s) (g : DGet H a y o) : s.TypeIs (.ref a) "dict" := by
  rcases g with ⟨kvs, k, e, _, _⟩ | ⟨kvs, k, b, e, _, _, _⟩
  · obtain ⟨_, _, vs, _, dd⟩ := dk_rd I.hok e
    exact dd.typeIs
  · obtain ⟨_, _, xs, _, dd⟩ := dt_rd I.hok e
    exact dd.typeIs
noncomputable def tDGet (td ty : TE) : TE := fun σ H Q => td σ H fun x H1 => ty σ H1 fun y H2 => ∃ a v, x = .ref a ∧ DGet H2 a y (some v) ∧ Q v H2
noncomputable def tDNotIn (ty td : TE) : TE := fun σ H Q => ty σ H fun y H1 => td σ H1 fun x H2 => ∃ a o, x = .ref a ∧ DGet H2 a y o ∧ Q (.bl (!o.isSome)) H2
noncomputable def sDPut (td ty tv : TE) : TS := fun D σ H => tv σ H fun v H1 => td σ H1 fun x H2 => ty σ H2 fun y H3 => ∃ a H4, x = .ref a ∧ DPut H3 a y v H4 ∧ D.nx σ H4
section
variable {X : Cx} {o i e value : Expr} {pos pos' tpos : Pos} {td ty tv : TE}
theorem pe_dget (hu : X.A.units + 1 < cLine) (ho : PE X o td) (hi : PE X i ty) (hs : NoSl i) : PE X (.Subscript o i pos) (tDGet td ty) := by
  intro pins s σ H Q I h
  refine subD_of PySem.F.slot_dict_getitem.lookup hs (thn (ho pins s σ H _ I h) fun u s1 ⟨x, H1, I1, rx, q1⟩ => thn (hi pins s1 σ H1 _ I1 q1) fun iv s2 ⟨y, H2, I2, ry, a, v, ex, g, q2⟩ => ?_)
  subst ex
  obtain rfl : u = Value.ref a := rx
  exact ⟨dict_typeIs I2 g, d_getItem hu I2 g ry fun w' s3 I3 rw' => ⟨v, H2, I3, rw', q2⟩⟩
theorem pc_dnotin (hu : X.A.units + 1 < cLine) (hi : PE X i ty) (ho : PE X o td) : PC X .NotIn i o (tDNotIn ty td) := by
  intro pins s σ H Q I h
  refine thn (hi pins s σ H _ I h) fun iv s1 ⟨y, H1, I1, ry, q1⟩ => thn (ho pins s1 σ H1 _ I1 q1) fun u s2 ⟨x, H2, I2, rx, a, ov, ex, g, q2⟩ => ?_
  subst ex
  obtain rfl : u = Value.ref a := rx
  exact d_notIn hu I2 g ry fun s3 I3 => ⟨.bl (!ov.isSome), H2, I3, rfl, q2⟩
theorem ps_dput (hu : X.A.units + 1 < cLine) (ho : PE X o td) (hi : PE X i ty) (hv : PE X value tv) (hs : swapsWith value (some (.Subscript o i pos')) pos.line X.env = pure false) :
    PS X (.Assign [.Subscript o i pos'] value pos) (sDPut td ty tv) := by
  intro pins s σ H D I h
  refine wpAny_Assign_Subscript (thn (hv pins s σ H _ I h) fun r s1 ⟨v, H1, I1, rv, q1⟩ => thn (ho pins s1 σ H1 _ I1 q1) fun u s2 ⟨x, H2, I2, rx, q2⟩ => thn (hi pins s2 σ H2 _ I2 q2) fun iv s3 ⟨y, H3, I3, ry, a, H4, ex, g, q3⟩ => ?_) hs
  subst ex
  obtain rfl : u = Value.ref a := rx
  exact d_setItem hu I3 g ry rv fun s4 I4 => ⟨σ, H4, I4, q3⟩
end


/-! ### displays -/
theorem dk_empty {P : Program} {w : World} {H : Hp} (h : Heap) (hb : sysModules < h.objs.size) : ObjOk P w H (h.push { cls := .type "dict", data := .dict #[] }) h.objs.size (.dK []) :=
  ⟨Nat.zero_le _, beq_eq_false_iff_ne.mpr (Ne.symm (Nat.ne_of_lt hb)), [], .nil, Heap.DictOf.new h⟩
noncomputable def tDNewK : TE := fun _ H Q => ∀ p, H p = none → Q (.ref p) (upd H p (.dK []))
section
variable {X : Cx} {pos : Pos}
theorem pe_dnewK : PE X (.Dict [] [] pos) tDNewK := fun pins s σ H Q I h =>
  wpAny_Dict_empty ⟨.ref s.heap.objs.size, _, I.laid (a := s.heap.objs.size) (o := .dK []) (t' := s.toks) (fun _ _ q => Heap.get?_push_of_some _ q) (Nat.le_refl _) (dk_empty s.heap I.big), rfl, h _ (I.hok.fresh (Nat.le_refl _))⟩
end

/-! ### methods -/
structure M1 (X : Cx) (o : Expr) (m : Str) (apos : Pos) (e : Expr) (cpos : Pos) : Prop where
  base : attributeBase o m X.env (eval o X.env) = eval o X.env
  few : ((backTo cpos (starEach [e] X.env)).all (fun x => !x.1) && (backToKw cpos (keywordEach [] X.env)).all (fun x => x.1.isSome)
    && decide (([e] : List Expr).length + ([] : List Keyword).length + (if ([] : List Keyword).isEmpty then 0 else 1) < 30)) = true
  line : (apos.endLine == cpos.line) = true
  trees : backTo cpos (starEach [e] X.env) = [(false, eval e X.env)]
structure M2 (X : Cx) (o : Expr) (m : Str) (apos : Pos) (e f : Expr) (cpos : Pos) : Prop where
  base : attributeBase o m X.env (eval o X.env) = eval o X.env
  few : ((backTo cpos (starEach [e, f] X.env)).all (fun x => !x.1) && (backToKw cpos (keywordEach [] X.env)).all (fun x => x.1.isSome)
    && decide (([e, f] : List Expr).length + ([] : List Keyword).length + (if ([] : List Keyword).isEmpty then 0 else 1) < 30)) = true
  line : (apos.endLine == cpos.line) = true
  trees : backTo cpos (starEach [e, f] X.env) = [(false, eval e X.env), (false, eval f X.env)]

noncomputable def IsD (H : Hp) (a : Addr) : Prop := (∃ kvs, Rd H a (.dK kvs)) ∨ ∃ kvs, Rd H a (.dT kvs)
theorem isD_at {X : Cx} {pins : List (Addr × Obj)} {σ : St} {H : Hp} {s : Shared} {a : Addr} (I : Inv X pins σ H s) (d : IsD H a) :
    s.TypeIs (.ref a) "dict" ∧ (∀ b, Value.ref a = .ref b → ∃ ob, s.heap.get? b = some ob ∧ ob.dict = none) ∧ (a == sysModules) = false := by
  rcases d with ⟨kvs, e⟩ | ⟨kvs, e⟩
  · obtain ⟨_, hd, vs, _, dd⟩ := dk_rd I.hok e
    refine ⟨dd.typeIs, fun b q => ?_, hd⟩
    cases q
    obtain ⟨ob, _, _, h1, h2, _⟩ := dd
    exact ⟨ob, h1, h2.2.1⟩
  · obtain ⟨_, hd, xs, _, dd⟩ := dt_rd I.hok e
    refine ⟨dd.typeIs, fun b q => ?_, hd⟩
    cases q
    obtain ⟨ob, _, _, h1, h2, _⟩ := dd
    exact ⟨ob, h1, h2.2.1⟩

section
variable {X : Cx} {pins : List (Addr × Obj)} {σ : St} {H : Hp} {s : Shared} {a : Addr} {y d : V} {u r : Value} {o : Option V} {A : Around} {E : Value → Shared → Prop}
theorem d_get1 {Q : Value → Shared → Prop} (hu : A.units + 1 < cLine) (I : Inv X pins σ H s) (g : DGet H a y o) (ry : RelV y u) (h : ∀ w' s', Inv X pins σ H s' → RelV (o.getD .non) w' → Q w' s') :
    wpAny (model X.prog X.w) A (call (.builtin "dict.get") [.ref a, u]) Q E s := by
  rcases g with ⟨kvs, k, e, ey, l⟩ | ⟨kvs, k, b, e, ey, eb, l⟩
  · subst ey
    obtain ⟨z, hd, vs, rel, dd⟩ := dk_rd I.hok e
    refine call_meetsIn PySem.F.slot_dict_get dd.typeIs PySem.F.entry_dict_get (PySem.F.args_dict_get_2 _ _) (meets_dict_get (mixKind X.prog X.w) a (kV_is ry) hd) ⟨_, dd.mapOf, h _ _ (I.tok _) ?_⟩
    rw [l]
    exact (rel.val k).getD rfl
  · subst ey
    cases (show u = Value.ref b from ry)
    obtain ⟨z, hd, xs, rel, dd⟩ := dt_rd I.hok e
    refine call_meetsIn PySem.F.slot_dict_get dd.typeIs PySem.F.entry_dict_get (PySem.F.args_dict_get_2 _ _) (meetsH_dict_get (tupleKind (mixKind X.prog X.w)) a b hd) ⟨tupleKind_room_in1 hu, k, xs, key_of I.hok eb, dd, h _ _ (I.tok _) ?_⟩
    rw [l]
    exact (rel.val k).getD rfl
theorem d_get2 {Q : Value → Shared → Prop} (hu : A.units + 1 < cLine) (I : Inv X pins σ H s) (g : DGet H a y o) (ry : RelV y u) (rd : RelV d r) (h : ∀ w' s', Inv X pins σ H s' → RelV (o.getD d) w' → Q w' s') :
    wpAny (model X.prog X.w) A (call (.builtin "dict.get") [.ref a, u, r]) Q E s := by
  rcases g with ⟨kvs, k, e, ey, l⟩ | ⟨kvs, k, b, e, ey, eb, l⟩
  · subst ey
    obtain ⟨z, hd, vs, rel, dd⟩ := dk_rd I.hok e
    refine call_meetsIn PySem.F.slot_dict_get dd.typeIs PySem.F.entry_dict_get (PySem.F.args_dict_get_3 _ _ _) (meets_dict_get_default (mixKind X.prog X.w) a (kV_is ry) hd r) ⟨_, dd.mapOf, h _ _ (I.tok _) ?_⟩
    rw [l]
    exact (rel.val k).getD rd
  · subst ey
    cases (show u = Value.ref b from ry)
    obtain ⟨z, hd, xs, rel, dd⟩ := dt_rd I.hok e
    refine call_meetsIn PySem.F.slot_dict_get dd.typeIs PySem.F.entry_dict_get (PySem.F.args_dict_get_3 _ _ _) (meetsH_dict_get_default (tupleKind (mixKind X.prog X.w)) a b hd r) ⟨tupleKind_room_in1 hu, k, xs, key_of I.hok eb, dd, h _ _ (I.tok _) ?_⟩
    rw [l]
    exact (rel.val k).getD rd
end

noncomputable def tDGet1 (td ty : TE) : TE := fun σ H Q => td σ H fun x H1 => ∃ a, x = .ref a ∧ IsD H1 a ∧ ty σ H1 fun y H2 => ∃ o, DGet H2 a y o ∧ Q (o.getD .non) H2
noncomputable def tDGet2 (td ty tx : TE) : TE := fun σ H Q => td σ H fun x H1 => ∃ a, x = .ref a ∧ IsD H1 a ∧ ty σ H1 fun y H2 => tx σ H2 fun z H3 => ∃ o, DGet H3 a y o ∧ Q (o.getD z) H3
section
variable {X : Cx} {o e f : Expr} {apos cpos : Pos} {td ty tx : TE}
theorem pe_dget1 (hu : X.A.units + 1 < cLine) (ho : PE X o td) (he : PE X e ty) (m : M1 X o "get" apos e cpos) : PE X (.Call (.Attribute o "get" apos) [e] [] cpos) (tDGet1 td ty) := by
  intro pins s σ H Q I h
  refine wpAny_Call_method m.base m.few m.line PySem.F.plainAttrs_dict PySem.F.slot_dict_get PySem.F.type_dict_get (thn (ho pins s σ H _ I h) fun u s1 ⟨x, H1, I1, rx, a, ex, d, q1⟩ => ?_)
  subst ex
  obtain rfl : u = Value.ref a := rx
  obtain ⟨t1, t2, _⟩ := isD_at I1 d
  refine ⟨t1, t2, ?_⟩
  rw [m.trees]
  refine Calls.callWith_builtin rfl (Calls.evalArgs_plain (Calls.spliced_cons (thn (he pins s1 σ H1 _ I1 q1) fun iv s2 ⟨y, H2, I2, ry, ov, g, q2⟩ => Calls.spliced_nil ?_)))
  exact d_get1 hu I2 g ry fun w' s3 I3 rw' => ⟨_, H2, I3, rw', q2⟩
theorem pe_dget2 (hu : X.A.units + 1 < cLine) (ho : PE X o td) (he : PE X e ty) (hf : PE X f tx) (m : M2 X o "get" apos e f cpos) : PE X (.Call (.Attribute o "get" apos) [e, f] [] cpos) (tDGet2 td ty tx) := by
  intro pins s σ H Q I h
  refine wpAny_Call_method m.base m.few m.line PySem.F.plainAttrs_dict PySem.F.slot_dict_get PySem.F.type_dict_get (thn (ho pins s σ H _ I h) fun u s1 ⟨x, H1, I1, rx, a, ex, d, q1⟩ => ?_)
  subst ex
  obtain rfl : u = Value.ref a := rx
  obtain ⟨t1, t2, _⟩ := isD_at I1 d
  refine ⟨t1, t2, ?_⟩
  rw [m.trees]
  refine Calls.callWith_builtin rfl (Calls.evalArgs_plain (Calls.spliced_cons (thn (he pins s1 σ H1 _ I1 q1) fun iv s2 ⟨y, H2, I2, ry, q2⟩ =>
    Calls.spliced_cons (thn (hf pins s2 σ H2 _ I2 q2) fun fv s3 ⟨z, H3, I3, rz, ov, g, q3⟩ => Calls.spliced_nil ?_))))
  exact d_get2 hu I3 g ry rz fun w' s4 I4 rw' => ⟨_, H3, I4, rw', q3⟩
end

/-! ### dict(d): a copy -/
section
variable {X : Cx} {pins : List (Addr × Obj)} {σ : St} {H : Hp} {s : Shared} {a : Addr} {kvs : List (Key × V)} {A : Around} {E : Value → Shared → Prop}
end


section
variable {X : Cx} {pins : List (Addr × Obj)} {σ : St} {H : Hp} {s : Shared} {a : Addr} {y : V} {u : Value} {A : Around} {E : Value → Shared → Prop}
end
end L2

namespace HT
open PySem PyProof.Rows

section
open PySem.SeqAt
open PySem.AutoSeq1 (wpAny_loadPart')
open PySem.MeetsSeq PySem.MeetsSeq2 PySem.MeetsSeq3

end

section
variable {prog : Program} {w : World} {A : Around} {E : Value → Shared → Prop} {s : Shared}

theorem cat_tup {t b : Addr} {vs ws : List Value} {Q : Value → Shared → Prop} (ht : IsTup s.heap t vs.toArray) (hb : IsTup s.heap b ws.toArray) (hv : vs ≠ [])
    (h1 : ws = [] → Q (.ref t) s) (h2 : ws ≠ [] → Q (.ref s.heap.objs.size) { s with heap := s.heap.push { cls := .type "tuple", data := .seq (vs ++ ws).toArray } })
    (hsz : vs.length + ws.length ≤ sizeLine) : wpAny (model prog w) A (binaryOp .Add (.ref t) (.ref b)) Q E s := by
  obtain ⟨⟨cls, dd, data, sl⟩, ho, hc, n, hd⟩ := id ht
  obtain ⟨⟨cls2, dd2, data2, sl2⟩, ho2, hc2, n2, hd2⟩ := id hb
  simp only at hc hd hc2 hd2
  subst hc hd hc2 hd2
  have e : vs.toArray ++ ws.toArray = (vs ++ ws).toArray := by simp
  by_cases hw : ws = []
  · exact concat_meets ⟨_, ho, rfl⟩ ⟨_, ho2, rfl⟩ noFill_tuple_add seq_tuple_add PySem.F.slot_tuple_add PySem.F.entry_tuple_add (PySem.F.args_tuple_add_2 _ _)
      (tuple_addW1 t b vs.toArray ws.toArray n n2 dd dd2 sl sl2 (by simpa using hv) (by simp [hw])) ⟨ho, ho2, h1 hw⟩
  · refine concat_meets ⟨_, ho, rfl⟩ ⟨_, ho2, rfl⟩ noFill_tuple_add seq_tuple_add PySem.F.slot_tuple_add PySem.F.entry_tuple_add (PySem.F.args_tuple_add_2 _ _)
      (tuple_addW2 t b vs.toArray ws.toArray n n2 dd dd2 sl sl2 (by simpa using hv) (by simpa using hw) (by rw [List.size_toArray, List.size_toArray]; exact hsz)) ⟨ho, ho2, ?_⟩
    rw [e]
    exact h2 hw

/-! ### t[a:b], not the whole -/
noncomputable def sIx (n d : Nat) : Option Int → Nat
  | none => d
  | some v => if v < 0 then (v + (n : Int)).toNat else min v.toNat n
theorem sIx_nat (n d k : Nat) : sIx n d (some (k : Int)) = min k n := by
  show (if (k : Int) < 0 then ((k : Int) + (n : Int)).toNat else min (k : Int).toNat n) = min k n
  rw [if_neg (by omega), Int.toNat_natCast]
theorem sIx_le (n d : Nat) (hd : d ≤ n) (o : Option Int) : sIx n d o ≤ n := by
  cases o with
  | none => exact hd
  | some v =>
    show (if v < 0 then (v + (n : Int)).toNat else min v.toNat n) ≤ n
    by_cases hv : v < 0
    · rw [if_pos hv]; omega
    · rw [if_neg hv]; exact Nat.min_le_right _ _
theorem clip_eq (v : Int) (n d : Nat) : (if v < 0 then max (v + (n : Int)) 0 else min v (n : Int)) = ((sIx n d (some v) : Nat) : Int) := by
  show (if v < 0 then max (v + (n : Int)) 0 else min v (n : Int)) = (((if v < 0 then (v + (n : Int)).toNat else min v.toNat n) : Nat) : Int)
  by_cases hv : v < 0
  · simp only [if_pos hv]; omega
  · simp only [if_neg hv]; omega
theorem adjust_gen (lo hi : Option Int) (n : Nat) : Builtin.Slice.sliceAdjust lo hi 1 (n : Int) = (((sIx n 0 lo : Nat) : Int), ((sIx n n hi : Nat) : Int)) := by
  have h1 : ¬ ((1 : Int) < 0) := by omega
  unfold Builtin.Slice.sliceAdjust
  simp only [h1, if_false]
  refine Prod.ext ?_ ?_
  · cases lo with
    | none => rfl
    | some v => exact clip_eq v n 0
  · cases hi with
    | none => rfl
    | some v => exact clip_eq v n n
theorem places_gen (i j : Nat) : Builtin.Slice.slicePlaces (i : Int) (j : Int) 1 = j - i := by
  unfold Builtin.Slice.slicePlaces
  have h1 : (1 : Int) > 0 := by omega
  simp only [h1, if_true, Int.ediv_one]
  split <;> omega
theorem slicePart_ {v : Value} {o : Option Int} {Q : Option Int → Shared → Prop} (p : IsPart v o) (h : Q o s) : wpAny (model prog w) A (Builtin.Slice.slicePartIndex v) Q E s := by
  cases p with
  | none => exact slicePart_none h
  | int i t => exact slicePart_int h
theorem sliceApplied_gen {sl : Addr} {vl vu : Value} {lo hi : Option Int} {n : Nat} {Q : Int × Int × Nat → Shared → Prop} (hs : s.heap.IsSliceOf sl vl vu .none) (pl : IsPart vl lo) (pu : IsPart vu hi)
    (h : Q (((sIx n 0 lo : Nat) : Int), 1, sIx n n hi - sIx n 0 lo) s) : wpAny (model prog w) A (Builtin.Slice.sliceApplied (.ref sl) (pure (n : Int))) Q E s := by
  obtain ⟨os, hos, hcs, hds⟩ := id hs
  unfold Builtin.Slice.sliceApplied Builtin.Slice.sliceFields
  refine wpAny_bind (wpAny_bind (wpAny_field hos hds (x := vl) rfl (wpAny_bind (wpAny_field hos hds (x := vu) rfl (wpAny_bind (wpAny_field hos hds (x := .none) rfl (wpAny_pure ?_)))))))
  refine wpAny_bind (slicePart_none ?_)
  show wpAny _ _ (if ((1 : Int) == 0) = true then _ else _) _ _ s
  rw [if_neg (by decide)]
  refine wpAny_bind (slicePart_ pl (wpAny_bind (slicePart_ pu (wpAny_bind (wpAny_pure ?_)))))
  show wpAny _ _ (match Builtin.Slice.sliceAdjust lo hi 1 (n : Int) with | (lo, hi) => pure (lo, (1 : Int), Builtin.Slice.slicePlaces lo hi 1)) _ _ s
  rw [adjust_gen lo hi n]
  show wpAny _ _ (pure (((sIx n 0 lo : Nat) : Int), (1 : Int), Builtin.Slice.slicePlaces ((sIx n 0 lo : Nat) : Int) ((sIx n n hi : Nat) : Int) 1)) _ _ s
  rw [places_gen]
  exact wpAny_pure h
theorem pick_gen (xs : Array Value) (i k : Nat) : ((List.range k).filterMap fun (m : Nat) => xs[((i : Int) + (m : Int) * 1).toNat]?).toArray = ((xs.toList.drop i).take k).toArray := by
  have e : (fun (m : Nat) => xs[((i : Int) + (m : Int) * 1).toNat]?) = fun m => xs[i + m]? := by
    funext m
    have : ((i : Int) + (m : Int) * 1).toNat = i + m := by omega
    rw [this]
  rw [e]
  have := pick_run xs i k
  rw [List.filterMap_map] at this
  have e2 : ((fun x => xs[x]?) ∘ fun x => i + x) = fun m => xs[i + m]? := rfl
  rw [e2] at this
  rw [this]

theorem getItem_tuple_cut {t sl : Addr} {items : Array Value} {vl vu : Value} {lo hi : Option Int} {Q : Value → Shared → Prop} (ht : IsTup s.heap t items) (hs : s.heap.IsSliceOf sl vl vu .none) (pl : IsPart vl lo) (pu : IsPart vu hi)
    (hw : ¬ (sIx items.size 0 lo = 0 ∧ sIx items.size items.size hi = items.size))
    (h : Q (.ref s.heap.objs.size) { s with heap := s.heap.push { cls := .type "tuple", data := .seq ((items.toList.drop (sIx items.size 0 lo)).take (sIx items.size items.size hi - sIx items.size 0 lo)).toArray } })
    (hsz : items.size ≤ sizeLine) : wpAny (model prog w) A (getItem (.ref t) (.ref sl)) Q E s := by
  have htake : sizeOk (.seq ((items.toList.drop (sIx items.size 0 lo)).take (sIx items.size items.size hi - sIx items.size 0 lo)).toArray) := by
    show ((items.toList.drop (sIx items.size 0 lo)).take (sIx items.size items.size hi - sIx items.size 0 lo)).toArray.size ≤ sizeLine
    rw [List.size_toArray, List.length_take, List.length_drop, Array.length_toList]
    omega
  have hj : sIx items.size items.size hi ≤ items.size := sIx_le _ _ (Nat.le_refl _) hi
  obtain ⟨os, hos, hcs, hds⟩ := id hs
  have hTs : s.TypeIs (.ref sl) "slice" := ⟨os, hos, hcs⟩
  unfold getItem
  try with_reducible refine wpAny_holding ?_
  first | refine wpAny_bind (wpAny_pure ?_) | skip
  refine wpAny_bind (wpAny_sequenceKey ht.typeIs (by decide) ?_)
  refine wpAny_bind (wpAny_callSpecial?_slot (name := Str.ofString "__getitem__") ht.typeIs PyProof.Rows.slot_tuple_getitem
    (wpAny_call_entry PyProof.Rows.slot_tuple_getitem ht.typeIs entry_tuple_getitem ?_ (args_tuple_getitem _ _)))
  show wpAny _ _ (Builtin.Tuple.tupleItemsOf (.ref t) >>= _) _ _ s
  refine wpAny_bind (tupleItemsOf_ ht ?_)
  refine wpAny_bind (wpAny_typeOf hTs ?_)
  rw [if_pos (by decide)]
  refine wpAny_bind (sliceApplied_gen hs pl pu ?_)
  have hno : ¬ ((((sIx items.size 0 lo : Nat) : Int) == 0 && (1 : Int) == 1 && (sIx items.size items.size hi - sIx items.size 0 lo) == items.size) = true) := by
    intro q
    rw [Bool.and_eq_true, Bool.and_eq_true] at q
    have q1 : ((sIx items.size 0 lo : Nat) : Int) = 0 := eq_of_beq q.1.1
    have q2 : sIx items.size items.size hi - sIx items.size 0 lo = items.size := eq_of_beq q.2
    exact hw ⟨by omega, by omega⟩
  show wpAny _ _ (if (((sIx items.size 0 lo : Nat) : Int) == 0 && (1 : Int) == 1 && (sIx items.size items.size hi - sIx items.size 0 lo) == items.size) = true then _ else _) _ _ s
  rw [if_neg hno, pick_gen]
  first
    | exact wpAny_bind (m := Builtin.Tuple.tupleExact _) (wpAny_newObj_type (wpAny_pure ⟨_, rfl, wpAny_pure h⟩) htake)
    | exact wpAny_bind (m := Builtin.Tuple.tupleExact _) (wpAny_newObj_type (wpAny_bind (wpAny_pure (wpAny_pure ⟨_, rfl, wpAny_pure h⟩))) htake)
    | exact wpAny_bind (wpAny_bind (m := Builtin.Tuple.tupleExact _) (wpAny_newObj_type (wpAny_pure (wpAny_pure ⟨_, rfl, wpAny_pure h⟩)) htake))
    | exact wpAny_bind (wpAny_bind (m := Builtin.Tuple.tupleExact _) (wpAny_newObj_type (wpAny_pure ⟨_, rfl, wpAny_pure h⟩) htake))
end
end HT

namespace L2
open PySem PySem.Spec PyProof.Rows

/-! ### the parts of a slice -/
noncomputable abbrev TO := St → Hp → (Option Int → Hp → Prop) → Prop
noncomputable def PO (X : Cx) (e : Option Expr) (t : TO) : Prop :=
  ∀ (pins : List (Addr × Obj)) (s : Shared) (σ : St) (H : Hp) (Q : Option Int → Hp → Prop), Inv X pins σ H s → t σ H Q →
    wpAny (model X.prog X.w) X.A (evalPart e X.env) (fun u s' => ∃ o H', Inv X pins σ H' s' ∧ IsPart u o ∧ Q o H') X.xe s
noncomputable def tNoPart : TO := fun _ H Q => Q none H
noncomputable def tPart (t : TE) : TO := fun σ H Q => t σ H fun x H1 => ∃ i, x = .int i ∧ Q (some i) H1

section
variable {X : Cx} {e : Expr} {te : TE} {lo hi : Option Expr} {tl th : TO} {pos p2 : Pos}

theorem po_none : PO X none tNoPart := by
  intro pins s σ H Q I h
  rw [evalPart_none]
  exact wpAny_pure ⟨none, H, I, .none, h⟩
theorem po_some (h : PE X e te) : PO X (some e) (tPart te) := by
  intro pins s σ H Q I hw
  rw [evalPart_some]
  refine thn (h pins s σ H _ I hw) fun u s1 ⟨x, H1, I1, r1, q1⟩ => ?_
  obtain ⟨i, rfl, q⟩ := q1
  obtain ⟨t, rfl⟩ := r1
  exact ⟨some i, H1, I1, .int i t, q⟩

noncomputable def SlR (X : Cx) (r : V → Option Int → Option Int → Hp → VK → Prop) : Prop :=
  ∀ (pins : List (Addr × Obj)) (s : Shared) (σ : St) (H : Hp) (x : V) (v vl vu : Value) (lo hi : Option Int) (sl : Addr) (Q : VK), Inv X pins σ H s → RelV x v → s.heap.IsSliceOf sl vl vu .none → IsPart vl lo → IsPart vu hi → r x lo hi H Q →
    ∃ T id, typeLookup (.type T) "__getitem__" = pure (some (.builtin id)) ∧ s.TypeIs v T ∧ wpAny (model X.prog X.w) X.A (getItem v (.ref sl)) (EP X pins σ Q) X.xe s
noncomputable def tSl (r : V → Option Int → Option Int → Hp → VK → Prop) (te : TE) (tl th : TO) : TE := fun σ H Q => te σ H fun x H1 => tl σ H1 fun l H2 => th σ H2 fun u H3 => r x l u H3 Q
theorem pe_slice {r : V → Option Int → Option Int → Hp → VK → Prop} (hr : SlR X r) (he : PE X e te) (hl : PO X lo tl) (hu : PO X hi th) : PE X (.Subscript e (.Slice lo hi none p2) pos) (tSl r te tl th) := by
  intro pins s σ H Q I h
  refine Subscript_ (thn (he pins s σ H _ I h) fun v s1 ⟨x, H1, I1, r1, q1⟩ => ?_)
  refine wpAny_Slice (thn (hl pins s1 σ H1 _ I1 q1) fun vl s2 ⟨l, H2, I2, pl, q2⟩ => thn (hu pins s2 σ H2 _ I2 q2) fun vu s3 ⟨u, H3, I3, pu, q3⟩ => ?_)
  rw [evalPart_none]
  refine wpAny_pure ?_
  have I4 : Inv X pins σ H3 { s3 with heap := s3.heap.push { cls := .type "slice", data := .fields #[vl, vu, .none] } } := I3.kept (t' := s3.toks) fun b ob q => Heap.get?_push_of_some _ q
  obtain ⟨T, id, hT, ht, hg⟩ := hr pins { s3 with heap := s3.heap.push { cls := .type "slice", data := .fields #[vl, vu, .none] } } σ H3 x v vl vu l u s3.heap.objs.size Q I4 r1 (Heap.IsSliceOf.new ..) pl pu q3
  show wpAny (model X.prog X.w) X.A (subscriptTail e (.Slice lo hi none p2) v (.ref s3.heap.objs.size)) (EP X pins σ Q) X.xe { s3 with heap := s3.heap.push { cls := .type "slice", data := .fields #[vl, vu, .none] } }
  exact tail_any (ops := [.ref s3.heap.objs.size, v]) ht hT hg (by with_unfolding_all rfl)

noncomputable def cutV (xs : List V) (lo hi : Option Int) : List V := (xs.drop (HT.sIx xs.length 0 lo)).take (HT.sIx xs.length xs.length hi - HT.sIx xs.length 0 lo)
theorem cutV_length (xs : List V) (lo hi : Option Int) : (cutV xs lo hi).length ≤ xs.length := by
  unfold cutV
  rw [List.length_take, List.length_drop]
  omega
noncomputable def rSlT (K : PySem.W.Frag) : V → Option Int → Option Int → Hp → VK → Prop := fun x lo hi H Q => ∃ a xs, x = .ref a ∧ SqT K H a xs ∧
  ¬ (HT.sIx xs.length 0 lo = 0 ∧ HT.sIx xs.length xs.length hi = xs.length) ∧ ∀ p, H p = none → Q (.ref p) (upd H p (.tup (cutV xs lo hi)))
theorem sl_tup : SlR X (rSlT X.K) := by
  intro pins s σ H x v vl vu lo hi sl Q I rx hs pl pu h
  obtain ⟨a, xs, rfl, hx, hw, q⟩ := h
  cases rx
  obtain ⟨its, r, ht, hz⟩ := I.tuple hx
  have hlen : its.toArray.size = xs.length := by rw [List.size_toArray]; exact r.length.symm
  refine ⟨"tuple", _, PyProof.Rows.slot_tuple_getitem.lookup, ht.typeIs, ?_⟩
  refine HT.getItem_tuple_cut ht hs pl pu (by rw [hlen]; exact hw) ?_ (by rw [hlen]; exact hz)
  rw [hlen]
  refine ⟨.ref s.heap.objs.size, _, I.laid (t' := s.toks) (o := .tup (cutV xs lo hi)) (fun b ob q => Heap.get?_push_of_some _ q) (Nat.le_refl _) ?_, rfl, q _ (I.hok.fresh (Nat.le_refl _))⟩
  exact ⟨Nat.le_trans (cutV_length xs lo hi) hz, _, (r.drop (HT.sIx xs.length 0 lo)).take (HT.sIx xs.length xs.length hi - HT.sIx xs.length 0 lo), IsTup.new _ _⟩

/-! ### t < u, t + u -/
noncomputable def rCatT (K : PySem.W.Frag) : R2 := fun x y H Q => ∃ a b xs ys, x = .ref a ∧ y = .ref b ∧ SqT K H a xs ∧ SqT K H b ys ∧ xs ≠ [] ∧ xs.length + ys.length ≤ sizeLine ∧
  (ys = [] → Q (.ref a) H) ∧ (ys ≠ [] → ∀ p, H p = none → Q (.ref p) (upd H p (.tup (xs ++ ys))))
theorem Vals.nil_iff {xs : List V} {us : List Value} (r : Vals xs us) : us = [] ↔ xs = [] := by
  cases r with
  | nil => simp
  | cons _ _ => simp
theorem op_catT : OpR X (binaryOp .Add) (rCatT X.K) := by
  intro pins s σ H x y v u Q I rx ry h
  obtain ⟨a, b, xs, ys, rfl, rfl, ha, hb, hx, hz, q1, q2⟩ := h
  cases rx
  cases ry
  obtain ⟨its, r1, p1, _⟩ := I.tuple ha
  obtain ⟨its2, r2, p2, _⟩ := I.tuple hb
  refine HT.cat_tup p1 p2 (fun z => hx (r1.nil_iff.mp z)) (fun z => ⟨.ref a, H, I, rfl, q1 (r2.nil_iff.mp z)⟩) (fun z => ?_) (by rw [← r1.length, ← r2.length]; exact hz)
  refine ⟨.ref s.heap.objs.size, _, I.laid (t' := s.toks) (o := .tup (xs ++ ys)) (fun b ob q => Heap.get?_push_of_some _ q) (Nat.le_refl _) ?_, rfl, q2 (fun w => z (r2.nil_iff.mpr w)) _ (I.hok.fresh (Nat.le_refl _))⟩
  exact ⟨by rw [List.length_append]; exact hz, _, r1.append r2, IsTup.new _ _⟩
end
end L2

namespace L2
open PySem PySem.Spec PyProof.Rows

/-! ### places -/
noncomputable def ixN (n : Nat) (i : Int) : Option Nat := if 0 ≤ i then (if i < n then some i.toNat else none) else if -(n : Int) ≤ i then some (i + n).toNat else none
noncomputable def atI {α : Type} (xs : List α) (i : Int) : Option α := (ixN xs.length i).bind fun j => xs[j]?
theorem ixN_seq {n : Nat} {i : Int} {j : Nat} (h : ixN n i = some j) : seqIndex? i n = some j ∧ j < n ∧ -(n : Int) ≤ i ∧ i < n := by
  unfold ixN at h
  by_cases h0 : 0 ≤ i
  · rw [if_pos h0] at h
    by_cases h1 : i < n
    · rw [if_pos h1] at h
      have e : i.toNat = j := Option.some.inj h
      exact ⟨by rw [seqIndex_of h0 h1, e], by omega, by omega, h1⟩
    · rw [if_neg h1] at h; cases h
  · rw [if_neg h0] at h
    by_cases h1 : -(n : Int) ≤ i
    · rw [if_pos h1] at h
      have e : (i + n).toNat = j := Option.some.inj h
      exact ⟨by rw [seqIndex_neg (by omega) h1, e], by omega, h1, by omega⟩
    · rw [if_neg h1] at h; cases h
theorem atI_get {α : Type} {xs : List α} {i : Int} {v : α} (h : atI xs i = some v) : ∃ j, seqIndex? i xs.length = some j ∧ xs[j]? = some v ∧ j < xs.length ∧ -(xs.length : Int) ≤ i ∧ i < xs.length := by
  unfold atI at h
  cases e : ixN xs.length i with
  | none => rw [e] at h; cases h
  | some j =>
    rw [e] at h
    obtain ⟨h1, h2, h3, h4⟩ := ixN_seq e
    exact ⟨j, h1, h, h2, h3, h4⟩
theorem atI_nat {α : Type} {xs : List α} {j : Nat} {v : α} (h : xs[j]? = some v) : atI xs (j : Int) = some v := by
  have hj : j < xs.length := (List.getElem?_eq_some_iff.mp h).1
  have e : ixN xs.length (j : Int) = some j := by
    unfold ixN
    rw [if_pos (by omega), if_pos (by omega)]; simp
  unfold atI; rw [e]; exact h
theorem atI_last {α : Type} (xs : List α) (v : α) : atI (xs ++ [v]) (-1) = some v := by
  have hl : (xs ++ [v]).length = xs.length + 1 := by simp
  have e : ixN (xs ++ [v]).length (-1) = some xs.length := by
    unfold ixN
    rw [hl, if_neg (by decide), if_pos (by omega)]
    congr 1
    omega
  unfold atI
  rw [e]
  show (xs ++ [v])[xs.length]? = some v
  simp

/-! ### what may be subscripted -/
noncomputable def PlainIx (b : Expr) : Prop := ∀ o i, subscripted b false o i = operate [o, i] (getItem o i)
noncomputable def IxR (X : Cx) (r : R2) : Prop :=
  ∀ (value slice : Expr) (pins : List (Addr × Obj)) (s : Shared) (σ : St) (H : Hp) (x y : V) (v u : Value) (Q : VK), Inv X pins σ H s → RelV x v → RelV y u → r x y H Q →
    subscripted slice false v u = operate [v, u] (getItem v u) → wpAny (model X.prog X.w) X.A (subscriptTail value slice v u) (EP X pins σ Q) X.xe s
noncomputable def MtR (X : Cx) (id : String) (r : V → List V → Hp → VK → Prop) : Prop :=
  ∀ (pins : List (Addr × Obj)) (s : Shared) (σ : St) (H : Hp) (x : V) (xs : List V) (v : Value) (us : List Value) (Q : VK), Inv X pins σ H s → RelV x v → Vals xs us → r x xs H Q →
    wpAny (model X.prog X.w) X.A (call (.builtin id) (v :: us)) (EP X pins σ Q) X.xe s
section
variable {X : Cx} {a b : Expr} {ta tb : TE} {pos : Pos}
theorem pe_ix {r : R2} (hr : IxR X r) (ha : PE X a ta) (hb : PE X b tb) (hs : PlainIx b) : PE X (.Subscript a b pos) (tOp r ta tb) := by
  intro pins s σ H Q I h
  exact Subscript_ (binT ha hb I h fun v u s2 x y H2 I2 rx ry q => hr a b pins s2 σ H2 x y v u Q I2 rx ry q (hs _ _))

noncomputable def rIxL (K : PySem.W.Frag) : R2 := fun x y H Q => ∃ p xs i v, x = .ref p ∧ y = .int i ∧ SqL K H p xs ∧ atI xs i = some v ∧ Q v H
noncomputable def rIxT (K : PySem.W.Frag) : R2 := fun x y H Q => ∃ p xs i v, x = .ref p ∧ y = .int i ∧ SqT K H p xs ∧ atI xs i = some v ∧ Q v H
noncomputable def rIxS : R2 := fun x y H Q => ∃ z i c, x = .str z ∧ y = .int i ∧ z.length ≤ sizeLine ∧ atI z.cps.toList i = some c ∧ Q (.str ⟨#[c]⟩) H
theorem ix_list : IxR X (rIxL X.K) := by
  intro value slice pins s σ H x y v u Q I rx ry h hs
  obtain ⟨p, xs, i, z, rfl, rfl, hq, he, q⟩ := h
  cases rx
  obtain ⟨t, rfl⟩ := ry
  obtain ⟨its, r, pl, hz⟩ := I.list hq
  obtain ⟨j, h1, h2, h3, h4, h5⟩ := atI_get he
  obtain ⟨w, ew, rw'⟩ := r.get h2
  have hl := r.length
  have hn := line63
  have fin : EP X pins σ Q w s := ⟨z, H, I, rw', q⟩
  by_cases h0 : 0 ≤ i
  · have hj : i.toNat = j := by
      rw [seqIndex_of h0 h5] at h1
      exact Option.some.inj h1
    exact item_listR pl.isList h0 (by omega) (by rw [hj]; simpa using ew) fin hs
  · have hj : (i + (its.toArray.size : Int)).toNat = j := by
      rw [seqIndex_neg (by omega) h4] at h1
      rw [List.size_toArray, ← hl]
      exact Option.some.inj h1
    exact subscriptTail_builtinR (x := w) pl.isList.typeIs slot_list_getitem.lookup
      (wpAny_getItem_list_neg (Q := fun r s' => r = w ∧ EP X pins σ Q r s') pl.isList (by omega) (by rw [List.size_toArray] <;> omega) (by omega) (by rw [hj]; simpa using ew) ⟨rfl, fin⟩) hs
theorem ix_tup : IxR X (rIxT X.K) := by
  intro value slice pins s σ H x y v u Q I rx ry h hs
  obtain ⟨p, xs, i, z, rfl, rfl, hq, he, q⟩ := h
  cases rx
  obtain ⟨t, rfl⟩ := ry
  obtain ⟨its, r, pl, hz⟩ := I.tuple hq
  obtain ⟨j, h1, h2, h3, h4, h5⟩ := atI_get he
  obtain ⟨w, ew, rw'⟩ := r.get h2
  have hl := r.length
  have hn := line63
  have fin : EP X pins σ Q w s := ⟨z, H, I, rw', q⟩
  exact subscriptTail_builtinR (x := w) pl.typeIs slot_tuple_getitem.lookup
    (getItem_tuple (j := j) (Q := fun r s' => r = w ∧ EP X pins σ Q r s') pl (by omega) (by omega) (by rw [List.size_toArray, ← hl]; exact h1) (by simpa using ew) ⟨rfl, fin⟩) hs
theorem ix_str : IxR X rIxS := by
  intro value slice pins s σ H x y v u Q I rx ry h hs
  obtain ⟨z, i, c, rfl, rfl, hz, he, q⟩ := h
  obtain ⟨t, rfl⟩ := rx
  obtain ⟨t', rfl⟩ := ry
  obtain ⟨j, h1, h2, h3, h4, h5⟩ := atI_get he
  have hl : z.cps.toList.length = z.length := by simp [Str.length]
  rw [hl] at h1 h4 h5
  have hn := line63
  exact tail_any (typeIs_str s z t) slot_str_getitem.lookup (getItem_str (c := c) (by
    have e1 : decide (i < -(2 ^ 63 : Int)) = false := decide_eq_false (by omega)
    have e2 : decide (i ≥ 2 ^ 63) = false := decide_eq_false (by omega)
    rw [e1, e2, Bool.or_false]) (by rw [h1]; simpa using h2) ⟨.str ⟨#[c]⟩, H, I.tok _, ⟨_, rfl⟩, q⟩) hs
/-! ### xs[i] = v, any sign -/
/-! ### slices -/
theorem slice_bounds (lo hi : Option Int) (n : Nat) : (sliceBounds lo hi none n).1 = ((HT.sIx n 0 lo : Nat) : Int) ∧ (sliceBounds lo hi none n).2.1 = ((HT.sIx n n hi : Nat) : Int) ∧ (sliceBounds lo hi none n).2.2 = 1 := by
  refine ⟨?_, ?_, rfl⟩
  · cases lo with
    | none => simp [sliceBounds, HT.sIx]
    | some i =>
      simp only [sliceBounds, HT.sIx, Option.getD_none, show (1 : Int) > 0 by decide, if_true]
      by_cases h : i < 0
      · simp only [h, if_true] <;> omega
      · simp only [h, if_false] <;> omega
  · cases hi with
    | none => simp [sliceBounds, HT.sIx]
    | some i =>
      simp only [sliceBounds, HT.sIx, Option.getD_none, show (1 : Int) > 0 by decide, if_true]
      by_cases h : i < 0
      · simp only [h, if_true] <;> omega
      · simp only [h, if_false] <;> omega
theorem slicePick_cut (its : List Value) (lo hi : Option Int) : slicePick its.toArray lo hi none = ((its.drop (HT.sIx its.length 0 lo)).take (HT.sIx its.length its.length hi - HT.sIx its.length 0 lo)).toArray := by
  obtain ⟨h1, h2, h3⟩ := slice_bounds lo hi its.toArray.size
  unfold slicePick
  rw [h1, h2, h3]
  simp only [sliceRange_one, pick_run, List.size_toArray] <;> rfl
noncomputable def rSlL (K : PySem.W.Frag) : V → Option Int → Option Int → Hp → VK → Prop := fun x lo hi H Q => ∃ a xs, x = .ref a ∧ SqL K H a xs ∧ ∀ p, H p = none → Q (.ref p) (upd H p (.lst (cutV xs lo hi)))
theorem sl_list : SlR X (rSlL X.K) := by
  intro pins s σ H x v vl vu lo hi sl Q I rx hs pl pu h
  obtain ⟨a, xs, rfl, hx, q⟩ := h
  cases rx
  obtain ⟨its, r, ht, hz⟩ := I.list hx
  have hlen := r.length
  refine ⟨"list", _, slot_list_getitem.lookup, ht.isList.typeIs, ?_⟩
  refine wpAny_getItem_list_slice ht.isList hs pl pu .none (by simp) ?_ (by rw [List.size_toArray] <;> omega)
  rw [slicePick_cut, ← hlen]
  refine ⟨.ref s.heap.objs.size, _, I.laid (t' := s.toks) (o := .lst (cutV xs lo hi)) (fun b ob q => Heap.get?_push_of_some _ q) (Nat.le_refl _) ?_, rfl, q _ (I.hok.fresh (Nat.le_refl _))⟩
  exact ⟨Nat.le_trans (cutV_length xs lo hi) hz, _, 0, (r.drop (HT.sIx xs.length 0 lo)).take (HT.sIx xs.length xs.length hi - HT.sIx xs.length 0 lo), Heap.get?_push_size _ rfl⟩

/-! ### in, not in: flat items -/
/-! ### len, list(x), tuple(x) of any list or tuple that is read -/
theorem call_tuple_of : CallR X (.type "tuple") (fun xs H Q => ∃ p ys, xs = [.ref p] ∧ ((SqL X.K H p ys ∧ ∀ l, H l = none → Q (.ref l) (upd H l (.tup ys))) ∨ (SqT X.K H p ys ∧ Q (.ref p) H))) := by
  intro pins s σ H xs us Q I r h
  obtain ⟨p, ys, rfl, h⟩ := h
  obtain ⟨u, rfl, rx⟩ := vals1 r
  cases rx
  rcases h with ⟨hq, q⟩ | ⟨hq, q⟩
  · obtain ⟨its, r', pl, hz⟩ := I.list hq
    have hlen := r'.length
    refine call_tuple_list pl.isList (fun h' kp => ?_) (by simp only [List.size_toArray] <;> omega)
    have I1 : Inv X pins σ H { s with heap := h' } := I.kept (t' := s.toks) kp
    have I2 : Inv X pins σ (upd H h'.objs.size (.tup ys)) { s with heap := h'.push { cls := .type "tuple", data := .seq its.toArray } } :=
      I1.laid (t' := s.toks) (fun b o e => Heap.get?_push_of_some _ e) (Nat.le_refl _) (show ObjOk X.prog X.w _ _ _ (.tup ys) from ⟨hz, its, r', IsTup.new _ _⟩)
    exact ⟨.ref h'.objs.size, _, I2, rfl, q _ (I1.hok.fresh (Nat.le_refl _))⟩
  · obtain ⟨its, r', pl, hz⟩ := I.tuple hq
    exact call_tuple_same pl ⟨.ref p, H, I, rfl, q⟩

/-! ### the call of a builtin's method: o.m(..) -/
noncomputable def tyV (K : PySem.W.Frag) (T : String) (x : V) (H : Hp) : Prop := match x with
  | .str _ => T = "str"
  | .int _ => T = "int"
  | .ref p => (T = "list" ∧ ∃ xs, SqL K H p xs) ∨ (T = "tuple" ∧ ∃ o, K.lookup p = some o ∧ o.cls = .type "tuple" ∧ o.dict = none) ∨
      (T = "dict" ∧ ((∃ kvs, H p = some (.dK kvs)) ∨ ∃ kvs, H p = some (.dT kvs))) ∨ (T = "set" ∧ ∃ S n, H p = some (.set S n))
  | _ => False
theorem tyV_is {pins : List (Addr × Obj)} {σ : St} {H : Hp} {s : Shared} {T : String} {x : V} {v : Value} (I : Inv X pins σ H s) (r : RelV x v) (ty : tyV X.K T x H) :
    s.TypeIs v T ∧ ∀ a, v = .ref a → ∃ ob, s.heap.get? a = some ob ∧ ob.dict = none := by
  cases x with
  | str z =>
    obtain ⟨t, rfl⟩ := r
    cases (show T = "str" from ty)
    exact ⟨typeIs_str s z t, fun _ e => nomatch e⟩
  | int i =>
    obtain ⟨t, rfl⟩ := r
    cases (show T = "int" from ty)
    exact ⟨typeIs_int s i t, fun _ e => nomatch e⟩
  | ref p =>
    cases r
    rcases ty with ⟨rfl, xs, hq⟩ | ⟨rfl, o, hk, hc, hd⟩ | ⟨rfl, hk⟩ | ⟨rfl, S, n, hk⟩
    · obtain ⟨its, _, pl, _⟩ := I.list hq
      refine ⟨pl.isList.typeIs, fun a e => ?_⟩
      cases e
      obtain ⟨o, n, e, c, hd, _⟩ := pl
      exact ⟨o, e, hd⟩
    · refine ⟨⟨o, I.kIn p o hk, hc⟩, fun a e => ?_⟩
      cases e
      exact ⟨o, I.kIn _ o hk, hd⟩
    · have z : ∃ o, s.heap.get? p = some o ∧ o.ExactDict := by
        rcases hk with ⟨kvs, hk⟩ | ⟨kvs, hk⟩
        · obtain ⟨_, _, _, _, o, _, _, e, ex, _⟩ := I.hok p _ hk
          exact ⟨o, e, ex⟩
        · obtain ⟨_, _, _, _, o, _, _, e, ex, _⟩ := I.hok p _ hk
          exact ⟨o, e, ex⟩
      obtain ⟨o, e, ex⟩ := z
      refine ⟨⟨o, e, ex.1⟩, fun a e2 => ?_⟩
      cases e2
      exact ⟨o, e, ex.2.1⟩
    · obtain ⟨o, _, _, _, e, ex, _⟩ := I.hok p _ hk
      refine ⟨⟨o, e, ex.1⟩, fun a e2 => ?_⟩
      cases e2
      exact ⟨o, e, ex.2.1⟩
  | _ => exact False.elim ty
noncomputable def tBM (K : PySem.W.Frag) (T : String) (r : V → List V → Hp → VK → Prop) (to : TE) (t : TA) : TE := fun σ H Q => to σ H fun x H1 => tyV K T x H1 ∧ t σ H1 fun xs H2 => r x xs H2 Q
variable {o e : Expr} {es : List Expr} {to : TE} {t : TA} {name : Str} {apos cpos : Pos} {T id : String} {r : V → List V → Hp → VK → Prop}
theorem pe_bm (pa : PlainAttrs T) (slot : Slot T name id) (hty : typeOf (.builtin id) = pure (.type "method_descriptor")) (hm : MtR X id r) (ho : PE X o to) (ha : PA X (e :: es) t)
    (hbase : attributeBase o name X.env (eval o X.env) = eval o X.env := by rfl)
    (hfew : ((backTo cpos (starEach (e :: es) X.env)).all (fun x => !x.1) && (backToKw cpos (keywordEach [] X.env)).all (fun x => x.1.isSome)
      && decide ((e :: es).length + ([] : List Keyword).length + (if ([] : List Keyword).isEmpty then 0 else 1) < 30)) = true := by rfl)
    (hline : (apos.endLine == cpos.line) = true := by rfl) (hs : starEach (e :: es) X.env = (false, eval e X.env) :: starEach es X.env := by rfl) (hplain : (backTo cpos (starEach es X.env)).any (·.1) = false := by rfl) :
    PE X (.Call (.Attribute o name apos) (e :: es) [] cpos) (tBM X.K T r to t) := by
  intro pins s σ H Q I h
  refine wpAny_Call_method_late hbase hfew hline rfl (thn (ho pins s σ H _ I h) fun v s1 ⟨x, H1, I1, r1, ty, q1⟩ => ?_)
  obtain ⟨h1, h2⟩ := tyV_is I1 r1 ty
  refine ⟨T, id, pa, slot, hty, h1, h2, ?_⟩
  have hA := ha cpos pins s1 σ H1 _ I1 q1
  rw [hs] at hA ⊢
  refine Calls.callWith_builtin (by show (false || (backTo cpos (starEach es X.env)).any (·.1)) = false; rw [hplain] <;> rfl) (Calls.evalArgs_plain ?_)
  exact thn hA fun us s2 ⟨vs, H2, I2, r2, q2⟩ => hm pins s2 σ H2 x vs v us Q I2 r1 r2 q2
/- xs.append(e), list.index on a module's tuple .. are MtR facts of 06m -/
end
end L2

namespace L2
open PySem PySem.Spec PyProof.Rows

noncomputable def MtM (X : Cx) (id : String) (r : V → List V → Hp → VK → Prop) : Prop :=
  ∀ (pins : List (Addr × Obj)) (s : Shared) (σ : St) (H : Hp) (x : V) (xs : List V) (v : Value) (us : List Value) (Q : VK), Inv X pins σ H s → RelV x v → Vals xs us → r x xs H Q →
    wpAny (model X.prog X.w) X.A (call (.builtin id) (v :: us)) (EP X pins σ Q) X.xe s

/-! ### lists of values -/
theorem Vals.one : ∀ {x : V} {us : List Value}, Vals [x] us → ∃ u, us = [u] ∧ RelV x u
  | _, _, .cons r .nil => ⟨_, rfl, r⟩
theorem Vals.rep {xs : List V} {us : List Value} (h : Vals xs us) : ∀ k : Nat, Vals (List.replicate k xs).flatten (List.replicate k us).flatten
  | 0 => .nil
  | k + 1 => by
    rw [List.replicate_succ, List.replicate_succ, List.flatten_cons, List.flatten_cons]
    exact Vals.append h (Vals.rep h k)
theorem foldl_rep (its : List Value) : ∀ (k : Nat) (acc : List Value),
    List.foldl (fun x1 x2 => x1 ++ x2) acc.toArray (List.replicate k its.toArray) = (acc ++ (List.replicate k its).flatten).toArray
  | 0, acc => by simp
  | k + 1, acc => by
    have e : acc.toArray ++ its.toArray = (acc ++ its).toArray := by simp
    have e2 : (acc ++ its) ++ (List.replicate k its).flatten = acc ++ (List.replicate (k + 1) its).flatten := by
      rw [List.replicate_succ, List.flatten_cons, List.append_assoc]
    rw [← e2, ← foldl_rep its k (acc ++ its), ← e, List.replicate_succ, List.foldl_cons]

section
variable {X : Cx} {pins : List (Addr × Obj)} {σ : St} {H : Hp} {s : Shared} {l b : Addr} {xs ys zs : List V}

/-! ### the two steps: a tracked list is rewritten, a new list is laid -/
theorem Inv.lset {its its' : List Value} {n : Nat} {f : Array Value → Array Value} {t' : Nat} (I : Inv X pins σ H s) (hH : H l = some (.lst xs))
    (e : s.heap.get? l = some { cls := .type "list", data := .seq its.toArray n }) (hf : f its.toArray = its'.toArray) (hv : Vals ys its') (hz : ys.length ≤ sizeLine) :
    Inv X pins σ (upd H l (.lst ys)) { s with heap := s.heap.update l (Obj.mapSeq f), toks := t' } := by
  have q := PySem.IsL.update e f
  rw [hf] at q
  refine I.write (x := l) (e := l) (by rw [hH]; exact trivial) (.inl rfl) (fun b' u hb hu => (Heap.get?_update_other s.heap (Obj.mapSeq f) (Ne.symm hb)).trans hu) ⟨_, q⟩ ?_
  exact ⟨hz, its', _, hv, q⟩
theorem Inv.lnew {its : List Value} {t' : Nat} (I : Inv X pins σ H s) (hv : Vals ys its) (hz : ys.length ≤ sizeLine) :
    Inv X pins σ (upd H s.heap.objs.size (.lst ys)) { s with heap := s.heap.push { cls := .type "list", data := .seq its.toArray }, toks := t' } :=
  I.laid (fun _ _ q => Heap.get?_push_of_some _ q) (Nat.le_refl _) ⟨hz, its, 0, hv, Heap.get?_push_size _ rfl⟩
theorem Inv.fresh (I : Inv X pins σ H s) : H s.heap.objs.size = none := I.hok.fresh (Nat.le_refl _)
theorem Inv.lstM (I : Inv X pins σ H s) (hH : H l = some (.lst xs)) : xs.length ≤ sizeLine ∧ ∃ (its : List Value) (n : Nat), Vals xs its ∧ xs.length = its.length ∧ s.heap.get? l = some { cls := .type "list", data := .seq its.toArray n } := by
  obtain ⟨z, its, n, r, e⟩ := I.hok l _ hH
  exact ⟨z, its, n, r, r.length, e⟩

theorem notLongL {n : Nat} (h : n ≤ sizeLine) : Builtin.List.listTooLong n = false := by
  unfold Builtin.List.listTooLong
  exact decide_eq_false (by omega)
end

section
variable {X : Cx}

/-! ### methods -/
noncomputable def rAppend : V → List V → Hp → VK → Prop := fun x vs H Q => ∃ l xs y, x = .ref l ∧ vs = [y] ∧ H l = some (.lst xs) ∧ xs.length < sizeLine ∧ Q .non (upd H l (.lst (xs ++ [y])))
theorem mt_append : MtM X "list.append" rAppend := by
  intro pins s σ H x vs v us Q I rx rv h
  obtain ⟨l, xs, y, rfl, rfl, hH, hz, q⟩ := h
  cases rx
  obtain ⟨u, rfl, ru⟩ := rv.one
  obtain ⟨z, its, n, r, hl, e⟩ := I.lstM hH
  refine call_meets F.slot_list_append ⟨_, e, rfl⟩ F.entry_list_append (F.args_list_append_2 _ _) (PySem.list_append l its.toArray n u (by rw [List.size_toArray]; omega)) ⟨e, ?_⟩
  refine ⟨.non, _, I.lset (its' := its ++ [u]) hH e (by simp) (r.append (.cons ru .nil)) ?_, rfl, q⟩
  rw [List.length_append, List.length_singleton]
  omega

noncomputable def rExtend : V → List V → Hp → VK → Prop := fun x vs H Q => ∃ l b xs zs, x = .ref l ∧ vs = [.ref b] ∧ H l = some (.lst xs) ∧ H b = some (.lst zs) ∧ xs.length + zs.length ≤ sizeLine ∧ Q .non (upd H l (.lst (xs ++ zs)))
theorem mt_extend : MtM X "list.extend" rExtend := by
  intro pins s σ H x vs v us Q I rx rv h
  obtain ⟨l, b, xs, zs, rfl, rfl, hH, hB, hz, q⟩ := h
  cases rx
  obtain ⟨u, rfl, ru⟩ := rv.one
  cases ru
  obtain ⟨z, its, n, r, hl, e⟩ := I.lstM hH
  obtain ⟨z2, its2, n2, r2, hl2, e2⟩ := I.lstM hB
  have hsz : its.toArray.size + its2.toArray.size ≤ sizeLine := by rw [List.size_toArray, List.size_toArray]; omega
  have hlong : ¬ (!its.toArray.isEmpty && Builtin.List.listTooLong (its.toArray.size + its2.toArray.size)) = true := by
    rw [notLongL hsz, Bool.and_false]
    exact Bool.false_ne_true
  refine call_meets F.slot_list_extend ⟨_, e, rfl⟩ F.entry_list_extend (F.args_list_extend_2 _ _)
    (AutoSeq1.list_extend_list_list_0 l its.toArray n b its2.toArray n2 hlong (by rw [List.size_toArray]; omega) (by omega)) ⟨e, e2, ?_⟩
  refine ⟨.non, _, I.lset (its' := its ++ its2) hH e (by simp) (r.append r2) ?_, rfl, q⟩
  rw [List.length_append]
  omega

/-! ### list + list, list += list, list * int -/
noncomputable def rCat : R2 := fun x y H Q => ∃ l b xs zs, x = .ref l ∧ y = .ref b ∧ H l = some (.lst xs) ∧ H b = some (.lst zs) ∧ xs.length + zs.length ≤ sizeLine ∧ ∀ p, H p = none → Q (.ref p) (upd H p (.lst (xs ++ zs)))
theorem op_cat : OpR X (binaryOp .Add) rCat := by
  intro pins s σ H x y v u Q I rx ry h
  obtain ⟨l, b, xs, zs, rfl, rfl, hH, hB, hz, q⟩ := h
  cases rx
  cases ry
  obtain ⟨z, its, n, r, hl, e⟩ := I.lstM hH
  obtain ⟨z2, its2, n2, r2, hl2, e2⟩ := I.lstM hB
  refine PySem.P.add_list e e2 ?_ (by rw [List.size_toArray, List.size_toArray]; omega)
  have ea : its.toArray ++ its2.toArray = (its ++ its2).toArray := by simp
  rw [ea]
  exact ⟨.ref _, _, I.lnew (t' := s.toks) (r.append r2) (by rw [List.length_append]; omega), rfl, q _ I.fresh⟩
noncomputable def rRep : R2 := fun x y H Q => ∃ l k xs, x = .ref l ∧ y = .int k ∧ H l = some (.lst xs) ∧ -(2 ^ 63) ≤ k ∧ k < 2 ^ 63 ∧ xs.length * k.toNat ≤ sizeLine ∧
  ∀ p, H p = none → Q (.ref p) (upd H p (.lst (List.replicate k.toNat xs).flatten))
theorem len_rep {α : Type} (xs : List α) (k : Nat) : (List.replicate k xs).flatten.length = k * xs.length := by
  induction k with
  | zero => simp
  | succ k ih => rw [List.replicate_succ, List.flatten_cons, List.length_append, ih, Nat.succ_mul, Nat.add_comm]
theorem op_rep : OpR X (binaryOp .Mult) rRep := by
  intro pins s σ H x y v u Q I rx ry h
  obtain ⟨l, k, xs, rfl, rfl, hH, h1, h2, hz, q⟩ := h
  cases rx
  obtain ⟨t, rfl⟩ := ry
  obtain ⟨z, its, n, r, hl, e⟩ := I.lstM hH
  have hlen : its.toArray.size * k.toNat ≤ sizeLine := by rw [List.size_toArray, ← hl]; exact hz
  have hcap : ¬ its.toArray.size * k.toNat > (2 ^ 63 - 1) / 8 := by
    have : (sizeLine : Nat) ≤ (2 ^ 63 - 1) / 8 := by decide
    omega
  have hfit : ¬ (!Builtin.List.listFitsIndex k) = true := by
    rw [fitsIndex_both h1 h2]
    exact Bool.false_ne_true
  have hlong : ¬ Builtin.List.listTooLong (its.toArray.size * k.toNat) = true := by
    rw [notLongL hlen]
    exact Bool.false_ne_true
  have hnew : List.foldl (fun x1 x2 => x1 ++ x2) #[] (List.replicate (if its.toArray.isEmpty = true then 0 else k.toNat) its.toArray) = (List.replicate k.toNat its).flatten.toArray := by
    have f0 : ∀ m : Nat, List.foldl (fun x1 x2 => x1 ++ x2) #[] (List.replicate m its.toArray) = (List.replicate m its).flatten.toArray := fun m => by
      have := foldl_rep its m []
      rw [List.nil_append] at this
      exact this
    rw [f0]
    cases its with
    | nil => simp
    | cons a r' => rw [if_neg (by simp)]
  refine wpAny_binaryOp_repeat_ref (T := "list") (U := "int") (by decide) ⟨_, e, rfl⟩ (fun s' => typeIs_int s' k t) noFill_list_mul F.fills_int_mul F.slot_int_rmul repeat_list F.slot_int_index.lookup
    (call_meets F.slot_int_rmul (typeIs_int s k t) F.entry_int_rmul (F.args_int_rmul_2 _ _) (int___rmul___int_list k t l its.toArray n)
      ⟨e, rfl, ⟨_, e, rfl⟩, call_meets F.slot_list_mul ⟨_, e, rfl⟩ F.entry_list_mul (F.args_list_mul_2 _ _) (AutoListH.list___mul___list_int_3 l its.toArray n k t hfit hcap hlong) ⟨e, ?_⟩⟩)
  rw [hnew]
  exact ⟨.ref _, _, I.lnew (t' := s.toks) (r.rep k.toNat) (by rw [len_rep, Nat.mul_comm]; exact hz), rfl, q _ I.fresh⟩

/-! ### del xs[i] -/
end

/-! ### xs[a:b] = ys -/
section
variable {prog : Program} {w : World} {A : Around} {E : Value → Shared → Prop} {s : Shared}
end

section
variable {X : Cx}
end
end L2

namespace Att
open PySem PySem.W PySem.Calls PyProof.Rows

/-! ### the script -/
theorem ints_of_wellAll {P : Params} {h : Heap} : ∀ (ns : List Int) (vs : List Value), WellAll P h vs (ns.map WData.int) → IntsAre vs ns := by
  intro ns
  induction ns with
  | nil =>
    intro vs w
    rw [List.map_nil] at w
    cases w
    exact .nil
  | cons n ns ih =>
    intro vs w
    rw [List.map_cons] at w
    cases w with
    | cons a b =>
      cases a
      exact .cons _ _ (ih _ b)

theorem script_of {l : OpenLaw} {n : Nat} (hn : l.most = some n) {P : Params} {h : Heap} {args : List WData} {vals : List Value}
    (hpre : l.row.toRowW.claim.pre args = true) (hwl : WellAll P h vals args) :
    ∃ a vs ns, vals = [Value.ref a] ∧ args = [WData.list (ns.map WData.int)] ∧ h.get? a = some { cls := .type "list", data := .seq vs.toArray } ∧ IntsAre vs ns ∧ ns.length ≤ n := by
  have hsh : WShape.hasAll [] args [.list .int] = true := (pre_splitW hpre).1
  have hc : l.pre.holds [] { args := args } = true := (pre_splitW hpre).2
  obtain ⟨d, r, rfl, h1, h2⟩ := hasAllW_cons hsh
  obtain rfl := hasAllW_nil h2
  obtain ⟨xs, rfl, h3⟩ := hasW_list h1
  obtain ⟨ns, rfl⟩ := items_int h3
  have hlen : ns.length ≤ n := by
    unfold OpenLaw.pre at hc
    have h4 : (WTm.not (.lt (.lit (.int (n : Int))) (.len (.arg 0)))).holds [] { args := [.list (ns.map .int)] } = true := by
      have h4 := (holds_andW hc).1
      rw [hn] at h4
      exact h4
    have h5 := condW_of h4 (w_not (w_lt w_lit (w_len_list (w_arg rfl))))
    rw [List.length_map] at h5
    refine Nat.le_of_not_lt fun q => ?_
    have q' : (n : Int) < ((ns.length : Nat) : Int) := by omega
    first
      | (rw [decide_eq_true q'] at h5; exact absurd h5 (by decide))
      | (simp at h5; omega)
  cases hwl with
  | cons w1 w2 =>
    cases w2
    cases w1 with
    | list ho hall => exact ⟨_, _, ns, rfl, rfl, ho, ints_of_wellAll ns _ hall, hlen⟩

theorem post_true (l : OpenLaw) (args : List WData) : l.row.toRowW.claim.post args (.bool true) args = true :=
  postW_of (r := l.row.toRowW) (X := (true == true))
    (show WShape.has [] (.bool true) .bool = true by first | rfl | decide | simp [WShape.has, WShape.arms, WShape.armsAll])
    (show (WTm.eq .res (.lit (.bool true))).value [] { args := args, res := some (.bool true), after := args } = some (.bool (true == true)) from w_eq_bool (w_res rfl) w_lit) rfl

/-! ### the attachment: holds_open's last premise (the goal 'hc' behind k_head) from a wpAny of the law's body -/
theorem attach_call {l : OpenLaw} {n : Nat} {q : Program} {loose : List Str} {XP : (Str → Option Value) → Heap → Prop} {YP : World → Heap → Prop} {d : DefRec}
    (hn : l.most = some n) (hdf : d.params.defaults = [])
    (call : ∀ (w : World) (s₀ s₁ : Shared) (mg mb : Str → Option Value) (fa : Addr) (o : Obj) (pm cd doc : Value) (a : Addr) (vs : List Value) (ns : List Int),
      Ground q loose [] XP w s₀ mg mb s₁.heap → YP w s₁.heap →
      s₁.heap.get? fa = some o → o.data = .func (docDef d.name d.params d.body d.scope pm cd doc) → s₁.heap.CodeRec cd d.name → mg d.name = some (.ref fa) →
      s₁.heap.get? a = some { cls := .type "list", data := .seq vs.toArray } → IntsAre vs ns → ns.length ≤ n → s₁.gens = #[] →
      codeAny (model l.prog w) callerA (.call (.ref fa) ⟨[.ref a], []⟩) (fun r s' => r = .ok (.ret (.bool true)) ∧ OldK s₁.heap s'.heap ∧ s'.os = s₁.os ∧ AllBare s'.gens) s₁) :
    WalkO q loose XP YP l.row.toRowW d [] (fun f vs => PySem.call f vs) := by
  intro w s₀ s₁ mg mb G Y fa o pm cd doc dV kV ho hd hcd hD hmg hg args vals as hpre hlay hrd hwl hlo
  obtain rfl : dV = .none := Dflts.none hD hdf
  obtain rfl : kV = .none := Dflts.noKw hD
  obtain ⟨a, vs, ns, rfl, rfl, hobj, hints, hlen⟩ := script_of hn hpre hwl
  refine enter_call (codeAny_mono (call w s₀ s₁ mg mb fa o pm cd doc a vs ns G Y ho (fd_plain hd) hcd hmg hobj hints hlen hg) fun r s' hq => ?_)
  obtain ⟨rfl, h2, h3, h4⟩ := hq
  exact ⟨.inl ⟨.bool true, .bool true, [], rfl, fun _ => rfl, .bool true, post_true l _, fun _ => ⟨List.Pairwise.nil, fun _ hm => (nomatch hm)⟩⟩, h2, h3, h4⟩

/-! ### rules over ANY heap (no ledger) from facts about the written part K: the library's own take a ledger (News) for what they write -/
section
variable {prog : Program} {w : World} {A : Around} {E : Value → Shared → Prop} {s : Shared} {K : Frag}

/-! the whole heap as the ledger: makes every rule that writes through a ledger a rule over any heap -/
end
end Att

namespace L2
open PySem PySem.Spec PyProof.Rows

theorem vals_ints : ∀ {vs : List Value} {ns : List Int}, IntsAre vs ns → Vals (ns.map V.int) vs
  | _, _, .nil => .nil
  | _, _, .cons n t h => .cons ⟨t, rfl⟩ (vals_ints h)

noncomputable def Only (H : Hp) : Prop := ∀ b, H b = none ∨ ∃ o xs, H b = some (.frz o (.lst xs))

theorem law_call {P : Program} {w : World} {K : PySem.W.Frag} {mg mb : Str → Option Value} {CX : CXT} {k : Nat} {fa a : Addr} {fd : FuncData} {x : Str} {sp : Sp} {s₁ : Shared} {vs : List Value} {ns : List Int}
    (KX : K.In s₁.heap) (hns : s₁.heap.Ns mainGlobals mg) (hb : s₁.heap.Ns builtinsNs mb) (hbb : ∀ x : Str, x ≠ "__name__" → mb x = bootBuiltins x) (hlim : s₁.heap.NoLimit) (hg : s₁.gens = #[])
    (ha : s₁.heap.get? a = some { cls := .type "list", data := .seq vs.toArray }) (hi : IntsAre vs ns) (hl : ns.length ≤ sizeLine) (hr : Room k callerA)
    (F : ∀ base : Heap, K.In base → base.Ns mainGlobals mg → FnOk P w K mg base CX k fa fd [x] sp) (hbind : ∀ (s : Shared) (u : Value), BindsTo s fd ⟨[u], []⟩ [(x, u)])
    (hsp : ∀ H : Hp, Only H → SqL K H a (ns.map V.int) → sp [.ref a] H (fun v _ => v = .bl true) fun _ _ _ => False)
    (hCX : ∀ H e s', CX [] H s₁ (fun _ _ _ => False) e s' → False) :
    codeAny (model P w) callerA (.call (.ref fa) ⟨[.ref a], []⟩) (fun r s' => r = .ok (.ret (.bool true)) ∧ OldK s₁.heap s'.heap ∧ s'.os = s₁.os ∧ AllBare s'.gens) s₁ := by
  have rv := vals_ints hi
  have lenV := hi.length
  -- from an abstract heap in which nothing but the script may be tracked
  have core : ∀ H : Hp, Only H → SqL K H a (ns.map V.int) → HOk P w H s₁.heap → (∀ b, H b ≠ none → b = a) → (H a ≠ none → K.lookup a = none) →
      codeAny (model P w) callerA (.call (.ref fa) ⟨[.ref a], []⟩) (fun r s' => r = .ok (.ret (.bool true)) ∧ OldK s₁.heap s'.heap ∧ s'.os = s₁.os ∧ AllBare s'.gens) s₁ := by
    intro H hO hS hok hA hK
    have base_of : ∀ {b : Addr} {o : Obj}, s₁.heap.get? b = some o → H b = none → (hidT s₁.heap H).get? b = some o := fun e n => hidT_get e n
    have noA : ∀ {b : Addr} {o : Obj} {es : Array DictEntry} {ep : Nat}, s₁.heap.get? b = some o → o.data = .dict es ep → H b = none := fun {b o es ep} e d => by
      cases q : H b with
      | none => rfl
      | some u =>
        have e' : b = a := hA b (by rw [q]; simp)
        subst e'
        rw [ha] at e; cases e
        have d' : Data.seq vs.toArray _ = Data.dict es ep := d
        cases d'
    have nsK : ∀ {b : Addr} {m : Str → Option Value}, s₁.heap.Ns b m → (hidT s₁.heap H).Ns b m := fun {b m} ⟨o, es, ep, e, d, r⟩ => ⟨o, es, ep, base_of e (noA e d), d, r⟩
    have hKb : K.In (hidT s₁.heap H) := fun b o e => base_of (KX b o e) (by
      cases q : H b with
      | none => rfl
      | some u =>
        have e' : b = a := hA b (by rw [q]; simp)
        subst e'
        rw [hK (by rw [q]; simp)] at e; cases e)
    have hM : Mod K mg (hidT s₁.heap H) := ⟨hKb, nsK hns, ⟨mb, nsK hb, hbb⟩, let ⟨mc, h1, h2⟩ := hlim; ⟨mc, nsK h1, h2⟩⟩
    have e0 : Env0 P w K mg (hidT s₁.heap H) callerA [] s₁ H := ⟨rfl, hM, fun b o e => of_hidT e, Nat.le_of_eq (hidT_size _ _), trivial, fun b hb => absurd (show b ∈ ([] : List Addr) from hb) (by simp), hok, .of_eq hg⟩
    refine codeAny_mono ((F _ hKb (nsK hns)).run callerA [] s₁ H ⟨[.ref a], []⟩ [.ref a] [.ref a] _ _ hr e0 (hbind s₁ (.ref a)) (.cons rfl .nil) (hsp H hO hS)) fun r s' h => ?_
    cases r with
    | error e => exact (hCX H e s' h).elim
    | ok fl =>
      cases fl with
      | next => exact False.elim h
      | brk => exact False.elim h
      | cont => exact False.elim h
      | ret u =>
        obtain ⟨v, H', os, bare, un, hok', r', q⟩ := h
        have q' : v = .bl true := q
        subst q'
        obtain rfl : u = Value.bool true := r'
        refine ⟨rfl, OldK.of_keep fun b o e => ?_, os, bare⟩
        cases q : H b with
        | none => exact un.keep b o e q (by intro z; exact absurd (show b ∈ ([] : List Addr) from z) (by simp)) (by simp)
        | some u =>
          rcases hO b with z | ⟨ob, xs, z⟩
          · rw [q] at z; cases z
          · have z2 := un.frzs b ob _ z
            obtain ⟨e1, _⟩ := hok b _ z
            obtain ⟨e2, _⟩ := hok' b _ z2
            rw [e] at e1; cases e1
            exact e2
  cases hk : K.lookup a with
  | some o =>
    -- the script is one of the module's own objects
    have e := KX a o hk
    rw [ha] at e
    cases e
    refine core (fun _ => none) (fun _ => .inl rfl) (.inr ⟨_, vs.toArray, _, hk, rfl, rfl, rfl, by rw [List.size_toArray, lenV]; exact hl, by simpa using rv⟩) (fun b u z => by have z' : (none : Option HO) = some u := z; cases z') (fun b z => absurd rfl z) fun z => absurd rfl z
  | none =>
    refine core (fun b => if b = a then some (.frz { cls := .type "list", data := .seq vs.toArray } (.lst (ns.map V.int))) else none) (fun b => ?_) (.inl (.inr ⟨{ cls := .type "list", data := .seq vs.toArray }, if_pos rfl⟩)) (fun b u z => ?_) (fun b z => ?_) fun _ => hk
    · by_cases hb : b = a
      · exact .inr ⟨_, _, if_pos hb⟩
      · exact .inl (if_neg hb)
    · by_cases hb : b = a
      · have z' := (if_pos hb).symm.trans z
        cases z'
        subst hb
        exact ⟨ha, by rw [List.length_map]; exact hl, vs, _, rv, ha⟩
      · have z' := (if_neg hb).symm.trans z
        cases z'
    · by_cases hb : b = a
      · exact hb
      · exact absurd (if_neg hb) z
end L2

namespace L2
open PySem PySem.Spec PyProof.Rows

theorem walk_of {l : PySem.W.OpenLaw} {n k : Nat} {q : Program} {loose : List Str} {XP : (Str → Option Value) → Heap → Prop} {YP : World → Heap → Prop} {d : DefRec} {K : Params → PySem.W.Frag} {CX : World → CXT} {sp : World → Sp} {x : Str}
    (hn : l.most = some n) (hn2 : n ≤ sizeLine) (hdf : d.params.defaults = []) (hr : Room k callerA)
    (hY : ∀ (w : World) (h : Heap), YP w h → (K w.params).In h)
    (F : ∀ (w : World) (mg : Str → Option Value) (fa : Addr) (h : Heap), (K w.params).In h → h.Ns mainGlobals mg → mg d.name = some (.ref fa) →
      ∃ fd : FuncData, (∀ (s : Shared) (u : Value), BindsTo s fd ⟨[u], []⟩ [(x, u)]) ∧
        ∀ base : Heap, (K w.params).In base → base.Ns mainGlobals mg → FnOk l.prog w (K w.params) mg base (CX w) k fa fd [x] (sp w))
    (hsp : ∀ (w : World) (H : Hp) (a : Addr) (ns : List Int), ns.length ≤ n → Only H → SqL (K w.params) H a (ns.map V.int) → sp w [.ref a] H (fun v _ => v = .bl true) fun _ _ _ => False)
    (hCX : ∀ (w : World) (H : Hp) (s : Shared) (e : Value) (s' : Shared), CX w [] H s (fun _ _ _ => False) e s' → False) :
    PySem.W.WalkO q loose XP YP l.row.toRowW d [] (fun f vs => PySem.call f vs) := by
  refine Att.attach_call hn hdf fun w s₀ s₁ mg mb fa o pm cd doc a vs ns G Y ho hd hcd hmg hobj hints hlen hg => ?_
  have KX := hY w _ Y
  obtain ⟨fd, hb, hF⟩ := F w mg fa _ KX G.T.g hmg
  exact law_call KX G.T.g G.T.b G.T.builtins G.T.nolimit hg hobj hints (Nat.le_trans hlen hn2) hr hF hb (fun H hO hS => hsp w H a ns hlen hO hS) fun H e s' => hCX w H s₁ e s'
theorem walk_ofK {l : PySem.W.OpenLaw} {n k : Nat} {q : Program} {loose : List Str} {XP : (Str → Option Value) → Heap → Prop} {YP : World → Heap → Prop} {d : DefRec} {K : Params → PySem.W.Frag} {CX : CXT} {sp : PySem.W.Frag → Sp} {x : Str}
    (hn : l.most = some n) (hn2 : n ≤ sizeLine) (hdf : d.params.defaults = []) (hr : Room k callerA)
    (hY : ∀ (w : World) (h : Heap), YP w h → (K w.params).In h)
    (F : ∀ (w : World) (mg : Str → Option Value) (fa : Addr) (h : Heap), (K w.params).In h → h.Ns mainGlobals mg → mg d.name = some (.ref fa) →
      ∃ fd : FuncData, (∀ (s : Shared) (u : Value), BindsTo s fd ⟨[u], []⟩ [(x, u)]) ∧
        ∀ base : Heap, (K w.params).In base → base.Ns mainGlobals mg → FnOk l.prog w (K w.params) mg base CX k fa fd [x] (sp (K w.params)))
    (hsp : ∀ (K : PySem.W.Frag) (H : Hp) (a : Addr) (ns : List Int), ns.length ≤ n → Only H → SqL K H a (ns.map V.int) → sp K [.ref a] H (fun v _ => v = .bl true) fun _ _ _ => False)
    (hCX : ∀ (H : Hp) (s : Shared) (e : Value) (s' : Shared), CX [] H s (fun _ _ _ => False) e s' → False) :
    PySem.W.WalkO q loose XP YP l.row.toRowW d [] (fun f vs => PySem.call f vs) :=
  walk_of (K := K) (CX := fun _ => CX) (sp := fun w => sp (K w.params)) hn hn2 hdf hr hY F (fun w H a ns h1 h2 h3 => hsp (K w.params) H a ns h1 h2 h3) fun _ H s e s' => hCX H s e s'
end L2

/- THE LAST THEOREM (shape; LID, My.* are yours):
   My.Adr: a structure of the addresses that your layer names (classes, functions); My.Txt K t: a structure (Prop) of the equations over K;
   My.txt_mk : {K} {implicit addresses ..} (e1 : nsIn K mainGlobals "law" = some (some (.ref f))) (e2 : K.lookup f = some ⟨oc, od, .func (fnOf "law" "law" params body scope dV kV doc pm an cdv ct), sl⟩) (e3 : codeIn K cdv "law" = true) .. : ∃ t, My.Txt K t

set_option maxRecDepth 100000 in
set_option maxHeartbeats 0 in
theorem PySem.Challenge.cw_LID_holds : PySem.Challenge.rw_LID.Holds := by
  w_on; o_law; k_head; (case hw => w_witness2)
  k_fill
  refine L2.walk_of (l := PySem.Challenge.rw_LID) (n := 63) (k := 40) (x := "script") (CX := fun w => ..) (sp := fun _ => My.sp_law) rfl (by decide) rfl ⟨rfl, by decide, by decide⟩ (fun w h Y => PySem.W.kIn_of Y) ?F ?S ?C
  case F =>
    intro w mg fa h KX G hmg
    have T : ∃ t, My.Txt (L2.KOf KX) t := by
      dsimp only [L2.KOf]                          -- K must stand as «<heap const> w.params» for k_is
      refine' My.txt_mk ?e1 ?e2 ?e3 ..
      (case e1 => PySem.W.k_is)                    -- in the order: a name -> its address -> its object -> its parts
      (case e2 => PySem.W.k_is)
      ..
    obtain ⟨t, T⟩ := T
    have e0 := hmg.symm.trans (PySem.W.mg_of KX G T.law)
    cases e0                                       -- fa is the law's own address
    exact ⟨_, fun s u => .of_eq rfl, fun base kb nb => My.law_fn T kb nb⟩     -- if «.of_eq rfl» comes too early: refine' ⟨_, ?b, fun base kb nb => My.law_fn T kb nb⟩; exact fun s u => .of_eq rfl
  case S => exact fun w H a ns hl hO hS => ..
  case C => exact ..
(the tactic k_is has no namespace: write k_is) -/

/-! SHORT WORDS over the layer: a def of the text, its body, what a loop and a test want. -/
namespace L2
open PySem PySem.Spec PyProof.Rows

/-! ### the text by places -/
noncomputable def defArgs (s : Stmt) : Arguments := match s with
  | .FunctionDef _ a _ _ _ _ _ _ _ _ => a
  | _ => { posonlyargs := [], args := [], vararg := none, kwonlyargs := [], kw_defaults := [], kwarg := none, defaults := [] }
noncomputable def defBody (s : Stmt) : List Stmt := match s with
  | .FunctionDef _ _ b _ _ _ _ _ _ _ => b
  | _ => []
noncomputable def defScope (s : Stmt) : Scope := match s with
  | .FunctionDef _ _ _ _ _ _ sc _ _ _ => sc
  | _ => { kind := .function, names := [], isGenerator := false, isCoroutine := false }

/-! ### no exception leaves a def -/
noncomputable abbrev CX0 : CXT := fun _ _ _ _ _ _ => False
noncomputable abbrev E0 : XK := fun _ _ _ => False
theorem pass0 {X : Cx} : Passes CX0 X E0 := fun _ _ _ _ _ _ _ h => h.elim

/-! ### a def (or method) of the text as it stands behind the top -/
structure Fun (K : PySem.W.Frag) (x qual : Str) (st : Stmt) (f : Addr) (fd : FuncData) : Prop where
  ex : ∃ (oc : Value) (od : Option Addr) (kV doc pm : Value) (an : Option Addr) (cdv ct : Value) (osl : Array (Option Value)),
    fd = PySem.W.fnOf x qual (defArgs st) (defBody st) (defScope st) .none kV doc pm an cdv ct ∧ K.lookup f = some ⟨oc, od, .func fd, osl⟩ ∧ PySem.W.codeIn K cdv qual = true
  kp : PySem.W.keepIn K (.ref f) = true
section
variable {P : Program} {w : World} {K : PySem.W.Frag} {mg : Str → Option Value} {base : Heap}
theorem Fun.ok {x qual : Str} {st : Stmt} {f : Addr} {fd : FuncData} {N ps : List Str} {k : Nat} {sp : Sp} (F : Fun K x qual st f fd) (S : FnScope N ps (defScope st)) (len : ∀ vs H Q E, sp vs H Q E → vs.length = ps.length)
    (hbody : ∀ (cdv : Value) (A : Around) (outer : List Env) (s : Shared) (H : Hp) (vs : List V) (Q : VK) (E : XK), Room k (A.deeper (envOfC qual (defScope st) s.heap.objs.size f cdv)) → sp vs H Q E →
      ∃ t, PSs (cxOf CX0 P w K mg base N qual (defScope st) f cdv A outer s H E).nox (defBody st) t ∧ t { nx := fun _ H' => Q .non H', rt := Q } (start N vs) H) : FnOk P w K mg base CX0 (k + 1) f fd ps sp := by
  obtain ⟨oc, od, kV, doc, pm, an, cdv, ct, osl, rfl, lk, hcd⟩ := F.ex
  refine fn_of lk hcd S len fun A outer s H vs Q E hr hsp => ?_
  obtain ⟨t, h, q⟩ := hbody cdv A outer s H vs Q E hr hsp
  exact ⟨t, h.nox, q⟩
theorem Fun.binds {x qual : Str} {st : Stmt} {f : Addr} {fd : FuncData} {ps : List Str} (F : Fun K x qual st f fd)
    (h : ∀ (kV doc pm : Value) (an : Option Addr) (cdv ct : Value) (us : List Value), us.length = ps.length → bindArgs (PySem.W.fnOf x qual (defArgs st) (defBody st) (defScope st) .none kV doc pm an cdv ct) ⟨us, []⟩ = pure (ps.zip us)) : Binds K fd ps [] := by
  obtain ⟨oc, od, kV, doc, pm, an, cdv, ct, osl, rfl, lk, hcd⟩ := F.ex
  exact .all (h kV doc pm an cdv ct)
theorem fun_mk {x qual : Str} {st : Stmt} {f : Addr} {oc : Value} {od an : Option Addr} {osl : Array (Option Value)} {kV doc pm cdv ct : Value} (l : K.lookup f = some ⟨oc, od, .func (PySem.W.fnOf x qual (defArgs st) (defBody st) (defScope st) .none kV doc pm an cdv ct), osl⟩)
    (c : PySem.W.codeIn K cdv qual = true) (k : PySem.W.keepIn K (.ref f) = true) : Fun K x qual st f (PySem.W.fnOf x qual (defArgs st) (defBody st) (defScope st) .none kV doc pm an cdv ct) := ⟨⟨oc, od, kV, doc, pm, an, cdv, ct, osl, rfl, l, c⟩, k⟩
end
theorem hu_of {A : Around} {k : Nat} (hr : Room k A) : A.units + 1 < cLine := Nat.lt_of_le_of_lt (Nat.add_le_add_left (by decide : 1 ≤ 64) _) hr.units
theorem small1000 {n : Nat} (h : n ≤ 1000) : n < sizeLine := Nat.lt_of_le_of_lt h (by decide)

/-! ### expressions in short: the name that stands in the i-th slot -/
section
variable {X : Cx}
theorem pv (i : Nat) {x : Str} {pos : Pos} (hN : X.N[i]? = some x := by rfl) (hv : Vis X.env.scope x := by first | exact Or.inl rfl | exact Or.inr (Or.inl rfl) | exact Or.inr (Or.inr rfl)) (hd : (x == ("__debug__" : Str)) = false := by decide)
    (hcd : (x == ("__classdict__" : Str)) = false := by decide) : PE X (.Name x pos) (tVar i) := pe_var hN hv hd hcd
end

/-! ### tests -/
theorem iteF {A B : Prop} (h : B) : if false = true then A else B := by
  rw [if_neg Bool.false_ne_true]
  exact h
theorem iteT {A B : Prop} (h : A) : if true = true then A else B := by
  rw [if_pos rfl]
  exact h
theorem ite2 {c A B : Prop} [Decidable c] (h1 : c → A) (h2 : ¬ c → B) : if c then A else B := by
  by_cases h : c
  · rw [if_pos h]
    exact h1 h
  · rw [if_neg h]
    exact h2 h
/-! ### heaps -/
noncomputable def Same (H H' : Hp) : Prop := ∀ b o, H b = some o → H' b = some o
theorem Same.refl (H : Hp) : Same H H := fun _ _ h => h
theorem Same.trans {H H1 H2 : Hp} (a : Same H H1) (b : Same H1 H2) : Same H H2 := fun c o h => b c o (a c o h)
theorem Same.free {H H' : Hp} (e : Same H H') {l : Addr} (h : H' l = Option.none) : H l = Option.none := by
  cases q : H l with
  | none => rfl
  | some o =>
    rw [e l o q] at h
    cases h
theorem Same.seq {K : PySem.W.Frag} {H H' : Hp} {a : Addr} {xs : List V} (e : Same H H') (h : SqL K H a xs) : SqL K H' a xs := by
  rcases h with (h | ⟨o, h⟩) | h
  · exact .inl (.inl (e _ _ h))
  · exact .inl (.inr ⟨o, e _ _ h⟩)
  · exact .inr h

/-! ### a dict's pairs: keys that differ -/
section
variable {κ : Type} [DecidableEq κ]
end
end L2

namespace Tc
theorem fmod_pos {t b : Int} (h : 0 < b) : 0 ≤ t.fmod b ∧ t.fmod b < b := by
  rw [Int.fmod_eq_emod_of_nonneg _ (Int.le_of_lt h)]
  exact ⟨Int.emod_nonneg _ (by omega), Int.emod_lt_of_pos _ h⟩
end Tc
namespace Tc
end Tc
namespace L2
open PySem PySem.Spec PyProof.Rows
/-! ### own rules: large ints, isinstance, steps of a range, calls by a bundled fact -/
theorem bt_isinstance : bootBuiltins "isinstance" = some (.builtin "isinstance") := by decide +kernel
theorem bt_int : bootBuiltins "int" = some (.type "int") := by decide +kernel
theorem bt_list : bootBuiltins "list" = some (.type "list") := by decide +kernel
theorem bt_tuple : bootBuiltins "tuple" = some (.type "tuple") := by decide +kernel
theorem bt_dict : bootBuiltins "dict" = some (.type "dict") := by decide +kernel
theorem bt_ValueError : bootBuiltins "ValueError" = some (.type "ValueError") := by decide +kernel
section
variable {X : Cx}
theorem op_mulB : OpR X (binaryOp .Mult) (rI IntMulOk fun i j => .int (i * j)) := opI fun _ _ _ _ _ _ _ hc q => mul_int q hc
noncomputable def CDivB (_ j : Int) : Prop := j ≠ 0 ∧ j.natAbs.log2 < 9000
theorem op_fdivB : OpR X (binaryOp .FloorDiv) (rI CDivB fun i j => .int (i.fdiv j)) := opI fun _ _ _ _ _ _ _ hc q => floordiv_int hc.1 q (.inl (PyProof.noPylong_of_log2 hc.2))
theorem log2_lt {n k : Nat} (h : n < 2 ^ k) (hk : 0 < k) : n.log2 < k := by
  rcases Nat.eq_zero_or_pos n with h0 | hp
  · subst h0
    have : Nat.log2 0 = 0 := by decide
    omega
  · exact (Nat.log2_lt (Nat.ne_of_gt hp)).mpr h
theorem mulOk_of {a b : Int} (k : Nat) (ha : a.natAbs < 2 ^ k) (hb : b.natAbs < 2 ^ k) (h : k ≤ 67108864) : IntMulOk a b := by
  have bits : ∀ x : Int, x.natAbs < 2 ^ k → Builtin.Int.intBits x ≤ k := fun x hx => by
    unfold Builtin.Int.intBits
    split
    · exact Nat.zero_le _
    · rename_i hx0
      rcases Nat.eq_zero_or_pos k with h0 | hp
      · subst h0
        have : x = 0 := by
          have : x.natAbs < 1 := hx
          omega
        simp [this] at hx0
      · have := log2_lt hx hp
        omega
  exact IntMulOk.of_le (bits a ha) (bits b hb) (by omega)
theorem divB_of {i j : Int} (h : j ≠ 0) (hb : j.natAbs < 2 ^ 9000) : CDivB i j := ⟨h, log2_lt hb (by decide)⟩

theorem call_isi : CallR X (.builtin "isinstance") (fun xs H Q => ∃ x n t b, xs = [x, .ty n] ∧ TyOf X.K H x t ∧ PySem.W.kitOne X.K t (.type n) = some b ∧ Q (.bl b) H) := by
  intro pins s σ H xs us Q I r h
  obtain ⟨x, n, t, b, rfl, ty, e, q⟩ := h
  obtain ⟨u, u', rfl, ru, ru'⟩ := vals2 r
  cases ru'
  exact isinst_ok I ru ty e fun tk => ⟨.bl b, H, I.tok tk, rfl, q⟩
/-! ### a range with a step -/
end

/-! ### a def of the top, as a caller wants it -/
structure FnAt (P : Program) (w : World) (K : PySem.W.Frag) (mg : Str → Option Value) (base : Heap) (CX : CXT) (k : Nat) (x : Str) (ps : List Str) (sp : Sp) : Prop where
  ex : ∃ (f : Addr) (fd : FuncData), FnOk P w K mg base CX k f fd ps sp ∧ mg x = some (.ref f) ∧ PySem.W.keepIn K (.ref f) = true ∧ Binds K fd ps []
structure DefAt (K : PySem.W.Frag) (mg : Str → Option Value) (x : Str) (st : Stmt) : Prop where
  ex : ∃ (f : Addr) (fd : FuncData), Fun K x x st f fd ∧ mg x = some (.ref f)
theorem DefAt.mk' {K : PySem.W.Frag} {h : Heap} {mg : Str → Option Value} {x : Str} {st : Stmt} {f : Addr} {oc : Value} {od an : Option Addr} {osl : Array (Option Value)} {kV doc pm cdv ct : Value} (X : K.In h) (G : h.Ns mainGlobals mg)
    (a : PySem.W.nsIn K mainGlobals x = some (some (.ref f))) (l : K.lookup f = some ⟨oc, od, .func (PySem.W.fnOf x x (defArgs st) (defBody st) (defScope st) .none kV doc pm an cdv ct), osl⟩)
    (c : PySem.W.codeIn K cdv x = true) (k : PySem.W.keepIn K (.ref f) = true) : DefAt K mg x st := ⟨f, _, fun_mk (st := st) l c k, PySem.W.mg_of X G a⟩
section
variable {P : Program} {w : World} {K : PySem.W.Frag} {mg : Str → Option Value} {base : Heap}
theorem DefAt.ok {x : Str} {st : Stmt} {N ps : List Str} {k : Nat} {sp : Sp} (D : DefAt K mg x st) (S : FnScope N ps (defScope st)) (len : ∀ vs H Q E, sp vs H Q E → vs.length = ps.length)
    (hb : ∀ (kV doc pm : Value) (an : Option Addr) (cdv ct : Value) (us : List Value), us.length = ps.length → bindArgs (PySem.W.fnOf x x (defArgs st) (defBody st) (defScope st) .none kV doc pm an cdv ct) ⟨us, []⟩ = pure (ps.zip us))
    (hbody : ∀ (f : Addr) (cdv : Value) (A : Around) (outer : List Env) (s : Shared) (H : Hp) (vs : List V) (Q : VK) (E : XK), Room k (A.deeper (envOfC x (defScope st) s.heap.objs.size f cdv)) → sp vs H Q E →
      ∃ t, PSs (cxOf CX0 P w K mg base N x (defScope st) f cdv A outer s H E).nox (defBody st) t ∧ t { nx := fun _ H' => Q .non H', rt := Q } (start N vs) H) : FnAt P w K mg base CX0 (k + 1) x ps sp := by
  obtain ⟨f, fd, F, m⟩ := D.ex
  exact ⟨f, fd, F.ok S len fun cdv A outer s H vs Q E hr h => hbody f cdv A outer s H vs Q E hr h, m, F.kp, F.binds hb⟩
end
section
variable {X : Cx} {CX : CXT} {k j : Nat} {ps : List Str} {sp : Sp} {E : XK} {x : Str} {p pos : Pos} {e : Expr} {es : List Expr} {t : TA}
theorem pe_fn (F : FnAt X.prog X.w X.K X.mg X.base CX j x ps sp) (hr : Room k X.A) (hg : Gl X x) (hx : Passes CX X E) (ha : PA X (e :: es) t) (hj : j ≤ k := by decide)
    (hdb : (x == ("__debug__" : Str)) = false := by decide) (he : starEach (e :: es) X.env = (false, eval e X.env) :: starEach es X.env := by rfl) (hpl : (backTo pos (starEach es X.env)).any (·.1) = false := by rfl) :
    PE X (.Call (.Name x p) (e :: es) [] pos) (tCall sp [] E t) := by
  obtain ⟨f, fd, G, m, kp, b⟩ := F.ex
  exact pe_call G (hr.mono hj) hg m kp b .nil hx ha hdb he hpl
end
end L2
namespace L2
open PySem PySem.Spec PyProof.Rows
/-! ### kinds of values, for isinstance -/
noncomputable def tyH : Option HO → Option String
  | some (.lst _) => some "list"
  | some (.frz _ (.lst _)) => some "list"
  | some (.tup _) => some "tuple"
  | some (.dK _) => some "dict"
  | some (.dT _) => some "dict"
  | _ => none
noncomputable def tyS (H : Hp) : V → Option String
  | .non => some "NoneType"
  | .bl _ => some "bool"
  | .int _ => some "int"
  | .str _ => some "str"
  | .ref a => tyH (H a)
  | _ => none
theorem tyH_cases {o : Option HO} {n : String} (h : tyH o = some n) :
    (n = "list" ∧ ((∃ xs, o = some (.lst xs)) ∨ ∃ ob xs, o = some (.frz ob (.lst xs)))) ∨ (n = "tuple" ∧ ∃ xs, o = some (.tup xs)) ∨ (n = "dict" ∧ ((∃ kvs, o = some (.dK kvs)) ∨ ∃ kvs, o = some (.dT kvs))) := by
  cases o with
  | none => cases h
  | some u =>
    cases u with
    | lst xs => cases h; exact .inl ⟨rfl, .inl ⟨xs, rfl⟩⟩
    | tup xs => cases h; exact .inr (.inl ⟨rfl, xs, rfl⟩)
    | dK kvs => cases h; exact .inr (.inr ⟨rfl, .inl ⟨kvs, rfl⟩⟩)
    | dT kvs => cases h; exact .inr (.inr ⟨rfl, .inr ⟨kvs, rfl⟩⟩)
    | frz ob v =>
      cases v with
      | lst xs => cases h; exact .inl ⟨rfl, .inr ⟨ob, xs, rfl⟩⟩
      | _ => cases h
    | _ => cases h
theorem tyOf_of {K : PySem.W.Frag} {H : Hp} {v : V} {n : String} (h : tyS H v = some n) : TyOf K H v (.type n) := by
  cases v with
  | non => cases h; exact .non
  | bl b => cases h; exact .bl b
  | int i => cases h; exact .int i
  | str x => cases h; exact .str x
  | byt b => cases h
  | flt b => cases h
  | ty b => cases h
  | ref a =>
    rcases tyH_cases (show tyH (H a) = some n from h) with ⟨rfl, ⟨xs, e⟩ | ⟨ob, xs, e⟩⟩ | ⟨rfl, xs, e⟩ | ⟨rfl, ⟨kvs, e⟩ | ⟨kvs, e⟩⟩
    · exact .lst e
    · exact .frz e
    · exact .tup e
    · exact .dK e
    · exact .dT e
noncomputable def subS (n m : String) : Bool := n == m || (n == "bool" && m == "int")
theorem kit_tt {K : PySem.W.Frag} {n m : String} (hn : n ∈ ["NoneType", "bool", "int", "str", "list", "tuple", "dict"]) (hm : m ∈ ["int", "bool", "str", "list", "tuple", "dict"]) :
    PySem.W.kitOne K (.type n) (.type m) = some (subS n m) := by
  simp only [List.mem_cons, List.not_mem_nil, or_false] at hn hm
  rcases hn with rfl | rfl | rfl | rfl | rfl | rfl | rfl <;> rcases hm with rfl | rfl | rfl | rfl | rfl | rfl <;> first | rfl | (with_unfolding_all rfl) | decide +kernel
theorem Same.upd {H : Hp} {p : Addr} {o : HO} (h : H p = none) : Same H (upd H p o) := fun b u e => by
  rw [upd_ne (ne_of_none e h)]; exact e
end L2
namespace L2
open PySem PySem.Spec PyProof.Rows
/-! ### exceptions: what lies behind a call that raises -/
section
variable {P : Program} {w : World} {H H' : Hp} {h h' : Heap} {a : Addr} {o : HO}
theorem ObjOk.there (x : ObjOk P w H h a o) : ∃ ob, h.get? a = some ob := by
  cases o with
  | lst xs => obtain ⟨_, _, _, _, e⟩ := x; exact ⟨_, e⟩
  | tup xs => obtain ⟨_, _, _, ob, e, _⟩ := x; exact ⟨ob, e⟩
  | dK kvs => obtain ⟨_, _, _, _, ob, _, _, e, _⟩ := x; exact ⟨ob, e⟩
  | dT kvs => obtain ⟨_, _, _, _, ob, _, _, e, _⟩ := x; exact ⟨ob, e⟩
  | set S n => obtain ⟨ob, _, _, _, e, _⟩ := x; exact ⟨ob, e⟩
  | ins C dx fs => obtain ⟨_, _, _, e, _⟩ := x; exact ⟨_, e⟩
  | own y => obtain ⟨ob, e⟩ := x; exact ⟨ob, e⟩
  | xd fs => obtain ⟨_, ⟨ob, _, _, e, _⟩, _⟩ := x; exact ⟨ob, e⟩
  | rng lo hi => obtain ⟨_, _, _, e⟩ := x; exact ⟨_, e⟩
  | frz ob u => obtain ⟨e, _⟩ := x; exact ⟨_, e⟩
  | tbl ps => exact ⟨_, (show h.get? a = some _ from x)⟩
  | met f y => exact ⟨_, (show h.get? a = some _ from x)⟩
  | ext φ => obtain ⟨_, ⟨ob, e⟩, _⟩ := x; exact ⟨ob, e⟩
theorem HOk.via (x : HOk P w H h) (k : ∀ b u ob, H b = some u → h.get? b = some ob → h'.get? b = some ob) : HOk P w H h' := fun b u e =>
  (x b u e).stay (fun c ob hc q => by
    rcases hc with z | z
    · subst z; exact k c u ob e q
    · exact k c _ ob z q) (fun _ q => q) fun _ _ q => q
end
theorem frs_cons {env : Env} {L : Addr} {outer : List Env} (hf : env.frame = some L) : frs (env :: outer) = L :: frs outer := by
  unfold frs; rw [List.filterMap_cons, hf]
structure Kp (P : Program) (w : World) (outer : List Env) (H : Hp) (h : Heap) (H' : Hp) (h' : Heap) (B : Heap) : Prop where
  hok : HOk P w H' h'
  un : Un (frs outer) [] H H' h h'
  old : ∀ b o, h.get? b = some o → H b = none → b ∉ frs outer → B.get? b = some o
  has : ∀ b o, h.get? b = some o → b ∉ frs outer → ∃ o', B.get? b = some o'
  trk : ∀ b u, H' b = some u → ∃ o, h'.get? b = some o ∧ B.get? b = some o
section
variable {X : Cx} {pins : List (Addr × Obj)} {σ : St} {H1 H2 : Hp} {s1 : Shared} {h2 h3 B : Heap} {a : Addr} {C a0 : Value} {vs : List Value}
theorem Kp.raise (I : Inv X pins σ H1 s1) (hx : Heap.MadeExcOf s1.heap h2 a C vs) : Kp X.prog X.w X.stack H1 s1.heap H1 h2 (PySem.W.hideAll s1.heap (frs X.stack)) where
  hok := I.hok.kept hx.keeps
  un := Un.kept hx.keeps
  old := fun b o e _ hb => PySem.W.hideAll_get _ e hb
  has := fun b o e hb => ⟨o, PySem.W.hideAll_get _ e hb⟩
  trk := fun b u e => by
    obtain ⟨o, q⟩ := (I.hok b u e).there
    refine ⟨o, hx.keeps b o q, PySem.W.hideAll_get _ q fun hb => ?_⟩
    rw [I.stkFree b hb] at e; cases e
theorem Kp.slots (I : Inv X pins σ H1 s1) (K : Kp X.prog X.w X.stack H1 s1.heap H2 h2 B) (st : B.StaysIn h3) (sl : h2.UpToSlots h3) : Kp X.prog X.w X.stack H1 s1.heap H2 h3 B := by
  have trk3 : ∀ b u, H2 b = some u → ∃ o, h3.get? b = some o ∧ B.get? b = some o := fun b u e => by
    obtain ⟨o, _, q⟩ := K.trk b u e
    exact ⟨o, st b o q, q⟩
  have fr : ∀ b o, s1.heap.get? b = some o → H1 b = none → b ∈ frs X.stack → ∃ sl, h3.get? b = some { o with slots := sl } := fun b o e n hb => by
    obtain ⟨sl1, e1⟩ := K.un.slot b o e n hb (by simp)
    obtain ⟨_, o', e', d⟩ := I.stack.mem hb
    rw [e] at e'
    cases e'
    obtain ⟨sl2, e2⟩ := sl b _ e1 d
    exact ⟨sl2, e2⟩
  refine ⟨K.hok.via fun b u ob e q => ?_, ⟨fun b o e n hb _ => st b o (K.old b o e n hb), fun b o e n hb _ => fr b o e n hb, K.un.free, fun b o e hx => ?_, K.un.tups, K.un.frzs, K.un.tbls⟩, K.old, K.has, trk3⟩
  · obtain ⟨o, q1, q2⟩ := K.trk b u e
    rw [q] at q1
    cases q1
    exact st b ob q2
  · by_cases hb : b ∈ frs X.stack
    · obtain ⟨sl1, e1⟩ := fr b o e (I.stkFree b hb) hb
      exact ⟨_, e1⟩
    · obtain ⟨o', e'⟩ := K.has b o e hb
      exact ⟨o', st b o' e'⟩
theorem Kp.leave (I : Inv X pins σ H1 s1) (hex : X.ex = []) (hst : X.stack = X.env :: X.outer) (hf : X.env.frame = some X.env.locals) (K : Kp X.prog X.w X.stack H1 s1.heap H2 h2 B) (st : B.StaysIn h3) (sl : h2.UpToSlots h3) :
    Kp X.prog X.w X.outer X.H₀ X.s₀.heap H2 h3 B := by
  have K3 := K.slots I st sl
  have fe : frs X.stack = X.env.locals :: X.fs := by rw [hst]; exact frs_cons hf
  have nex : ∀ b : Addr, b ∉ X.ex := fun b z => by rw [hex] at z; cases z
  have nin : ∀ b o, X.s₀.heap.get? b = some o → b ∉ X.fs → b ∉ frs X.stack := fun b o e hb z => by
    rw [fe] at z
    rcases List.mem_cons.mp z with z | z
    · have h1 := Heap.lt_size e
      have h2 := I.ok.above
      rw [z] at h1
      exact absurd (Nat.lt_of_lt_of_le h1 h2) (Nat.lt_irrefl _)
    · exact hb z
  have old : ∀ b o, X.s₀.heap.get? b = some o → X.H₀ b = none → b ∉ frs X.outer → B.get? b = some o := fun b o e n hb =>
    K.old b o (I.base.keep b o e n hb (nex b)) (I.base.free b o e n (nex b)) (nin b o e hb)
  refine ⟨K3.hok, ⟨fun b o e n hb _ => st b o (old b o e n hb), fun b o e n hb _ => ?_, fun b o e n _ => ?_, fun b o e _ => ?_, fun b xs e => K3.un.tups b xs (I.base.tups b xs e), fun b o u e => K3.un.frzs b o u (I.base.frzs b o u e), fun b ps e => ?_⟩, old, fun b o e hb => ?_, K3.trk⟩
  · obtain ⟨sl1, e1⟩ := I.base.slot b o e n hb (nex b)
    obtain ⟨sl2, e2⟩ := K3.un.slot b _ e1 (I.base.free b o e n (nex b)) (by rw [fe]; exact List.mem_cons_of_mem _ hb) (by simp)
    exact ⟨sl2, e2⟩
  · obtain ⟨o1, e1⟩ := I.base.there b o e (nex b)
    exact K3.un.free b o1 e1 (I.base.free b o e n (nex b)) (by simp)
  · obtain ⟨o1, e1⟩ := I.base.there b o e (nex b)
    exact K3.un.there b o1 e1 (by simp)
  · obtain ⟨m1, e1⟩ := I.base.tbls b ps e
    obtain ⟨m2, e2⟩ := K3.un.tbls b _ e1
    exact ⟨m1 ++ m2, by rw [e2, Array.append_assoc]⟩
  · obtain ⟨o1, e1⟩ := I.base.there b o e (nex b)
    exact K.has b o1 e1 (nin b o e hb)
end
noncomputable def CXE (P : Program) (w : World) : CXT := fun outer H s E e s' => ∃ (a : Addr) (C : Value) (H' : Hp) (B : Heap) (a0 : Value),
  e = .ref a ∧ s'.os = s.os ∧ AllBare s'.gens ∧ Kp P w outer H s.heap H' s'.heap B ∧ Heap.FlyingW B outer a C a0 s'.heap ∧ E C none H'
noncomputable def Raises (X : Cx) (E : XK) : Prop := ∀ (C : Value) (pins : List (Addr × Obj)) (σ : St) (H1 : Hp) (s1 : Shared) (h2 : Heap) (a : Addr) (vs : List Value), Inv X pins σ H1 s1 → Heap.MadeExcOf s1.heap h2 a C vs → E C none H1 → X.xe (.ref a) { s1 with heap := h2 }
section
variable {P : Program} {w : World} {K : PySem.W.Frag} {mg : Str → Option Value} {base : Heap} {N : List Str} {qual : Str} {scope : Scope} {f : Addr} {cd : Value} {A : Around} {outer : List Env} {s : Shared} {H : Hp} {E : XK}
theorem raises_cx : Raises (cxOf (CXE P w) P w K mg base N qual scope f cd A outer s H E) E := by
  intro C pins σ H1 s1 h2 a vs I hx q
  have hl := PySem.W.funFrames_hide (as := frs (cxOf (CXE P w) P w K mg base N qual scope f cd A outer s H E).stack) I.stack fun env he b hb => List.mem_filterMap.mpr ⟨env, he, hb⟩
  refine wpAny_leaves_madeW I.ok.frames rfl (fun b o q => PySem.W.of_hideAll _ q) hl hx fun h3 t fl _ _ sl => ?_
  exact ⟨a, C, H1, _, .ref t, rfl, I.os, I.bare, (Kp.raise I hx).leave I rfl rfl rfl fl.1 sl, fl, q⟩
end
/-! ### raise C(..), C a class of the text under a built-in error, without an __init__ -/
theorem excObj_of {K : PySem.W.Frag} {h : Heap} {C : Addr} {bmB : List Value} {newId : String} (X : K.In h) (q : PySem.W.excIn K C bmB newId = true) :
    ∃ bm N nm qn bs hdct sn sub ab col dd k0 k1 k2 k3 k5 mN, h.get? C = some (excClassObj nm qn C N bs bm hdct sn sub ab col dd k0 k1 k2 k3 k5 newId) ∧ h.Ns N mN ∧ mN "__init__" = none ∧ OwnTail h bmB bm := by
  unfold PySem.W.excIn at q
  split at q
  · rename_i d1 cd1 sl1 look
    split at q
    · rename_i C1 bm1 s0 s1 s2 s3 n1 s5 hmro hslots
      simp only [beq_iff_eq, Bool.not_eq_true', Bool.and_eq_true] at q
      obtain ⟨⟨⟨⟨⟨q1, q2⟩, hdel⟩, htl⟩, hns⟩, hini⟩ := q
      subst q1 q2
      obtain ⟨u1, u2, u3, u4, u5, u6, u7, u8, u9, u10, u11⟩ := cd1
      dsimp only at hmro hdel hns hini
      subst hmro hdel
      have es : sl1 = #[s0, s1, s2, s3, some (.builtin n1), s5] := by
        cases sl1 with
        | mk l =>
          have : l = [s0, s1, s2, s3, some (.builtin n1), s5] := hslots
          rw [this]
      subst es
      have at_ := X _ _ look
      refine ⟨bm1, u4, u1, u5, u2, u6, u7, u8, u9, u10, d1, s0, s1, s2, s3, s5, _, at_, .of_isNs (PySem.W.isNs_of_in X hns), ?_, PySem.W.tail_of_in X htl⟩
      exact PySem.W.nsMap_none_of_in X hns hini
    · cases q
  · cases q
section
variable {X : Cx} {E : XK} {C : Addr} {B newId initId : String} {bmB : List Value} {x : Str} {np cpos pos : Pos} {e₀ : Expr} {rest : List Expr} {t : TA}
noncomputable def tRaise (C : Addr) (E : XK) (t : TA) : TS := fun _ σ H => t σ H fun vs H1 => vs.length ≤ sizeLine ∧ E (.ref C) none H1
theorem ps_raise (R : Raises X E) (hc : X.calm = true) (hg : Gl X x) (hm : X.mg x = some (.ref C)) (hq : PySem.W.excIn X.K C bmB newId = true) (FB : ExcBaseFacts B newId initId bmB) (ha : PA X (e₀ :: rest) t)
    (he : starEach (e₀ :: rest) X.env = (false, eval e₀ X.env) :: starEach rest X.env := by rfl) (hpl : (backTo cpos (starEach rest X.env)).any (·.1) = false := by rfl) (hd : (x == ("__debug__" : Str)) = false := by decide) :
    PS X (.Raise (some (.Call (.Name x np) (e₀ :: rest) [] cpos)) none pos) (tRaise C E t) := by
  intro pins s σ H D I h
  obtain ⟨tl, N, nm, qn, bs, hdct, sn, sub, ab, col, dd, k0, k1, k2, k3, k5, mN, hC, hN, hni, T⟩ := excObj_of I.mod.kin hq
  refine wpAny_Raise_call_subT (k5 := k5) (k3 := k3) (k2 := k2) (k1 := k1) (k0 := k0) (dd := dd) (col := col) (ab := ab) (sub := sub) (sn := sn) (hdct := hdct) (bm := tl) (bs := bs) (N := N) (q := qn) (nm := nm) (C := C) FB (mN := mN) (T.hasType FB.hasBase) (I.ok.hd hc) ?_ hni (ld_glob I hg hm ⟨rfl, ?_⟩ hd)
  · rw [he]
    show (false || (backTo cpos (starEach rest X.env)).any (·.1)) = false
    rw [hpl]; rfl
  · have h1 := ha cpos pins s σ H _ I h
    rw [he] at h1 ⊢
    refine Calls.evalArgs_plain (wpAny_mono h1 (fun us s1 z => ?_) fun _ _ y => y)
    obtain ⟨vs, H1, I1, r, hz, q⟩ := z
    exact ⟨rfl, by rw [← r.length]; exact hz, I1.bk _ _ hC, hN.keeps I1.bk, T.keeps I1.bk, fun h' a hx => R _ pins σ H1 s1 h' a us I1 hx q⟩
end
end L2
namespace L2
open PySem PySem.Spec PyProof.Rows
/-! ### try: .. except C as n: .. -/
section
variable {X : Cx} {pins : List (Addr × Obj)} {σ : St} {H H1 H2 : Hp} {s s1 s2 : Shared} {B : Heap}
theorem Kp.inv (I : Inv X pins σ H1 s1) (K : Kp X.prog X.w X.stack H1 s1.heap H2 s2.heap B) (os : s2.os = s1.os) (bare : AllBare s2.gens) : Inv X pins σ H2 s2 :=
  I.call' os K.un K.hok bare fun b z => absurd z (by simp)
noncomputable abbrev Cx.hand (X : Cx) (a : Addr) : Cx := { X with A := X.A.mark (some (.ref a)), calm := false, xe := fun _ _ => False }
theorem Inv.hand (I : Inv X pins σ H s) (a : Addr) : Inv (X.hand a) pins σ H s :=
  ⟨⟨I.ok.mod, I.ok.kind, I.ok.glob, I.ok.blt, I.ok.above, I.ok.inj, I.ok.has, I.ok.cab, fun z => (Bool.false_ne_true z).elim, I.ok.frames, I.ok.stk, I.ok.exf, I.ok.bs, I.ok.bsz, I.ok.noex, I.ok.exfs, I.ok.funs, I.ok.frf⟩,
    I.os, I.bare, I.base, I.loc, I.cell, I.free, I.freeC, I.pin, I.hok, I.len⟩
theorem Inv.unhand {a : Addr} (ok : X.Ok) (I : Inv (X.hand a) pins σ H s) : Inv X pins σ H s := ⟨ok, I.os, I.bare, I.base, I.loc, I.cell, I.free, I.freeC, I.pin, I.hok, I.len⟩
theorem name_goesI {M : Model} {A : Around} {E : Value → Shared → Prop} {i : Nat} {n : Str} {pos : Pos} {Q : Unit → Shared → Prop} (I : Inv X pins σ H s) (hN : X.N.Nodup) (hi : X.N[i]? = some n) (hk : X.env.scope.names.lookup n = some .local)
    (h : ∀ s', Inv X pins (σ.set i none) H s' → Q () s') : wpAny M A (do bindName X.env n .none; unbindBehindTheSuite X.env n pos) Q E s := by
  obtain ⟨m, hn, hl⟩ := id I.loc
  have hcls : (X.env.scope.kind == .class || (X.env.scope.kind == .module && X.env.locals != X.env.globals)) = false := by rw [I.ok.kind]; rfl
  obtain ⟨oL, _, _, hoL, _⟩ := id hn
  refine wpAny_nameGoes_keeps hk hn hcls fun h' v hn' hs => ?_
  have old : ∀ b o, X.s₀.heap.get? b = some o → b ≠ X.env.locals := fun b o e => Nat.ne_of_lt (Nat.lt_of_lt_of_le (Heap.lt_size e) I.ok.above)
  refine h _ ⟨I.ok, I.os, I.bare, ⟨fun b o e n' hb hx => ?_, fun b o e n' hb hx => ?_, I.base.free, fun b o e hx => ?_, I.base.tups, I.base.frzs, I.base.tbls⟩, ⟨_, hn', fun j y v' e1 e2 e3 => ?_⟩, fun y c e => ?_, I.free, I.freeC, fun p hp => ?_, fun b ob e => ?_, by simpa using I.len⟩
  · exact (hs.2 b (old b o e)).trans (I.base.keep b o e n' hb hx)
  · obtain ⟨sl, q⟩ := I.base.slot b o e n' hb hx
    exact ⟨sl, (hs.2 b (old b o e)).trans q⟩
  · obtain ⟨o', q⟩ := I.base.there b o e hx
    exact ⟨o', (hs.2 b (old b o e)).trans q⟩
  · have hj : j ≠ i := by
      intro z; subst z
      rw [List.getElem?_set] at e2
      split at e2
      · split at e2 <;> cases e2
      · exact absurd rfl (by assumption)
    rw [List.getElem?_set_ne (Ne.symm hj)] at e2
    obtain ⟨u', r', q⟩ := hl j y v' e1 e2 e3
    refine ⟨u', r', ?_⟩
    rcases q with ⟨k, e⟩ | ⟨k, c, e, z⟩
    · refine .inl ⟨k, ?_⟩
      have hy : y ≠ n := fun e => hj (nodup_ix hN e1 (e ▸ hi))
      simp [hy, e]
    · exact .inr ⟨k, c, e, z.sameBut hs (I.cne y c e)⟩
  · obtain ⟨w', z⟩ := I.cell y c e
    exact ⟨w', z.sameBut hs (I.cne y c e)⟩
  · obtain ⟨e, n', ne, nf, d⟩ := I.pin p hp
    exact ⟨(hs.2 p.1 ne).trans e, n', ne, nf, d⟩
  · refine (I.hok b ob e).stay (fun c w' hc q => (hs.2 c ?_).trans q) (fun _ q => q) fun _ _ q => q
    rintro rfl
    rcases hc with z | z
    · rw [← z, I.free] at e; cases e
    · rw [I.free] at z; cases z
end
noncomputable def excO (a : Addr) (C : Value) : HO := .ext fun h => ∃ oe vs, h.get? a = some oe ∧ oe.cls = C ∧ oe.data = .fields vs
noncomputable def Hd (X : Cx) (hds : List ExceptHandler) (th : Value → TS) : Prop :=
  ∀ (pins : List (Addr × Obj)) (σ : St) (H1 H2 : Hp) (s1 s2 : Shared) (D : Ends) (a : Addr) (C : Value) (B : Heap) (a0 : Value), Inv X pins σ H1 s1 → s2.os = s1.os → AllBare s2.gens → Kp X.prog X.w X.stack H1 s1.heap H2 s2.heap B →
    Heap.FlyingW B X.stack a C a0 s2.heap → th C D σ H2 → wpAny (model X.prog X.w) X.A (handleBy (.ref a) X.env hds) (SP X pins D) X.xe s2
noncomputable def PEX (X : Cx) (e : Expr) (t : St → Hp → VK → XK → Prop) : Prop :=
  ∀ (pins : List (Addr × Obj)) (s : Shared) (σ : St) (H : Hp) (Q : VK) (E : XK), Inv X pins σ H s → t σ H Q E →
    wpAny (model X.prog X.w) X.A (eval e X.env) (EP X pins σ Q) (fun x s' => ∃ s1 H1, Inv X pins σ H1 s1 ∧ CXE X.prog X.w X.stack H1 s1 E x s') s
section
variable {X : Cx} {k j : Nat} {ps : List Str} {sp : Sp} {x : Str} {p pos : Pos} {e : Expr} {es : List Expr} {t : TA}
theorem pex_fn (F : FnAt X.prog X.w X.K X.mg X.base (CXE X.prog X.w) j x ps sp) (hr : Room k X.A) (hg : Gl X x) (ha : PA X.nox (e :: es) t) (hj : j ≤ k := by decide)
    (hdb : (x == ("__debug__" : Str)) = false := by decide) (he : starEach (e :: es) X.env = (false, eval e X.env) :: starEach es X.env := by rfl) (hpl : (backTo pos (starEach es X.env)).any (·.1) = false := by rfl) :
    PEX X (.Call (.Name x p) (e :: es) [] pos) (fun σ H Q E => t σ H fun vs H1 => sp vs H1 Q E) := by
  intro pins s σ H Q E I h
  obtain ⟨f, fd, G, m, kp, b⟩ := F.ex
  refine wpAny_Call_Name_kw (ld_glob I hg m ?_ hdb)
  refine PySem.W.callWith_K (h₀ := X.base) I.ok.mod.kin kp (wpAny_mono (ha pos pins s σ H _ (I.wish _) h) (fun us s1 ⟨vs, H1, I1', r, q⟩ => ⟨I1'.unwish.kIn, ?_⟩) fun _ _ z => z.elim) he hpl
  have I1 := I1'.unwish
  have hl : us.length = ps.length := by rw [← r.length]; exact G.len _ _ _ _ q
  have hb := b s1 us I1.kIn (by rw [List.append_nil]; exact hl)
  rw [List.append_nil] at hb
  refine wpAny_call (codeAny_mono (G.run X.A X.stack s1 H1 ⟨us, []⟩ us vs Q E (hr.mono hj) I1.env0 hb r q) fun r s' hq => ?_)
  cases r with
  | error x => exact ⟨s1, H1, I1, hq⟩
  | ok fl =>
    cases fl with
    | ret u => exact I1.after hq
    | next => exact False.elim hq
    | brk => exact False.elim hq
    | cont => exact False.elim hq
theorem to_hands {hd : ExceptHandler} {hds : List ExceptHandler} {th : Value → TS} {pins : List (Addr × Obj)} {σ : St} {H1 : Hp} {s1 s2 : Shared} {D : Ends} {E : XK} {ex : Value} (hst : X.stack = X.env :: X.outer) (hf : X.env.frame = some X.env.locals)
    (hh : Hd X (hd :: hds) th) (I1 : Inv X pins σ H1 s1) (hx : CXE X.prog X.w X.stack H1 s1 E ex s2) (hE : ∀ C dx H', E C dx H' → th C D σ H') :
    wpAny (model X.prog X.w) X.A (noteFrame ex X.env) (fun _ s₂ => wpAny (model X.prog X.w) X.A (setFlight ex none) (fun _ s₃ => wpAny (model X.prog X.w) X.A (handleBy ex X.env (hd :: hds)) (SP X pins D) X.xe s₃) X.xe s₂) X.xe s2 := by
  obtain ⟨a, C, H2, B, a0, rfl, os, bare, K, fl, q⟩ := hx
  rw [hst] at fl
  refine wpAny_looks_onW (by rw [I1.ok.frames, hst]) hf fl fun h3 held sl3 => ?_
  refine wpAny_landsW held fun h4 fl4 sl4 => ?_
  have st3 : B.StaysIn h3 := held.1
  have K3 := K.slots I1 st3 sl3
  have K4 := K3.slots I1 fl4.1 sl4
  rw [← hst] at fl4
  exact hh pins σ H1 H2 s1 { s2 with heap := h4 } D a C B a0 I1 os bare K4 fl4 (hE _ _ _ q)
end
section
variable {X : Cx} {pins : List (Addr × Obj)} {σ : St} {H : Hp} {s : Shared} {a : Addr} {o : HO}
theorem Inv.track (I : Inv X pins σ H s) (hn : H a = none) (hnew : X.s₀.heap.get? a = none) (hL : a ≠ X.env.locals) (hC : ∀ x c, X.env.cells.lookup x = some c → c ≠ a) (hP : ∀ p ∈ X.pn ++ pins, p.1 ≠ a)
    (ho : ObjOk X.prog X.w (upd H a o) s.heap a o) : Inv X pins σ (upd H a o) s := by
  have ne : ∀ b u, H b = some u → b ≠ a := fun b u e z => by rw [z, hn] at e; cases e
  refine ⟨I.ok, I.os, I.bare, ⟨I.base.keep, I.base.slot, fun b ob e n hx => ?_, I.base.there, fun b xs e => ?_, fun b ob u e => ?_, fun b ps e => ?_⟩, I.loc, I.cell, ?_, fun x c e => ?_, fun p hp => ?_, fun b u e => ?_, I.len⟩
  · rw [upd_ne (fun z => by rw [z, hnew] at e; cases e)]
    exact I.base.free b ob e n hx
  · have q := I.base.tups b xs e
    rw [upd_ne (ne b _ q)]; exact q
  · have q := I.base.frzs b ob u e
    rw [upd_ne (ne b _ q)]; exact q
  · obtain ⟨m, q⟩ := I.base.tbls b ps e
    exact ⟨m, by rw [upd_ne (ne b _ q)]; exact q⟩
  · rw [upd_ne (Ne.symm hL)]; exact I.free
  · rw [upd_ne (hC x c e)]; exact I.freeC x c e
  · obtain ⟨e1, e2, e3⟩ := I.pin p hp
    exact ⟨e1, by rw [upd_ne (hP p hp)]; exact e2, e3⟩
  · by_cases z : b = a
    · subst z; rw [upd_same] at e; cases e; exact ho
    · rw [upd_ne z] at e
      exact (I.hok b u e).stay (fun _ _ _ q => q) (fun c q => by rw [upd_ne (ne c _ q)]; exact q) fun c xs q => by rw [upd_ne (ne c _ q)]; exact q
end
noncomputable def handEnds (i : Nat) (D : Ends) : Ends where
  nx := fun σ' H' => D.nx (σ'.set i none) H'
  rt := D.rt
  bk := fun σ' H' => D.bk (σ'.set i none) H'
  ct := fun σ' H' => D.ct (σ'.set i none) H'
section
variable {X : Cx} {x n : Str} {C' : Addr} {i : Nat} {np pos : Pos} {b₀ : Stmt} {suite : List Stmt} {rest : List ExceptHandler} {ts : TS} {tr : Value → TS}
noncomputable def hAs (K : PySem.W.Frag) (C' : Addr) (i : Nat) (ts : TS) (tr : Value → TS) : Value → TS := fun C D σ H => ∃ b, PySem.W.exmOne K C (.ref C') = some b ∧
  if b = true then ∀ a, H a = none → ts (handEnds i D) (σ.set i (some (.ref a))) (upd H a (excO a C)) else tr C D σ H
theorem hd_as (hex : X.ex = []) (hN : X.N.Nodup) (hg : Gl X x) (hm : X.mg x = some (.ref C')) (hi : X.N[i]? = some n) (hk : X.env.scope.names.lookup n = some .local) (hs : ∀ a, PSs (X.hand a) (b₀ :: suite) ts) (hr : Hd X rest tr)
    (hd : (x == ("__debug__" : Str)) = false := by decide) : Hd X (.ExceptHandler (some (.Name x np)) (some n) (b₀ :: suite) pos :: rest) (hAs X.K C' i ts tr) := by
  intro pins σ H1 H2 s1 s2 D a C B a0 I1 os bare K fl h
  have I2 := K.inv I1 os bare
  obtain ⟨b, hb, h⟩ := h
  refine wpAny_handleBy_cons (codeAny_handlers_test (ld_glob (X := X.hand a) (I2.hand a) hg hm ?_ hd)) (by intro z; cases z)
  obtain ⟨oe, he, hcls⟩ := fl.there
  have LT : PySem.W.Looks (model X.prog X.w) s2.heap (typeOf (.ref a)) C := hcls ▸ (PySem.W.Looks.ld he).andThen .now
  refine (PySem.W.exm_one I2.kIn LT hb).here ?_
  cases b with
  | false => exact hr pins σ H1 H2 s1 s2 D a C B a0 I1 os bare K fl h
  | true =>
    refine codeAny_handlers_suite_as (lands_againW fl fun h6 fl6 sl6 => ?_)
    have K6 : Kp X.prog X.w X.stack H1 s1.heap H2 ({ s2 with heap := h6 } : Shared).heap B := K.slots I1 fl6.1 sl6
    have I6 := K6.inv I1 os bare
    -- the exception is none of what stood ahead of the call
    have new1 : s1.heap.get? a = none := by
      cases q : s1.heap.get? a with
      | none => rfl
      | some ob =>
        by_cases hb : a ∈ frs X.stack
        · obtain ⟨_, o', e', d'⟩ := I6.stack.mem hb
          obtain ⟨oe6, vs6, e6, _, d6, _⟩ := fl6.first
          rw [e6] at e'
          cases e'
          exact absurd d6 (d' vs6)
        · obtain ⟨o', e'⟩ := K.has a ob q hb
          rw [fl.2.1] at e'; cases e'
    have hn : H2 a = none := by
      cases q : H2 a with
      | none => rfl
      | some u =>
        obtain ⟨o', _, e'⟩ := K.trk a u q
        rw [fl.2.1] at e'; cases e'
    have new0 : X.s₀.heap.get? a = none := by
      cases q : X.s₀.heap.get? a with
      | none => rfl
      | some ob =>
        obtain ⟨o', e'⟩ := I1.base.there a ob q (by rw [hex]; simp)
        rw [new1] at e'; cases e'
    have hL : a ≠ X.env.locals := by
      intro z
      obtain ⟨m, ⟨oL, _, _, hoL, _⟩, _⟩ := I1.loc
      rw [← z, new1] at hoL; cases hoL
    have hCe : ∀ y c, X.env.cells.lookup y = some c → c ≠ a := fun y c e z => by
      obtain ⟨v, oc, hoc, _⟩ := I1.cell y c e
      rw [z, new1] at hoc; cases hoc
    have hPe : ∀ p ∈ X.pn ++ pins, p.1 ≠ a := fun p hp z => by
      have q := (I1.pin p hp).1
      rw [z, new1] at q; cases q
    have ho : ObjOk X.prog X.w (upd H2 a (excO a C)) h6 a (excO a C) := by
      obtain ⟨oe6, vs6, e6, c6, d6, _⟩ := fl6.first
      exact ⟨⟨oe6, vs6, e6, c6, d6⟩, ⟨oe6, e6⟩, fun g1 g2 ⟨o1, v1, q1, q2, q3⟩ kk => ⟨o1, v1, kk o1 q1, q2, q3⟩⟩
    have I7 : Inv X pins σ (upd H2 a (excO a C)) { s2 with heap := h6 } := I6.track hn new0 hL hCe hPe ho
    refine store_ok (X := X.hand a) (v := .ref a) (I7.hand a) hN hi (Or.inl hk) rfl (fun s8 I8 => ?_) (Or.inr hk)
    refine wpAny_mono (hs a pins s8 _ _ (handEnds i D) I8 (h a hn)) (fun f s9 q => ?_) fun _ _ z => z.elim
    cases f with
    | next =>
      obtain ⟨σ', H', I', q⟩ := q
      exact name_goesI (I'.unhand I1.ok) hN hi hk fun s10 I10 => ⟨_, _, I10, q⟩
    | brk =>
      obtain ⟨σ', H', I', q⟩ := q
      exact name_goesI (I'.unhand I1.ok) hN hi hk fun s10 I10 => ⟨_, _, I10, q⟩
    | cont =>
      obtain ⟨σ', H', I', q⟩ := q
      exact name_goesI (I'.unhand I1.ok) hN hi hk fun s10 I10 => ⟨_, _, I10, q⟩
    | ret u =>
      obtain ⟨v, σ', H', I', r, q⟩ := q
      exact name_goesI (I'.unhand I1.ok) hN hi hk fun s10 I10 => ⟨v, _, H', I10, r, q⟩
end
end L2
namespace L2
open PySem PySem.Spec PyProof.Rows PySem.W PySem.Builtin PySem.Builtin.ObjectAttr PySem.Builtin.Getset_descriptor
/-! ### isinstance of a caught exception -/
section
variable {prog : Program} {w : World} {A : Around} {E : Value → Shared → Prop}
theorem exc_get {a C : Addr} {tp : Value} {R : Result → Shared → Prop} {hh : Heap} {g : Array GenState} {dr : Drawn} {t : Nat} {os : OsState} (L0 : Looks (model prog w) hh (typeOf (.ref a)) (.ref C)) (L1 : Looks (model prog w) hh (isSubtype (.ref C) (.type "object")) true)
    (h : R (.ok (.ret (.ref C))) ⟨hh, g, dr, t, os⟩) : codeAny (model prog w) A (.call (.builtin "getset_descriptor.__get__") ⟨[.builtin "object.__class__", .ref a, tp], []⟩) R ⟨hh, g, dr, t, os⟩ := by
  have chk := KF.args_gs (.builtin "object.__class__") (.ref a) tp
  refine codeAny_call_builtin KF.slot_gs.plain KF.entry_gs ?_
  refine KF.slot_gs.check _ _ _ _ _ _ _ _ KF.type_class chk ?_
  unfold Builtin.«getset_descriptor.__get__» descrGet
  rw [dga_obj]
  refine wpAny_bind (wpAny_pure ?_)
  unfold descrGetter
  unfold descrCheckInstance descrNameAndClass isInstance
  simp only [KF.owner_class]
  repeat lk
  refine ⟨Code.quiet_builtin _ (by decide +kernel), ?_⟩
  refine codeAny_builtin KF.entry_class ?_
  unfold Builtin.«object.__class__»
  unfold shownTypeOf
  repeat lk
  exact h
theorem exc_ga {a C : Addr} {tk : Tok} {R : Result → Shared → Prop} {hh : Heap} {g : Array GenState} {dr : Drawn} {t : Nat} {os : OsState} {oe : Obj} (he : hh.get? a = some oe) (hc : oe.cls = .ref C) (L0 : Looks (model prog w) hh (typeOf (.ref a)) (.ref C))
    (L3 : Looks (model prog w) hh (typeLookup (.ref C) "__class__") (some (.builtin "object.__class__"))) (LB : Looks (model prog w) hh (isSubtype (.ref C) (.type "BaseException")) true)
    (LO : Looks (model prog w) hh (isSubtype (.ref C) (.type "object")) true) (h : R (.ok (.ret (.ref C))) ⟨hh, g, dr, t, os⟩) :
    codeAny (model prog w) A (.call (.builtin "BaseException.__getattribute__") ⟨[.ref a, .str "__class__" tk], []⟩) R ⟨hh, g, dr, t, os⟩ := by
  refine codeAny_call_builtin PySem.F.attr_ValueError.ga.plain PySem.F.entry_bexc_ga ?_
  have k1 : builtinKind "BaseException.__getattribute__" = some .slot := by decide +kernel
  have k2 : splitId "BaseException.__getattribute__" = some ("BaseException", "__getattribute__") := by decide +kernel
  have ha := PySem.F.args_bexc_ga (.ref a) (.str "__class__" tk)
  have f5 := PySem.F.typeOf_object_class
  have f6 := PySem.F.slot_gs_get.lookup
  have f7 := PySem.F.slot_gs_set.lookup
  simp only [checkBuiltinCall, k1, k2]
  refine wpAny_bind ?_
  unfold isInstance
  repeat (first | (with_reducible refine wpAny_loadPart_at he ?_; rw [hc]) | (with_reducible refine LB.at ?_) | wp_step)
  repeat (any_goals (first | assumption | (with_reducible refine wpAny_loadPart_at he ?_; rw [hc]) | (with_reducible refine L3.at ?_) | wp_step))
  refine exc_get L0 LO ?_
  repeat (any_goals (first | assumption | wp_step))
theorem exc_class {K : Frag} {a C : Addr} {s : Shared} {oe : Obj} {Q : Option Value → Shared → Prop} (X : K.In s.heap) (he : s.heap.get? a = some oe) (hc : oe.cls = .ref C)
    (hga : findIn K (.ref C) "__getattribute__" = some (some (.builtin "BaseException.__getattribute__"))) (hg2 : findIn K (.ref C) "__getattr__" = some none)
    (hcl : findIn K (.ref C) "__class__" = some (some (.builtin "object.__class__"))) (hmB : mroIn K C (.type "BaseException") = some true) (hmO : mroIn K C (.type "object") = some true)
    (h : Q (some (.ref C)) { s with toks := s.toks + 1 }) : wpAny (model prog w) A (getAttr? (.ref a) "__class__") Q E s := by
  obtain ⟨hh, g, d, t, os⟩ := s
  have L0 : Looks (model prog w) hh (typeOf (.ref a)) (.ref C) := hc ▸ (Looks.ld he).andThen .now
  have L1 : Looks (model prog w) hh (typeLookup (.ref C) "__getattribute__") (some (.builtin "BaseException.__getattribute__")) := looks_findIn X hga
  have L2 : Looks (model prog w) hh (typeLookup (.ref C) "__getattr__") none := looks_findIn X hg2
  have L3 : Looks (model prog w) hh (typeLookup (.ref C) "__class__") (some (.builtin "object.__class__")) := looks_findIn X hcl
  have LB : Looks (model prog w) hh (isSubtype (.ref C) (.type "BaseException")) true := looks_mroIn X hmB
  have LO : Looks (model prog w) hh (isSubtype (.ref C) (.type "object")) true := looks_mroIn X hmO
  have f3 := PySem.F.attr_ValueError.ga.bind (.ref a)
  unfold getAttr? getAttrBy? getAttrBy
  refine wpAny_bind (wpAny_mkText (wpAny_bind (wpAny_attempt (wpAny_holding (wpAny_bind (L0.at (wpAny_bind (L1.at ?_))))))))
  have hx2 : (Value.builtin "BaseException.__getattribute__" == Value.builtin "object.__getattribute__") = false := by decide +kernel
  dsimp only
  rw [hx2, Bool.and_false, if_neg Bool.false_ne_true]
  unfold getAttrByItsOwn
  repeat (any_goals (first | assumption | wp_step | (with_reducible refine L2.at ?_) | (with_reducible refine L0.at ?_)))
  refine exc_ga he hc L0 L3 LB LO ?_
  repeat (any_goals (first | assumption | wp_step))
structure ExcK (K : Frag) (C : Addr) : Prop where
  ga : findIn K (.ref C) "__getattribute__" = some (some (.builtin "BaseException.__getattribute__"))
  g2 : findIn K (.ref C) "__getattr__" = some none
  cl : findIn K (.ref C) "__class__" = some (some (.builtin "object.__class__"))
  mB : mroIn K C (.type "BaseException") = some true
  mO : mroIn K C (.type "object") = some true
theorem ExcK.cls {K : Frag} {C : Addr} (k : ExcK K C) : ∃ c d cd sl, K.lookup C = some ⟨c, d, .cls cd, sl⟩ := by
  have h := k.mO
  unfold mroIn clsIn at h
  split at h
  · rename_i c d cd sl e; exact ⟨c, d, cd, sl, e⟩
  · cases h
theorem kitx_exc {K : Frag} {a C : Addr} (k : ExcK K C) : KitX K (.ref a) (.ref C) (fun h => ∃ oe vs, h.get? a = some oe ∧ oe.cls = .ref C ∧ oe.data = .fields vs) where
  ty := fun _ _ _ ⟨oe, _, e, c, _⟩ => c ▸ (Looks.ld e).andThen .now
  it := fun _ _ X _ => by
    obtain ⟨c, d, cd, sl, e⟩ := k.cls
    intro A' Q' E' s' kk q
    unfold isType loadHead
    refine wpAny_bind (wpAny_loadPart (kk _ _ (X _ _ e)) ?_)
    exact wpAny_pure q
  ne := fun h tp dd its n sl X htp => by
    obtain ⟨c, d, cd, sl', e⟩ := k.cls
    cases q : (Value.ref C == Value.ref tp) with
    | false => rfl
    | true =>
      have z : C = tp := Value.ref.inj (beq_iff_eq.mp q)
      subst z
      have z2 := (X _ _ e).symm.trans htp
      cases z2
  ca := fun X ⟨oe, vs, e, c, _⟩ q => exc_class X e c k.ga k.g2 k.cl k.mB k.mO q
end
section
variable {X : Cx}
theorem refs_of : ∀ {Ds : List Addr} {its : List Value}, Vals (Ds.map V.ref) its → its = Ds.map Value.ref
  | [], _, .nil => rfl
  | D :: Ds, _, .cons z zs => by cases z; rw [List.map_cons, refs_of zs]
theorem call_isiE : CallR X (.builtin "isinstance") (fun xs H Q => ∃ a C c b, xs = [.ref a, c] ∧ H a = some (excO a (.ref C)) ∧ ExcK X.K C ∧
    ((∃ n, c = .ty n ∧ kitOne X.K (.ref C) (.type n) = some b) ∨ (∃ D, c = .ref D ∧ kitOne X.K (.ref C) (.ref D) = some b) ∨ (∃ (p : Addr) (Ds : List Addr), c = .ref p ∧ H p = some (.tup (Ds.map V.ref)) ∧ kitAny X.K (.ref C) (Ds.map Value.ref) = some b)) ∧ Q (.bl b) H) := by
  intro pins s σ H xs us Q I r h
  obtain ⟨a, C, c, b, rfl, hH, hk, hc, q⟩ := h
  obtain ⟨u, u', rfl, ru, ru'⟩ := vals2 r
  cases ru
  have ho := I.hok a _ hH
  unfold excO at ho
  obtain ⟨hφ, _, _⟩ := ho
  have fin : ∀ tk, EP X pins σ Q (.bool b) { s with toks := tk } := fun tk => ⟨.bl b, H, I.tok tk, rfl, q⟩
  rcases hc with ⟨n, rfl, e⟩ | ⟨D, rfl, e⟩ | ⟨p, Ds, rfl, hp, e⟩
  · cases ru'
    exact kia_one (kitx_exc hk) I.kIn hφ e (fun z => nomatch z) fin
  · cases ru'
    exact kia_one (kitx_exc hk) I.kIn hφ e (fun z => nomatch z) fin
  · cases ru'
    obtain ⟨hz0, its, rv, ob, e1, e2, n, e3⟩ := (show ObjOk X.prog X.w H s.heap p (.tup (Ds.map V.ref)) from I.hok p _ hp)
    have ei : its = Ds.map Value.ref := refs_of rv
    subst ei
    obtain ⟨oc, od, oda, osl⟩ := ob
    dsimp only at e2 e3
    subst e2 e3
    exact kia_tup (kitx_exc hk) I.kIn hφ e1 e (fun z => nomatch z) fin
end
end L2
namespace L2
open PySem PySem.Spec PyProof.Rows
/-! ### a list comprehension of one for, with at most one if: its block is a context of its own within the def's -/
noncomputable def closOf (cells : List (Str × Addr)) : List (Str × NameKind) → List (Str × Addr) → List (Str × Addr)
  | [], cs => cs
  | x :: r, cs => closOf cells r (if x.2 == .free then (match cells.lookup x.1 with | some a => (x.1, a) :: cs | none => cs) else cs)
theorem closureFor_eq {scope : Scope} {env : Env} (h : ∀ x ∈ scope.names, x.2 = .free → ∃ a, env.cells.lookup x.1 = some a) : closureFor scope env = pure (closOf env.cells scope.names []) := by
  have aux : ∀ (names : List (Str × NameKind)) (cs : List (Str × Addr)), (∀ x ∈ names, x.2 = .free → ∃ a, env.cells.lookup x.1 = some a) →
      (forIn (m := Sem) names cs fun x r => do
        if (x.2 == NameKind.free) = true then do
          let a ← cellOf env x.1
          pure (ForInStep.yield ((x.1, a) :: r))
        else pure (ForInStep.yield r)) = pure (closOf env.cells names cs) := by
    intro names
    induction names with
    | nil => intro cs _; rfl
    | cons x r ih =>
      intro cs hx
      rw [List.forIn_cons]
      cases hk : (x.2 == NameKind.free) with
      | false =>
        simp only [Bool.false_eq_true, if_false, pure_bind]
        rw [ih cs fun y hy => hx y (List.mem_cons_of_mem _ hy)]
        show _ = pure (closOf env.cells r (if x.2 == .free then _ else cs))
        rw [hk]; rfl
      | true =>
        obtain ⟨a, ha⟩ := hx x List.mem_cons_self (by simpa using hk)
        have e : cellOf env x.1 = pure a := by unfold cellOf; rw [ha]
        simp only [if_true, e, pure_bind]
        rw [ih _ fun y hy => hx y (List.mem_cons_of_mem _ hy)]
        show _ = pure (closOf env.cells r (if x.2 == .free then (match env.cells.lookup x.1 with | some a => (x.1, a) :: cs | none => cs) else cs))
        rw [hk, ha]; rfl
  have h1 := aux scope.names [] h
  unfold closureFor
  simp only [bind_pure]
  exact h1
theorem closOf_sub {cells : List (Str × Addr)} : ∀ {names : List (Str × NameKind)} {cs : List (Str × Addr)}, (∀ p ∈ cs, cells.lookup p.1 = some p.2) → ∀ p ∈ closOf cells names cs, cells.lookup p.1 = some p.2
  | [], _, h => h
  | x :: r, cs, h => closOf_sub (names := r) fun p hp => by
    split at hp
    · split at hp
      · rename_i a ha
        rcases List.mem_cons.mp hp with rfl | hp
        · exact ha
        · exact h p hp
      · exact h p hp
    · exact h p hp
theorem closOf_mono {cells : List (Str × Addr)} : ∀ {names : List (Str × NameKind)} {cs : List (Str × Addr)} {p : Str × Addr}, p ∈ cs → p ∈ closOf cells names cs
  | [], _, _, h => h
  | x :: r, cs, p, h => closOf_mono (names := r) (by
    split
    · split
      · exact List.mem_cons_of_mem _ h
      · exact h
    · exact h)
theorem closOf_has {cells : List (Str × Addr)} {x : Str} {a : Addr} (ha : cells.lookup x = some a) : ∀ {names : List (Str × NameKind)} {cs : List (Str × Addr)}, (x, NameKind.free) ∈ names → (x, a) ∈ closOf cells names cs
  | y :: r, cs, h => by
    rcases List.mem_cons.mp h with rfl | h
    · refine closOf_mono (names := r) ?_
      simp [ha]
    · exact closOf_has ha (names := r) h
theorem lookup_mem {α : Type} {x : Str} {v : α} : ∀ {l : List (Str × α)}, l.lookup x = some v → (x, v) ∈ l
  | [], h => by simp at h
  | (y, u) :: r, h => by
    rw [List.lookup_cons] at h
    cases e : x == y with
    | true => rw [e] at h; cases h; rw [beq_iff_eq.mp e]; exact List.mem_cons_self
    | false => rw [e] at h; exact List.mem_cons_of_mem _ (lookup_mem h)
theorem mem_lookup {α : Type} {x : Str} {v : α} : ∀ {l : List (Str × α)}, (x, v) ∈ l → ∃ u, l.lookup x = some u
  | (y, u) :: r, h => by
    rw [List.lookup_cons]
    cases e : x == y with
    | true => exact ⟨u, rfl⟩
    | false =>
      rcases List.mem_cons.mp h with z | z
      · cases z; simp at e
      · exact mem_lookup z
noncomputable def compOk (osc scope : Scope) (N Tn Fn : List Str) (js : List Nat) : Bool :=
  (scope.kind == .function) && (osc.kind == .function) && (scope.names.all fun y => match y.2 with
    | .cell => false
    | .local => scope.names.lookup y.1 == some .local
    | .free => osc.names.lookup y.1 == some .cell && scope.names.lookup y.1 == some .free
    | _ => true) && (js.map (fun j => N[j]?) == Fn.map some) && (Fn.all fun x => scope.names.lookup x == some .free) && (Tn.all fun x => scope.names.lookup x == some .local) && decide (Tn ++ Fn).Nodup
structure CompScope (osc scope : Scope) (N Tn Fn : List Str) (js : List Nat) : Prop where
  kind : scope.kind = .function
  okind : osc.kind = .function
  nocell : ∀ y ∈ scope.names, y.2 ≠ .cell
  loc : ∀ y ∈ scope.names, y.2 = .local → scope.names.lookup y.1 = some .local
  fre : ∀ y ∈ scope.names, y.2 = .free → osc.names.lookup y.1 = some .cell
  idx : js.map (fun j => N[j]?) = Fn.map some
  fn : ∀ x ∈ Fn, scope.names.lookup x = some .free
  tn : ∀ x ∈ Tn, scope.names.lookup x = some .local
  nd : (Tn ++ Fn).Nodup
theorem CompScope.of {osc scope : Scope} {N Tn Fn : List Str} {js : List Nat} (h : compOk osc scope N Tn Fn js = true) : CompScope osc scope N Tn Fn js := by
  unfold compOk at h
  simp only [Bool.and_eq_true, beq_iff_eq, decide_eq_true_eq, List.all_eq_true] at h
  obtain ⟨⟨⟨⟨⟨⟨h1, h1'⟩, h2⟩, h3⟩, h4⟩, h5⟩, h6⟩ := h
  refine ⟨h1, h1', fun y hy e => ?_, fun y hy e => ?_, fun y hy e => ?_, h3, h4, h5, h6⟩
  · have := h2 y hy; rw [e] at this; cases this
  · have := h2 y hy; rw [e] at this; simpa using this
  · have := h2 y hy; rw [e] at this; simp only [Bool.and_eq_true, beq_iff_eq] at this; exact this.1
noncomputable def cxIn (X : Cx) (N : List Str) (scope : Scope) (cl : List (Str × Addr)) (C : Addr) (s : Shared) (H : Hp) (fp : List Addr) : Cx :=
  { X with N := N, s₀ := s, H₀ := H, env := compEnvC scope cl C X.env, outer := X.stack, ex := fp, fn := fun _ => false, pn := [], xe := fun _ _ => False }
noncomputable def innS (k : Nat) (js : List Nat) (σ : St) : St := List.replicate k none ++ js.map fun j => (σ[j]?).join
theorem lookup_relabel {env : Env} (hk : env.scope.kind = .function) : ∀ {names : List (Str × NameKind)} {x : Str} {k : NameKind}, (∀ y ∈ names, y.2 = .free → env.kindOf y.1 = some .cell) → names.lookup x = some k →
    (names.map fun (n, k) => if (k == NameKind.free && env.scope.kind == .function && env.kindOf n == some .cell) then (n, NameKind.cell) else (n, k)).lookup x = some (if k = .free then .cell else k)
  | [], _, _, _, h => by simp at h
  | (n, k') :: r, x, k, hf, h => by
    have ih := @lookup_relabel env hk r x k fun y hy => hf y (List.mem_cons_of_mem _ hy)
    have h0 := hf (n, k') List.mem_cons_self
    rw [List.map_cons]
    show List.lookup x ((if (k' == NameKind.free && env.scope.kind == .function && env.kindOf n == some .cell) = true then (n, NameKind.cell) else (n, k')) :: _) = _
    rw [List.lookup_cons] at h
    by_cases hk' : k' = .free
    · subst hk'
      have e : (NameKind.free == NameKind.free && env.scope.kind == .function && env.kindOf n == some .cell) = true := by rw [h0 rfl, hk]; decide
      rw [if_pos e, List.lookup_cons]
      cases hx : x == n with
      | true => rw [hx] at h; cases h; rfl
      | false => rw [hx] at h; exact ih h
    · have e : ¬ (k' == NameKind.free && env.scope.kind == .function && env.kindOf n == some .cell) = true := by
        intro z; simp only [Bool.and_eq_true, beq_iff_eq] at z; exact hk' z.1.1
      rw [if_neg e, List.lookup_cons]
      cases hx : x == n with
      | true => rw [hx] at h; cases h; simp [hk']
      | false => rw [hx] at h; exact ih h
theorem relabel_of {env : Env} : ∀ {names : List (Str × NameKind)} {x : Str} {k : NameKind}, (names.map fun (n, k) => if (k == NameKind.free && env.scope.kind == .function && env.kindOf n == some .cell) then (n, NameKind.cell) else (n, k)).lookup x = some k →
    ∃ k', (x, k') ∈ names ∧ (k' = k ∨ (k' = .free ∧ k = .cell))
  | [], _, _, h => by simp at h
  | (n, k') :: r, x, k, h => by
    have ih := @relabel_of env r x k
    rw [List.map_cons] at h
    have h : List.lookup x ((if (k' == NameKind.free && env.scope.kind == .function && env.kindOf n == some .cell) = true then (n, NameKind.cell) else (n, k')) :: _) = some k := h
    by_cases e : (k' == NameKind.free && env.scope.kind == .function && env.kindOf n == some .cell) = true
    · rw [if_pos e, List.lookup_cons] at h
      cases hx : x == n with
      | true =>
        rw [hx] at h; cases h
        simp only [Bool.and_eq_true, beq_iff_eq] at e
        refine ⟨.free, ?_, .inr ⟨rfl, rfl⟩⟩
        rw [beq_iff_eq.mp hx, ← e.1.1]; exact List.mem_cons_self
      | false => rw [hx] at h; obtain ⟨q, m, z⟩ := ih h; exact ⟨q, List.mem_cons_of_mem _ m, z⟩
    · rw [if_neg e, List.lookup_cons] at h
      cases hx : x == n with
      | true => rw [hx] at h; cases h; refine ⟨k', ?_, .inl rfl⟩; rw [beq_iff_eq.mp hx]; exact List.mem_cons_self
      | false => rw [hx] at h; obtain ⟨q, m, z⟩ := ih h; exact ⟨q, List.mem_cons_of_mem _ m, z⟩
section
variable {X : Cx} {pins : List (Addr × Obj)} {σ : St} {H : Hp} {s : Shared} {scope : Scope} {Tn Fn : List Str} {js : List Nat} {fp : List Addr}
theorem inv_in {C : Addr} {h1 : Heap} {tk : Nat} {mC : Str → Option Value} (cs : CompScope X.env.scope scope X.N Tn Fn js) (I : Inv X pins σ H s) (hC : C = s.heap.objs.size) (hn : h1.Ns C mC) (k1 : ∀ b o, s.heap.get? b = some o → h1.get? b = some o)
    (hf : ∀ b ∈ fp, FpOk X pins H b) (ho : ∀ b ∈ fp, ∃ o, s.heap.get? b = some o) :
    Inv (cxIn X (Tn ++ Fn) scope (closOf X.env.cells scope.names []) C s H fp) (X.pn ++ pins) (innS Tn.length js σ) H { s with heap := h1, toks := tk } := by
  have hcl : ∀ x c, (closOf X.env.cells scope.names []).lookup x = some c → X.env.cells.lookup x = some c := fun x c e => closOf_sub (names := scope.names) (cs := []) (fun _ z => nomatch z) _ (lookup_mem e)
  have hlen : (js.map fun j => X.N[j]?).length = (Fn.map some).length := congrArg List.length cs.idx
  rw [List.length_map, List.length_map] at hlen
  have hfr : ∀ y ∈ scope.names, y.2 = .free → X.env.kindOf y.1 = some .cell := cs.fre
  subst hC
  refine ⟨⟨I.ok.mod, cs.kind, I.ok.glob, I.ok.blt, Nat.le_refl _, fun x y c e1 e2 => I.ok.inj x y c (hcl x c e1) (hcl y c e2), fun x hx => ?_, fun x c z => absurd z Bool.false_ne_true, I.ok.hd, I.ok.frames, .inl rfl, fun b hb => ⟨?_, fun x c e => (hf b hb).2.2.2.2.1 x c (hcl x c e)⟩, I.bs,
    Nat.le_trans I.ok.bsz I.sz, fun b o e hb => ?_, fun b hb z => ?_, I.stack, I.stkFree⟩, rfl, I.bare, Un.kept k1, ⟨mC, hn, fun i x v e1 e2 e3 => ?_⟩, fun x c e => ?_, I.fresh, fun x c e => I.freeC x c (hcl x c e), fun p hp => ?_, I.hok.kept k1, ?_⟩
  · -- has
    have hx : (relabel scope X.env).names.lookup x = some .cell ∨ (relabel scope X.env).names.lookup x = some .free := hx
    have key : (x, NameKind.free) ∈ scope.names := by
      rcases hx with hx | hx
      · obtain ⟨k', m, z⟩ := relabel_of hx
        rcases z with z | ⟨z, _⟩
        · subst z; exact absurd rfl (cs.nocell _ m)
        · subst z; exact m
      · obtain ⟨k', m, z⟩ := relabel_of hx
        rcases z with z | ⟨_, z⟩
        · subst z; exact m
        · cases z
    obtain ⟨a, ha⟩ := I.ok.has x (.inl (hfr _ key rfl))
    exact mem_lookup (closOf_has ha key)
  · obtain ⟨o, e⟩ := ho b hb
    exact Nat.ne_of_lt (Heap.lt_size e)
  · rcases (hf b hb).2.2.2.1 with z | z
    · exact I.ok.noex b o e z
    · exact absurd (Nat.lt_of_lt_of_le (Heap.lt_size (I.ok.bs b o e).1) z) (Nat.lt_irrefl _)
  · rcases List.mem_cons.mp (I.stkSub b z) with q | q
    · exact (hf b hb).2.1 q
    · exact (hf b hb).2.2.1 q
  · -- names
    have e1 : (Tn ++ Fn)[i]? = some x := e1
    have e2 : (List.replicate Tn.length none ++ js.map fun j => (σ[j]?).join)[i]? = some (some v) := e2
    by_cases hi : i < Tn.length
    · rw [List.getElem?_append_left (by simpa using hi), List.getElem?_replicate] at e2
      split at e2 <;> cases e2
    · rw [List.getElem?_append_right (by simpa using hi)] at e2
      rw [List.getElem?_append_right (by simpa using hi)] at e1
      rw [List.length_replicate, List.getElem?_map] at e2
      cases ej : js[i - Tn.length]? with
      | none => rw [ej] at e2; cases e2
      | some j =>
        rw [ej] at e2
        have e2 : (σ[j]?).join = some v := by simpa using e2
        have e2' : σ[j]? = some (some v) := by
          cases q : σ[j]? with
          | none => rw [q] at e2; cases e2
          | some o => rw [q] at e2; cases o with
            | none => cases e2
            | some v' => cases e2; rfl
        have ej' : X.N[j]? = some x := by
          have h0 : (js.map fun j => X.N[j]?)[i - Tn.length]? = (Fn.map some)[i - Tn.length]? := by rw [cs.idx]
          rw [List.getElem?_map, ej, List.getElem?_map, e1] at h0
          simpa using h0
        have hx : scope.names.lookup x = some .free := cs.fn x (List.mem_of_getElem? e1)
        have hox : X.env.kindOf x = some .cell := hfr _ (lookup_mem hx) rfl
        obtain ⟨m, hm, hl⟩ := I.loc
        obtain ⟨u, r, l⟩ := hl j x v ej' e2' (.inr (.inl hox))
        refine ⟨u, r, .inr ⟨.inl ?_, ?_⟩⟩
        · show (relabel scope X.env).names.lookup x = some .cell
          have z := lookup_relabel (env := X.env) cs.okind (names := scope.names) hfr hx
          rw [if_pos rfl] at z
          exact z
        · rcases l with ⟨k, _⟩ | ⟨_, c, ec, z⟩
          · rw [hox] at k; cases k
          · obtain ⟨c', e'⟩ := mem_lookup (closOf_has (cs := []) ec (lookup_mem hx))
            have : c' = c := Option.some.inj ((hcl x c' e').symm.trans ec)
            subst this
            obtain ⟨o, q1, q2⟩ := z
            exact ⟨c', e', o, k1 _ _ q1, q2⟩
  · obtain ⟨v, o, q1, q2⟩ := I.cell x c (hcl x c e)
    exact ⟨v, o, k1 _ _ q1, q2⟩
  · have hp : p ∈ ([] : List (Addr × Obj)) ++ (X.pn ++ pins) := hp
    rw [List.nil_append] at hp
    obtain ⟨e, n, ne, nf, d⟩ := I.pin p hp
    refine ⟨k1 _ _ e, n, Nat.ne_of_lt (Heap.lt_size e), fun z => ?_, d⟩
    rcases List.mem_cons.mp (I.stkSub p.1 z) with q | q
    · exact ne q
    · exact nf q
  · show (List.replicate Tn.length none ++ js.map fun j => (σ[j]?).join).length = (Tn ++ Fn).length
    rw [List.length_append, List.length_append, List.length_replicate, List.length_map, hlen]
structure CFree (X : Cx) (pins : List (Addr × Obj)) (C : Addr) : Prop where
  nl : C ≠ X.env.locals
  yg : X.s₀.heap.objs.size ≤ C
  nc : ∀ x c, X.env.cells.lookup x = some c → c ≠ C
  np : ∀ p ∈ X.pn ++ pins, p.1 ≠ C
theorem Inv.letgo {C : Addr} {h2 : Heap} (I : Inv X pins σ H s) (hn : H C = none) (c : CFree X pins C) (sb : Heap.SameBut C s.heap h2) : Inv X pins σ H { s with heap := h2 } :=
  I.turned (t' := s.toks) (it := C) (fun b o hb e => (sb.2 b hb).trans e) hn c.nl (.inr c.yg) c.nc c.np
theorem Inv.cfree {C : Addr} (I : Inv X pins σ H s) (hC : C = s.heap.objs.size) : CFree X pins C := by
  refine ⟨by rw [hC]; exact Nat.ne_of_gt I.lt, by rw [hC]; exact I.sz, fun x c e z => ?_, fun p hp z => ?_⟩
  · obtain ⟨v, q⟩ := I.cell x c e
    have := q.lt
    rw [z, hC] at this; exact absurd this (Nat.lt_irrefl _)
  · have := Heap.lt_size (I.pin p hp).1
    rw [z, hC] at this; exact absurd this (Nat.lt_irrefl _)
theorem inv_out {C : Addr} {cl : List (Str × Addr)} {N : List Str} {σ' : St} {H' : Hp} {pins' : List (Addr × Obj)} {s' : Shared} (I : Inv X pins σ H s) (hf : ∀ b ∈ fp, FpOk X pins H b) (J : Inv (cxIn X N scope cl C s H fp) pins' σ' H' s') : Inv X pins σ H' s' :=
  I.call' (ch := fp) J.os J.base J.hok J.bare fun b hb => ⟨(hf b hb).2.2.2.1, (hf b hb).2.1, (hf b hb).2.2.2.2.1, (hf b hb).2.2.2.2.2⟩
end
/-! the loop of the block -/
section
variable {prog : Program} {w : World} {A : Around} {s : Shared}
theorem compLoop_go {elt target iter : Expr} {ifs : List Expr} {scope : Scope} {pos : Pos} {it acc : Value} {env : Env} {R : Result → Shared → Prop} (I : Nat → Shared → Prop)
    (turn : ∀ n s, I n s → wpAny (model prog w) A (pyNext it) (fun r s₁ => match r with
      | none => R (.ok .next) s₁
      | some v => wpAny (model prog w) A (letOwnedTupleGo target it v) (fun _ s₀ => wpAny (model prog w) A (assign target env v) (fun _ s₂ =>
          wpAny (model prog w) A (forIn ifs true fun c r => if r = true then do let ok ← isTrue c env (eval c env); pure (ForInStep.yield ok) else pure (ForInStep.yield r)) (fun ok s₃ =>
            if ok = true then wpAny (model prog w) A (eval elt env) (fun x s₄ =>
              wpAny (model prog w) A (call (.builtin "list.append") [acc, x]) (fun _ s₅ => ∃ m, m < n ∧ I m s₅) (fun _ _ => False) s₄) (fun _ _ => False) s₃
            else ∃ m, m < n ∧ I m s₃) (fun _ _ => False) s₂) (fun _ _ => False) s₀) (fun _ _ => False) s₁) (fun _ _ => False) s)
    (n : Nat) (h : I n s) : codeAny (model prog w) A (.compLoop (.ListComp elt [⟨target, iter, ifs, 0⟩] scope pos) 0 it acc env) R s := by
  refine codeAny_loop rfl I (fun n s hI => ?_) n h
  show wpAny _ A ((compTurn (.ListComp elt [⟨target, iter, ifs, 0⟩] scope pos) 0 it acc env).onRaise (fun x => do noteFrame x env; theTreesLotGoes x)) _ _ s
  refine wpAny_noted ?_
  rw [compTurn_list]
  refine wpAny_bind (wpAny_standAt (wpAny_bind (wpAny_mono (turn n s hI) (fun r s₁ h₁ => ?_) fun _ _ h' => h'.elim)))
  cases r with
  | none => exact wpAny_pure h₁
  | some v =>
    refine wpAny_bind (wpAny_mono h₁ (fun _ s₀ h₀' => ?_) fun _ _ h' => h'.elim)
    refine wpAny_bind (wpAny_mono h₀' (fun _ s₂ h₂ => wpAny_bind (wpAny_mono h₂ (fun ok s₃ h₃ => ?_) fun _ _ h' => h'.elim)) fun _ _ h' => h'.elim)
    cases ok with
    | false => exact wpAny_pure ⟨rfl, h₃⟩
    | true =>
      exact wpAny_bind (wpAny_bind (wpAny_mono h₃ (fun x s₄ h₄ => wpAny_bind (wpAny_mono h₄ (fun _ s₅ h₅ => wpAny_pure (wpAny_pure ⟨rfl, h₅⟩)) fun _ _ h' => h'.elim)) fun _ _ h' => h'.elim))
end
noncomputable def PIfs (X : Cx) (ifs : List Expr) (t : TT) : Prop :=
  ∀ (pins : List (Addr × Obj)) (s : Shared) (σ : St) (H : Hp) (Q : Bool → Hp → Prop), Inv X pins σ H s → t σ H Q →
    wpAny (model X.prog X.w) X.A (forIn ifs true fun c r => if r = true then do let ok ← isTrue c X.env (eval c X.env); pure (ForInStep.yield ok) else pure (ForInStep.yield r)) (TP X pins σ Q) X.xe s
noncomputable abbrev tTrue : TT := fun _ H Q => Q true H
theorem pif_none {X : Cx} : PIfs X [] tTrue := fun _ _ _ H _ I h => wpAny_tests_nil ⟨H, I, h⟩
noncomputable def tBlock (J : It) (g : TG) (tc : TT) (te : TE) (D : Addr) (Z : Hp → Prop) (σ : St) (H : Hp) : Prop :=
  ∃ W : Nat → Nat → St → Hp → Prop, (∃ m, W 0 m σ H) ∧ ∀ i m σ H, W i m σ H →
    (J.stop i H ∧ Z H) ∨ (J.go i H ∧ ∃ N : St → Hp → Prop, (∀ σ' H', N σ' H' → ∃ m', m' < m ∧ W (i + 1) m' σ' H') ∧
      ∀ x H', J.yld i H x H' → g x σ H' fun σ2 H2 => tc σ2 H2 fun b H3 => if b = true then te σ2 H3 fun y H4 => ∃ ys, H4 D = some (.lst ys) ∧ ys.length < sizeLine ∧ N σ2 (upd H4 D (.lst (ys ++ [y]))) else N σ2 H3)
section
variable {X : Cx} {scope : Scope} {Tn Fn : List Str} {js : List Nat} {tg iter elt : Expr} {ifs : List Expr} {wi : TI} {g : TG} {tc : TT} {te : TE} {pos : Pos}
theorem block_run {pins : List (Addr × Obj)} {σ : St} {H2 : Hp} {s2 : Shared} {it : Addr} {fp : List Addr} {tn : Nat → Heap → Prop} {J : It} {Z : Addr → Hp → Prop} {RR : Value → Addr → Result → Shared → Prop} {E : Value → Shared → Prop} (hc : X.calm = true)
    (cs : CompScope X.env.scope scope X.N Tn Fn js)
    (hg : ∀ C s H fp, PG (cxIn X (Tn ++ Fn) scope (closOf X.env.cells scope.names []) C s H fp) tg g) (ht : ∀ C s H fp, PIfs (cxIn X (Tn ++ Fn) scope (closOf X.env.cells scope.names []) C s H fp) ifs tc)
    (he : ∀ C s H fp, PE (cxIn X (Tn ++ Fn) scope (closOf X.env.cells scope.names []) C s H fp) elt te)
    (I2 : Inv X pins σ H2 s2) (T : Turn X.prog X.w X.K tg J fp it tn) (st2 : tn 0 s2.heap) (f2 : ∀ b ∈ fp, FpOk X pins H2 b)
    (hb : ∀ D, H2 D = none → tBlock J g tc te D (Z D) (innS Tn.length js σ) (upd H2 D (.lst [])))
    (fin : ∀ D C s' H' m, s'.heap.Ns C m → Inv X pins σ H' s' → H' C = none → CFree X pins C → Z D H' → RR (.ref D) C (.ok .next) s') :
    wpAny (model X.prog X.w) X.A (newList []) (fun acc s₃ => wpAny (model X.prog X.w) X.A (newFunctionEnv scope X.env.globals (closOf X.env.cells scope.names []) [] X.env.qual none .none (some X.env)) (fun cenv s₄ =>
      codeAny (model X.prog X.w) X.A (.compStart (.ListComp elt [⟨tg, iter, ifs, 0⟩] scope pos) 0 (.ref it) acc { cenv with scope := relabel scope X.env }) (RR acc cenv.locals) s₄) E s₃) E s2 := by
  refine wpAny_newObj_type (wpAny_newFunctionEnv cs.nocell (by intro y hy; simp at hy) (fun h₁ hns₁ hsb₁ => ?_) cs.kind)
  dsimp only at hns₁ hsb₁ ⊢
  have I3 := I2.lnew (its := []) (ys := []) (t' := s2.toks) .nil (Nat.zero_le _)
  have fD : H2 s2.heap.objs.size = none := I2.fresh
  obtain ⟨W, ⟨m0, w0⟩, turn⟩ := hb _ fD
  generalize hH2 : s2.heap.push { cls := .type "list", dict := none, data := .seq ([] : List Value).toArray } = g2 at hns₁ hsb₁ I3 ⊢
  have up2 : ∀ b o, s2.heap.get? b = some o → g2.get? b = some o := fun b o e => hH2 ▸ Heap.get?_push_of_some _ e
  generalize hD : s2.heap.objs.size = D at *
  have up3 : ∀ b o, g2.get? b = some o → h₁.get? b = some o := fun b o e => hsb₁.extBut b o (Nat.ne_of_lt (Heap.lt_size e)) (Heap.get?_push_of_some _ e)
  have hob : ∀ b ∈ fp, ∃ o, s2.heap.get? b = some o := fun b hb => let ⟨o, e, _⟩ := T.obj 0 _ st2 b hb; ⟨o, e⟩
  have neD : ∀ b ∈ fp, b ≠ D := fun b hb => by
    obtain ⟨o, e⟩ := hob b hb
    rw [← hD]; exact Nat.ne_of_lt (Heap.lt_size e)
  have f3 : ∀ b ∈ fp, FpOk X pins (upd H2 D (.lst [])) b := fun b hb => ⟨by rw [upd_ne (neD b hb)]; exact (f2 b hb).1, (f2 b hb).2⟩
  have J0 := inv_in (fp := fp) (tk := s2.toks + ([] : List (Str × Value)).length) cs I3 rfl hns₁ up3 f3 fun b hb => let ⟨o, e⟩ := hob b hb; ⟨o, up2 b o e⟩
  have tn0 : tn 0 h₁ := T.keep _ _ _ st2 fun b hb o e => up3 b o (up2 b o e)
  have cf : CFree X pins g2.objs.size := I3.cfree rfl
  generalize hX' : cxIn X (Tn ++ Fn) scope (closOf X.env.cells scope.names []) g2.objs.size { s2 with heap := g2, toks := s2.toks } (upd H2 D (.lst [])) fp = X' at J0
  have eP : X'.prog = X.prog := by rw [← hX']; rfl
  have ew : X'.w = X.w := by rw [← hX']; rfl
  have eK : X'.K = X.K := by rw [← hX']; rfl
  have eA : X'.A = X.A := by rw [← hX']; rfl
  have ec : X'.calm = true := by rw [← hX']; exact hc
  have ee : X'.env = compEnvC scope (closOf X.env.cells scope.names []) g2.objs.size X.env := by rw [← hX']; rfl
  have ex : X'.xe = fun _ _ => False := by rw [← hX']; rfl
  have Hg : PG X' tg g := by rw [← hX']; exact hg _ _ _ _
  have Ht : PIfs X' ifs tc := by rw [← hX']; exact ht _ _ _ _
  have He : PE X' elt te := by rw [← hX']; exact he _ _ _ _
  have out : ∀ {pins' σ' H' s'}, Inv X' pins' σ' H' s' → Inv X pins σ H' s' := by
    intro pins' σ' H' s' J
    rw [← hX'] at J
    exact inv_out I3 f3 J
  have fsX : ∀ b ∈ fp, b ∉ X'.fs := by
    intro b hb z
    rw [← hX'] at z
    rcases List.mem_cons.mp (I3.stkSub b z) with q | q
    · exact (f3 b hb).2.1 q
    · exact (f3 b hb).2.2.1 q
  have stat : ∀ {H' : Hp}, (∀ b ∈ fp, H' b = none) → ∀ b ∈ fp, FpOk X' (X.pn ++ pins) H' b := fun {H'} hn b hb => by
    refine ⟨hn b hb, ?_, fsX b hb, .inl (by rw [← hX']; exact hb), ?_, ?_⟩
    · rw [ee]
      obtain ⟨o, e⟩ := hob b hb
      exact Nat.ne_of_lt (Heap.lt_size (up2 b o e))
    · intro x c e
      rw [ee] at e
      exact (f3 b hb).2.2.2.2.1 x c (closOf_sub (names := scope.names) (cs := []) (fun _ z => nomatch z) _ (lookup_mem e))
    · intro p hp
      have hp : p ∈ X.pn ++ pins := by rw [← hX'] at hp; simpa [cxIn] using hp
      exact (f3 b hb).2.2.2.2.2 p hp
  have loop : ∀ s4 : Shared, s4 = { s2 with heap := h₁, toks := s2.toks + ([] : List (Str × Value)).length } →
      codeAny (model X.prog X.w) X.A (.compLoop (.ListComp elt [⟨tg, iter, ifs, 0⟩] scope pos) 0 (.ref it) (.ref D) (compEnvC scope (closOf X.env.cells scope.names []) g2.objs.size X.env)) (RR (.ref D) g2.objs.size) s4 := by
    rintro s4 rfl
    refine compLoop_go (fun n s' => ∃ i σ' H', Inv X' (X.pn ++ pins) σ' H' s' ∧ tn i s'.heap ∧ (∀ b ∈ fp, H' b = none) ∧ W i n σ' H') ?_ m0 ⟨0, _, _, J0, tn0, fun b hb => (f3 b hb).1, w0⟩
    rintro n s5 ⟨i, σ5, H5, I5, st5, fr5, w5⟩
    rw [← ee, ← eA, ← eP, ← ew, ← ex]
    rcases turn i n σ5 H5 w5 with ⟨stop, qz⟩ | ⟨go, N, hN, step⟩
    · have td := T.done X' eP ew eK ec i (X.pn ++ pins) s5 σ5 H5 X'.xe I5 (stat fr5) st5 stop
      rw [← eP, ← ew] at td
      refine thn td fun r s6 ⟨hr, I6⟩ => ?_
      subst hr
      obtain ⟨m, hm, _⟩ := id I6.loc
      rw [ee] at hm
      have hfr := I6.free
      rw [ee] at hfr
      exact fin D _ s6 H5 m hm (out I6) hfr cf qz
    · have ti := T.item X' eP ew eK ec i (X.pn ++ pins) s5 σ5 H5 X'.xe I5 (stat fr5) st5 go
      rw [← eP, ← ew] at ti
      refine thn ti fun r s6 ⟨u, hr, h6⟩ => ?_
      subst hr
      refine thn h6 fun _ s7 ⟨x, H7, I7, r7, y7, st7, fr7⟩ => ?_
      have I7' := I7.pinned (stat fr7) (T.obj _ _ st7)
      refine thn (Hg _ s7 σ5 H7 x u _ I7' r7 (step x H7 y7)) fun _ s8 ⟨σ8, H8, I8, q8⟩ => ?_
      refine thn (Ht _ s8 σ8 H8 _ I8 q8) fun ok s9 ⟨H9, I9, q9⟩ => ?_
      have again : ∀ {σa : St} {Ha : Hp} {sa : Shared}, Inv X' ((X.pn ++ pins) ++ pinsAt fp s7.heap) σa Ha sa → N σa Ha → ∃ m, m < n ∧ ∃ i σ' H', Inv X' (X.pn ++ pins) σ' H' sa ∧ tn i sa.heap ∧ (∀ b ∈ fp, H' b = none) ∧ W i m σ' H' := fun {σa Ha sa} Ia na => by
        obtain ⟨m', hm, wa⟩ := hN σa Ha na
        refine ⟨m', hm, i + 1, σa, Ha, Ia.unpinned, T.keep _ _ _ st7 fun b hb o e => (Ia.pin (b, o) (List.mem_append_right _ (List.mem_append_right _ (mem_pinsAt hb e)))).1, fun b hb => ?_, wa⟩
        obtain ⟨o, e, d⟩ := T.obj _ _ st7 b hb
        exact (Ia.pin (b, o) (List.mem_append_right _ (List.mem_append_right _ (mem_pinsAt hb e)))).2.1
      cases ok with
      | false => exact again I9 q9
      | true =>
        refine thn (He _ s9 σ8 H9 _ I9 q9) fun y s10 ⟨yv, H10, I10, r10, ys, e10, l10, n10⟩ => ?_
        exact thn (mt_append (X := X') _ s10 σ8 H10 (.ref D) [yv] (.ref D) [y] (fun _ H' => N σ8 H') I10 rfl (.cons r10 .nil) ⟨D, ys, yv, rfl, rfl, e10, l10, n10⟩) fun _ s11 ⟨_, H11, I11, _, n11⟩ => again I11 n11
  exact codeAny_compStart_list (loop _ rfl) (T.self _ 0 _ _ _ tn0 (loop _ rfl))
noncomputable def tComp (wi : TI) (g : TG) (tc : TT) (te : TE) (k : Nat) (js : List Nat) : TE := fun σ H Q => wi σ H fun J H1 => ∀ D, H1 D = none → tBlock J g tc te D (Q (.ref D)) (innS k js σ) (upd H1 D (.lst []))
theorem pe_comp (Tn Fn : List Str) (js : List Nat) (hc : X.calm = true) (h : compOk X.env.scope scope X.N Tn Fn js = true) (hi : PI X tg iter wi)
    (hg : ∀ C s H fp, PG (cxIn X (Tn ++ Fn) scope (closOf X.env.cells scope.names []) C s H fp) tg g) (ht : ∀ C s H fp, PIfs (cxIn X (Tn ++ Fn) scope (closOf X.env.cells scope.names []) C s H fp) ifs tc)
    (he : ∀ C s H fp, PE (cxIn X (Tn ++ Fn) scope (closOf X.env.cells scope.names []) C s H fp) elt te) (hs : ∀ x, foldedSetIterable iter X.env x = pure x := by intro _; rfl) :
    PE X (.ListComp elt [⟨tg, iter, ifs, 0⟩] scope pos) (tComp wi g tc te Tn.length js) := by
  intro pins s σ H Q I hq
  have cs := CompScope.of h
  rw [eval_ListComp]
  refine wpAny_comprehension_free (use := none) rfl hs (closureFor_eq ?_) cs.kind cs.loc (thn (hi pins s σ H _ I hq) fun xv s1 h1 => thn h1 fun itv s2 h2 => ?_)
  · intro x hx e; exact I.ok.has x.1 (.inl (cs.fre x hx e))
  obtain ⟨it, fp, tn, J, H2, rfl, I2, T, st2, f2, hb⟩ := h2
  refine block_run (Z := fun D H' => Q (.ref D) H') (RR := fun acc C => compPost (model X.prog X.w) X.A X.xe none (EP X pins σ Q) acc C) hc cs hg ht he I2 T st2 f2 hb ?_
  intro D C s' H' m hm I' hn cf z
  exact ⟨m, hm, fun h' sb => ⟨.ref D, H', I'.letgo hn cf sb, rfl, z⟩⟩
theorem ps_setcomp (Tn Fn : List Str) (js : List Nat) {i : Nat} {y : Str} {py spos : Pos} (hN : X.N.Nodup) (hiN : X.N[i]? = some y) (hy : X.env.scope.names.lookup y = some .local) (hc : X.calm = true) (h : compOk X.env.scope scope X.N Tn Fn js = true) (hi : PI X tg iter wi)
    (hg : ∀ C s H fp, PG (cxIn X (Tn ++ Fn) scope (closOf X.env.cells scope.names []) C s H fp) tg g) (ht : ∀ C s H fp, PIfs (cxIn X (Tn ++ Fn) scope (closOf X.env.cells scope.names []) C s H fp) ifs tc)
    (he : ∀ C s H fp, PE (cxIn X (Tn ++ Fn) scope (closOf X.env.cells scope.names []) C s H fp) elt te) (hsw : swapsWith (.ListComp elt [⟨tg, iter, ifs, 0⟩] scope pos) (some (.Name y py)) spos.line X.env = pure true := by rfl)
    (hs : ∀ x, foldedSetIterable iter X.env x = pure x := by intro _; rfl) :
    PS X (.Assign [.Name y py] (.ListComp elt [⟨tg, iter, ifs, 0⟩] scope pos) spos) (tAsg (tComp wi g tc te Tn.length js) (gName i)) := by
  intro pins s σ H D0 I hq
  have cs := CompScope.of h
  rw [exec_Assign_Name_used _ _ _ _ hsw]
  refine wpAny_bind (wpAny_standAt (wpAny_bind ?_))
  show wpAny _ X.A (do let _ ← comprehension (.ListComp elt [⟨tg, iter, ifs, 0⟩] scope pos) scope X.env _ (newList []) false (eval iter X.env) (some (assign (.Name y py) X.env))) _ _ s
  refine wpAny_bind (wpAny_mono (wpAny_comprehension_free (use := some (assign (.Name y py) X.env)) (Q := fun _ s' => SP X pins D0 .next s') rfl hs (closureFor_eq ?_) cs.kind cs.loc
    (thn (hi pins s σ H _ I hq) fun xv s1 h1 => thn h1 fun itv s2 h2 => ?_)) (fun _ s' hq => wpAny_pure (wpAny_pure hq)) fun _ _ e => e)
  · intro x hx e; exact I.ok.has x.1 (.inl (cs.fre x hx e))
  obtain ⟨it, fp, tn, J, H2, rfl, I2, T, st2, f2, hb⟩ := h2
  refine block_run (Z := fun D H' => D0.nx (σ.set i (some (.ref D))) H') (RR := fun acc C => compPost (model X.prog X.w) X.A X.xe (some (assign (.Name y py) X.env)) (fun _ s' => SP X pins D0 .next s') acc C) hc cs hg ht he I2 T st2 f2 hb ?_
  intro D C s' H' m hm I' hn cf z
  show wpAny _ X.A (assign (.Name y py) X.env (.ref D)) _ _ s'
  refine wpAny_assign_Name (store_ok2 (v := .ref D) I' hN hiN (.inl hy) rfl (fun s'' I'' sb => ?_) (.inr hy))
  obtain ⟨a, sb, ha⟩ := sb
  have hCa : C ≠ a := by
    rcases ha with e | e
    · rw [e]; exact cf.nl
    · exact fun z => cf.nc _ _ e z.symm
  exact ⟨m, hm.sameBut sb hCa, fun h' sb' => ⟨_, H', I''.letgo hn cf sb', z⟩⟩
end
/-! the forms one uses -/
theorem block_list {K : PySem.W.Frag} {a : Addr} {xs : List V} {g : TG} {tc : TT} {te : TE} {D : Addr} {Z : Hp → Prop} {σ : St} {H : Hp} (Pv : Nat → St → Hp → Prop) (h0 : Pv 0 σ H) (hl : ∀ i σ H, i ≤ xs.length → Pv i σ H → SqL K H a xs)
    (hs : ∀ i x σ H, xs[i]? = some x → Pv i σ H → g x σ H fun σ2 H2 => tc σ2 H2 fun b H3 => if b = true then te σ2 H3 fun y H4 => ∃ ys, H4 D = some (.lst ys) ∧ ys.length < sizeLine ∧ Pv (i + 1) σ2 (upd H4 D (.lst (ys ++ [y]))) else Pv (i + 1) σ2 H3)
    (hd : ∀ σ H, Pv xs.length σ H → Z H) : tBlock (Itl K a) g tc te D Z σ H := by
  refine ⟨fun i m σ H => m = xs.length - i ∧ i ≤ xs.length ∧ Pv i σ H, ⟨xs.length, by simp, Nat.zero_le _, h0⟩, ?_⟩
  rintro i m σ H ⟨rfl, hi, p⟩
  have q := hl i σ H hi p
  by_cases hlt : i < xs.length
  · refine .inr ⟨⟨xs, xs[i], q, by simp [hlt]⟩, Pv (i + 1), fun σ' H' p' => ⟨xs.length - (i + 1), by omega, rfl, hlt, p'⟩, fun x H' y => ?_⟩
    obtain ⟨e, y⟩ := y
    subst e
    exact hs i x σ _ (y xs q) p
  · have e : i = xs.length := by omega
    subst e
    exact .inl ⟨⟨xs, q, Nat.le_refl _⟩, hd σ H p⟩
theorem block_tup {K : PySem.W.Frag} {a : Addr} {xs : List V} {g : TG} {tc : TT} {te : TE} {D : Addr} {Z : Hp → Prop} {σ : St} {H : Hp} (Pv : Nat → St → Hp → Prop) (h0 : Pv 0 σ H) (hl : ∀ i σ H, i ≤ xs.length → Pv i σ H → SqT K H a xs)
    (hs : ∀ i x σ H, xs[i]? = some x → Pv i σ H → g x σ H fun σ2 H2 => tc σ2 H2 fun b H3 => if b = true then te σ2 H3 fun y H4 => ∃ ys, H4 D = some (.lst ys) ∧ ys.length < sizeLine ∧ Pv (i + 1) σ2 (upd H4 D (.lst (ys ++ [y]))) else Pv (i + 1) σ2 H3)
    (hd : ∀ σ H, Pv xs.length σ H → Z H) : tBlock (Itt K a) g tc te D Z σ H := by
  refine ⟨fun i m σ H => m = xs.length - i ∧ i ≤ xs.length ∧ Pv i σ H, ⟨xs.length, by simp, Nat.zero_le _, h0⟩, ?_⟩
  rintro i m σ H ⟨rfl, hi, p⟩
  have q := hl i σ H hi p
  by_cases hlt : i < xs.length
  · refine .inr ⟨⟨xs, xs[i], q, by simp [hlt]⟩, Pv (i + 1), fun σ' H' p' => ⟨xs.length - (i + 1), by omega, rfl, hlt, p'⟩, fun x H' y => ?_⟩
    obtain ⟨e, y⟩ := y
    subst e
    exact hs i x σ _ (y xs q) p
  · have e : i = xs.length := by omega
    subst e
    exact .inl ⟨⟨xs, q, Nat.le_refl _⟩, hd σ H p⟩
theorem block_range {lo : Int} {n : Nat} {g : TG} {tc : TT} {te : TE} {D : Addr} {Z : Hp → Prop} {σ : St} {H : Hp} (Pv : Nat → St → Hp → Prop) (h0 : Pv 0 σ H)
    (hs : ∀ i σ H, i < n → Pv i σ H → g (.int (lo + i)) σ H fun σ2 H2 => tc σ2 H2 fun b H3 => if b = true then te σ2 H3 fun y H4 => ∃ ys, H4 D = some (.lst ys) ∧ ys.length < sizeLine ∧ Pv (i + 1) σ2 (upd H4 D (.lst (ys ++ [y]))) else Pv (i + 1) σ2 H3)
    (hd : ∀ σ H, Pv n σ H → Z H) : tBlock (Itr lo n) g tc te D Z σ H := by
  refine ⟨fun i m σ H => m = n - i ∧ i ≤ n ∧ Pv i σ H, ⟨n, by simp, Nat.zero_le _, h0⟩, ?_⟩
  rintro i m σ H ⟨rfl, hi, p⟩
  by_cases hlt : i < n
  · refine .inr ⟨hlt, Pv (i + 1), fun σ' H' p' => ⟨n - (i + 1), by omega, rfl, hlt, p'⟩, fun x H' y => ?_⟩
    obtain ⟨e, y⟩ := y
    subst e y
    exact hs i σ _ hlt p
  · have e : i = n := by omega
    subst e
    exact .inl ⟨Nat.le_refl _, hd σ H p⟩
end L2
namespace L2
open PySem PySem.Spec PyProof.Rows
/-! ### ==, != of texts, numbers, truths, the gap, and of tuples and lists of these, as deep as they are -/
mutual
noncomputable def RepD (K : PySem.W.Frag) (H : Hp) : PyData → V → Prop
  | .none, v => v = .non
  | .bool b, v => v = .bl b
  | .int i, v => v = .int i
  | .str x, v => v = .str x ∧ (PyData.str x).canLay0 = true
  | .tuple xs, v => ∃ a vs, v = .ref a ∧ SqT K H a vs ∧ RepDs K H xs vs
  | .list xs, v => ∃ a vs, v = .ref a ∧ SqL K H a vs ∧ RepDs K H xs vs
  | .dict _, _ => False
noncomputable def RepDs (K : PySem.W.Frag) (H : Hp) : List PyData → List V → Prop
  | [], vs => vs = []
  | d :: ds, vs => ∃ v r, vs = v :: r ∧ RepD K H d v ∧ RepDs K H ds r
end
section
variable {X : Cx} {pins : List (Addr × Obj)} {σ : St} {H : Hp} {s : Shared}
mutual
theorem RepD.reads (I : Inv X pins σ H s) : ∀ {d : PyData} {v : V} {u : Value}, RepD X.K H d v → RelV v u → ∃ as, Reads s.heap u d as
  | .none, v, u, h, r => by
    have h : v = .non := by simpa [RepD] using h
    subst h; cases r; exact ⟨_, .none⟩
  | .bool b, v, u, h, r => by
    have h : v = .bl b := by simpa [RepD] using h
    subst h; cases r; exact ⟨_, .bool b⟩
  | .int i, v, u, h, r => by
    have h : v = .int i := by simpa [RepD] using h
    subst h; obtain ⟨t, rfl⟩ := r; exact ⟨_, .int i t⟩
  | .str x, v, u, h, r => by
    simp only [RepD] at h
    obtain ⟨rfl, _⟩ := h
    obtain ⟨t, rfl⟩ := r; exact ⟨_, .str x t⟩
  | .tuple xs, v, u, h, r => by
    have h : ∃ a vs, v = .ref a ∧ SqT X.K H a vs ∧ RepDs X.K H xs vs := by simpa [RepD] using h
    obtain ⟨a, vs, rfl, q, rs⟩ := h
    cases r
    obtain ⟨its, rv, p, _⟩ := I.tuple q
    obtain ⟨o, e, c, n, d⟩ := (show s.heap.IsTuple a its.toArray from p)
    obtain ⟨as, ra⟩ := RepDs.reads I rs rv
    exact ⟨_, .tuple e c d (by simpa using ra)⟩
  | .list xs, v, u, h, r => by
    have h : ∃ a vs, v = .ref a ∧ SqL X.K H a vs ∧ RepDs X.K H xs vs := by simpa [RepD] using h
    obtain ⟨a, vs, rfl, q, rs⟩ := h
    cases r
    obtain ⟨its, rv, p, _⟩ := I.list q
    obtain ⟨o, e, c, n, d⟩ := p.isList
    obtain ⟨as, ra⟩ := RepDs.reads I rs rv
    exact ⟨_, .list e c d (by simpa using ra)⟩
  | .dict _, v, u, h, r => by
    have h : False := by simpa [RepD] using h
    exact h.elim
theorem RepDs.reads (I : Inv X pins σ H s) : ∀ {ds : List PyData} {vs : List V} {us : List Value}, RepDs X.K H ds vs → Vals vs us → ∃ as, ReadsAll s.heap us ds as
  | [], vs, us, h, r => by
    have h : vs = [] := by simpa [RepDs] using h
    subst h; cases r; exact ⟨_, .nil⟩
  | d :: ds, vs, us, h, r => by
    have h : ∃ v r, vs = v :: r ∧ RepD X.K H d v ∧ RepDs X.K H ds r := by simpa [RepDs] using h
    obtain ⟨v, rs, rfl, h1, h2⟩ := h
    cases r with
    | cons a b =>
      obtain ⟨as, r1⟩ := RepD.reads I h1 a
      obtain ⟨bs, r2⟩ := RepDs.reads I h2 b
      exact ⟨_, .cons r1 r2⟩
end
mutual
theorem RepD.lay {K : PySem.W.Frag} : ∀ {d : PyData} {v : V}, RepD K H d v → d.canLay0 = true
  | .none, _, _ => rfl
  | .bool _, _, _ => rfl
  | .int _, _, _ => rfl
  | .str x, v, h => by
    simp only [RepD] at h
    exact h.2
  | .tuple xs, v, h => by
    have h : ∃ a vs, v = .ref a ∧ SqT K H a vs ∧ RepDs K H xs vs := by simpa [RepD] using h
    obtain ⟨a, vs, rfl, q, rs⟩ := h
    have := RepDs.lay rs
    simpa [PyData.canLay0] using this
  | .list xs, v, h => by
    have h : ∃ a vs, v = .ref a ∧ SqL K H a vs ∧ RepDs K H xs vs := by simpa [RepD] using h
    obtain ⟨a, vs, rfl, q, rs⟩ := h
    have := RepDs.lay rs
    simpa [PyData.canLay0] using this
  | .dict _, v, h => by
    have h : False := by simpa [RepD] using h
    exact h.elim
theorem RepDs.lay {K : PySem.W.Frag} : ∀ {ds : List PyData} {vs : List V}, RepDs K H ds vs → PyData.canLayAll0 ds = true
  | [], _, _ => rfl
  | d :: ds, vs, h => by
    have h : ∃ v r, vs = v :: r ∧ RepD K H d v ∧ RepDs K H ds r := by simpa [RepDs] using h
    obtain ⟨v, rs, rfl, h1, h2⟩ := h
    have a := RepD.lay h1
    have b := RepDs.lay h2
    simp [PyData.canLayAll0, a, b]
end
end
section
variable {X : Cx} {k : Nat}
noncomputable def rEqD (K : PySem.W.Frag) : R2 := fun x y H Q => ∃ d d', RepD K H d x ∧ RepD K H d' y ∧ d.depth ≤ 64 ∧ Q (.bl (PyData.eqv d d')) H
theorem op_eqD (hr : Room k X.A) : OpR X (compareOp .Eq) (rEqD X.K) := by
  intro pins s σ H x y v u Q I rx ry h
  obtain ⟨d, d', h1, h2, hd, q⟩ := h
  obtain ⟨as, r1⟩ := h1.reads I rx
  obtain ⟨bs, r2⟩ := h2.reads I ry
  exact SeqAt.compareEq_reads r1 r2 h1.lay h2.lay (by have := hr.units; have : min d.depth d'.depth ≤ d.depth := Nat.min_le_left _ _; omega) ⟨.bl _, H, I, rfl, q⟩
end
/-! ### defs that may raise -/
section
variable {P : Program} {w : World} {K : PySem.W.Frag} {mg : Str → Option Value} {base : Heap}
theorem DefAt.okE {x : Str} {st : Stmt} {N ps : List Str} {k : Nat} {sp : Sp} (D : DefAt K mg x st) (S : FnScope N ps (defScope st)) (len : ∀ vs H Q E, sp vs H Q E → vs.length = ps.length)
    (hb : ∀ (kV doc pm : Value) (an : Option Addr) (cdv ct : Value) (us : List Value), us.length = ps.length → bindArgs (PySem.W.fnOf x x (defArgs st) (defBody st) (defScope st) .none kV doc pm an cdv ct) ⟨us, []⟩ = pure (ps.zip us))
    (hbody : ∀ (f : Addr) (cdv : Value) (A : Around) (outer : List Env) (s : Shared) (H : Hp) (vs : List V) (Q : VK) (E : XK), Room k (A.deeper (envOfC x (defScope st) s.heap.objs.size f cdv)) → sp vs H Q E →
      ∃ t, PSs (cxOf (CXE P w) P w K mg base N x (defScope st) f cdv A outer s H E) (defBody st) t ∧ t { nx := fun _ H' => Q .non H', rt := Q } (start N vs) H) : FnAt P w K mg base (CXE P w) (k + 1) x ps sp := by
  obtain ⟨f, fd, F, m⟩ := D.ex
  have hF := F
  obtain ⟨oc, od, kV, doc, pm, an, cdv, ct, osl, rfl, lk, hcd⟩ := F.ex
  exact ⟨f, _, fn_of lk hcd S len fun A outer s H vs Q E hr hsp => hbody f cdv A outer s H vs Q E hr hsp, m, hF.kp, hF.binds hb⟩
end
theorem hd_none {X : Cx} : Hd X [] (fun _ => tNever) := fun _ _ _ _ _ _ _ _ _ _ _ _ _ _ _ _ h => h.elim
end L2
namespace Tc
open PySem L2
/-! ### promises of the defs that many laws share -/
theorem paired_get {α β : Type} {F : α → β → Prop} : ∀ {xs : List α} {ys : List β} {i : Nat} {x : α}, Paired F xs ys → xs[i]? = some x → ∃ y, ys[i]? = some y ∧ F x y
  | _, _, _, _, .nil, e => by simp at e
  | _, _, 0, _, .cons r _, e => by simp at e; subst e; exact ⟨_, rfl, r⟩
  | _, _, i + 1, x, .cons _ t, e => by
    obtain ⟨u, h1, h2⟩ := paired_get (i := i) (x := x) t (by simpa using e)
    exact ⟨u, by simpa using h1, h2⟩
/-! promises -/
noncomputable def spCell (K : PySem.W.Frag) : Sp := fun vs H Q _ => ∃ (a : Addr) (ns : List Int) (k : Int), vs = [.ref a, .int k] ∧ SqL K H a (ns.map V.int) ∧ 0 ≤ k ∧ ∀ c : Int, Q (.int c) H
noncomputable def spLaw (K : PySem.W.Frag) : Sp := fun vs H Q _ => ∃ (a : Addr) (ns : List Int), vs = [.ref a] ∧ SqL K H a (ns.map V.int) ∧ ns.length ≤ 63 ∧ ∀ H', Q (.bl true) H'
/-! small lemmas -/
theorem sz {n : Nat} (h : n ≤ 1000) : n ≤ sizeLine := Nat.le_of_lt (small1000 h)
theorem map_at {ns : List Int} {k : Int} (h0 : 0 ≤ k) (h1 : k < (ns.map V.int).length) : ∃ c : Int, atI (ns.map V.int) k = some (V.int c) := by
  obtain ⟨j, rfl⟩ := Int.eq_ofNat_of_zero_le h0
  have hj : j < ns.length := by rw [List.length_map] at h1; omega
  refine ⟨ns[j], atI_nat ?_⟩
  rw [List.getElem?_map, List.getElem?_eq_getElem hj]
  rfl
theorem fmod_lt {c m : Int} (h : 0 < m) : 0 ≤ c.fmod m ∧ c.fmod m < m := fmod_pos h
theorem dec_true {p : Prop} [Decidable p] {A B : Prop} (hp : p) (h : A) : if decide p = true then A else B := by
  rw [decide_eq_true hp]; exact iteT h
theorem dec_false {p : Prop} [Decidable p] {A B : Prop} (hp : ¬ p) (h : B) : if decide p = true then A else B := by
  rw [decide_eq_false hp]; exact iteF h
end Tc
namespace L2
open PySem PySem.Spec PyProof.Rows
section
variable {X : Cx}
end
/-! ### the rules that name the module's part, for a part that is named -/
section
variable {X : Cx} {K : PySem.W.Frag}
theorem ix_tup' (h : X.K = K) : IxR X (rIxT K) := by subst h; exact ix_tup
theorem ix_list' (h : X.K = K) : IxR X (rIxL K) := by subst h; exact ix_list
theorem sl_tup' (h : X.K = K) : SlR X (rSlT K) := by subst h; exact sl_tup
theorem sl_list' (h : X.K = K) : SlR X (rSlL K) := by subst h; exact sl_list
theorem op_catT' (h : X.K = K) : OpR X (binaryOp .Add) (rCatT K) := by subst h; exact op_catT
theorem op_eqD' {k : Nat} (h : X.K = K) (hr : Room k X.A) : OpR X (compareOp .Eq) (rEqD K) := by subst h; exact op_eqD hr
theorem call_len' (h : X.K = K) : CallR X (.builtin "len") (fun xs H Q => ∃ x n, xs = [x] ∧ LenV K x H n ∧ Q (.int n) H) := by subst h; exact call_len
theorem call_isi' (h : X.K = K) : CallR X (.builtin "isinstance") (fun xs H Q => ∃ x n t b, xs = [x, .ty n] ∧ TyOf K H x t ∧ PySem.W.kitOne K t (.type n) = some b ∧ Q (.bl b) H) := by subst h; exact call_isi
theorem call_isiE' (h : X.K = K) : CallR X (.builtin "isinstance") (fun xs H Q => ∃ a C c b, xs = [.ref a, c] ∧ H a = some (excO a (.ref C)) ∧ ExcK K C ∧
    ((∃ n, c = .ty n ∧ PySem.W.kitOne K (.ref C) (.type n) = some b) ∨ (∃ D, c = .ref D ∧ PySem.W.kitOne K (.ref C) (.ref D) = some b) ∨
      (∃ (p : Addr) (Ds : List Addr), c = .ref p ∧ H p = some (.tup (Ds.map V.ref)) ∧ PySem.W.kitAny K (.ref C) (Ds.map Value.ref) = some b)) ∧ Q (.bl b) H) := by subst h; exact call_isiE
theorem call_tuple_of' (h : X.K = K) : CallR X (.type "tuple") (fun xs H Q => ∃ p ys, xs = [.ref p] ∧ ((SqL K H p ys ∧ ∀ l, H l = none → Q (.ref l) (upd H l (.tup ys))) ∨ (SqT K H p ys ∧ Q (.ref p) H))) := by subst h; exact call_tuple_of
theorem pi_list' {tg l : Expr} {tl : TE} (h : X.K = K) (hl : PE X l tl) : PI X tg l (iList K tl) := by subst h; exact pi_list hl
theorem pi_tup' {tg l : Expr} {tl : TE} (h : X.K = K) (hl : PE X l tl) : PI X tg l (iTup K tl) := by subst h; exact pi_tup hl
end
theorem pe_gint {X : Cx} {x : Str} {i : Int} {pos : Pos} (hg : Gl X x) (h : ∃ t, X.mg x = some (.int i t)) (hd : (x == ("__debug__" : Str)) = false := by decide) : PE X (.Name x pos) (tC (.int i)) := by
  obtain ⟨t, h⟩ := h
  exact pe_glob hg h ⟨t, rfl⟩ hd
theorem Same.updD {H H' : Hp} {D : Addr} {o : HO} (s : Same H H') (h : H D = none) : Same H (L2.upd H' D o) := fun b u e => by
  rw [L2.upd_ne (ne_of_none e h)]; exact s b u e
end L2
namespace L2
open PySem PySem.Spec PyProof.Rows
/-! ### texts -/
theorem strs_of_vals : ∀ {ys : List Str} {vs : List Value}, Vals (ys.map V.str) vs → StrsAre vs ys
  | [], _, .nil => .nil
  | y :: ys, _, .cons r t => by obtain ⟨tk, rfl⟩ := r; exact .cons y tk (strs_of_vals t)
section
variable {X : Cx} {K : PySem.W.Frag}
noncomputable def rJoin (K : PySem.W.Frag) : V → List V → Hp → VK → Prop := fun x vs H Q => ∃ (z : Str) (a : Addr) (ys : List Str), x = .str z ∧ vs = [.ref a] ∧ SqL K H a (ys.map V.str) ∧ (ys.map (·.length)).sum + ys.length * z.length ≤ 16777216 ∧ Q (.str (Txt.join z ys)) H
theorem mt_join' (h : X.K = K) : MtR X "str.join" (rJoin K) := by
  subst h
  intro pins s σ H x xs v us Q I rx rv h
  obtain ⟨z, a, ys, rfl, rfl, hq, hz, q⟩ := h
  obtain ⟨t, rfl⟩ := rx
  obtain ⟨u, rfl, ru⟩ := Vals.one rv
  cases ru
  obtain ⟨its, r, p, _⟩ := I.list hq
  exact join_list p.isList (by simpa using strs_of_vals r) hz fun t' k => ⟨.str _, H, I.tok k, ⟨t', rfl⟩, q⟩
theorem pe_bm' {o e : Expr} {es : List Expr} {to : TE} {t : TA} {name : Str} {apos cpos : Pos} {T id : String} {r : V → List V → Hp → VK → Prop} (h : X.K = K) (pa : PlainAttrs T) (slot : Slot T name id) (hty : typeOf (.builtin id) = pure (.type "method_descriptor"))
    (hm : MtR X id r) (ho : PE X o to) (ha : PA X (e :: es) t) (hbase : attributeBase o name X.env (eval o X.env) = eval o X.env := by rfl)
    (hfew : ((backTo cpos (starEach (e :: es) X.env)).all (fun x => !x.1) && (backToKw cpos (keywordEach [] X.env)).all (fun x => x.1.isSome) && decide ((e :: es).length + ([] : List Keyword).length + (if ([] : List Keyword).isEmpty then 0 else 1) < 30)) = true := by rfl)
    (hline : (apos.endLine == cpos.line) = true := by rfl) (hs : starEach (e :: es) X.env = (false, eval e X.env) :: starEach es X.env := by rfl) (hplain : (backTo cpos (starEach es X.env)).any (·.1) = false := by rfl) :
    PE X (.Call (.Attribute o name apos) (e :: es) [] cpos) (tBM K T r to t) := by subst h; exact pe_bm pa slot hty hm ho ha hbase hfew hline hs hplain
end
end L2
namespace L2
open PySem PySem.Spec PyProof.Rows
section
variable {X : Cx} {K : PySem.W.Frag} {k : Nat}
noncomputable def rEqE (K : PySem.W.Frag) : R2 := fun x y H Q => ∃ a b xs, x = .ref a ∧ y = .ref b ∧ SqL K H a xs ∧ SqL K H b [] ∧ Q (.bl xs.isEmpty) H
theorem op_eqE' (h : X.K = K) (hr : Room k X.A) : OpR X (compareOp .Eq) (rEqE K) := by
  subst h
  intro pins s σ H x y v u Q I rx ry h
  obtain ⟨a, b, xs, rfl, rfl, ha, hb, q⟩ := h
  cases rx; cases ry
  obtain ⟨its, r, p, _⟩ := I.list ha
  obtain ⟨its2, r2, p2, _⟩ := I.list hb
  cases r2
  cases r with
  | nil => exact PySem.SeqAt.eq_listAt (e := fun _ => true) p.isList p2.isList rfl hr.units0 (fun j h1 => absurd h1 (by simp)) ⟨.bl true, H, I, rfl, q⟩
  | cons _ _ => exact PySem.SeqAt.eq_list_lengthsAt p.isList p2.isList (by simp) hr.units0 ⟨.bl false, H, I, rfl, q⟩
end
end L2
namespace Tc
open PySem L2
end Tc
namespace L2
open PySem PySem.Spec PyProof.Rows
/-! ### a dict as it lies in the heap: its entries, whatever its keys are -/
section
variable {prog : Program} {w : World} {A : Around} {E : Value → Shared → Prop} {s : Shared} {it d vw : Addr} {i ep : Nat} {es : Array DictEntry} {ok ov : Value}
end
end L2
namespace L2
open PySem PySem.Spec PyProof.Rows
/-! ### a dict that is walked stands still -/
section
variable {X : Cx} {pins : List (Addr × Obj)} {σ : St} {H : Hp} {s : Shared} {d : Addr} {u : HO} {o : Obj}
/-! ### its entries -/
end
end L2
namespace L2
open PySem PySem.Spec PyProof.Rows
/-! ### d.values(), whatever the keys are -/
section
variable {prog : Program} {w : World} {A : Around} {E : Value → Shared → Prop} {s : Shared} {it d vw : Addr} {i ep : Nat} {es : Array DictEntry}
end
section
variable {X : Cx} {K : PySem.W.Frag}
end
end L2
namespace L2
open PySem PySem.Spec PyProof.Rows
/-! ### d.clear(), dict(d), for k in d -/
section
variable {prog : Program} {w : World} {A : Around} {E : Value → Shared → Prop} {s : Shared} {it d vw : Addr} {i ep : Nat} {es : Array DictEntry}
end
section
variable {X : Cx}
end
/-! the forms one uses -/
end L2
namespace Tc
/-! tables as functions from places to shares -/
section
variable {α : Type} [DecidableEq α]
end
end Tc
namespace L2
open PySem PySem.Spec PyProof.Rows
section
variable {X : Cx} {K : PySem.W.Frag}
end
end L2
namespace L2
open PySem PySem.Spec PyProof.Rows
theorem Paired.app {α β : Type} {F : α → β → Prop} {xs xs' : List α} {ys ys' : List β} (h : Paired F xs ys) (g : Paired F xs' ys') : Paired F (xs ++ xs') (ys ++ ys') := by
  induction h with
  | nil => exact g
  | cons r t ih => exact .cons r ih
section
variable {X : Cx} {K : PySem.W.Frag} {pos : Pos}
noncomputable def gLst (K : PySem.W.Frag) (n : Nat) (t : TGs) : TG := fun v σ H Q => ∃ a xs, v = .ref a ∧ SqL K H a xs ∧ xs.length = n ∧ t xs σ H Q
theorem pg_lst {es : List Expr} {k : Nat} {t : TGs} {n : Nat} (hK : X.K = K) (hc : X.calm = true) (h : PGs X es t)
    (hn : (assignEach es X.env).length = n := by rfl) (hst : (assignEach es X.env).findIdx? (·.1) = none := by rfl) : PG X (.Tuple es k pos) (gLst K n t) := by
  subst hK
  intro pins s σ H v u Q I r hw
  obtain ⟨a, xs, e1, hq, hl, hw⟩ := hw
  subst e1
  cases r
  obtain ⟨its, rv, p, hz⟩ := I.list hq
  rw [assign_Tuple]
  refine wpAny_bind (wpAny_standAt ?_)
  unfold unpack
  have e : (assignEach es X.env).length = its.toArray.size := by simp [hn, ← hl, rv.length]
  rw [e, hst]
  refine wpAny_bind (wpAny_holding (PySem.W.kun_itemsOf (I.ok.hd hc) p.isList fun h' hx => ?_))
  have I1 : Inv X pins σ H { s with heap := h' } := I.kept (t' := s.toks) fun b o e => hx b o (Nat.ne_of_lt (Heap.lt_size e)) e
  exact h pins _ σ H xs _ Q I1 (by simpa using rv) hw
end
end L2
namespace L2
open PySem PySem.Spec PyProof.Rows
end L2
namespace L2
open PySem PySem.Spec PyProof.Rows
theorem bt_enumerate : bootBuiltins "enumerate" = some (.type "enumerate") := by decide +kernel
section
variable {X : Cx} {pins : List (Addr × Obj)} {σ : St} {H : Hp} {s : Shared} {h' : Heap}
theorem Inv.turns {t' : Nat} {ch : List Addr} (I : Inv X pins σ H s) (k : ∀ b o, b ∉ ch → s.heap.get? b = some o → h'.get? b = some o) (hf : ∀ b ∈ ch, FpOk X pins H b) : Inv X pins σ H { s with heap := h', toks := t' } := by
  have nit : ∀ b u, H b = some u → b ∉ ch := fun b u e z => by rw [(hf b z).1] at e; cases e
  refine I.step (g' := s.gens) (d' := s.drawn) (ch := ch) (fun b hb => ?_) (fun b o _ _ hc e _ => k b o hc e) (fun b o _ _ hc e _ => ⟨o.slots, k b o hc e⟩) (fun _ _ _ _ n => n) (fun b o hc e => ⟨o, k b o hc e⟩) (fun _ _ e => e) (fun _ _ _ e => e) (fun b ps e => ⟨#[], by rw [e]; simp⟩) (fun m hm => ?_) (fun b u e => ?_) I.bare
  · obtain ⟨f0, f1, f2, f3, f4, f5⟩ := hf b hb
    exact ⟨f3, f1, f4, f5⟩
  · obtain ⟨o, es, ep, ho, r⟩ := hm
    exact ⟨o, es, ep, k _ o (fun z => (hf _ z).2.1 rfl) ho, r⟩
  · refine (I.hok b u e).stay (fun c v hc q => k c v ?_ q) (fun _ q => q) fun _ _ q => q
    rcases hc with z | z
    · rw [z]; exact nit b u e
    · exact nit c _ z
end
noncomputable def ItE (K : PySem.W.Frag) (a : Addr) (xs : List V) : It :=
  ⟨fun i H => i < xs.length ∧ SqL K H a xs, fun i H x H' => ∃ v T, xs[i]? = some v ∧ x = .ref T ∧ H T = none ∧ H' = upd H T (.tup [.int (i : Nat), v]), fun i H => i = xs.length ∧ SqL K H a xs⟩
theorem turn_enum {P : Program} {w : World} {K : PySem.W.Frag} {elts : List Expr} {kk : Nat} {pos : Pos} (a e li : Addr) (xs : List V) (hne : e ≠ li) :
    Turn P w K (.Tuple elts kk pos) (ItE K a xs) [e, li] e (fun i h => ∃ old, IsEnum h e li ((i : Nat) : Int) old ∧ h.IsListIter li a i) where
  mem := by simp
  obj := fun i h st b hb => by
    obtain ⟨old, s1, o, e2, c, d⟩ := st
    simp only [List.mem_cons, List.not_mem_nil, or_false] at hb
    rcases hb with rfl | rfl
    · exact ⟨_, s1, fun v z => by cases z⟩
    · exact ⟨o, e2, fun v z => by rw [d] at z; cases z⟩
  keep := fun i h h' st k => let ⟨old, s1, s2⟩ := st; ⟨old, k e (by simp) _ s1, s2.at fun o eo => k li (by simp) o eo⟩
  item := by
    intro X hP hw hK hc i pins s σ H E I hf st hg
    subst hP hw hK
    obtain ⟨old, st1, st2⟩ := st
    obtain ⟨hi, hq⟩ := hg
    obtain ⟨its, rv, p, hz⟩ := I.list hq
    have hx : xs[i]? = some xs[i] := by simp [hi]
    obtain ⟨u, hu, ru⟩ := rv.get hx
    refine wpAny_pyNext_enum_item st1 st2 p.isList (x := u) (by simpa using hu) hne fun h' jo jl ht hz' kp => ?_
    refine ⟨_, rfl, wpAny_letOwnedTupleGo_enum jo fun h2 he2 sb => ?_⟩
    have sb : Heap.SameBut e h' h2 := sb
    have nTe : s.heap.objs.size ≠ e := Nat.ne_of_gt (Heap.lt_size st1)
    have nTl : s.heap.objs.size ≠ li := by
      obtain ⟨o, e2, _⟩ := id st2
      exact Nat.ne_of_gt (Heap.lt_size e2)
    have I1 : Inv X pins σ H { s with heap := h2, toks := s.toks + 1 } := I.turns (ch := [e, li]) (fun b o hb eo => sb.extBut b o (fun z => hb (by simp [z])) (kp b o (fun z => hb (by simp [z])) (fun z => hb (by simp [z])) eo)) hf
    have hT2 : h2.get? s.heap.objs.size = some { cls := .type "tuple", data := .seq #[.int i s.toks, u] } := sb.extBut _ _ nTe ht
    obtain ⟨g0, g1, _, _, g4, g5⟩ := I.fpOk (Nat.le_refl _) I.fresh
    have I2 := I1.track (a := s.heap.objs.size) (o := .tup [.int (i : Nat), xs[i]]) g0 (by
      cases q : X.s₀.heap.get? s.heap.objs.size with
      | none => rfl
      | some ob => exact absurd (Nat.lt_of_lt_of_le (Heap.lt_size q) I.sz) (Nat.lt_irrefl _)) g1 g4 g5 ⟨small1000 (by simp) |> Nat.le_of_lt, [.int i s.toks, u], .cons ⟨_, rfl⟩ (.cons ru .nil), ⟨_, hT2, rfl, _, rfl⟩⟩
    refine ⟨.ref _, _, I2, rfl, ⟨xs[i], _, hx, rfl, g0, rfl⟩, ⟨_, he2, jl.extBut sb.extBut hne.symm⟩, fun b hb => ?_⟩
    have nb : b ≠ s.heap.objs.size := by
      simp only [List.mem_cons, List.not_mem_nil, or_false] at hb
      rcases hb with rfl | rfl
      · exact nTe.symm
      · exact nTl.symm
    rw [upd_ne nb]; exact (hf b hb).1
  done := by
    intro X hP hw hK hc i pins s σ H E I hf st hg
    subst hP hw hK
    obtain ⟨old, st1, st2⟩ := st
    obtain ⟨hi, hq⟩ := hg
    obtain ⟨its, rv, p, hz⟩ := I.list hq
    have hl := rv.length
    exact wpAny_pyNext_enum_end (I.ok.hd hc) st1 st2 p.isList (by simp; omega) fun h' eb => ⟨rfl, I.turns (t' := s.toks) (ch := [e, li]) (fun b o hb eo => eb b o (fun z => hb (by simp [z])) eo) hf⟩
  self := fun A i s Q E st h => let ⟨_, st1, _⟩ := st; wpAny_pyIter_enum st1 h
section
variable {X : Cx} {K : PySem.W.Frag}
noncomputable def iEnum (K : PySem.W.Frag) (ta : TA) : TI := fun σ H R => ta σ H fun vs H1 => ∃ a xs, vs = [V.ref a] ∧ SqL K H1 a xs ∧ R (ItE K a xs) H1
theorem pi_enum {elts : List Expr} {kk : Nat} {tpos : Pos} {a : Expr} {ta : TA} {p pos : Pos} (hK : X.K = K) (hg : Gl X "enumerate") (hm : X.mg "enumerate" = none) (ha : PA X [a] ta) (hs : starEach [a] X.env = [(false, eval a X.env)] := by rfl) : PI X (.Tuple elts kk tpos) (.Call (.Name "enumerate" p) [a] [] pos) (iEnum K ta) := by
  subst hK
  intro pins s σ H R I h
  refine Call_ (ld_blt I hg hm bt_enumerate (PyProof.Rows.callWith_type1 (thn (ha pos pins s σ H _ I h) fun us s1 ⟨vs, H1, I1, r1, q1⟩ => ?_) hs rfl))
  obtain ⟨b, xs, rfl, hq, q⟩ := q1
  obtain ⟨u, rfl, ru⟩ := vals1 r1
  cases ru
  obtain ⟨its, rv, p, hz⟩ := I1.list hq
  refine call_enumerate_list p.isList fun h' he hl hz kk => wpAny_pyIter_enum he ?_
  refine ⟨s1.heap.objs.size + 1, [s1.heap.objs.size + 1, s1.heap.objs.size], _, _, H1, rfl, I1.kept (t' := s1.toks) kk, turn_enum b (s1.heap.objs.size + 1) s1.heap.objs.size xs (Nat.succ_ne_self _), ⟨_, he, hl⟩, fun c hc => ?_, q⟩
  simp only [List.mem_cons, List.not_mem_nil, or_false] at hc
  rcases hc with rfl | rfl
  · exact I1.fpOk (by omega) (I1.hok.fresh (by omega))
  · exact I1.fpOk (Nat.le_refl _) (I1.hok.fresh (Nat.le_refl _))
end
/-! the forms one uses -/
theorem for_enum {K : PySem.W.Frag} {a : Addr} {xs : List V} {g : TG} {tb : TS} {D : Ends} {σ : St} {H : Hp} (Pv : Nat → St → Hp → Prop) (h0 : Pv 0 σ H) (hl : ∀ i σ H, i ≤ xs.length → Pv i σ H → SqL K H a xs)
    (hs : ∀ i v T σ H, xs[i]? = some v → Pv i σ H → H T = none → g (.ref T) σ (upd H T (.tup [.int (i : Nat), v])) fun σ2 H2 => tb { D with nx := Pv (i + 1), ct := Pv (i + 1), bk := D.nx } σ2 H2) (hd : ∀ σ H, Pv xs.length σ H → D.nx σ H) :
    ∃ W : Nat → Nat → St → Hp → Prop, (∃ m, W 0 m σ H) ∧ ∀ i m σ H, W i m σ H → ((ItE K a xs).stop i H ∧ D.nx σ H) ∨ ((ItE K a xs).go i H ∧ ∃ N : St → Hp → Prop, (∀ σ' H', N σ' H' → ∃ m', m' < m ∧ W (i + 1) m' σ' H') ∧
      ∀ x H', (ItE K a xs).yld i H x H' → g x σ H' fun σ2 H2 => tb { D with nx := N, ct := N, bk := D.nx } σ2 H2) := by
  refine ⟨fun i m σ H => m = xs.length - i ∧ i ≤ xs.length ∧ Pv i σ H, ⟨_, rfl, Nat.zero_le _, h0⟩, ?_⟩
  rintro i m σ H ⟨rfl, hi, p⟩
  have q := hl i σ H hi p
  by_cases hlt : i < xs.length
  · refine .inr ⟨⟨hlt, q⟩, Pv (i + 1), fun σ' H' p' => ⟨xs.length - (i + 1), by omega, rfl, hlt, p'⟩, fun x H' y => ?_⟩
    obtain ⟨v, T, hv, e1, hT, e2⟩ := y
    subst e1 e2
    exact hs i v T σ H hv p hT
  · have e : i = xs.length := by omega
    subst e
    exact .inl ⟨⟨rfl, q⟩, hd σ H p⟩
end L2
namespace L2
open PySem PySem.Spec PyProof.Rows
section
variable {X : Cx}
end
end L2
namespace L2
open PySem PySem.Spec PyProof.Rows
section
variable {X : Cx} {K : PySem.W.Frag}
end
end L2
namespace L2
open PySem PySem.Spec PyProof.Rows
section
variable {X : Cx} {K : PySem.W.Frag}
end
end L2
namespace L2
open PySem PySem.Spec PyProof.Rows
end L2
namespace L2
open PySem PySem.Spec PyProof.Rows
section
variable {X : Cx}
end
end L2
namespace L2
open PySem PySem.Spec PyProof.Rows
section
variable {prog : Program} {w : World} {A : Around} {E : Value → Shared → Prop} {s : Shared}
variable {Kt : Type} [DecidableEq Kt] {knd : KeyKind prog w Kt}
open SeqAt in
open SeqAt in
end
end L2
namespace L2
open PySem PySem.Spec PyProof.Rows
section
variable {X : Cx} {K : PySem.W.Frag}
end
end L2
namespace L2
open PySem PySem.Spec PyProof.Rows
section
variable {prog : Program} {w : World} {A : Around} {E : Value → Shared → Prop} {s : Shared} {d : Addr} {es : Array DictEntry} {ep : Nat}
end
section
variable {X : Cx} {K : PySem.W.Frag}
end
end L2
namespace L2
open PySem PySem.Spec PyProof.Rows
section
variable {X : Cx}
end
end L2
namespace L2
open PySem PySem.Spec PyProof.Rows
section
variable {X : Cx} {K : PySem.W.Frag}
end
end L2
namespace L2
end L2
namespace L2
open PySem PySem.Spec PyProof.Rows
section
variable {X : Cx}
end
/-! what is joined by a sign that no part has is split into the parts -/
end L2
namespace L2
open PySem PySem.Spec PyProof.Rows
/-! set(t) of a tuple of texts that are all different -/
section
variable {prog : Program} {w : World} {A : Around} {R : Result → Shared → Prop} {I : Addr} {fp wr : List Addr} {G : Array GenState → Array GenState → Prop} {P : Nat → Value → Prop} {St : Nat → Shared → Prop}
end
section
variable {prog : Program} {w : World} {A : Around} {E : Value → Shared → Prop} {s : Shared}
end
section
variable {X : Cx}
end
end L2
namespace L2
open PySem PySem.Spec PyProof.Rows
/-! zip of two tuples -/
structure Hands (P : Program) (w : World) (m l : Addr) (I J : Heap → Prop) (x : Value) : Prop where
  keepI : ∀ {g g' : Heap}, (∀ o, g.get? m = some o → g'.get? m = some o) → (∀ o, g.get? l = some o → g'.get? l = some o) → I g → I g'
  keepJ : ∀ {g g' : Heap}, (∀ o, g.get? m = some o → g'.get? m = some o) → J g → J g'
  give : ∀ {A : Around} {E : Value → Shared → Prop} {s : Shared} {Q : Value → Shared → Prop}, I s.heap → (∀ g, J g → Heap.SameBut m s.heap g → Q x { s with heap := g }) → wpAny (model P w) A (Builtin.SmallTypes.nextOf (.ref m)) Q E s
section
variable {P : Program} {w : World} {A : Around} {E : Value → Shared → Prop} {s : Shared}
theorem hands_tup {m t : Addr} {k : Nat} {xs : Array Value} {x : Value} (hx : xs[k]? = some x) : Hands P w m t (fun g => g.IsTupleIter m t k ∧ g.IsTuple t xs) (fun g => g.IsTupleIter m t (k + 1)) x where
  keepI := fun a b ⟨⟨o, h, r⟩, ⟨o2, h2, r2⟩⟩ => ⟨⟨o, a o h, r⟩, ⟨o2, b o2 h2, r2⟩⟩
  keepJ := fun a ⟨o, h, r⟩ => ⟨o, a o h, r⟩
  give := fun {A E s Q} ⟨hit, ht⟩ fin => by
    obtain ⟨oi, gi, ci, di⟩ := id hit
    obtain ⟨ot, gt, _, nt, dt⟩ := ht
    unfold Builtin.SmallTypes.nextOf
    refine wpAny_bind (wpAny_callSpecial?_slot (name := Str.ofString "__next__") hit.typeIs F.slot_tuple_iterator_next (wpAny_call_entry F.slot_tuple_iterator_next hit.typeIs F.entry_tuple_iterator_next ?_ (F.args_tuple_iterator_next_1 _)))
    show wpAny (model P w) _ (field (.ref m) 0 >>= _) _ _ s
    refine wpAny_bind (wpAny_field gi di (x := .ref t) rfl ?_)
    show wpAny (model P w) _ (if (Value.ref t == Value.none) = true then _ else _) _ _ s
    rw [if_neg (by exact Bool.false_ne_true)]
    show wpAny (model P w) _ (field (.ref m) 1 >>= _) _ _ s
    refine wpAny_bind (wpAny_field gi di (x := .int k 0) rfl ?_)
    show wpAny (model P w) _ (seqItems? (.ref t) >>= _) _ _ s
    refine wpAny_bind (wpAny_seqItems gt dt ?_)
    simp only [Int.toNat_natCast, hx]
    refine wpAny_bind (wpAny_setField gi di (by simp) (wpAny_pure ⟨x, rfl, wpAny_pure (fin _ ⟨_, Heap.get?_update_self _ gi (Obj.isFreed_of_fields (Obj.data_mapFields di _)), (Obj.cls_mapFields ..).trans ci, ?_⟩ (Heap.SameBut.update ..))⟩))
    rw [Obj.data_mapFields di]
    simp [rawInt]
theorem ends_tup {m t : Addr} {k : Nat} {xs : Array Value} {Q : Value → Shared → Prop} (hh : A.handled = none) (hit : s.heap.IsTupleIter m t k) (ht : s.heap.IsTuple t xs) (hx : xs[k]? = none)
    (fin : ∀ g e, Heap.ExtBut m s.heap g → (∃ o, g.get? e = some o ∧ o.cls = .type "StopIteration") → E (.ref e) { s with heap := g }) : wpAny (model P w) A (Builtin.SmallTypes.nextOf (.ref m)) Q E s := by
  obtain ⟨oi, gi, ci, di⟩ := id hit
  obtain ⟨ot, gt, _, nt, dt⟩ := ht
  unfold Builtin.SmallTypes.nextOf
  refine wpAny_bind (wpAny_callSpecial?_slot (name := Str.ofString "__next__") hit.typeIs F.slot_tuple_iterator_next (wpAny_call_entry F.slot_tuple_iterator_next hit.typeIs F.entry_tuple_iterator_next ?_ (F.args_tuple_iterator_next_1 _)))
  show wpAny (model P w) _ (field (.ref m) 0 >>= _) _ _ s
  refine wpAny_bind (wpAny_field gi di (x := .ref t) rfl ?_)
  show wpAny (model P w) _ (if (Value.ref t == Value.none) = true then _ else _) _ _ s
  rw [if_neg (by exact Bool.false_ne_true)]
  show wpAny (model P w) _ (field (.ref m) 1 >>= _) _ _ s
  refine wpAny_bind (wpAny_field gi di (x := .int k 0) rfl ?_)
  show wpAny (model P w) _ (seqItems? (.ref t) >>= _) _ _ s
  refine wpAny_bind (wpAny_seqItems gt dt ?_)
  simp only [Int.toNat_natCast, hx]
  refine wpAny_bind (wpAny_rule (wpAny_bind (wpAny_setField gi di (by simp) ?_)))
  show wpAny (model P w) _ (newExc (.type "StopIteration") [] >>= _) _ _ _
  refine wpAny_bind ?_
  simp only [newExc, newTuple]
  refine wpAny_bind (wpAny_newObj_type ?_ (by size_fits))
  refine wpAny_bind (m := firstArgMember _ _) (wpAny_of_eq (a := Value.none) (by first | rfl | (simp only [firstArgMember] <;> rfl)) (wpAny_newObj_type ?_ (by size_fits)))
  simp only [raiseNew]
  refine wpAny_bind (wpAny_handled ?_)
  first | rw [show A.in1.handled = none from hh] | (rw [hh])
  exact wpAny_bind (wpAny_pure (wpAny_throw (fin _ _ (((Heap.SameBut.update ..).extBut.push _).push _) ⟨_, Heap.get?_push_size _ rfl, rfl⟩)))
noncomputable abbrev zt1 (h : Heap) (a : Addr) : Heap := h.push { cls := .type "tuple_iterator", data := .fields #[.ref a, .int 0 0] }
end
section
variable {X : Cx} {K : PySem.W.Frag}
end
end L2
namespace L2
open PySem PySem.Spec PyProof.Rows
/-! dict(enumerate(l)) -/
theorem lk_enum_keys : typeLookup (.type "enumerate") "keys" = pure none := by rw [typeLookup_type, builtinLookup_eq_fast]; kernel_rfl
theorem enum_getattr_none : typeLookup (.type "enumerate") "__getattr__" = pure none := by rw [typeLookup_type, builtinLookup_eq_fast]; kernel_rfl
theorem entry_enum_ga : entryFor table "enumerate.__getattribute__" = some Builtin.«object.__getattribute__» :=
  entryFor_alias (id' := "object.__getattribute__") (by kernel_rfl) (by first | rfl | decide +kernel) (by decide +kernel) (by kernel_rfl)
section
variable {prog : Program} {w : World} {A : Around} {E : Value → Shared → Prop} {h : Heap} {g : Array GenState} {d : Drawn} {t : Nat} {os : OsState} {a : Addr} {fs : Array Value}
noncomputable abbrev EnO (fs : Array Value) : Obj := { cls := .type "enumerate", dict := none, data := .fields fs, slots := #[] }
theorem keys_entry {tk : Tok} {Q : PySem.Fin → Shared → Prop} (hh : A.handled = none) (hx : h.get? a = some (EnO fs)) (hE : ∀ h' tk' e, Heap.NewAttrErr h h' e (.ref a) "keys" → E (.ref e) ⟨h', g, d, tk', os⟩) :
    wpAny (model prog w) A (Builtin.«object.__getattribute__» ⟨[.ref a, .str "keys" tk], []⟩) Q E ⟨h, g, d, t, os⟩ := by
  have hT : (⟨h, g, d, t, os⟩ : Shared).TypeIs (.ref a) "enumerate" := ⟨_, hx, rfl⟩
  have f4 := lk_enum_keys
  repeat (any_goals (first | assumption | wp_step))
  exact wpAny_raiseAttrError hh hE (attrMsg_fits (by decide +kernel) (by size_fits))
theorem no_keys {Q : Option Value → Shared → Prop} (hh : A.handled = none) (hx : h.get? a = some (EnO fs)) (fin : ∀ h' tk, (∀ b o, h.get? b = some o → h'.get? b = some o) → Q none ⟨h', g, d, tk, os⟩) :
    wpAny (model prog w) A (getAttr? (.ref a) "keys") Q E ⟨h, g, d, t, os⟩ := by
  have hT : ∀ t', (⟨h, g, d, t', os⟩ : Shared).TypeIs (.ref a) "enumerate" := fun _ => ⟨_, hx, rfl⟩
  have hT0 := hT t
  have hT1 := hT (t + 1)
  have f1 := sub_AttributeError
  have f3 := F.slot_enumerate_getattribute.lookup
  have f4 := F.slot_enumerate_getattribute.bind (.ref a)
  have f5 := enum_getattr_none
  unfold getAttr? getAttrBy? getAttrBy
  repeat (any_goals (first | assumption | wp_step))
  refine codeAny_call_builtin F.slot_enumerate_getattribute.plain entry_enum_ga (F.slot_enumerate_getattribute.check _ _ _ _ _ _ _ _ (hT _) (F.args_enumerate_getattribute_2 _ _) (keys_entry (by first | exact hh | simp [hh]) hx fun h' tk' e hx' => ?_))
  obtain ⟨t', u', he⟩ := hx'.there
  have hk := hx'.keeps
  show wpAny _ _ (getattributeRaised _ _ _ _ _ _ _) _ _ _
  unfold getattributeRaised
  repeat (any_goals (first | assumption | wp_step))
  exact fin _ _ hk
end
section
variable {P : Program} {w : World} {A : Around} {E : Value → Shared → Prop} {s : Shared}
theorem alive_is {a : Addr} {o : Obj} {Q : Option Obj → Shared → Prop} (ho : s.heap.get? a = some o) (q : Q (some o) s) : wpAny (model P w) A (loadIfAlive a) Q E s := by
  rw [← ho] at q
  exact fun _ _ _ => q
noncomputable abbrev EnB (h : Heap) (e it : Addr) (i : Int) (a : Addr) (b : Bool) (old : Value) : Prop := h.get? e = some { cls := .type "enumerate", dict := none, data := .fields #[rawInt a, .bool b, .ref it, rawInt i, .none, old], slots := #[] }
theorem enum_more {e it l a : Addr} {i : Nat} {items : Array Value} {x old : Value} {b : Bool} {Q : Value → Shared → Prop} (he : EnB s.heap e it i a b old) (ha : ∃ o, s.heap.get? a = some o) (hit : s.heap.IsListIter it l i) (hl : s.heap.IsList l items) (hx : items[i]? = some x) (hne : e ≠ it) (hae : a ≠ e) (hai : a ≠ it)
    (fin : ∀ g, EnB g e it ((i : Int) + 1) a true old → g.IsListIter it l (i + 1) → g.get? s.heap.objs.size = some { cls := .type "tuple", data := .seq #[.int i s.toks, x] } → (∀ c o, c ≠ e → c ≠ it → s.heap.get? c = some o → g.get? c = some o) → Q (.ref s.heap.objs.size) { s with heap := g, toks := s.toks + 1 }) :
    wpAny (model P w) A (Builtin.«enumerate.__next__» ⟨[.ref e], []⟩) (fun r s' => ∃ v, r = .done (.ret v) ∧ Q v s') E s := by
  obtain ⟨hp, gg, dr, tk, os⟩ := s
  show wpAny (model P w) _ (field (.ref e) 2 >>= _) _ _ _
  refine wpAny_bind (wpAny_field he rfl (x := .ref it) rfl (wpAny_bind (wpAny_nextOf_list_item hit hl hx fun h1 it1 s1 => ?_)))
  replace s1 : Heap.SameBut it hp h1 := s1
  have e1 : EnB h1 e it i a b old := (s1.2 e hne).trans he
  show wpAny (model P w) _ (field (.ref e) 3 >>= _) _ _ ⟨h1, gg, dr, tk, os⟩
  refine wpAny_bind (wpAny_field e1 rfl (x := rawInt i) rfl ?_)
  show wpAny (model P w) _ (field (.ref e) 4 >>= _) _ _ ⟨h1, gg, dr, tk, os⟩
  refine wpAny_bind (wpAny_field e1 rfl (x := .none) rfl ?_)
  show wpAny (model P w) _ (mkInt i >>= _) _ _ ⟨h1, gg, dr, tk, os⟩
  refine wpAny_bind (wpAny_mkInt ?_)
  show wpAny (model P w) _ (setField (.ref e) 3 (rawInt ((i : Int) + 1)) >>= _) _ _ ⟨h1, gg, dr, tk + 1, os⟩
  refine wpAny_bind (wpAny_setField_rec e1 (by simp) fun h2 e2 s2 => ?_)
  replace s2 : Heap.SameBut e h1 h2 := s2
  replace e2 : EnB h2 e it ((i : Int) + 1) a b old := e2
  show wpAny (model P w) _ (setField (.ref e) 4 .none >>= _) _ _ ⟨h2, gg, dr, tk + 1, os⟩
  refine wpAny_bind (wpAny_setField_rec e2 (by simp) fun h3 e3 s3 => ?_)
  replace s3 : Heap.SameBut e h2 h3 := s3
  replace e3 : EnB h3 e it ((i : Int) + 1) a b old := e3
  show wpAny (model P w) _ (newTuple [.int i tk, x] >>= _) _ _ ⟨h3, gg, dr, tk + 1, os⟩
  refine wpAny_bind (wpAny_newTuple ?_)
  have hz : h3.objs.size = hp.objs.size := by rw [s3.1, s2.1, s1.1]
  have elt : e < hp.objs.size := Heap.lt_size he
  have k3 : ∀ c o, c ≠ e → c ≠ it → hp.get? c = some o → h3.get? c = some o := fun c o c1 c2 q => s3.extBut c o c1 (s2.extBut c o c1 (s1.extBut c o c2 q))
  obtain ⟨oa, ga⟩ := ha
  have i3 := (it1.extBut s2.extBut (Ne.symm hne)).extBut s3.extBut (Ne.symm hne)
  have e4 : EnB (h3.push { cls := .type "tuple", data := .seq #[.int i tk, x] }) e it ((i : Int) + 1) a b old := Heap.get?_push_of_some _ e3
  have a4 : (h3.push { cls := .type "tuple", data := .seq #[.int i tk, x] }).get? a = some oa := Heap.get?_push_of_some _ (k3 a oa hae hai ga)
  have t4 : (h3.push { cls := .type "tuple", data := .seq #[.int i tk, x] }).get? hp.objs.size = some { cls := .type "tuple", data := .seq #[.int i tk, x] } := by rw [← hz]; exact Heap.get?_push_size _ rfl
  have k4 : ∀ c o, c ≠ e → c ≠ it → hp.get? c = some o → (h3.push { cls := .type "tuple", data := .seq #[.int i tk, x] }).get? c = some o := fun c o c1 c2 q => Heap.get?_push_of_some _ (k3 c o c1 c2 q)
  have i4 : (h3.push { cls := .type "tuple", data := .seq #[.int i tk, x] }).IsListIter it l (i + 1) := i3.at fun o q => Heap.get?_push_of_some _ q
  rw [hz]
  generalize h3.push { cls := .type "tuple", data := .seq #[.int i tk, x] } = h4 at e4 a4 t4 k4 i4 ⊢
  show wpAny (model P w) _ (Builtin.SmallTypes.ownedTupleIsFree (.ref e) >>= _) _ _ ⟨h4, gg, dr, tk + 1, os⟩
  refine wpAny_bind ?_
  unfold Builtin.SmallTypes.ownedTupleIsFree
  refine wpAny_bind (wpAny_field e4 rfl (x := rawInt a) rfl ?_)
  show wpAny (model P w) _ (loadIfAlive a >>= _) _ _ _
  refine wpAny_bind (alive_is a4 ?_)
  simp only [Option.isNone_some, Bool.false_eq_true, if_false]
  refine wpAny_bind (wpAny_field e4 rfl (x := .bool b) rfl ?_)
  have done : ∀ h5 : Heap, EnB h5 e it ((i : Int) + 1) a true old → Heap.SameBut e h4 h5 → Q (.ref hp.objs.size) ⟨h5, gg, dr, tk + 1, os⟩ := fun h5 e5 s5 =>
    fin h5 e5 (i4.extBut s5.extBut (Ne.symm hne)) (s5.extBut _ _ (Nat.ne_of_gt elt) t4) fun c o c1 c2 q => s5.extBut c o c1 (k4 c o c1 c2 q)
  cases b with
  | true => exact wpAny_pure (wpAny_pure ⟨_, rfl, done h4 e4 ⟨rfl, fun _ _ => rfl⟩⟩)
  | false =>
    refine wpAny_bind (wpAny_setField_rec e4 (by simp) fun h5 e5 s5 => ?_)
    replace e5 : EnB h5 e it ((i : Int) + 1) a true old := e5
    exact wpAny_pure (wpAny_pure ⟨_, rfl, done h5 e5 s5⟩)
noncomputable def EnG (h : Heap) (e it d : Addr) (i : Int) : Prop := (∃ old, IsEnum h e it i old) ∨ ∃ a b old, EnB h e it i a b old ∧ (∃ o, h.get? a = some o) ∧ a ≠ e ∧ a ≠ it ∧ a ≠ d
theorem next_enumG {e it l d : Addr} {i : Nat} {items : Array Value} {x : Value} {Q : Option Value → Shared → Prop} (he : EnG s.heap e it d i) (hit : s.heap.IsListIter it l i) (hl : s.heap.IsList l items) (hx : items[i]? = some x) (hne : e ≠ it) (dlt : d < s.heap.objs.size)
    (fin : ∀ g, EnG g e it d ((i + 1 : Nat) : Int) → g.IsListIter it l (i + 1) → g.get? s.heap.objs.size = some { cls := .type "tuple", data := .seq #[.int i s.toks, x] } → (∀ c o, c ≠ e → c ≠ it → s.heap.get? c = some o → g.get? c = some o) → Q (some (.ref s.heap.objs.size)) { s with heap := g, toks := s.toks + 1 }) :
    wpAny (model P w) A (pyNext (.ref e)) Q E s := by
  have ilt : it < s.heap.objs.size := by obtain ⟨_, q, _⟩ := hit; exact Heap.lt_size q
  rcases he with ⟨old, he⟩ | ⟨a, b, old, he, ha, hae, hai, had⟩
  · have elt : e < s.heap.objs.size := Heap.lt_size he
    exact wpAny_pyNext_enum_item he hit hl hx hne fun g a1 a2 a3 _ a5 => fin g (.inr ⟨_, _, _, a1, ⟨_, a3⟩, Nat.ne_of_gt elt, Nat.ne_of_gt ilt, Nat.ne_of_gt dlt⟩) a2 a3 a5
  · have ty : s.TypeIs (.ref e) "enumerate" := ⟨_, he, rfl⟩
    unfold pyNext
    exact wpAny_bind (wpAny_attempt (wpAny_callSpecial?_slot (name := Str.ofString "__next__") ty F.slot_enumerate_next (wpAny_call_entry F.slot_enumerate_next ty F.entry_enumerate_next
      (enum_more he ha hit hl hx hne hae hai fun g a1 a2 a3 a4 => wpAny_pure (fin g (.inr ⟨a, true, old, a1, ha.imp fun o q => a4 a o hae hai q, hae, hai, had⟩) a2 a3 a4)) (F.args_enumerate_next_1 _))))
theorem end_enumG {e it l d : Addr} {i : Nat} {items : Array Value} {Q : Option Value → Shared → Prop} (hh : A.handled = none) (he : EnG s.heap e it d i) (hit : s.heap.IsListIter it l i) (hl : s.heap.IsList l items) (hx : items[i]? = none)
    (fin : ∀ g, Heap.ExtBut it s.heap g → Q none { s with heap := g }) : wpAny (model P w) A (pyNext (.ref e)) Q E s := by
  rcases he with ⟨old, he⟩ | ⟨a, b, old, he, _⟩
  · exact wpAny_pyNext_enum_end hh he hit hl hx fin
  · have ty : s.TypeIs (.ref e) "enumerate" := ⟨_, he, rfl⟩
    unfold pyNext
    refine wpAny_bind (wpAny_attempt (wpAny_callSpecial?_slot (name := Str.ofString "__next__") ty F.slot_enumerate_next (wpAny_call_entry F.slot_enumerate_next ty F.entry_enumerate_next ?_ (F.args_enumerate_next_1 _))))
    show wpAny (model P w) _ (field (.ref e) 2 >>= _) _ _ _
    refine wpAny_bind (wpAny_field he rfl (x := .ref it) rfl (wpAny_bind (wpAny_nextOf_list_end hh hit hl hx fun g q1 b1 hq => ?_)))
    obtain ⟨o, ho, hc⟩ := hq
    exact wpAny_bind (wpAny_isInstance (T := "StopIteration") (b := true) ⟨o, ho, hc⟩ isSubtype_stop (wpAny_pure (fin _ b1)))
theorem pair_items {a : Addr} {x y : Value} {Q : List Value → Shared → Prop} (ha : s.heap.get? a = some { cls := .type "tuple", data := .seq #[x, y] }) (q : Q [x, y] s) : wpAny (model P w) A (Builtin.Dict.pairItems (.ref a)) Q E s := by
  have ty : s.TypeIs (.ref a) "tuple" := ⟨_, ha, rfl⟩
  unfold Builtin.Dict.pairItems
  refine wpAny_bind (wpAny_typeOf ty ?_)
  rw [if_pos (by decide)]
  exact wpAny_bind (wpAny_seqItems ha rfl (wpAny_pure q))
theorem entry_dul : entryFor table "dict.update.loop" = some Builtin.«dict.update.loop» := entryFor_of_tree (by kernel_rfl)
theorem plain_dul : plainId "dict.update.loop" = true := by decide +kernel
noncomputable def numbered (us : List Value) (i : Nat) : List (Key × Value) := (us.take i).mapIdx fun j v => (.inl (j : Int), v)
theorem numbered_next {us : List Value} {i : Nat} {x : Value} (h : us[i]? = some x) : stored (numbered us i) (.inl (i : Int)) x = numbered us (i + 1) := by
  have hi : i < us.length := (List.getElem?_eq_some_iff.mp h).1
  have hl : (us.take i).length = i := by rw [List.length_take]; omega
  unfold numbered stored
  rw [if_neg, List.take_add_one, h]
  · show _ = List.mapIdx _ (us.take i ++ [x])
    rw [List.mapIdx_append]
    simp [hl]
  · intro z
    rw [List.any_eq_true] at z
    obtain ⟨kv, hm, e⟩ := z
    rw [List.mem_mapIdx] at hm
    obtain ⟨j, hj, rfl⟩ := hm
    have e : (Sum.inl (j : Int) : Key) = .inl (i : Int) := of_decide_eq_true e
    have := Sum.inl.inj e
    omega
theorem dict_turns {R : Result → Shared → Prop} {e it l d : Addr} {items : Array Value} (hh : A.handled = none) (hne : e ≠ it) (nle : l ≠ e) (nli : l ≠ it) (nde : d ≠ e) (ndi : d ≠ it) (ndl : d ≠ l) (hz : items.size < 4000) :
    ∀ (k i : Nat) (s : Shared), i + k = items.size → EnG s.heap e it d i → s.heap.IsListIter it l i → s.heap.IsList l items → s.heap.DictOf (mixKind P w) d (numbered items.toList i) →
      (∀ g tk, g.DictOf (mixKind P w) d (numbered items.toList items.size) → (∀ c o, c ≠ e → c ≠ it → c ≠ d → s.heap.get? c = some o → g.get? c = some o) → R (.ok (.ret .none)) { s with heap := g, toks := tk }) →
      codeAny (model P w) A (.builtin "dict.update.loop" ⟨[.ref d, .ref e, rawInt i, .none], []⟩) R s := by
  intro k
  induction k with
  | zero =>
    intro i s hk he hit hl hd fin
    have : i = items.size := by omega
    subst this
    refine codeAny_builtin entry_dul ?_
    rw [Around.under_plainId plain_dul _]
    show wpAny (model P w) A.in1 (pyNext (.ref e) >>= _) _ _ s
    refine wpAny_bind (end_enumG (by first | exact hh | simp [hh]) he hit hl (by simp) fun g b1 => ?_)
    show wpAny (model P w) A.in1 (Builtin.Dict.addKeywords d [] >>= _) _ _ _
    exact wpAny_bind (wpAny_pure (wpAny_pure (fin g s.toks (hd.extBut b1 ndi) fun c o _ c2 _ q => b1 c o c2 q)))
  | succ k ih =>
    intro i s hk he hit hl hd fin
    refine codeAny_builtin entry_dul ?_
    rw [Around.under_plainId plain_dul _]
    show wpAny (model P w) A.in1 (pyNext (.ref e) >>= _) _ _ s
    obtain ⟨x, hx⟩ : ∃ x, items[i]? = some x := ⟨_, Array.getElem?_eq_getElem (by omega)⟩
    refine wpAny_bind (next_enumG he hit hl hx hne (by obtain ⟨_, _, _, ho, _⟩ := hd; exact Heap.lt_size ho) fun g a1 a2 a3 a4 => ?_)
    obtain ⟨hp, gg, dr, tk, os⟩ := s
    have ty : (⟨g, gg, dr, tk + 1, os⟩ : Shared).TypeIs (.ref hp.objs.size) "tuple" := ⟨_, a3, rfl⟩
    have hd1 : g.DictOf (mixKind P w) d (numbered items.toList i) := by
      obtain ⟨o, es, ep, ho, r⟩ := hd
      exact ⟨o, es, ep, a4 d o nde ndi ho, r⟩
    have a3 : g.get? hp.objs.size = some { cls := .type "tuple", data := .seq #[.int i tk, x] } := a3
    show wpAny (model P w) A.in1 (holding [.ref hp.objs.size] _ >>= _) _ _ ⟨g, gg, dr, tk + 1, os⟩
    refine wpAny_bind (wpAny_holding (wpAny_bind (wpAny_tryCatch (pair_items a3 ?_))))
    show wpAny (model P w) A.in1 (holding [.int i tk, x] (dictSet d (.int i tk) x)) _ _ _
    have nl : (numbered items.toList i).length ≤ sizeLine := by
      unfold numbered
      rw [List.length_mapIdx, List.length_take]
      exact Nat.le_trans (m := 4000) (by omega) (by decide)
    refine wpAny_holding (wpAny_dictSet_pairs (mixKind_int P w i tk) hd1 (fun h2 hd2 s2 => ?_) nl)
    rw [numbered_next (by simpa using hx)] at hd2
    replace s2 : Heap.SameBut d g h2 := s2
    have ei : rawInt ((i : Int) + 1) = rawInt ((i + 1 : Nat) : Int) := rfl
    refine wpAny_pure ⟨plainId_quiet plain_dul _, ?_⟩
    refine ih (i + 1) ⟨h2, gg, dr, _, os⟩ (by omega) ?_ ?_ ?_ hd2 fun g3 tk3 hd3 k3 => fin g3 tk3 hd3 fun c o c1 c2 c3 q => k3 c o c1 c2 c3 (s2.extBut c o c3 (a4 c o c1 c2 q))
    · rcases a1 with ⟨old, q⟩ | ⟨a, b, old, q, ⟨o, qo⟩, q2, q3, q4⟩
      · exact .inl ⟨old, s2.extBut _ _ (Ne.symm nde) q⟩
      · exact .inr ⟨a, b, old, s2.extBut _ _ (Ne.symm nde) q, ⟨o, s2.extBut _ _ q4 qo⟩, q2, q3, q4⟩
    · exact a2.extBut s2.extBut (Ne.symm ndi)
    · exact (hl.at fun o q => a4 l o nle nli q).extBut s2.extBut (Ne.symm ndl)
end
section
variable {P : Program} {w : World} {A : Around} {E : Value → Shared → Prop} {s : Shared}
theorem call_dict_enum {e it l : Addr} {items : Array Value} {Q : Value → Shared → Prop} (hh : A.handled = none) (he : IsEnum s.heap e it 0 .none) (hit : s.heap.IsListIter it l 0) (hl : s.heap.IsList l items) (hne : e ≠ it) (nle : l ≠ e) (nli : l ≠ it) (hz : items.size < 4000)
    (fin : ∀ g tk, g.DictOf (mixKind P w) s.heap.objs.size (numbered items.toList items.size) → (∀ c o, c ≠ e → c ≠ it → s.heap.get? c = some o → g.get? c = some o) → Q (.ref s.heap.objs.size) { s with heap := g, toks := tk }) :
    wpAny (model P w) A (call (.type "dict") [.ref e]) Q E s := by
  refine callType_codes (Q₁ := fun obj s₁ => obj = .ref s.heap.objs.size ∧ s₁ = { s with heap := s.heap.push { cls := .type "dict", data := .dict #[] } }) F.kt_called_dict (F.kt_typeCall_dict_1 _) F.entry_dict_init (kt_code_dict_new _ ⟨rfl, rfl⟩) ?_
  rintro obj s₁ ⟨rfl, rfl⟩
  obtain ⟨hp, gg, dr, tk, os⟩ := s
  have hnew : (hp.push { cls := .type "dict", data := .dict #[] }).DictOf (mixKind P w) hp.objs.size [] := Heap.DictOf.new hp
  have he1 : IsEnum (hp.push { cls := .type "dict", data := .dict #[] }) e it 0 .none := Heap.get?_push_of_some _ he
  have ty1 : (⟨hp.push { cls := .type "dict", data := .dict #[] }, gg, dr, tk, os⟩ : Shared).TypeIs (.ref e) "enumerate" := ⟨_, he1, rfl⟩
  have elt : e < hp.objs.size := Heap.lt_size he
  have ilt : it < hp.objs.size := by obtain ⟨_, q, _⟩ := hit; exact Heap.lt_size q
  have llt : l < hp.objs.size := by obtain ⟨_, q, _⟩ := hl; exact Heap.lt_size q
  have k1 : ∀ c o, hp.get? c = some o → (hp.push { cls := .type "dict", data := .dict #[] }).get? c = some o := fun c o q => Heap.get?_push_of_some _ q
  refine ⟨hnew.typeIs, F.args_dict_init_2 _ _, ?_⟩
  unfold Builtin.«dict.__init__»
  refine wpAny_bind ?_
  unfold Builtin.Dict.selfAndRest
  refine wpAny_bind (wpAny_notOrdered_dict hnew.typeIs (wpAny_pure ?_))
  show wpAny (model P w) _ (Builtin.Dict.updateFrom "dict.__init__" hp.objs.size (.ref e) [] .none) _ _ ⟨hp.push { cls := .type "dict", data := .dict #[] }, gg, dr, tk, os⟩
  generalize hp.push { cls := .type "dict", data := .dict #[] } = h1 at hnew he1 ty1 k1 ⊢
  unfold Builtin.Dict.updateFrom
  refine wpAny_bind (wpAny_typeOf ty1 ?_)
  rw [if_pos (by decide)]
  refine wpAny_bind (no_keys (by first | exact hh | simp [hh]) he1 fun h2 t2 k2 => ?_)
  rw [if_pos (show (none : Option Value).isNone = true from rfl)]
  have he2 : IsEnum h2 e it 0 .none := k2 _ _ he1
  refine wpAny_bind (wpAny_rule (wpAny_bind (wpAny_pyIter_enum he2 (wpAny_pure ⟨plainId_quiet plain_dul _, ?_⟩))))
  refine dict_turns (l := l) (items := items) (by first | exact hh | simp [hh]) hne nle nli (Nat.ne_of_gt elt) (Nat.ne_of_gt ilt) (Nat.ne_of_gt llt) hz items.size 0 ⟨h2, gg, dr, t2, os⟩ (Nat.zero_add _) (.inl ⟨_, he2⟩) ?_ ?_ ?_ fun g tk3 hd kp => ?_
  · obtain ⟨o, q, r⟩ := hit; exact ⟨o, k2 _ _ (k1 _ _ q), r⟩
  · obtain ⟨o, q, r⟩ := hl; exact ⟨o, k2 _ _ (k1 _ _ q), r⟩
  · obtain ⟨o, es, ep, q, r⟩ := hnew; exact ⟨o, es, ep, k2 _ _ q, r⟩
  · exact ⟨rfl, fin g tk3 hd fun c o c1 c2 q => kp c o c1 c2 (Nat.ne_of_lt (Heap.lt_size q)) (k2 _ _ (k1 _ _ q))⟩
end
noncomputable def numV (xs : List V) : List (Key × V) := xs.mapIdx fun j v => (.inl (j : Int), v)
theorem numV_rel {xs : List V} {us : List Value} (r : Vals xs us) : KV (numV xs) (numbered us us.length) := by
  have key : ∀ {xs : List V} {us : List Value}, Vals xs us → ∀ n : Nat, KV (xs.mapIdx fun j v => ((.inl ((j + n : Nat) : Int), v) : Key × V)) (us.mapIdx fun j v => ((.inl ((j + n : Nat) : Int), v) : Key × Value)) := by
    intro xs us r
    induction r with
    | nil => intro n; exact .nil
    | cons a _ ih =>
      intro n
      rw [List.mapIdx_cons, List.mapIdx_cons]
      refine .cons ⟨rfl, a⟩ ?_
      have := ih (n + 1)
      have e : ∀ j : Nat, j + 1 + n = j + (n + 1) := fun j => by omega
      show KV _ _
      simpa only [e] using this
  have := key r 0
  unfold numV numbered
  rw [List.take_length]
  exact this
noncomputable def tDictEnum (K : PySem.W.Frag) (ta : TA) : TE := fun σ H Q => ta σ H fun vs H1 => ∃ l xs, vs = [V.ref l] ∧ SqL K H1 l xs ∧ xs.length < 4000 ∧ ∀ p, H1 p = none → Q (.ref p) (upd H1 p (.dK (numV xs)))
theorem pe_dictEnum {X : Cx} {K : PySem.W.Frag} {a : Expr} {ta : TA} {p p2 pos pos2 : Pos} (hK : X.K = K) (hc : X.calm = true) (hg : Gl X "dict") (hm : X.mg "dict" = none) (hg2 : Gl X "enumerate") (hm2 : X.mg "enumerate" = none) (ha : PA X [a] ta)
    (hs : starEach [a] X.env = [(false, eval a X.env)] := by rfl) (hs2 : starEach [.Call (.Name "enumerate" p2) [a] [] pos2] X.env = [(false, eval (.Call (.Name "enumerate" p2) [a] [] pos2) X.env)] := by rfl) :
    PE X (.Call (.Name "dict" p) [.Call (.Name "enumerate" p2) [a] [] pos2] [] pos) (tDictEnum K ta) := by
  subst hK
  intro pins s σ H Q I h
  refine Call_ (ld_blt I hg hm bt_dict (PyProof.Rows.callWith_type1 ?_ hs2 rfl))
  rw [hs2]
  show wpAny _ _ (spliced ((false, eval (.Call (.Name "enumerate" p2) [a] [] pos2) X.env) :: [])) _ _ s
  refine Calls.spliced_cons (Call_ (ld_blt I hg2 hm2 bt_enumerate (PyProof.Rows.callWith_type1 (thn (ha pos2 pins s σ H _ I h) fun us s1 ⟨vs, H1, I1, r1, q1⟩ => ?_) hs rfl)))
  obtain ⟨l, xs, rfl, hq, hlen, q⟩ := q1
  obtain ⟨u, rfl, ru⟩ := vals1 r1
  cases ru
  obtain ⟨its, rv, pl, hz⟩ := I1.list hq
  have hlen2 : its.length = xs.length := rv.length.symm
  have llt : l < s1.heap.objs.size := by obtain ⟨_, q, _⟩ := pl.isList; exact Heap.lt_size q
  refine call_enumerate_list pl.isList fun h' he hl hz' kk => Calls.spliced_nil ?_
  refine call_dict_enum (items := its.toArray) (I1.ok.hd hc) he hl ?_ (Nat.succ_ne_self _) (Nat.ne_of_lt (Nat.lt_succ_of_lt llt)) (Nat.ne_of_lt llt) (by rw [List.size_toArray]; omega) fun g tk hd kp => ?_
  · obtain ⟨o, q, r⟩ := pl.isList; exact ⟨o, kk _ _ q, r⟩
  have ea : h'.objs.size = s1.heap.objs.size + 2 := hz'
  refine ⟨.ref _, _, I1.laid (a := h'.objs.size) (o := .dK (numV xs)) (t' := tk) (fun b ob e => kp b ob ?_ ?_ (kk b ob e)) (by rw [ea]; exact Nat.le_add_right _ _) ⟨?_, ?_, numbered its its.length, numV_rel rv, ?_⟩, rfl, q _ (I1.hok.fresh (by rw [ea]; exact Nat.le_add_right _ _))⟩
  · exact Nat.ne_of_lt (Nat.lt_succ_of_lt (Heap.lt_size e))
  · exact Nat.ne_of_lt (Heap.lt_size e)
  · unfold numV
    rw [List.length_mapIdx]
    exact Nat.le_trans (m := 4000) (by omega) (by decide)
  · refine beq_eq_false_iff_ne.mpr (Nat.ne_of_gt ?_)
    rw [ea]
    exact Nat.lt_of_lt_of_le I1.big (Nat.le_add_right _ _)
  · have : g.DictOf (mixKind X.prog X.w) h'.objs.size (numbered its.toArray.toList its.toArray.size) := hd
    simpa using this
section
variable {X : Cx} {e : Expr}
noncomputable def tTryS (i : Nat) (tx : St → Hp → VK → XK → Prop) (th : Value → TS) : TS := fun D σ H => tx σ H (fun v H1 => D.nx (σ.set i (some v)) H1) (fun C _ H' => th C D σ H')
theorem ps_tryS {hd : ExceptHandler} {hds : List ExceptHandler} {th : Value → TS} {p1 p2 pos : Pos} {tx : St → Hp → VK → XK → Prop} {i : Nat} {x : Str} (hst : X.stack = X.env :: X.outer) (hf : X.env.frame = some X.env.locals) (hN : X.N.Nodup) (hi : X.N[i]? = some x) (hl : Loc X.env.scope x)
    (hx : PEX X e tx) (hh : Hd X (hd :: hds) th) (hs : swapsWith e (some (.Name x p2)) p1.line X.env = pure false := by rfl) (hfn : X.fn x = true ∨ X.env.scope.names.lookup x = some .local := by first | exact .inl rfl | exact .inr rfl) :
    PS X (.Try [.Assign [.Name x p2] e p1] (hd :: hds) [] [] pos) (tTryS i tx th) := by
  intro pins s σ H D I h
  refine wpAny_Try_except ?_
  refine wpAny_execs_cons (wpAny_Assign_Name (wpAny_mono (hx pins s σ H _ _ I h) (fun v s1 ⟨y, H1, I1, r1, q⟩ => ?_) fun ex s2 ⟨s1, H1, I1, z⟩ => ?_) hs)
  · exact store_ok I1 hN hi hl r1 (fun s2 I2 => wpAny_execs_nil (wpAny_execs_nil ⟨_, H1, I2, q⟩)) hfn
  · exact to_hands hst hf hh I1 z fun C _ H' q => q
end
end L2
namespace L2
open PySem PySem.Spec PyProof.Rows
/-! t * n of a tuple -/
theorem nofill_tup : fillsNumberSlot (.type "tuple") "mul" = pure false := PySem.fillsNumberSlot_seq (id := "tuple.__mul__") (r := some (.builtin "tuple.__rmul__")) F.slot_tuple_mul.lookup (by decide +kernel) F.slot_tuple_rmul.lookup (by decide +kernel)
theorem rep_tup : seqRepeat? (.type "tuple") = pure (some (.builtin "tuple.__mul__")) := by
  unfold seqRepeat?
  rw [PySem.seqSlot_of (T := "tuple") (name := "__mul__") (id := "tuple.__mul__") F.slot_tuple_mul.lookup (by decide +kernel), PySem.seqSlot_of (T := "tuple") (name := "__rmul__") (id := "tuple.__rmul__") F.slot_tuple_rmul.lookup (by decide +kernel)]
  rfl
theorem rmul_tup (k : Int) (t : Tok) (l : Addr) (items : Array Value) (n : Nat) (dc : Option Addr) (sl : Array (Option Value)) : Meets (Builtin.«int.__rmul__» ⟨[.int k t, .ref l], []⟩) (fun _ R s => s.heap.get? l = some { cls := .type "tuple", dict := dc, data := .seq items n, slots := sl } ∧ R (.ok (.ret Value.notImplemented)) s) :=
  .of_wp fun prog w A R s q => by
    obtain ⟨hp, g, d, tk, os⟩ := s
    obtain ⟨hl, q⟩ := q
    wp_walk
    exact ⟨_, rfl, q⟩
theorem mul_tup (k : Int) (t : Tok) (l : Addr) (items : Array Value) (n : Nat) (dc : Option Addr) (sl : Array (Option Value)) (h1 : 2 ≤ k) (h2 : k ≤ 1000) (h3 : items.isEmpty = false) (h4 : items.size ≤ 1000) (h5 : ((List.replicate k.toNat items).foldl (· ++ ·) #[]).size ≤ sizeLine) : Meets (Builtin.«tuple.__mul__» ⟨[.ref l, .int k t], []⟩) (fun _ R s => s.heap.get? l = some { cls := .type "tuple", dict := dc, data := .seq items n, slots := sl } ∧ R (.ok (.ret (.ref s.heap.objs.size))) { s with heap := s.heap.push { cls := .type "tuple", data := .seq ((List.replicate k.toNat items).foldl (· ++ ·) #[]) } }) :=
  .of_wp fun prog w A R s q => by
    obtain ⟨hp, g, d, tk, os⟩ := s
    obtain ⟨hl, q⟩ := q
    have c1 : (decide (k < -2 ^ 63) || decide (k ≥ 2 ^ 63)) = false := by simp; omega
    have c2 : (items.isEmpty || k == 1) = false := by rw [h3]; simp; omega
    have c3 : (decide (k ≤ 0) || items.isEmpty) = false := by rw [h3]; simp; omega
    have hb : (items.size : Int) * k ≤ 1000000 := by
      have : (items.size : Int) * k ≤ 1000 * 1000 := Int.mul_le_mul (by omega) h2 (by omega) (by decide)
      omega
    have c4 : ¬ (items.size : Int) * k > (2 ^ 63 - 1) / 8 := by omega
    wp_walk
    rw [if_neg (by rw [c1]; exact Bool.false_ne_true)]
    wp_walk
    rw [if_neg (by rw [c2]; exact Bool.false_ne_true)]
    wp_walk
    rw [if_neg (by rw [c3]; exact Bool.false_ne_true)]
    have c5 : ¬ Builtin.Tuple.tupleTooMany ((items.size : Int) * k) = true := by
      unfold Builtin.Tuple.tupleTooMany
      intro z
      have z := of_decide_eq_true z
      have : (sizeLine : Int) = 16777216 := by decide
      omega
    simp only [if_neg c4, if_neg c5]
    unfold Builtin.Tuple.tupleExact
    wp_walk
    exact ⟨_, rfl, q⟩
section
variable {X : Cx} {K : PySem.W.Frag}
noncomputable def rRepT (K : PySem.W.Frag) : R2 := fun x y H Q => ∃ l k xs, x = .ref l ∧ y = .int k ∧ SqT K H l xs ∧ 2 ≤ k ∧ k ≤ 1000 ∧ xs ≠ [] ∧ xs.length ≤ 1000 ∧ ∀ p, H p = none → Q (.ref p) (upd H p (.tup (List.replicate k.toNat xs).flatten))
theorem op_repT (hK : X.K = K) : OpR X (binaryOp .Mult) (rRepT K) := by
  subst hK
  intro pins s σ H x y v u Q I rx ry h
  obtain ⟨l, k, xs, rfl, rfl, hT, h1, h2, hne, hl, q⟩ := h
  cases rx
  obtain ⟨t, rfl⟩ := ry
  obtain ⟨its, r, ht, hz⟩ := I.tuple hT
  have hlen := r.length
  obtain ⟨⟨c, dct, dt, sl⟩, ho, hc, n, hd⟩ := id ht
  replace hc : c = .type "tuple" := hc
  replace hd : dt = .seq its.toArray n := hd
  subst hc hd
  have hie : its.toArray.isEmpty = false := by
    cases its with
    | nil => exact absurd (List.length_eq_zero_iff.mp (by simpa using hlen)) hne
    | cons a b => rfl
  have hnew : (List.replicate k.toNat its.toArray).foldl (fun x1 x2 => x1 ++ x2) #[] = (List.replicate k.toNat its).flatten.toArray := by
    have := foldl_rep its k.toNat []
    rw [List.nil_append] at this
    exact this
  have hkk : k.toNat * its.length ≤ sizeLine := by
    have : k.toNat * its.length ≤ 1000 * 1000 := Nat.mul_le_mul (by omega) (by omega)
    exact Nat.le_trans this (by decide)
  refine wpAny_binaryOp_repeat_ref (T := "tuple") (U := "int") (by decide) ⟨_, ho, rfl⟩ (fun s' => typeIs_int s' k t) nofill_tup F.fills_int_mul F.slot_int_rmul rep_tup F.slot_int_index.lookup
    (call_meets F.slot_int_rmul (typeIs_int s k t) F.entry_int_rmul (F.args_int_rmul_2 _ _) (rmul_tup k t l its.toArray n dct sl)
      ⟨ho, rfl, ⟨_, ho, rfl⟩, call_meets F.slot_tuple_mul ⟨_, ho, rfl⟩ F.entry_tuple_mul (F.args_tuple_mul_2 _ _) (mul_tup k t l its.toArray n dct sl h1 h2 hie (by rw [List.size_toArray]; omega) (by rw [hnew, List.size_toArray, len_rep]; exact hkk)) ⟨ho, ?_⟩⟩)
  rw [hnew]
  refine ⟨.ref s.heap.objs.size, _, I.laid (t' := s.toks) (o := .tup (List.replicate k.toNat xs).flatten) (fun b ob q => Heap.get?_push_of_some _ q) (Nat.le_refl _) ⟨?_, _, r.rep k.toNat, IsTup.new _ _⟩, rfl, q _ (I.hok.fresh (Nat.le_refl _))⟩
  rw [len_rep, hlen]
  exact hkk
end
end L2
namespace L2
open PySem PySem.Spec PyProof.Rows
open AutoSeq1 (wpAny_loadPart')
/-! enumerate of a tuple -/
noncomputable abbrev et1 (h : Heap) (a : Addr) : Heap := (zt1 h a).push { cls := .type "enumerate", data := .fields #[.none, .bool false, .ref h.objs.size, rawInt 0, .none, .none] }
theorem enum_new (a : Addr) (xs : Array Value) (n : Nat) (dc : Option Addr) (sl : Array (Option Value)) : Meets (Builtin.«enumerate.__new__» ⟨[.type "enumerate", .ref a], []⟩) (fun _ R s => s.heap.get? a = some { cls := .type "tuple", dict := dc, data := .seq xs n, slots := sl } ∧ R (.ok (.ret (.ref (zt1 s.heap a).objs.size))) { s with heap := et1 s.heap a }) :=
  .of_wp fun prog w A R s q => by
    obtain ⟨hp, g, d, tk, os⟩ := s
    obtain ⟨ha, q⟩ := q
    have sub := sub_enumerate
    have hA : Heap.IsTuple (Shared.heap ⟨hp, g, d, tk, os⟩) a xs := ⟨_, ha, rfl, n, rfl⟩
    wp_walk using wpAny_loadPart' ha
    refine wpAny_stack_any fun st => wpAny_pure ?_
    split
    · rename_i c _ _ _ _ _
      cases (c == Value.type "enumerate") <;> wp_walk using wpAny_loadPart' ha, wpAny_pyIter_tuple hA <;> exact ⟨_, rfl, q⟩
    · wp_walk using wpAny_loadPart' ha, wpAny_pyIter_tuple hA
      exact ⟨_, rfl, q⟩
section
variable {P : Program} {w : World} {A : Around} {E : Value → Shared → Prop} {s : Shared}
theorem call_enumT {a : Addr} {xs : Array Value} {Q : Value → Shared → Prop} (ha : s.heap.IsTuple a xs)
    (fin : ∀ g, IsEnum g (s.heap.objs.size + 1) s.heap.objs.size 0 .none → g.IsTupleIter s.heap.objs.size a 0 → (∀ c o, s.heap.get? c = some o → g.get? c = some o) → Q (.ref (s.heap.objs.size + 1)) { s with heap := g }) :
    wpAny (model P w) A (call (.type "enumerate") [.ref a]) Q E s := by
  obtain ⟨⟨c, dc, dt, sl⟩, ho, hc, n, hd⟩ := ha
  replace hc : c = .type "tuple" := hc
  replace hd : dt = .seq xs n := hd
  subst hc hd
  refine callType_new F.called_enumerate (by decide) (F.typeCall_enumerate_1 _) (F.newCall_enumerate_1 _) (fun obj => F.args_object_init_2 obj _) F.entry_enumerate_new (enum_new a xs n dc sl) ⟨ho, ?_⟩
  have z1 : (zt1 s.heap a).objs.size = s.heap.objs.size + 1 := Heap.size_push ..
  have g2 : (et1 s.heap a).get? (zt1 s.heap a).objs.size = some _ := Heap.get?_push_size _ rfl
  have g1 : (et1 s.heap a).get? s.heap.objs.size = some _ := Heap.get?_push_of_some _ (Heap.get?_push_size _ rfl)
  show _ ∧ _
  rw [z1] at g2 ⊢
  exact ⟨⟨_, g2, rfl⟩, fin _ g2 ⟨_, g1, rfl, rfl⟩ fun c o q => Heap.get?_push_of_some _ (Heap.get?_push_of_some _ q)⟩
theorem enum_gives {e m l : Addr} {i : Nat} {I J : Heap → Prop} {x old : Value} {Q : Value → Shared → Prop} (X : Hands P w m l I J x) (he : IsEnum s.heap e m i old) (hI : I s.heap) (hne : e ≠ m)
    (fin : ∀ g, IsEnumOut g e m ((i : Int) + 1) x s.heap.objs.size → J g → g.get? s.heap.objs.size = some { cls := .type "tuple", data := .seq #[.int i s.toks, x] } → (∀ c o, c ≠ e → c ≠ m → s.heap.get? c = some o → g.get? c = some o) → Q (.ref s.heap.objs.size) { s with heap := g, toks := s.toks + 1 }) :
    wpAny (model P w) A (Builtin.«enumerate.__next__» ⟨[.ref e], []⟩) (fun r s' => ∃ v, r = .done (.ret v) ∧ Q v s') E s := by
  obtain ⟨hp, gg, dr, tk, os⟩ := s
  show wpAny (model P w) _ (field (.ref e) 2 >>= _) _ _ _
  refine wpAny_bind (wpAny_field he rfl (x := .ref m) rfl (wpAny_bind (X.give hI fun h1 j1 s1 => ?_)))
  replace s1 : Heap.SameBut m hp h1 := s1
  have e1 : IsEnum h1 e m i old := (s1.2 e hne).trans he
  show wpAny (model P w) _ (field (.ref e) 3 >>= _) _ _ ⟨h1, gg, dr, tk, os⟩
  refine wpAny_bind (wpAny_field e1 rfl (x := rawInt i) rfl ?_)
  show wpAny (model P w) _ (field (.ref e) 4 >>= _) _ _ ⟨h1, gg, dr, tk, os⟩
  refine wpAny_bind (wpAny_field e1 rfl (x := .none) rfl ?_)
  show wpAny (model P w) _ (mkInt i >>= _) _ _ ⟨h1, gg, dr, tk, os⟩
  refine wpAny_bind (wpAny_mkInt ?_)
  show wpAny (model P w) _ (setField (.ref e) 3 (rawInt ((i : Int) + 1)) >>= _) _ _ ⟨h1, gg, dr, tk + 1, os⟩
  refine wpAny_bind (wpAny_setField_rec e1 (by simp) fun h2 e2 s2 => ?_)
  replace s2 : Heap.SameBut e h1 h2 := s2
  replace e2 : IsEnum h2 e m ((i : Int) + 1) old := e2
  show wpAny (model P w) _ (setField (.ref e) 4 .none >>= _) _ _ ⟨h2, gg, dr, tk + 1, os⟩
  refine wpAny_bind (wpAny_setField_rec e2 (by simp) fun h3 e3 s3 => ?_)
  replace s3 : Heap.SameBut e h2 h3 := s3
  replace e3 : IsEnum h3 e m ((i : Int) + 1) old := e3
  show wpAny (model P w) _ (newTuple [.int i tk, x] >>= _) _ _ ⟨h3, gg, dr, tk + 1, os⟩
  refine wpAny_bind (wpAny_newTuple ?_)
  have hz : h3.objs.size = hp.objs.size := by rw [s3.1, s2.1, s1.1]
  have elt : e < hp.objs.size := Heap.lt_size he
  have e4 : IsEnum (h3.push { cls := .type "tuple", data := .seq #[.int i tk, x] }) e m ((i : Int) + 1) old := Heap.get?_push_of_some _ e3
  have t4 : (h3.push { cls := .type "tuple", data := .seq #[.int i tk, x] }).get? hp.objs.size = some { cls := .type "tuple", data := .seq #[.int i tk, x] } := by rw [← hz]; exact Heap.get?_push_size _ rfl
  have k4 : ∀ c o, c ≠ e → c ≠ m → hp.get? c = some o → (h3.push { cls := .type "tuple", data := .seq #[.int i tk, x] }).get? c = some o := fun c o c1 c2 q => Heap.get?_push_of_some _ (s3.extBut c o c1 (s2.extBut c o c1 (s1.extBut c o c2 q)))
  have j4 : J (h3.push { cls := .type "tuple", data := .seq #[.int i tk, x] }) := X.keepJ (fun o q => Heap.get?_push_of_some _ (s3.extBut m o (Ne.symm hne) (s2.extBut m o (Ne.symm hne) q))) j1
  rw [hz]
  generalize h3.push { cls := .type "tuple", data := .seq #[.int i tk, x] } = h4 at e4 t4 k4 j4 ⊢
  show wpAny (model P w) _ (Builtin.SmallTypes.ownedTupleIsFree (.ref e) >>= _) _ _ ⟨h4, gg, dr, tk + 1, os⟩
  refine wpAny_bind ?_
  unfold Builtin.SmallTypes.ownedTupleIsFree
  refine wpAny_bind (wpAny_field e4 rfl (x := .none) rfl (wpAny_pure ?_))
  simp only [if_true]
  refine wpAny_bind (wpAny_rule (wpAny_bind (wpAny_field e4 rfl (x := old) rfl (wpAny_bind (wpAny_setField_rec e4 (by simp) fun h5 e5 s5 => ?_)))))
  replace s5 : Heap.SameBut e h4 h5 := s5
  replace e5 : IsEnum h5 e m ((i : Int) + 1) x := e5
  show wpAny (model P w) _ (Builtin.SmallTypes.ownedTupleHandOut (.ref e) (.ref hp.objs.size) >>= _) _ _ ⟨h5, gg, dr, tk + 1, os⟩
  refine wpAny_bind ?_
  unfold Builtin.SmallTypes.ownedTupleHandOut
  refine wpAny_bind (wpAny_setField_rec e5 (by simp) fun h6 e6 s6 => ?_)
  replace s6 : Heap.SameBut e h5 h6 := s6
  replace e6 : IsEnumOut h6 e m ((i : Int) + 1) x hp.objs.size := e6
  refine wpAny_setField_rec e6 (by simp) fun h7 e7 s7 => ?_
  replace s7 : Heap.SameBut e h6 h7 := s7
  replace e7 : IsEnumOut h7 e m ((i : Int) + 1) x hp.objs.size := e7
  have up : ∀ c o, c ≠ e → h4.get? c = some o → h7.get? c = some o := fun c o c1 q => s7.extBut c o c1 (s6.extBut c o c1 (s5.extBut c o c1 q))
  exact wpAny_bind (wpAny_letGo (wpAny_pure ⟨_, rfl, fin h7 e7 (X.keepJ (fun o q => up m o (Ne.symm hne) q) j4) (up _ _ (Nat.ne_of_gt elt) t4) fun c o c1 c2 q => up c o c1 (k4 c o c1 c2 q)⟩))
end
noncomputable def ItN (K : PySem.W.Frag) (a : Addr) (xs : List V) : It :=
  ⟨fun i H => i < xs.length ∧ SqT K H a xs, fun i H x H' => ∃ v T, xs[i]? = some v ∧ x = .ref T ∧ H T = none ∧ H' = upd H T (.tup [.int (i : Nat), v]), fun i H => i = xs.length ∧ SqT K H a xs⟩
theorem turn_enumT {P : Program} {w : World} {K : PySem.W.Frag} {elts : List Expr} {kk : Nat} {pos : Pos} (a e m : Addr) (xs : List V) (hne : e ≠ m) :
    Turn P w K (.Tuple elts kk pos) (ItN K a xs) [e, m] e (fun i h => ∃ old, IsEnum h e m ((i : Nat) : Int) old ∧ h.IsTupleIter m a i) where
  mem := by simp
  obj := fun i h st b hb => by
    obtain ⟨old, s1, o, e2, c, d⟩ := st
    simp only [List.mem_cons, List.not_mem_nil, or_false] at hb
    rcases hb with rfl | rfl
    · exact ⟨_, s1, fun v z => by cases z⟩
    · exact ⟨o, e2, fun v z => by rw [d] at z; cases z⟩
  keep := fun i h h' st k => let ⟨old, s1, ⟨o, e2, r⟩⟩ := st; ⟨old, k e (by simp) _ s1, ⟨o, k m (by simp) _ e2, r⟩⟩
  item := by
    intro X hP hw hK hc i pins s σ H E I hf st hg
    subst hP hw hK
    obtain ⟨old, st1, st2⟩ := st
    obtain ⟨hi, hq⟩ := hg
    obtain ⟨its, rv, p, hz⟩ := I.tuple hq
    have hx : xs[i]? = some xs[i] := by simp [hi]
    obtain ⟨u, hu, ru⟩ := rv.get hx
    have ty : s.TypeIs (.ref e) "enumerate" := ⟨_, st1, rfl⟩
    unfold pyNext
    refine wpAny_bind (wpAny_attempt (wpAny_callSpecial?_slot (name := Str.ofString "__next__") ty F.slot_enumerate_next (wpAny_call_entry F.slot_enumerate_next ty F.entry_enumerate_next
      (enum_gives (hands_tup (xs := its.toArray) (x := u) (k := i) (by simpa using hu)) st1 ⟨st2, p⟩ hne fun h' jo jl ht kp => wpAny_pure ?_) (F.args_enumerate_next_1 _))))
    refine ⟨_, rfl, wpAny_letOwnedTupleGo_enum jo fun h2 he2 sb => ?_⟩
    have sb : Heap.SameBut e h' h2 := sb
    have nTe : s.heap.objs.size ≠ e := Nat.ne_of_gt (Heap.lt_size st1)
    have nTl : s.heap.objs.size ≠ m := by
      obtain ⟨o, e2, _⟩ := id st2
      exact Nat.ne_of_gt (Heap.lt_size e2)
    have I1 : Inv X pins σ H { s with heap := h2, toks := s.toks + 1 } := I.turns (ch := [e, m]) (fun b o hb eo => sb.extBut b o (fun z => hb (by simp [z])) (kp b o (fun z => hb (by simp [z])) (fun z => hb (by simp [z])) eo)) hf
    have hT2 : h2.get? s.heap.objs.size = some { cls := .type "tuple", data := .seq #[.int i s.toks, u] } := sb.extBut _ _ nTe ht
    obtain ⟨g0, g1, _, _, g4, g5⟩ := I.fpOk (Nat.le_refl _) I.fresh
    have I2 := I1.track (a := s.heap.objs.size) (o := .tup [.int (i : Nat), xs[i]]) g0 (by
      cases q : X.s₀.heap.get? s.heap.objs.size with
      | none => rfl
      | some ob => exact absurd (Nat.lt_of_lt_of_le (Heap.lt_size q) I.sz) (Nat.lt_irrefl _)) g1 g4 g5 ⟨small1000 (by simp) |> Nat.le_of_lt, [.int i s.toks, u], .cons ⟨_, rfl⟩ (.cons ru .nil), ⟨_, hT2, rfl, _, rfl⟩⟩
    refine ⟨.ref _, _, I2, rfl, ⟨xs[i], _, hx, rfl, g0, rfl⟩, ⟨_, he2, jl.extBut sb.extBut hne.symm⟩, fun b hb => ?_⟩
    have nb : b ≠ s.heap.objs.size := by
      simp only [List.mem_cons, List.not_mem_nil, or_false] at hb
      rcases hb with rfl | rfl
      · exact nTe.symm
      · exact nTl.symm
    rw [upd_ne nb]; exact (hf b hb).1
  done := by
    intro X hP hw hK hc i pins s σ H E I hf st hg
    subst hP hw hK
    obtain ⟨old, st1, st2⟩ := st
    obtain ⟨hi, hq⟩ := hg
    obtain ⟨its, rv, p, hz⟩ := I.tuple hq
    have l1 := rv.length
    have ty : s.TypeIs (.ref e) "enumerate" := ⟨_, st1, rfl⟩
    unfold pyNext
    refine wpAny_bind (wpAny_attempt (wpAny_callSpecial?_slot (name := Str.ofString "__next__") ty F.slot_enumerate_next (wpAny_call_entry F.slot_enumerate_next ty F.entry_enumerate_next ?_ (F.args_enumerate_next_1 _))))
    show wpAny (model X.prog X.w) _ (field (.ref e) 2 >>= _) _ _ _
    refine wpAny_bind (wpAny_field st1 rfl (x := .ref m) rfl (wpAny_bind (ends_tup (xs := its.toArray) (by first | exact I.ok.hd hc | simp [I.ok.hd hc]) st2 p (by simp; omega) fun g q1 b1 hq => ?_)))
    obtain ⟨o, ho, hcl⟩ := hq
    refine wpAny_bind (wpAny_isInstance (T := "StopIteration") (b := true) ⟨o, ho, hcl⟩ isSubtype_stop (wpAny_pure ?_))
    exact ⟨rfl, I.turns (t' := s.toks) (ch := [e, m]) (fun b o hb eo => b1 b o (fun z => hb (by simp [z])) eo) hf⟩
  self := fun A i s Q E st h => let ⟨_, st1, _⟩ := st; wpAny_pyIter_enum st1 h
section
variable {X : Cx} {K : PySem.W.Frag}
noncomputable def iEnumT (K : PySem.W.Frag) (ta : TA) : TI := fun σ H R => ta σ H fun vs H1 => ∃ a xs, vs = [V.ref a] ∧ SqT K H1 a xs ∧ R (ItN K a xs) H1
theorem pi_enumT {elts : List Expr} {kk : Nat} {tpos : Pos} {a : Expr} {ta : TA} {p pos : Pos} (hK : X.K = K) (hg : Gl X "enumerate") (hm : X.mg "enumerate" = none) (ha : PA X [a] ta) (hs : starEach [a] X.env = [(false, eval a X.env)] := by rfl) : PI X (.Tuple elts kk tpos) (.Call (.Name "enumerate" p) [a] [] pos) (iEnumT K ta) := by
  subst hK
  intro pins s σ H R I h
  refine Call_ (ld_blt I hg hm bt_enumerate (PyProof.Rows.callWith_type1 (thn (ha pos pins s σ H _ I h) fun us s1 ⟨vs, H1, I1, r1, q1⟩ => ?_) hs rfl))
  obtain ⟨b, xs, rfl, hq, q⟩ := q1
  obtain ⟨u, rfl, ru⟩ := vals1 r1
  cases ru
  obtain ⟨its, rv, p, hz⟩ := I1.tuple hq
  refine call_enumT (xs := its.toArray) p fun h' he hl kk => wpAny_pyIter_enum he ?_
  refine ⟨s1.heap.objs.size + 1, [s1.heap.objs.size + 1, s1.heap.objs.size], _, _, H1, rfl, I1.kept (t' := s1.toks) kk, turn_enumT b (s1.heap.objs.size + 1) s1.heap.objs.size xs (Nat.succ_ne_self _), ⟨_, he, hl⟩, fun c hc => ?_, q⟩
  simp only [List.mem_cons, List.not_mem_nil, or_false] at hc
  rcases hc with rfl | rfl
  · exact I1.fpOk (by omega) (I1.hok.fresh (by omega))
  · exact I1.fpOk (Nat.le_refl _) (I1.hok.fresh (Nat.le_refl _))
end
theorem for_enumT {K : PySem.W.Frag} {a : Addr} {xs : List V} {g : TG} {tb : TS} {D : Ends} {σ : St} {H : Hp} (Pv : Nat → St → Hp → Prop) (h0 : Pv 0 σ H) (hl : ∀ i σ H, i ≤ xs.length → Pv i σ H → SqT K H a xs)
    (hs : ∀ i v T σ H, xs[i]? = some v → Pv i σ H → H T = none → g (.ref T) σ (upd H T (.tup [.int (i : Nat), v])) fun σ2 H2 => tb { D with nx := Pv (i + 1), ct := Pv (i + 1), bk := D.nx } σ2 H2) (hd : ∀ σ H, Pv xs.length σ H → D.nx σ H) :
    ∃ W : Nat → Nat → St → Hp → Prop, (∃ m, W 0 m σ H) ∧ ∀ i m σ H, W i m σ H → ((ItN K a xs).stop i H ∧ D.nx σ H) ∨ ((ItN K a xs).go i H ∧ ∃ N : St → Hp → Prop, (∀ σ' H', N σ' H' → ∃ m', m' < m ∧ W (i + 1) m' σ' H') ∧
      ∀ x H', (ItN K a xs).yld i H x H' → g x σ H' fun σ2 H2 => tb { D with nx := N, ct := N, bk := D.nx } σ2 H2) := by
  refine ⟨fun i m σ H => m = xs.length - i ∧ i ≤ xs.length ∧ Pv i σ H, ⟨_, rfl, Nat.zero_le _, h0⟩, ?_⟩
  rintro i m σ H ⟨rfl, hi, p⟩
  have q := hl i σ H hi p
  by_cases hlt : i < xs.length
  · refine .inr ⟨⟨hlt, q⟩, Pv (i + 1), fun σ' H' p' => ⟨xs.length - (i + 1), by omega, rfl, hlt, p'⟩, fun x H' y => ?_⟩
    obtain ⟨v, T, hv, e1, hT, e2⟩ := y
    subst e1 e2
    exact hs i v T σ H hv p hT
  · have e : i = xs.length := by omega
    subst e
    exact .inl ⟨⟨rfl, q⟩, hd σ H p⟩
end L2
namespace L2
open PySem PySem.Spec PyProof.Rows
theorem ps_nox {X : Cx} {st : Stmt} {t : TS} (h : PS X.nox st t) : PS X st t := fun pins s σ H D I hw =>
  wpAny_mono (h pins s σ H D (I.wish _) hw) (fun f s' q => by
    cases f with
    | next => obtain ⟨σ', H', I', q'⟩ := q; exact ⟨σ', H', I'.unwish, q'⟩
    | cont => obtain ⟨σ', H', I', q'⟩ := q; exact ⟨σ', H', I'.unwish, q'⟩
    | brk => obtain ⟨σ', H', I', q'⟩ := q; exact ⟨σ', H', I'.unwish, q'⟩
    | ret v => obtain ⟨x, σ', H', I', r', q'⟩ := q; exact ⟨x, σ', H', I'.unwish, r', q'⟩) fun _ _ z => z.elim
end L2
namespace T10
open PySem L2 Tc
noncomputable def top (i : Nat) : Stmt := PySem.Challenge.pw_tiercask_k10_counted_ahead.main.body.getD i (.Pass ⟨0, 0, 0, 0⟩)
set_option genInjectivity false in
structure Ca where
  Full : Addr
  Lacking : Addr
  NoCask : Addr
  NoChange : Addr
  NoDeed : Addr
  NoName : Addr
  NoNumber : Addr
  NoPlace : Addr
  NoRow : Addr
  NoRule : Addr
  NoText : Addr
  NotSteady : Addr
  Tied : Addr
  TierError : Addr
  TooMany : Addr
structure Txt (K : PySem.W.Frag) (mg : Str → Option Value) (ca : Ca) : Prop where
  z_ValueError : mg "ValueError" = none
  z_dict : mg "dict" = none
  z_enumerate : mg "enumerate" = none
  z_int : mg "int" = none
  z_isinstance : mg "isinstance" = none
  z_len : mg "len" = none
  z_list : mg "list" = none
  z_range : mg "range" = none
  z_tuple : mg "tuple" = none
  c_Full : mg "Full" = some (.ref ca.Full)
  c_Lacking : mg "Lacking" = some (.ref ca.Lacking)
  c_NoCask : mg "NoCask" = some (.ref ca.NoCask)
  c_NoChange : mg "NoChange" = some (.ref ca.NoChange)
  c_NoDeed : mg "NoDeed" = some (.ref ca.NoDeed)
  c_NoName : mg "NoName" = some (.ref ca.NoName)
  c_NoNumber : mg "NoNumber" = some (.ref ca.NoNumber)
  c_NoPlace : mg "NoPlace" = some (.ref ca.NoPlace)
  c_NoRow : mg "NoRow" = some (.ref ca.NoRow)
  c_NoRule : mg "NoRule" = some (.ref ca.NoRule)
  c_NoText : mg "NoText" = some (.ref ca.NoText)
  c_NotSteady : mg "NotSteady" = some (.ref ca.NotSteady)
  c_Tied : mg "Tied" = some (.ref ca.Tied)
  c_TierError : mg "TierError" = some (.ref ca.TierError)
  c_TooMany : mg "TooMany" = some (.ref ca.TooMany)
  g_MOST_DEEDS : ∃ t, mg "MOST_DEEDS" = some (.int 200 t)
  e_TooMany : PySem.W.excIn K ca.TooMany [.type "ValueError", .type "Exception", .type "BaseException", .type "object"] "ValueError.__new__" = true
  x_TooMany : ExcK K ca.TooMany
  i_TooMany_Full : PySem.W.kitOne K (.ref ca.TooMany) (.ref ca.Full) = some false
  m_TooMany_Full : PySem.W.exmOne K (.ref ca.TooMany) (.ref ca.Full) = some false
  i_TooMany_Lacking : PySem.W.kitOne K (.ref ca.TooMany) (.ref ca.Lacking) = some false
  m_TooMany_Lacking : PySem.W.exmOne K (.ref ca.TooMany) (.ref ca.Lacking) = some false
  i_TooMany_NoCask : PySem.W.kitOne K (.ref ca.TooMany) (.ref ca.NoCask) = some false
  m_TooMany_NoCask : PySem.W.exmOne K (.ref ca.TooMany) (.ref ca.NoCask) = some false
  i_TooMany_NoChange : PySem.W.kitOne K (.ref ca.TooMany) (.ref ca.NoChange) = some false
  m_TooMany_NoChange : PySem.W.exmOne K (.ref ca.TooMany) (.ref ca.NoChange) = some false
  i_TooMany_NoDeed : PySem.W.kitOne K (.ref ca.TooMany) (.ref ca.NoDeed) = some false
  m_TooMany_NoDeed : PySem.W.exmOne K (.ref ca.TooMany) (.ref ca.NoDeed) = some false
  i_TooMany_NoName : PySem.W.kitOne K (.ref ca.TooMany) (.ref ca.NoName) = some false
  m_TooMany_NoName : PySem.W.exmOne K (.ref ca.TooMany) (.ref ca.NoName) = some false
  i_TooMany_NoNumber : PySem.W.kitOne K (.ref ca.TooMany) (.ref ca.NoNumber) = some false
  m_TooMany_NoNumber : PySem.W.exmOne K (.ref ca.TooMany) (.ref ca.NoNumber) = some false
  i_TooMany_NoPlace : PySem.W.kitOne K (.ref ca.TooMany) (.ref ca.NoPlace) = some false
  m_TooMany_NoPlace : PySem.W.exmOne K (.ref ca.TooMany) (.ref ca.NoPlace) = some false
  i_TooMany_NoRow : PySem.W.kitOne K (.ref ca.TooMany) (.ref ca.NoRow) = some false
  m_TooMany_NoRow : PySem.W.exmOne K (.ref ca.TooMany) (.ref ca.NoRow) = some false
  i_TooMany_NoRule : PySem.W.kitOne K (.ref ca.TooMany) (.ref ca.NoRule) = some false
  m_TooMany_NoRule : PySem.W.exmOne K (.ref ca.TooMany) (.ref ca.NoRule) = some false
  i_TooMany_NoText : PySem.W.kitOne K (.ref ca.TooMany) (.ref ca.NoText) = some false
  m_TooMany_NoText : PySem.W.exmOne K (.ref ca.TooMany) (.ref ca.NoText) = some false
  i_TooMany_NotSteady : PySem.W.kitOne K (.ref ca.TooMany) (.ref ca.NotSteady) = some false
  m_TooMany_NotSteady : PySem.W.exmOne K (.ref ca.TooMany) (.ref ca.NotSteady) = some false
  i_TooMany_Tied : PySem.W.kitOne K (.ref ca.TooMany) (.ref ca.Tied) = some false
  m_TooMany_Tied : PySem.W.exmOne K (.ref ca.TooMany) (.ref ca.Tied) = some false
  i_TooMany_TierError : PySem.W.kitOne K (.ref ca.TooMany) (.ref ca.TierError) = some true
  m_TooMany_TierError : PySem.W.exmOne K (.ref ca.TooMany) (.ref ca.TierError) = some true
  i_TooMany_TooMany : PySem.W.kitOne K (.ref ca.TooMany) (.ref ca.TooMany) = some true
  m_TooMany_TooMany : PySem.W.exmOne K (.ref ca.TooMany) (.ref ca.TooMany) = some true
  v_TooMany : PySem.W.kitOne K (.ref ca.TooMany) (.type "ValueError") = some true
noncomputable abbrev LT : Str := "abcdefghijklmnopqrstuvwxyz"
noncomputable def spDigits : Sp := fun vs H Q _ => ∃ n m : Int, vs = [.int n, .int m, .int 26] ∧ 0 ≤ m ∧ m ≤ 10 ∧ ∀ (a : Addr) H' (ds : List Int), Same H H' → H' a = some (.lst (ds.map V.int)) → (ds.length : Int) = m → (∀ d ∈ ds, 0 ≤ d ∧ d < 26) → Q (.ref a) H'
noncomputable abbrev one1 (c : Nat) : Str := ⟨#[c]⟩
theorem join_cs : ∀ cs : List Nat, Txt.join "" (cs.map one1) = ⟨cs.toArray⟩ := by
  intro cs
  rw [eq_of_beq (PyProof.Rows.join_plain_closes _ _)]
  have e : (Str.ofString "") = ⟨#[]⟩ := by decide +kernel
  show Str.join (Str.ofString "") _ = _
  rw [e]
  induction cs with
  | nil => rfl
  | cons c cs ih =>
    rw [List.map_cons, PyProof.Rows.join_nil_cons, ih]
    show (⟨#[c] ++ cs.toArray⟩ : Str) = _
    simp
theorem sum_ones (cs : List Nat) : ((cs.map one1).map (·.length)).sum = cs.length := by
  induction cs with
  | nil => rfl
  | cons c cs ih =>
    rw [List.map_cons, List.map_cons, List.sum_cons, ih, List.length_cons]
    show 1 + _ = _
    omega
theorem pow10_30 : (10 : Int) ^ (30 : Int).toNat = 1000000000000000000000000000000 := by decide
noncomputable def TSame (H H' : Hp) : Prop := ∀ a xs, H a = some (.tup xs) → H' a = some (.tup xs)
theorem _root_.L2.Same.ts {H H' : Hp} (s : Same H H') : TSame H H' := fun a _ h => s a _ h
theorem TSame.updL {H : Hp} {L : Addr} {vs : List V} {o : HO} (h : H L = some (.lst vs)) : TSame H (upd H L o) := fun a xs e => by
  have ne : a ≠ L := by rintro rfl; rw [h] at e; cases e
  rw [upd_ne ne]; exact e
theorem at_0 {α : Type} (x : α) (r : List α) : atI (x :: r) 0 = some x := atI_nat (j := 0) rfl
theorem at_1 {α : Type} (x y : α) (r : List α) : atI (x :: y :: r) 1 = some y := atI_nat (j := 1) rfl
theorem dd {i d : Int} (h1 : 0 < d) (h2 : d ≤ 1000000) : CDivB i d := divB_of (by omega) (Nat.lt_of_le_of_lt (m := 1000000) (by omega) (by decide))
theorem lt_all : ∀ k, k < 26 → LT.cps.toList[k]? = some (97 + k) := by decide +kernel
theorem lt_at {x : Int} (h : 0 ≤ x ∧ x < 26) : atI LT.cps.toList x = some (97 + x.toNat) := by
  obtain ⟨k, rfl⟩ := Int.eq_ofNat_of_zero_le h.1
  exact atI_nat (lt_all k (by omega))
noncomputable def lr (bs : List Int) (at' : Int) (j k : Nat) : Nat := 97 + ((bs.getD k 0 + (j : Int) * (if decide (V.int (k : Nat) = V.int at') = true then 1 else 0)).fmod 26).toNat
noncomputable def lrs (bs : List Int) (at' : Int) (n j : Nat) : List Nat := (List.range n).map (lr bs at' j)
noncomputable def nam (bs : List Int) (at' : Int) (n j : Nat) : Str := ⟨(lrs bs at' n j).toArray⟩
noncomputable def WN : List Str := [Str.ofString "end", Str.ofString "rule", Str.ofString "times", Str.ofString "year", Str.ofString "do", Str.ofString "bring", Str.ofString "move", Str.ofString "part", Str.ofString "all", Str.ofString "fill"]
theorem getD_at' {bs : List Int} {j : Nat} (hj : j < bs.length) : atI (bs.map V.int) (0 + (j : Int)) = some (V.int (bs.getD j 0)) := by
  rw [Int.zero_add]
  refine atI_nat ?_
  rw [List.getElem?_map, List.getElem?_eq_getElem hj, List.getD_eq_getElem?_getD, List.getElem?_eq_getElem hj]
  rfl
noncomputable def PtV (H : Hp) (v : V) (k1 k2 : Key) : Prop := ∃ a q, v = V.ref a ∧ H a = some (.tup [.str (Str.ofString "part"), kV k1, kV k2, .ref q]) ∧ H q = some (.tup [.int 1, .int 2])
noncomputable def DoV (H : Hp) (v : V) (r z : Str) : Prop := ∃ a q, v = V.ref a ∧ H a = some (.tup [.str (Str.ofString "do"), .str r, .ref q]) ∧ H q = some (.tup [.str z])
inductive K1 where
  | pt | dd (r : Str)
inductive K2 where
  | one (d : K1) | tm (n : Int) (ds : List K1)
noncomputable def K1V (H : Hp) (F y : Str) (v : V) : K1 → Prop
  | .pt => PtV H v (.inr F) (.inr y)
  | .dd r => DoV H v r F
noncomputable def K2V (H : Hp) (F y : Str) (v : V) : K2 → Prop
  | .one d => K1V H F y v d
  | .tm n ds => ∃ a t us, v = .ref a ∧ H a = some (.tup [.str (Str.ofString "times"), .int n, .ref t]) ∧ H t = some (.tup us) ∧ Paired (K1V H F y) us ds
theorem PtV.ts {H H' : Hp} {v : V} {k1 k2 : Key} (s : TSame H H') : PtV H v k1 k2 → PtV H' v k1 k2 := fun ⟨a, q, e, h1, h2⟩ => ⟨a, q, e, s _ _ h1, s _ _ h2⟩
theorem K1V.ts {H H' : Hp} {F y : Str} {v : V} (s : TSame H H') : ∀ {d : K1}, K1V H F y v d → K1V H' F y v d
  | .pt, h => PtV.ts s h
  | .dd _, ⟨a, q, e, h1, h2⟩ => ⟨a, q, e, s _ _ h1, s _ _ h2⟩
theorem K2V.ts {H H' : Hp} {F y : Str} {v : V} (s : TSame H H') : ∀ {d : K2}, K2V H F y v d → K2V H' F y v d
  | .one _, h => K1V.ts s h
  | .tm _ _, ⟨a, t, us, e, h1, h2, h3⟩ => ⟨a, t, us, e, s _ _ h1, s _ _ h2, Paired.mapP h3 fun _ _ h => K1V.ts s h⟩
theorem paired_one {H : Hp} {F y : Str} {us : List V} {ds : List K1} (h : Paired (K1V H F y) us ds) : Paired (K2V H F y) us (ds.map K2.one) := by
  induction h with
  | nil => exact .nil
  | cons a _ ih => exact .cons a ih
noncomputable def okP (kv : List (Key × V)) (F y : Str) : Prop := F ≠ y ∧ (∃ kd, valV kv (.inr F) = some (.str kd) ∧ kd ≠ Str.ofString "sink") ∧ ∃ kd, valV kv (.inr y) = some (.str kd)
noncomputable def okD (av : List (Key × V)) : K1 → Prop
  | .pt => True
  | .dd r => valV av (.inr r) = some (.int 1)
noncomputable def ok2 (av : List (Key × V)) : K2 → Prop
  | .one d => okD av d
  | .tm _ ds => ∀ d ∈ ds, okD av d
noncomputable def spWanted : Sp := fun vs H Q _ => ∃ (v : V) (k1 k2 : Key), vs = [v] ∧ PtV H v k1 k2 ∧ ∀ l a b H', Same H H' → H' l = some (.lst [.ref a, .ref b]) → H' a = some (.tup [kV k1, .bl true]) → H' b = some (.tup [kV k2, .bl false]) → Q (.ref l) H'
noncomputable def spCkPlace : Sp := fun vs H Q _ => ∃ (z : Str) (kk : Addr) (c : Bool) (kv : List (Key × V)) (kd : Str), vs = [.str z, .ref kk, .bl c] ∧ H kk = some (.dK kv) ∧ valV kv (.inr z) = some (.str kd) ∧ (c = true → kd ≠ Str.ofString "sink") ∧ Q .non H
noncomputable def spCkPlain (K : PySem.W.Frag) : Sp := fun vs H Q _ => ∃ (v : V) (kk : Addr) (F y : Str) (kv : List (Key × V)), vs = [v, .ref kk] ∧ PtV H v (.inr F) (.inr y) ∧ H kk = some (.dK kv) ∧ okP kv F y ∧ ∀ H', Same H H' → Q .non H'
noncomputable def spCkDo (K : PySem.W.Frag) : Sp := fun vs H Q _ => ∃ (v : V) (kk ah : Addr) (r F : Str) (kv av : List (Key × V)), vs = [v, .ref kk, .ref ah] ∧ DoV H v r F ∧ H kk = some (.dK kv) ∧ H ah = some (.dK av) ∧ valV av (.inr r) = some (.int 1) ∧ (∃ kd, valV kv (.inr F) = some (.str kd)) ∧ ∀ H', Same H H' → Q .non H'
noncomputable def spChk (K : PySem.W.Frag) (d : Nat) : Sp := fun vs H Q _ => ∃ (a kk ah : Addr) (us : List V) (ds : List K2) (kv av : List (Key × V)) (F y : Str) (e : Nat), vs = [.ref a, .ref kk, .ref ah] ∧ H a = some (.tup us) ∧ Paired (K2V H F y) us ds ∧ e + 1 = d ∧ (e = 0 → ∀ x ∈ ds, ∃ k, x = K2.one k) ∧
  H kk = some (.dK kv) ∧ H ah = some (.dK av) ∧ okP kv F y ∧ (∀ x ∈ ds, ok2 av x) ∧ ∀ H', Same H H' → Q .non H'
noncomputable def HsV (K : PySem.W.Frag) (H : Hp) (v : V) (x y kd : Str) : Prop := ∃ (a p1 p2 : Addr) (r1 r2 : List V), v = .ref a ∧ H a = some (.lst [.ref p1, .ref p2]) ∧ H p1 = some (.tup (.str (Str.ofString "cask") :: .str x :: r1)) ∧ H p2 = some (.tup (.str kd :: .str y :: r2)) ∧ x ≠ y
noncomputable def spKinds (K : PySem.W.Frag) : Sp := fun vs H Q _ => ∃ (v : V) (x y kd : Str), vs = [v] ∧ HsV K H v x y kd ∧ ∀ p kv H', Same H H' → H p = none → H' p = some (.dK kv) → kv.length ≤ 2 → valV kv (.inr x) = some (.str (Str.ofString "cask")) → valV kv (.inr y) = some (.str kd) → Q (.ref p) H'
noncomputable def cnt1 (cc : Str → Int) : K1 → Int
  | .pt => 1
  | .dd r => cc r
noncomputable def cnt2 (cc : Str → Int) : K2 → Int
  | .one d => cnt1 cc d
  | .tm n ds => n * (ds.map (cnt1 cc)).sum
noncomputable def has1 (cv : List (Key × V)) (cc : Str → Int) : K1 → Prop
  | .pt => True
  | .dd r => valV cv (.inr r) = some (.int (cc r))
noncomputable def has2 (cv : List (Key × V)) (cc : Str → Int) : K2 → Prop
  | .one d => has1 cv cc d
  | .tm n ds => (∀ d ∈ ds, has1 cv cc d) ∧ IntMulOk n (ds.map (cnt1 cc)).sum
theorem cnt_one (cc : Str → Int) (ds : List K1) : ((ds.map K2.one).map (cnt2 cc)) = ds.map (cnt1 cc) := by
  rw [List.map_map]; rfl
noncomputable def spMany (K : PySem.W.Frag) (d : Nat) : Sp := fun vs H Q _ => ∃ (a ac : Addr) (us : List V) (ds : List K2) (cv : List (Key × V)) (cc : Str → Int) (F y : Str) (e : Nat), vs = [.ref a, .ref ac] ∧ H a = some (.tup us) ∧ Paired (K2V H F y) us ds ∧ e + 1 = d ∧ (e = 0 → ∀ x ∈ ds, ∃ k, x = K2.one k) ∧
  H ac = some (.dK cv) ∧ (∀ x ∈ ds, has2 cv cc x) ∧ Q (.int (ds.map (cnt2 cc)).sum) H
theorem sum_take {l : List Int} {i : Nat} {x : Int} (h : l[i]? = some x) : (l.take (i + 1)).sum = (l.take i).sum + x := by
  rw [List.take_add_one, h, List.sum_append]
  simp
noncomputable def StV (sv : List (Key × V)) (F y : Key) (P : Key) : Prop := (valV sv F).getD (kV F) = kV P ∧ (valV sv y).getD (kV y) = kV y
noncomputable def spWith (K : PySem.W.Frag) : Sp := fun vs H Q _ => ∃ (v : V) (st : Addr) (F y P : Key) (sv : List (Key × V)), vs = [v, .ref st] ∧ PtV H v F y ∧ H st = some (.dK sv) ∧ StV sv F y P ∧ ∀ v' H', Same H H' → PtV H' v' P y → Q v' H'
noncomputable def bod1 (H : Hp) (bv : List (Key × V)) (cc : Str → Int) (y : Str) : K1 → Prop
  | .pt => True
  | .dd r => ∃ lr bs, valV bv (.inr r) = some (.ref lr) ∧ H lr = some (.lst bs) ∧ ((bs.length : Nat) : Int) = cc r ∧ ∀ u ∈ bs, PtV H u (.inl 0) (.inr y)
theorem bod1.same {H H' : Hp} {bv : List (Key × V)} {cc : Str → Int} {y : Str} (s : Same H H') : ∀ {d : K1}, bod1 H bv cc y d → bod1 H' bv cc y d
  | .pt, _ => trivial
  | .dd _, ⟨lr, bs, h1, h2, h3, h4⟩ => ⟨lr, bs, h1, s _ _ h2, h3, fun u hu => (h4 u hu).ts s.ts⟩
noncomputable def bod2 (H : Hp) (bv : List (Key × V)) (cc : Str → Int) (y : Str) : K2 → Prop
  | .one d => bod1 H bv cc y d ∧ 0 ≤ cnt1 cc d
  | .tm n ds => (0 ≤ n ∧ n ≤ 60) ∧ (0 < n → ∀ d ∈ ds, bod1 H bv cc y d) ∧ ∀ d ∈ ds, 0 ≤ cnt1 cc d
theorem sum_nn : ∀ {l : List Int}, (∀ x ∈ l, 0 ≤ x) → 0 ≤ l.sum
  | [], _ => Int.le_refl _
  | a :: l, h => by
    have h1 := h a (.head _)
    have h2 := sum_nn fun x hx => h x (.tail _ hx)
    rw [List.sum_cons]; omega
theorem sum_part {l : List Int} (h : ∀ x ∈ l, 0 ≤ x) (i : Nat) : (l.take i).sum ≤ l.sum := by
  have e : l.sum = (l.take i).sum + (l.drop i).sum := by rw [← List.sum_append, List.take_append_drop]
  have := sum_nn (l := l.drop i) fun x hx => h x (List.mem_of_mem_drop hx)
  omega
theorem bod2.nn {H : Hp} {bv : List (Key × V)} {cc : Str → Int} {y : Str} : ∀ {d : K2}, bod2 H bv cc y d → 0 ≤ cnt2 cc d
  | .one _, h => h.2
  | .tm _ ds, ⟨h0, _, h2⟩ => Int.mul_nonneg h0.1 (sum_nn fun x hx => by obtain ⟨d, hd, rfl⟩ := List.mem_map.mp hx; exact h2 d hd)
noncomputable def spUnr (K : PySem.W.Frag) (d : Nat) : Sp := fun vs H Q _ => ∃ (a st bd : Addr) (us : List V) (ds : List K2) (sv bv : List (Key × V)) (cc : Str → Int) (F y : Str) (P : Key) (e : Nat), vs = [.ref a, .ref st, .ref bd] ∧ H a = some (.tup us) ∧ Paired (K2V H F y) us ds ∧ e + 1 = d ∧ (e = 0 → ∀ x ∈ ds, ∃ k, x = K2.one k) ∧
  H st = some (.dK sv) ∧ StV sv (.inr F) (.inr y) P ∧ H bd = some (.dK bv) ∧ (∀ x ∈ ds, bod2 H bv cc y x) ∧ (ds.map (cnt2 cc)).sum ≤ 200 ∧
  ∀ l rs H', Same H H' → H' l = some (.lst rs) → ((rs.length : Nat) : Int) = (ds.map (cnt2 cc)).sum → (∀ u ∈ rs, PtV H' u P (.inr y)) → Q (.ref l) H'
noncomputable abbrev R1 := Str × List K2
noncomputable def R1V (F y : Str) (H : Hp) (v : V) (r : R1) : Prop := ∃ (a b c : Addr) (us : List V), v = .ref a ∧ H a = some (.tup [.str r.1, .ref b, .ref c]) ∧ H b = some (.tup [.str F]) ∧ H c = some (.tup us) ∧ Paired (K2V H F y) us r.2
theorem R1V.ts {F y : Str} {H H' : Hp} {v : V} {r : R1} (s : TSame H H') : R1V F y H v r → R1V F y H' v r := fun ⟨a, b, c, us, e, h1, h2, h3, h4⟩ => ⟨a, b, c, us, e, s _ _ h1, s _ _ h2, s _ _ h3, Paired.mapP h4 fun _ _ h => h.ts s⟩
noncomputable def S1V (F x y : Str) (H : Hp) (v : V) (rs : List R1) (ds : List K2) : Prop := ∃ (p a b : Addr) (rv us : List V), v = .ref p ∧ H p = some (.tup [.ref a, .ref b]) ∧ H a = some (.tup rv) ∧ Paired (R1V F y H) rv rs ∧ H b = some (.tup us) ∧ Paired (K2V H x y) us ds
noncomputable def kn1 (L : List Str) : K1 → Prop
  | .pt => True
  | .dd r => r ∈ L
noncomputable def kn2 (L : List Str) : K2 → Prop
  | .one d => kn1 L d
  | .tm n ds => (0 ≤ n ∧ n ≤ 60) ∧ ∀ d ∈ ds, kn1 L d
theorem kn1.ok {L : List Str} {av : List (Key × V)} (h : ∀ r ∈ L, valV av (.inr r) = some (.int 1)) : ∀ {d : K1}, kn1 L d → okD av d
  | .pt, _ => trivial
  | .dd r, k => h r k
theorem kn2.ok {L : List Str} {av : List (Key × V)} (h : ∀ r ∈ L, valV av (.inr r) = some (.int 1)) : ∀ {d : K2}, kn2 L d → ok2 av d
  | .one _, k => kn1.ok h k
  | .tm _ _, k => fun d hd => kn1.ok h (k.2 d hd)
noncomputable def AhOk (rs : List R1) : Prop := (rs.map (·.1)).Nodup ∧ ∀ i r, rs[i]? = some r → ∀ d ∈ r.2, kn2 ((rs.take i).map (·.1)) d
noncomputable def spLook (K : PySem.W.Frag) : Sp := fun vs H Q _ => ∃ (h s : V) (F x y kd : Str) (rs : List R1) (ds : List K2), vs = [h, s] ∧ HsV K H h x y kd ∧ F ≠ y ∧ S1V F x y H s rs ds ∧ AhOk rs ∧ (∀ d ∈ ds, kn2 (rs.map (·.1)) d) ∧ rs.length ≤ 60 ∧ ∀ H', Same H H' → Q .non H'
theorem HsV.ts' {K : PySem.W.Frag} {H H' : Hp} {v : V} {x y kd : Str} (s : Same H H') : HsV K H v x y kd → HsV K H' v x y kd := fun ⟨a, p1, p2, r1, r2, e, h1, h2, h3, h4⟩ => ⟨a, p1, p2, r1, r2, e, s _ _ h1, s _ _ h2, s _ _ h3, h4⟩
noncomputable def mo2 (cc : Str → Int) : K2 → Prop
  | .one _ => True
  | .tm n ds => IntMulOk n (ds.map (cnt1 cc)).sum
theorem le_sum {l : List Int} (h : ∀ x ∈ l, 0 ≤ x) : ∀ {x : Int}, x ∈ l → x ≤ l.sum := by
  intro x hx
  induction l with
  | nil => cases hx
  | cons a l ih =>
    rw [List.sum_cons]
    have h1 := sum_nn fun z hz => h z (.tail _ hz)
    rcases List.mem_cons.mp hx with rfl | hx
    · omega
    · have := ih (fun z hz => h z (.tail _ hz)) hx
      have := h a (.head _)
      omega
noncomputable def nn1 (L : List Str) (cc : Str → Int) (h : ∀ r ∈ L, 0 ≤ cc r) : ∀ {d : K1}, kn1 L d → 0 ≤ cnt1 cc d
  | .pt, _ => (by decide : (0 : Int) ≤ 1)
  | .dd r, k => h r k
theorem nn2 {L : List Str} {cc : Str → Int} (h : ∀ r ∈ L, 0 ≤ cc r) : ∀ {d : K2}, kn2 L d → 0 ≤ cnt2 cc d
  | .one _, k => nn1 L cc h k
  | .tm _ _, k => Int.mul_nonneg k.1.1 (sum_nn fun x hx => by obtain ⟨d, hd, rfl⟩ := List.mem_map.mp hx; exact nn1 L cc h (k.2 d hd))
theorem bod_of {H : Hp} {bv : List (Key × V)} {cc : Str → Int} {y : Str} {L : List Str} (h : ∀ r ∈ L, 0 ≤ cc r) (hb : ∀ r ∈ L, cc r ≤ 200 → bod1 H bv cc y (.dd r)) {ds : List K2} (hk : ∀ d ∈ ds, kn2 L d) (hs : (ds.map (cnt2 cc)).sum ≤ 200) : ∀ d ∈ ds, bod2 H bv cc y d := by
  intro d hd
  have n2 : ∀ x ∈ ds.map (cnt2 cc), 0 ≤ x := fun x hx => by obtain ⟨z, hz, rfl⟩ := List.mem_map.mp hx; exact nn2 h (hk z hz)
  have le := le_sum n2 (List.mem_map.mpr ⟨d, hd, rfl⟩)
  have kd := hk d hd
  have one : ∀ {e : K1}, kn1 L e → cnt1 cc e ≤ 200 → bod1 H bv cc y e := fun {e} ke hle => by
    cases e with
    | pt => trivial
    | dd r => exact hb r ke hle
  cases d with
  | one e => exact ⟨one kd (by have : cnt1 cc e ≤ (ds.map (cnt2 cc)).sum := le; omega), nn1 L cc h kd⟩
  | tm n es =>
    have ne : ∀ x ∈ es.map (cnt1 cc), 0 ≤ x := fun x hx => by obtain ⟨z, hz, rfl⟩ := List.mem_map.mp hx; exact nn1 L cc h (kd.2 z hz)
    have sn := sum_nn ne
    refine ⟨kd.1, fun hn e he => one (kd.2 e he) ?_, fun e he => nn1 L cc h (kd.2 e he)⟩
    have l1 := le_sum ne (List.mem_map.mpr ⟨e, he, rfl⟩)
    have l2 : 1 * (es.map (cnt1 cc)).sum ≤ n * (es.map (cnt1 cc)).sum := Int.mul_le_mul_of_nonneg_right (by omega) sn
    have l3 : n * (es.map (cnt1 cc)).sum ≤ (ds.map (cnt2 cc)).sum := le
    omega
noncomputable def spBodies (K : PySem.W.Frag) : Sp := fun vs H Q _ => ∃ (a ac : Addr) (F y : Str) (rv : List V) (rs : List R1) (cv : List (Key × V)) (cc : Str → Int), vs = [.ref a, .ref ac] ∧ H a = some (.tup rv) ∧ Paired (R1V F y H) rv rs ∧ F ≠ y ∧ rs.length ≤ 60 ∧ AhOk rs ∧
  H ac = some (.dK cv) ∧ (∀ r ∈ rs, valV cv (.inr r.1) = some (.int (cc r.1)) ∧ cc r.1 = (r.2.map (cnt2 cc)).sum ∧ 0 ≤ cc r.1) ∧ ∀ p bv H', Same H H' → H' p = some (.dK bv) → (∀ r ∈ rs.map (·.1), cc r ≤ 200 → bod1 H' bv cc y (.dd r)) → Q (.ref p) H'
theorem has_of {L : List Str} {cv : List (Key × V)} {cc : Str → Int} (h : ∀ r ∈ L, valV cv (.inr r) = some (.int (cc r))) : ∀ {d : K2}, kn2 L d → mo2 cc d → has2 cv cc d
  | .one .pt, _, _ => trivial
  | .one (.dd r), k, _ => h r k
  | .tm _ ds, k, m => ⟨fun d hd => by
      have := k.2 d hd
      cases d with
      | pt => trivial
      | dd r => exact h r this, m⟩
noncomputable def OpIn (K : PySem.W.Frag) (H : Hp) (h s : V) (x y : Str) (n : Int) : Prop := ∃ (F kd : Str) (rs : List R1) (ds : List K2) (cc : Str → Int), HsV K H h x y kd ∧ F ≠ y ∧ S1V F x y H s rs ds ∧ AhOk rs ∧ (∀ d ∈ ds, kn2 (rs.map (·.1)) d) ∧ rs.length ≤ 60 ∧ (∀ r ∈ rs, cc r.1 = (r.2.map (cnt2 cc)).sum ∧ 0 ≤ cc r.1) ∧ (∀ r ∈ rs, ∀ d ∈ r.2, mo2 cc d) ∧ (∀ d ∈ ds, mo2 cc d) ∧ n = (ds.map (cnt2 cc)).sum
noncomputable def spOpened (K : PySem.W.Frag) (C : Addr) : Sp := fun vs H Q E => ∃ (h s : V) (x y : Str) (n : Int), vs = [h, s] ∧ OpIn K H h s x y n ∧ (n ≤ 200 → ∀ l out H', Same H H' → H' l = some (.lst out) → ((out.length : Nat) : Int) = n → (∀ u ∈ out, PtV H' u (.inr x) (.inr y)) → Q (.ref l) H') ∧ (¬ n ≤ 200 → ∀ H', Same H H' → E (.ref C) none H')
noncomputable abbrev Lay (z : Str) : Prop := (PyData.str z).canLay0 = true
theorem repT {K : PySem.W.Frag} {H : Hp} {a : Addr} {vs : List V} {xs : List PyData} (h : SqT K H a vs) (r : RepDs K H xs vs) : RepD K H (.tuple xs) (.ref a) := by simp only [RepD]; exact ⟨a, vs, rfl, h, r⟩
theorem repL {K : PySem.W.Frag} {H : Hp} {a : Addr} {vs : List V} {xs : List PyData} (h : SqL K H a vs) (r : RepDs K H xs vs) : RepD K H (.list xs) (.ref a) := by simp only [RepD]; exact ⟨a, vs, rfl, h, r⟩
theorem reps0 {K : PySem.W.Frag} {H : Hp} : RepDs K H [] [] := by simp [RepDs]
theorem repsC {K : PySem.W.Frag} {H : Hp} {d : PyData} {v : V} {ds : List PyData} {vs : List V} (h : RepD K H d v) (r : RepDs K H ds vs) : RepDs K H (d :: ds) (v :: vs) := by simp only [RepDs]; exact ⟨_, _, rfl, h, r⟩
theorem repS {K : PySem.W.Frag} {H : Hp} {z : Str} (h : Lay z) : RepD K H (.str z) (.str z) := by rw [RepD]; exact ⟨rfl, h⟩
theorem repI {K : PySem.W.Frag} {H : Hp} {i : Int} : RepD K H (.int i) (.int i) := by rw [RepD]
theorem repB {K : PySem.W.Frag} {H : Hp} {i : Bool} : RepD K H (.bool i) (.bl i) := by rw [RepD]
theorem paired_rep {α β : Type} {F : α → β → Prop} {xs : List α} {ys : List β} (h : Paired F xs ys) : ∀ k : Nat, Paired F (List.replicate k xs).flatten (List.replicate k ys).flatten
  | 0 => by simp only [List.replicate_zero, List.flatten_nil]; exact .nil
  | k + 1 => by
    rw [List.replicate_succ, List.replicate_succ, List.flatten_cons, List.flatten_cons]
    exact Paired.app h (paired_rep h k)
noncomputable def ZZ : Str := Str.ofString "zzzzzzzz"
theorem nam_inj2 {bs : List Int} {a n : Nat} (ha : a < n) {k k' : Nat} (hk : k < 26) (hk' : k' < 26) (e : nam bs (a : Nat) n k = nam bs (a : Nat) n k') : k = k' := by
  have e1 : lrs bs (a : Nat) n k = lrs bs (a : Nat) n k' := by
    have := congrArg (fun z : Str => z.cps.toList) e
    simpa [nam] using this
  have e2 : lr bs (a : Nat) k a = lr bs (a : Nat) k' a := by
    have h1 := congrArg (fun l : List Nat => l[a]?) e1
    simpa [lrs, ha] using h1
  unfold lr at e2
  rw [decide_eq_true rfl, if_pos rfl, Int.mul_one, Int.mul_one] at e2
  have q1 := fmod_lt (c := bs.getD a 0 + (k : Int)) (m := 26) (by decide)
  have q2 := fmod_lt (c := bs.getD a 0 + (k' : Int)) (m := 26) (by decide)
  rw [Int.fmod_eq_emod_of_nonneg _ (by decide)] at q1 q2
  rw [Int.fmod_eq_emod_of_nonneg _ (by decide), Int.fmod_eq_emod_of_nonneg _ (by decide)] at e2
  omega
theorem nam_nodup2 {bs : List Int} {a n : Nat} (ha : a < n) {m : Nat} (hm : m ≤ 26) : ((List.range m).map (nam bs (a : Nat) n)).Nodup := by
  unfold List.Nodup
  rw [List.pairwise_map]
  refine List.Pairwise.imp_of_mem (fun {x y} hx hy hxy e => hxy ?_) (List.nodup_range (n := m))
  exact nam_inj2 ha (by have := List.mem_range.mp hx; omega) (by have := List.mem_range.mp hy; omega) e
theorem nam_lay (bs : List Int) (at' : Int) (n j : Nat) : Lay (nam bs at' n j) := by
  show (PyData.str _).canLay0 = true
  simp only [PyData.canLay0, PyData.strOk, nam, lrs]
  simp only [Array.all_eq_true, decide_eq_true_eq]
  intro i hi
  simp
  unfold lr
  have := fmod_lt (c := bs.getD i 0 + (j : Int) * (if decide (V.int (i : Nat) = V.int at') = true then 1 else 0)) (m := 26) (by decide)
  omega
theorem nam_len (bs : List Int) (at' : Int) (n j : Nat) : (nam bs at' n j).length = n := by
  show ((lrs bs at' n j).toArray).size = n
  simp [lrs]
theorem nam_zz {bs : List Int} {at' : Int} {n j : Nat} (h : n ≤ 7) : nam bs at' n j ≠ ZZ := fun e => by
  have h1 := congrArg Str.length e
  rw [nam_len] at h1
  have h2 : ZZ.length = 8 := by decide +kernel
  omega
noncomputable def spNam2 : Sp := fun vs H Q _ => ∃ c m : Int, vs = [.int c, .int m] ∧ c.fmod 4 ≠ 1 ∧ 0 ≤ m ∧ m ≤ 26 ∧ ∀ (p : Addr) (H' : Hp) (zs : List Str), Same H H' → H p = none → H' p = some (.lst (zs.map V.str)) → (zs.length : Int) = m → zs.Nodup → (∀ z ∈ zs, Lay z ∧ z ≠ ZZ) → Q (.ref p) H'
noncomputable def mxd (c : Int) : Int := (c * 69621).fmod 2147483629 + 2147483629 * (c.fmod 1000000000000000000000000000000)
noncomputable def spMixE : Sp := fun vs H Q _ => ∃ c : Int, vs = [.int c] ∧ Q (.int (mxd c)) H
theorem OpIn.same {K : PySem.W.Frag} {H H' : Hp} {hv sv : V} {x y : Str} {n : Int} (h : OpIn K H hv sv x y n) (s : Same H H') : OpIn K H' hv sv x y n := by
  obtain ⟨F, kd, rs, ds, cc, hh, nFy, ⟨p, a, b, rv, us, rfl, hp, ha, hR, hb, hD⟩, rest⟩ := h
  exact ⟨F, kd, rs, ds, cc, hh.ts' s, nFy, ⟨p, a, b, rv, us, rfl, s _ _ hp, s _ _ ha, Paired.mapP hR (fun _ _ h => h.ts s.ts), s _ _ hb, Paired.mapP hD (fun _ _ h => h.ts s.ts)⟩, rest⟩
noncomputable def TMk : List V := [.bl false, .bl false, .bl false, .bl true, .bl false, .bl true, .bl false, .bl false, .bl false, .bl false, .bl false, .bl false, .bl false, .bl false, .bl false]
theorem tmk_step : ∀ {j : Nat}, j < 15 → j ≠ 3 → TMk.take (j + 1) = TMk.take j ++ [V.bl (decide (V.int (0 + (j : Nat)) = V.int 5))]
  | 0, _, _ => rfl | 1, _, _ => rfl | 2, _, _ => rfl | 3, _, h => absurd rfl h | 4, _, _ => rfl | 5, _, _ => rfl | 6, _, _ => rfl | 7, _, _ => rfl | 8, _, _ => rfl | 9, _, _ => rfl
  | 10, _, _ => rfl | 11, _, _ => rfl | 12, _, _ => rfl | 13, _, _ => rfl | 14, _, _ => rfl | _ + 15, h, _ => by omega
noncomputable def spTold (K : PySem.W.Frag) : Sp := fun vs H Q _ => ∃ (h s : V) (x y : Str) (n : Int), vs = [h, s] ∧ OpIn K H h s x y n ∧ (n ≤ 200 → ∀ p l kk out H', Same H H' → H' p = some (.tup [.ref l, .ref kk]) → H' kk = some (.lst []) → H' l = some (.lst out) → ((out.length : Nat) : Int) = n → (∀ u ∈ out, PtV H' u (.inr x) (.inr y)) → Q (.ref p) H') ∧
  (¬ n ≤ 200 → ∀ p kk H', Same H H' → H' p = some (.tup [.non, .ref kk]) → H' kk = some (.lst TMk) → Q (.ref p) H')
noncomputable def spOnly : Sp := fun vs H Q _ => vs = [.int 3] ∧ ∀ l H', Same H H' → H' l = some (.lst TMk) → Q (.ref l) H'
noncomputable def mny (n : Int) : Int := if n.fmod 5 = 0 then 0 else if n.fmod 5 = 1 then 1 else if n.fmod 5 = 2 then 1 else if n.fmod 5 = 3 then 2 else (n.fdiv 6).fmod 61
theorem mod5 (n : Int) : n.fmod 5 = 0 ∨ n.fmod 5 = 1 ∨ n.fmod 5 = 2 ∨ n.fmod 5 = 3 ∨ n.fmod 5 = 4 := by
  have q := fmod_lt (c := n) (m := 5) (by decide)
  omega
theorem mny_at (n : Int) : atI [V.int 0, .int 1, .int 1, .int 2, .int ((n.fdiv 6).fmod 61)] (n.fmod 5) = some (.int (mny n)) := by
  unfold mny
  rcases mod5 n with h | h | h | h | h <;> rw [h] <;> rfl
theorem mny_in (n : Int) : 0 ≤ mny n ∧ mny n ≤ 60 := by
  have q := fmod_lt (c := n.fdiv 6) (m := 61) (by decide)
  unfold mny
  split
  · omega
  split
  · omega
  split
  · omega
  split <;> omega
noncomputable def don (n : Int) : Int := 1 + (n.fdiv 366).fmod 2
theorem don_in (n : Int) : 1 ≤ don n ∧ don n ≤ 2 := by
  have q := fmod_lt (c := n.fdiv 366) (m := 2) (by decide)
  unfold don
  omega
noncomputable def nb (ms : List Int) (k : Nat) : Int := mxd (64 * ms.getD k 0 + (k : Int))
noncomputable def pn (ms : List Int) (k : Nat) : Int := 1 + (ms.getD k 0).fmod 3
theorem pn_in (ms : List Int) (k : Nat) : 1 ≤ pn ms k ∧ pn ms k ≤ 3 := by
  have q := fmod_lt (c := ms.getD k 0) (m := 3) (by decide)
  unfold pn
  omega
noncomputable def ct (ms : List Int) : Nat → Int
  | 0 => pn ms 0
  | k + 1 => pn ms (k + 1) + mny (nb ms (k + 1)) * don (nb ms (k + 1)) * ct ms k
theorem ct_pos {ms : List Int} {j : Nat} (h : 0 < j) : ct ms j = pn ms j + mny (nb ms j) * don (nb ms j) * ct ms (j - 1) := by
  cases j with
  | zero => omega
  | succ j => rfl
theorem md_in (n : Int) : 0 ≤ mny n * don n ∧ mny n * don n ≤ 120 := by
  have h1 := mny_in n
  have h2 := don_in n
  have h3 : don n = 1 ∨ don n = 2 := by omega
  rcases h3 with h3 | h3 <;> rw [h3] <;> omega
theorem ct_in (ms : List Int) : ∀ k, 0 < ct ms k ∧ ct ms k ≤ 200 ^ (k + 1)
  | 0 => by
    have := pn_in ms 0
    show 0 < pn ms 0 ∧ pn ms 0 ≤ 200 ^ 1
    rw [Int.pow_succ, Int.pow_zero]
    omega
  | k + 1 => by
    have h1 := pn_in ms (k + 1)
    have h2 := ct_in ms k
    have h3 := md_in (nb ms (k + 1))
    have h4 : 0 ≤ mny (nb ms (k + 1)) * don (nb ms (k + 1)) * ct ms k := Int.mul_nonneg h3.1 (by omega)
    have h5 : mny (nb ms (k + 1)) * don (nb ms (k + 1)) * ct ms k ≤ 120 * ct ms k := Int.mul_le_mul_of_nonneg_right h3.2 (by omega)
    show 0 < pn ms (k + 1) + mny (nb ms (k + 1)) * don (nb ms (k + 1)) * ct ms k ∧ pn ms (k + 1) + mny (nb ms (k + 1)) * don (nb ms (k + 1)) * ct ms k ≤ 200 ^ (k + 2)
    rw [Int.pow_succ]
    omega
theorem ct_bits (ms : List Int) {k : Nat} (h : k < 19) : (ct ms k).natAbs < 2 ^ 160 := by
  have h1 := ct_in ms k
  have h2 : (200 : Int) ^ (k + 1) ≤ 200 ^ 19 := by
    have : (200 : Nat) ^ (k + 1) ≤ 200 ^ 19 := Nat.pow_le_pow_right (by decide) (by omega)
    have e := Int.ofNat_le.mpr this
    simpa using e
  have h3 : (200 : Int) ^ 19 < 2 ^ 160 := by decide
  omega
noncomputable def rl (ms : List Int) (zs : List Str) (k : Nat) : R1 := (zs.getD k ZZ, (List.replicate (pn ms k).toNat [K2.one .pt]).flatten ++ (if k = 0 then [] else [K2.tm (mny (nb ms k)) (List.replicate (don (nb ms k)).toNat [K1.dd (zs.getD (k - 1) ZZ)]).flatten]))
theorem rl_0 {ms : List Int} {zs : List Str} {k : Nat} (h : k = 0) : (rl ms zs k).2 = (List.replicate (pn ms k).toNat [K2.one .pt]).flatten := by
  unfold rl
  rw [if_pos h, List.append_nil]
theorem rl_pos {ms : List Int} {zs : List Str} {k : Nat} (h : 0 < k) : (rl ms zs k).2 = (List.replicate (pn ms k).toNat [K2.one .pt]).flatten ++ [K2.tm (mny (nb ms k)) (List.replicate (don (nb ms k)).toNat [K1.dd (zs.getD (k - 1) ZZ)]).flatten] := by
  unfold rl
  rw [if_neg (by omega)]
theorem getD_some {zs : List Str} {k : Nat} (h : k < zs.length) : zs[k]? = some (zs.getD k ZZ) := by
  rw [List.getD_eq_getElem?_getD, List.getElem?_eq_getElem h]; rfl
theorem at_nm {zs : List Str} {k : Nat} (h : k < zs.length) : atI (zs.map V.str) (k : Nat) = some (V.str (zs.getD k ZZ)) := atI_nat (by rw [List.getElem?_map, getD_some h]; rfl)
theorem at_pred {zs : List Str} {k : Nat} (h0 : 0 < k) (h : k < zs.length) : atI (zs.map V.str) ((k : Nat) - 1) = some (V.str (zs.getD (k - 1) ZZ)) := by
  have e : ((k : Nat) : Int) - 1 = ((k - 1 : Nat) : Int) := by omega
  rw [e]
  exact at_nm (by omega)
theorem at_lastc {f : Nat → Int} {k : Nat} (h0 : 0 < k) : atI (((List.range k).map f).map V.int) (-1) = some (V.int (f (k - 1))) := by
  obtain ⟨i, rfl⟩ : ∃ i, k = i + 1 := ⟨k - 1, by omega⟩
  rw [List.range_succ, List.map_append, List.map_append]
  exact atI_last _ _
noncomputable def ixs : List Str → Str → Nat
  | [], _ => 0
  | z :: zs, s => if s = z then 0 else ixs zs s + 1
theorem ixs_at : ∀ {zs : List Str}, zs.Nodup → ∀ {k : Nat} {z : Str}, zs[k]? = some z → ixs zs z = k
  | [], _, _, _, h => by cases h
  | w :: zs, nd, 0, z, h => by
    obtain rfl : w = z := Option.some.inj h
    unfold ixs
    rw [if_pos rfl]
  | w :: zs, nd, k + 1, z, h => by
    have h : zs[k]? = some z := h
    have nd := List.nodup_cons.mp nd
    unfold ixs
    have ne : z ≠ w := fun e => nd.1 (by rw [← e]; exact List.mem_of_getElem? h)
    rw [if_neg ne, ixs_at nd.2 h]
noncomputable def ccf (ms : List Int) (zs : List Str) (s : Str) : Int := ct ms (ixs zs s)
theorem ccf_at {ms : List Int} {zs : List Str} (nd : zs.Nodup) {k : Nat} (h : k < zs.length) : ccf ms zs (zs.getD k ZZ) = ct ms k := by
  unfold ccf
  rw [ixs_at nd (getD_some h)]
theorem sum_repf {α : Type} (f : α → Int) (x : α) : ∀ n : Nat, ((List.replicate n [x]).flatten.map f).sum = (n : Int) * f x
  | 0 => by simp
  | n + 1 => by
    rw [List.replicate_succ, List.flatten_cons, List.map_append, List.sum_append, sum_repf f x n]
    simp
    rw [Int.add_mul]
    omega
theorem mem_repf {α : Type} {x z : α} : ∀ {n : Nat}, z ∈ (List.replicate n [x]).flatten → z = x
  | 0, h => by cases h
  | n + 1, h => by
    rw [List.replicate_succ, List.flatten_cons] at h
    rcases List.mem_append.mp h with h | h
    · exact List.mem_singleton.mp h
    · exact mem_repf h
theorem rl_sum {ms : List Int} {zs : List Str} (nd : zs.Nodup) {k : Nat} (h : k < zs.length) : ct ms k = ((rl ms zs k).2.map (cnt2 (ccf ms zs))).sum := by
  have hp := pn_in ms k
  have hd := don_in (nb ms k)
  have e1 : (((pn ms k).toNat : Nat) : Int) = pn ms k := by omega
  have e2 : (((don (nb ms k)).toNat : Nat) : Int) = don (nb ms k) := by omega
  rcases Nat.eq_zero_or_pos k with h0 | h0
  · rw [rl_0 h0, sum_repf, e1]
    subst h0
    show pn ms 0 = pn ms 0 * 1
    omega
  · rw [rl_pos h0, List.map_append, List.sum_append, sum_repf, e1, ct_pos h0]
    show _ = pn ms k * 1 + (mny (nb ms k) * ((List.replicate (don (nb ms k)).toNat [K1.dd (zs.getD (k - 1) ZZ)]).flatten.map (cnt1 (ccf ms zs))).sum + 0)
    rw [sum_repf, e2]
    show _ = pn ms k * 1 + (mny (nb ms k) * (don (nb ms k) * ccf ms zs (zs.getD (k - 1) ZZ)) + 0)
    rw [ccf_at nd (by omega), Int.mul_assoc]
    omega
theorem rl_mo {ms : List Int} {zs : List Str} (nd : zs.Nodup) {k : Nat} (h : k < zs.length) (h19 : zs.length ≤ 19) : ∀ d ∈ (rl ms zs k).2, mo2 (ccf ms zs) d := by
  intro d hd
  rcases Nat.eq_zero_or_pos k with h0 | h0
  · rw [rl_0 h0] at hd
    rw [mem_repf hd]
    trivial
  · rw [rl_pos h0] at hd
    rcases List.mem_append.mp hd with hd | hd
    · rw [mem_repf hd]
      trivial
    · rw [List.mem_singleton.mp hd]
      show IntMulOk (mny (nb ms k)) ((List.replicate (don (nb ms k)).toNat [K1.dd (zs.getD (k - 1) ZZ)]).flatten.map (cnt1 (ccf ms zs))).sum
      rw [sum_repf]
      show IntMulOk (mny (nb ms k)) (((don (nb ms k)).toNat : Nat) * ccf ms zs (zs.getD (k - 1) ZZ))
      rw [ccf_at nd (by omega)]
      have hm := mny_in (nb ms k)
      have hq := don_in (nb ms k)
      have hb := ct_bits ms (k := k - 1) (by omega)
      refine mulOk_of 400 (Nat.lt_of_le_of_lt (m := 60) (by omega) (by decide)) ?_ (by decide)
      rw [Int.natAbs_mul]
      refine Nat.lt_of_le_of_lt (m := 2 * 2 ^ 160) (Nat.mul_le_mul (by omega) (Nat.le_of_lt hb)) (by decide)
theorem rl_kn {ms : List Int} {zs : List Str} {k : Nat} : ∀ d ∈ (rl ms zs k).2, kn2 ((List.range k).map fun i => zs.getD i ZZ) d := by
  intro d hd
  rcases Nat.eq_zero_or_pos k with h0 | h0
  · rw [rl_0 h0] at hd
    rw [mem_repf hd]
    trivial
  · rw [rl_pos h0] at hd
    rcases List.mem_append.mp hd with hd | hd
    · rw [mem_repf hd]
      trivial
    · rw [List.mem_singleton.mp hd]
      refine ⟨mny_in _, fun e he => ?_⟩
      rw [mem_repf he]
      exact List.mem_map.mpr ⟨k - 1, List.mem_range.mpr (by omega), rfl⟩
noncomputable def rls (ms : List Int) (zs : List Str) : List R1 := (List.range ms.length).map (rl ms zs)
theorem rls_nm (ms : List Int) (zs : List Str) : (rls ms zs).map (·.1) = (List.range ms.length).map fun i => zs.getD i ZZ := by
  unfold rls
  rw [List.map_map]
  rfl
theorem rls_ah {ms : List Int} {zs : List Str} (nd : zs.Nodup) (hl : ms.length ≤ zs.length) : AhOk (rls ms zs) := by
  constructor
  · rw [rls_nm]
    unfold List.Nodup
    rw [List.pairwise_map]
    refine List.Pairwise.imp_of_mem (fun {x y} hx hy hxy e => hxy ?_) (List.nodup_range (n := ms.length))
    have h1 := ixs_at nd (getD_some (zs := zs) (k := x) (by have := List.mem_range.mp hx; omega))
    have h2 := ixs_at nd (getD_some (zs := zs) (k := y) (by have := List.mem_range.mp hy; omega))
    rw [e] at h1
    exact h1.symm.trans h2
  · intro i r hr d hd
    have hi : i < ms.length := by
      have := (List.getElem?_eq_some_iff.mp hr).1
      unfold rls at this
      simpa using this
    have er : rl ms zs i = r := by
      unfold rls at hr
      rw [List.getElem?_map, List.getElem?_range hi] at hr
      exact Option.some.inj hr
    have et : ((rls ms zs).take i).map (·.1) = (List.range i).map fun i => zs.getD i ZZ := by
      unfold rls
      rw [← List.map_take, List.take_range, Nat.min_eq_left (Nat.le_of_lt hi), List.map_map]
      rfl
    rw [et]
    subst er
    exact rl_kn d hd
theorem ts_updL {H : Hp} {a : Addr} {xs : List V} {o : HO} (h : H a = some (.lst xs)) : TSame H (upd H a o) := fun c ys hc => by
  rw [upd_ne (by rintro rfl; rw [h] at hc; cases hc)]; exact hc
theorem mkPt {Hx Hy : Hp} {q1 q2 : Addr} {x y : Str} (s : Same Hx Hy) (h2 : Hx q2 = some (.tup [.str (Str.ofString "part"), .str x, .str y, .ref q1])) (h1 : Hx q1 = some (.tup [.int 1, .int 2])) : PtV Hy (.ref q2) (.inr x) (.inr y) := ⟨q2, q1, rfl, s _ _ h2, s _ _ h1⟩
theorem mkDo {Hx Hy : Hp} {q1 q2 : Addr} {r z : Str} (s : Same Hx Hy) (h2 : Hx q2 = some (.tup [.str (Str.ofString "do"), .str r, .ref q1])) (h1 : Hx q1 = some (.tup [.str z])) : DoV Hy (.ref q2) r z := ⟨q2, q1, rfl, s _ _ h2, s _ _ h1⟩
theorem mkTm {H : Hp} {q t : Addr} {n : Int} {us : List V} {ds : List K1} {F y : Str} (h1 : H q = some (.tup [.str (Str.ofString "times"), .int n, .ref t])) (h2 : H t = some (.tup us)) (h3 : Paired (K1V H F y) us ds) : K2V H F y (.ref q) (.tm n ds) := ⟨q, t, us, rfl, h1, h2, h3⟩
theorem mkS4 {H : Hp} {a : Addr} {o : HO} {x : Option HO} (_ : H a = x) : upd H a o a = some o := upd_same
theorem ne_none {H : Hp} {a c : Addr} {o : HO} (h1 : H a = none) (h2 : H c = some o) : a ≠ c := by rintro rfl; rw [h1] at h2; cases h2
theorem keepL {H : Hp} {a c : Addr} {o o' : HO} (n : c ≠ a) (h : H c = some o) : upd H a o' c = some o := by rw [upd_ne n]; exact h
theorem cut_ints (ns : List Int) (lo hi : Option Int) : ∃ ms : List Int, cutV (ns.map V.int) lo hi = ms.map V.int ∧ ms.length ≤ HT.sIx ns.length ns.length hi - HT.sIx ns.length 0 lo ∧ ms.length ≤ ns.length := by
  refine ⟨(ns.drop (HT.sIx ns.length 0 lo)).take (HT.sIx ns.length ns.length hi - HT.sIx ns.length 0 lo), ?_, ?_, ?_⟩
  · unfold cutV
    rw [List.length_map, List.map_take, List.map_drop]
  · rw [List.length_take]; omega
  · rw [List.length_take, List.length_drop]; omega
theorem two_of {zs : List Str} (h : (zs.length : Int) = 2) : ∃ x y, zs = [x, y] := by
  match zs, h with
  | [x, y], _ => exact ⟨x, y, rfl⟩
  | [], h => simp at h
  | [_], h => simp at h
  | _ :: _ :: _ :: _, h => simp at h; omega
noncomputable def spRules (K : PySem.W.Frag) : Sp := fun vs H Q _ => ∃ (a b : Addr) (y : Str) (ms : List Int) (zs : List Str), vs = [.ref a, .ref b, .str y] ∧ H a = some (.lst (ms.map V.int)) ∧ ms.length ≤ 19 ∧ H b = some (.lst (zs.map V.str)) ∧ zs.length = 19 ∧
  ∀ p R C rv H', Same H H' → H' p = some (.lst [.ref R, .ref C]) → H' R = some (.lst rv) → H' C = some (.lst (((List.range ms.length).map (ct ms)).map V.int)) → Paired (R1V ZZ y H') rv (rls ms zs) → Q (.ref p) H'
theorem pick2 {H : Hp} {a3 a5 : Addr} {y s1 s2 : Str} {r : V} (n : Int) (h3 : H a3 = some (.tup [.str s1, .str y])) (h5 : H a5 = some (.tup [.str s2, .str y, r])) : ∃ (pq : Addr) (kd : Str) (r2 : List V), atI [V.ref a3, V.ref a5] (n.fmod 2) = some (.ref pq) ∧ H pq = some (.tup (.str kd :: .str y :: r2)) := by
  have q := fmod_lt (c := n) (m := 2) (by decide)
  have h : n.fmod 2 = 0 ∨ n.fmod 2 = 1 := by omega
  rcases h with h | h <;> rw [h]
  · exact ⟨a3, s1, [], rfl, h3⟩
  · exact ⟨a5, s2, [r], rfl, h5⟩
theorem mkHs {K : PySem.W.Frag} {H : Hp} {hh a2 pq : Addr} {x y kd : Str} {r1 r2 : List V} (h1 : H hh = some (.lst [.ref a2, .ref pq])) (h2 : H a2 = some (.tup (.str (Str.ofString "cask") :: .str x :: r1))) (h3 : H pq = some (.tup (.str kd :: .str y :: r2))) (ne : x ≠ y) : HsV K H (.ref hh) x y kd := ⟨hh, a2, pq, r1, r2, rfl, h1, h2, h3, ne⟩
theorem mkSc {F x y : Str} {H : Hp} {p a b : Addr} {rv us : List V} {rs : List R1} {ds : List K2} (h1 : H p = some (.tup [.ref a, .ref b])) (h2 : H a = some (.tup rv)) (h3 : Paired (R1V F y H) rv rs) (h4 : H b = some (.tup us)) (h5 : Paired (K2V H x y) us ds) : S1V F x y H (.ref p) rs ds := ⟨p, a, b, rv, us, rfl, h1, h2, h3, h4, h5⟩
theorem facA (rs : List R1) (cc : Str → Int) {q : Int} (h : 0 ≤ q) : (∀ d ∈ [K2.tm 50 (List.replicate 4 [K1.pt]).flatten] ++ (List.replicate q.toNat [K2.one .pt]).flatten, kn2 (rs.map (·.1)) d) ∧ (∀ d ∈ [K2.tm 50 (List.replicate 4 [K1.pt]).flatten] ++ (List.replicate q.toNat [K2.one .pt]).flatten, mo2 cc d) ∧ (([K2.tm 50 (List.replicate 4 [K1.pt]).flatten] ++ (List.replicate q.toNat [K2.one .pt]).flatten).map (cnt2 cc)).sum = 200 + q := by
  refine ⟨fun d hd => ?_, fun d hd => ?_, ?_⟩
  · rcases List.mem_append.mp hd with hd | hd
    · rw [List.mem_singleton.mp hd]
      refine ⟨⟨by decide, by decide⟩, fun e he => ?_⟩
      rw [mem_repf he]
      trivial
    · rw [mem_repf hd]
      trivial
  · rcases List.mem_append.mp hd with hd | hd
    · rw [List.mem_singleton.mp hd]
      exact IntMulOk.of_left (by decide)
    · rw [mem_repf hd]
      trivial
  · rw [List.map_append, List.sum_append, sum_repf]
    show (50 * ((List.replicate 4 [K1.pt]).flatten.map (cnt1 cc)).sum + 0) + (q.toNat : Int) * 1 = 200 + q
    rw [sum_repf]
    show (50 * (4 * 1) + 0) + (q.toNat : Int) * 1 = 200 + q
    omega
theorem facB {ms : List Int} {zn : List Str} {m : Int} (nd : zn.Nodup) (hl : ms.length ≤ zn.length) (hne : 0 < ms.length) (hml : ms.length ≤ 19) (h0 : 0 ≤ m) (h4 : m < 4) : (∀ d ∈ [K2.tm m [K1.dd (zn.getD (ms.length - 1) ZZ)]], kn2 ((rls ms zn).map (·.1)) d) ∧ (∀ d ∈ [K2.tm m [K1.dd (zn.getD (ms.length - 1) ZZ)]], mo2 (ccf ms zn) d) ∧ ([K2.tm m [K1.dd (zn.getD (ms.length - 1) ZZ)]].map (cnt2 (ccf ms zn))).sum = m * ct ms (ms.length - 1) := by
  have ec := ccf_at (ms := ms) nd (k := ms.length - 1) (by omega)
  have hb := ct_bits ms (k := ms.length - 1) (by omega)
  refine ⟨fun d hd => ?_, fun d hd => ?_, ?_⟩
  · rw [List.mem_singleton.mp hd]
    refine ⟨⟨h0, by omega⟩, fun e he => ?_⟩
    rw [List.mem_singleton.mp he, rls_nm]
    exact List.mem_map.mpr ⟨ms.length - 1, List.mem_range.mpr (by omega), rfl⟩
  · rw [List.mem_singleton.mp hd]
    show IntMulOk m (ccf ms zn (zn.getD (ms.length - 1) ZZ) + 0)
    rw [ec, Int.add_zero]
    exact mulOk_of 400 (Nat.lt_of_le_of_lt (m := 4) (by omega) (by decide)) (Nat.lt_trans hb (by decide)) (by decide)
  · show m * (ccf ms zn (zn.getD (ms.length - 1) ZZ) + 0) + 0 = _
    rw [ec, Int.add_zero, Int.add_zero]
theorem facR {ms : List Int} {zn : List Str} (nd : zn.Nodup) (hl : ms.length ≤ zn.length) (h19 : zn.length ≤ 19) : (∀ r ∈ rls ms zn, ccf ms zn r.1 = (r.2.map (cnt2 (ccf ms zn))).sum ∧ 0 ≤ ccf ms zn r.1) ∧ ∀ r ∈ rls ms zn, ∀ d ∈ r.2, mo2 (ccf ms zn) d := by
  refine ⟨fun r hr => ?_, fun r hr => ?_⟩
  · obtain ⟨i, hi, rfl⟩ := List.mem_map.mp hr
    have hi := List.mem_range.mp hi
    have e := ccf_at (ms := ms) nd (k := i) (by omega)
    have e2 := rl_sum (ms := ms) nd (k := i) (by omega)
    have := ct_in ms i
    show ccf ms zn (zn.getD i ZZ) = _ ∧ 0 ≤ ccf ms zn (zn.getD i ZZ)
    rw [e]
    exact ⟨e2, by omega⟩
  · obtain ⟨i, hi, rfl⟩ := List.mem_map.mp hr
    have hi := List.mem_range.mp hi
    exact rl_mo nd (by omega) h19
theorem mkOp {K : PySem.W.Frag} {H : Hp} {h s : V} {x y F kd : Str} {rs : List R1} {ds : List K2} {cc : Str → Int} (h1 : HsV K H h x y kd) (h2 : F ≠ y) (h3 : S1V F x y H s rs ds) (h4 : AhOk rs) (h5 : ∀ d ∈ ds, kn2 (rs.map (·.1)) d) (h6 : rs.length ≤ 60) (h7 : ∀ r ∈ rs, cc r.1 = (r.2.map (cnt2 cc)).sum ∧ 0 ≤ cc r.1) (h8 : ∀ r ∈ rs, ∀ d ∈ r.2, mo2 cc d) (h9 : ∀ d ∈ ds, mo2 cc d) : OpIn K H h s x y (ds.map (cnt2 cc)).sum := ⟨F, kd, rs, ds, cc, h1, h2, h3, h4, h5, h6, h7, h8, h9, rfl⟩
noncomputable def dPt (x y : Str) : PyData := .tuple [.str (Str.ofString "part"), .str x, .str y, .tuple [.int 1, .int 2]]
theorem PtV.rep {K : PySem.W.Frag} {H : Hp} {v : V} {x y : Str} (lx : Lay x) (ly : Lay y) : PtV H v (.inr x) (.inr y) → RepD K H (dPt x y) v := fun ⟨a, q, e, h1, h2⟩ => by
  subst e
  exact repT (SqT.of h1) (repsC (repS (by decide +kernel)) (repsC (repS lx) (repsC (repS ly) (repsC (repT (SqT.of h2) (repsC repI (repsC repI reps0))) reps0))))
theorem rep_pts {K : PySem.W.Frag} {H : Hp} {x y : Str} (lx : Lay x) (ly : Lay y) : ∀ {vs : List V}, (∀ v ∈ vs, PtV H v (.inr x) (.inr y)) → RepDs K H (List.replicate vs.length (dPt x y)) vs
  | [], _ => reps0
  | v :: vs, h => by
    rw [List.length_cons, List.replicate_succ]
    exact repsC ((h v (.head _)).rep lx ly) (rep_pts lx ly fun u hu => h u (.tail _ hu))
theorem rep_ptsN {K : PySem.W.Frag} {H : Hp} {x y : Str} (lx : Lay x) (ly : Lay y) {vs : List V} {n : Nat} (e : vs.length = n) (h : ∀ v ∈ vs, PtV H v (.inr x) (.inr y)) : RepDs K H (List.replicate n (dPt x y)) vs := by
  rw [← e]; exact rep_pts lx ly h
theorem rep_rep {K : PySem.W.Frag} {H : Hp} {x y : Str} (lx : Lay x) (ly : Lay y) {v : V} (h : PtV H v (.inr x) (.inr y)) : ∀ n : Nat, RepDs K H (List.replicate n (dPt x y)) (List.replicate n [v]).flatten
  | 0 => by simp only [List.replicate_zero, List.flatten_nil]; exact reps0
  | n + 1 => by
    rw [List.replicate_succ, List.replicate_succ, List.flatten_cons]
    exact repsC (h.rep lx ly) (rep_rep lx ly h n)
theorem dep_pts (x y : Str) : ∀ n : Nat, PyData.depthAll (List.replicate n (dPt x y)) ≤ 10
  | 0 => by simp [PyData.depthAll]
  | n + 1 => by
    have := dep_pts x y n
    have h2 : (dPt x y).depth ≤ 10 := by simp [dPt, PyData.depth, PyData.depthAll]
    rw [List.replicate_succ]
    simp only [PyData.depthAll]
    omega
theorem dep_pl (x y : Str) (n : Nat) : (PyData.list (List.replicate n (dPt x y))).depth ≤ 64 := by
  have := dep_pts x y n
  simp only [PyData.depth]
  omega
noncomputable def dTM : List PyData := [.bool false, .bool false, .bool false, .bool true, .bool false, .bool true, .bool false, .bool false, .bool false, .bool false, .bool false, .bool false, .bool false, .bool false, .bool false]
theorem rep_tm {K : PySem.W.Frag} {H : Hp} : RepDs K H dTM TMk := repsC repB (repsC repB (repsC repB (repsC repB (repsC repB (repsC repB (repsC repB (repsC repB (repsC repB (repsC repB (repsC repB (repsC repB (repsC repB (repsC repB (repsC repB reps0))))))))))))))
theorem dep_tm : (PyData.list dTM).depth ≤ 64 := by decide
end T10
namespace T10
open PySem L2 Tc
section
variable {P : Program} {w : World} {K : PySem.W.Frag} {mg : Str → Option Value} {base : Heap}
noncomputable abbrev s_kinds_of : Stmt := top 18
theorem sc_kinds_of : FnScope ["house", "kinds", "place"] ["house"] (defScope s_kinds_of) := ⟨rfl, rfl, rfl, by decide +kernel, rfl, by decide +kernel, by decide +kernel⟩
theorem ok_kinds_of {ca : Ca} (D : DefAt K mg "kinds_of" s_kinds_of) (T : Txt K mg ca) : FnAt P w K mg base CX0 1 "kinds_of" ["house"] (spKinds K) := by
  refine D.ok sc_kinds_of (fun vs H Q E h => ?_) (fun _ _ _ _ _ _ us hl => match us, hl with | [_], _ => rfl) (fun f cdv A outer s H vs Q E hr h => ?_)
  · obtain ⟨v, x, y, kd, rfl, ⟨a, p1, p2, r1, r2, rfl, ha, h1, h2, ne⟩, k⟩ := h; rfl
  · obtain ⟨v, x, y, kd, rfl, ⟨a, p1, p2, r1, r2, rfl, ha, h1, h2, ne⟩, k⟩ := h
    have nd := sc_kinds_of.nd
    refine ⟨_, (@pss_cons _ _ _ _ _ (@ps_set _ _ 1 _ _ _ _ nd rfl (Or.inl rfl) pe_dnewK (by rfl) (Or.inl rfl))
      (@pss_cons _ _ _ _ _ (ps_for PassesOwn.never rfl (pi_list' (K := K) rfl (pv 0)) (pg_name (i := 2) nd rfl (Or.inl rfl)) (@pss_one _ _ _ (ps_dput (hu_of hr) (pv 1) (pe_ix (ix_tup' (K := K) rfl) (pv 2) pe_int (fun _ _ => rfl)) (pe_ix (ix_tup' (K := K) rfl) (pv 2) pe_int (fun _ _ => rfl)) rfl)))
      (@pss_one _ _ _ (ps_ret (pv 1))))), ?_⟩
    intro p hp
    have tp := Same.upd (o := .dK []) hp
    refine ⟨_, rfl, a, rfl, ⟨_, SqL.of (tp _ _ ha)⟩, ?_⟩
    refine for_list (xs := [V.ref p1, V.ref p2]) (fun i σ H1 => ∃ (v2 : Option V) (kv : List (Key × V)), σ = [some (.ref a), some (.ref p), v2] ∧ Same H H1 ∧ H1 p = some (.dK kv) ∧ kv.length ≤ i ∧ (1 ≤ i → valV kv (.inr x) = some (.str (Str.ofString "cask"))) ∧ (2 ≤ i → valV kv (.inr y) = some (.str kd))) ⟨none, [], rfl, tp, upd_same, Nat.le_refl _, by omega, by omega⟩ ?_ ?_ ?_
    · rintro i σ H1 hi ⟨v2, kv, rfl, s1, _⟩
      exact SqL.of (s1 _ _ ha)
    · rintro i z σ H1 hz ⟨v2, kv, rfl, s1, hk, hl, e1, e2⟩
      have lp : ∀ (k0 : Key) (w0 : V), (putK kv k0 w0).length ≤ i + 1 := fun k0 w0 => Nat.le_trans (length_putK _ _ _) (by omega)
      match i, hz with
      | 0, hz =>
        obtain rfl : V.ref p1 = z := Option.some.inj hz
        have hb := s1 _ _ h1
        refine ⟨_, rfl, p1, _, 0, _, rfl, rfl, SqT.of hb, at_0 _ _, _, rfl, _, rfl, p1, _, 1, _, rfl, rfl, SqT.of hb, at_1 _ _ _, p, _, rfl, DPut.k (k := .inr x) hk (sz (by omega)), ?_⟩
        exact ⟨_, _, rfl, s1.updD hp, upd_same, lp _ _, fun _ => by rw [valV_put, if_pos rfl], by omega⟩
      | 1, hz =>
        obtain rfl : V.ref p2 = z := Option.some.inj hz
        have hb := s1 _ _ h2
        refine ⟨_, rfl, p2, _, 0, _, rfl, rfl, SqT.of hb, at_0 _ _, _, rfl, _, rfl, p2, _, 1, _, rfl, rfl, SqT.of hb, at_1 _ _ _, p, _, rfl, DPut.k (k := .inr y) hk (sz (by omega)), ?_⟩
        exact ⟨_, _, rfl, s1.updD hp, upd_same, lp _ _, fun _ => by rw [valV_put, if_neg (fun e => ne (Sum.inr.inj e))]; exact e1 (by omega), fun _ => by rw [valV_put, if_pos rfl]⟩
      | i + 2, hz => cases hz
    · rintro σ H1 ⟨v2, kv, rfl, s1, hk, hl, e1, e2⟩
      exact ⟨_, rfl, k p kv H1 s1 hp hk hl (e1 (show 1 ≤ 2 by decide)) (e2 (show 2 ≤ 2 by decide))⟩
end
end T10
namespace T10
open PySem L2 Tc
section
variable {P : Program} {w : World} {K : PySem.W.Frag} {mg : Str → Option Value} {base : Heap}
noncomputable abbrev s_wanted : Stmt := top 19
theorem sc_wanted : FnScope ["deed"] ["deed"] (defScope s_wanted) := ⟨rfl, rfl, rfl, by decide +kernel, rfl, by decide +kernel, by decide +kernel⟩
theorem ok_wanted {ca : Ca} (D : DefAt K mg "wanted" s_wanted) (T : Txt K mg ca) : FnAt P w K mg base CX0 1 "wanted" ["deed"] (spWanted) := by
  refine D.ok sc_wanted (fun vs H Q E h => ?_) (fun _ _ _ _ _ _ us hl => match us, hl with | [_], _ => rfl) (fun f cdv A outer s H vs Q E hr h => ?_)
  · obtain ⟨v, k1, k2, rfl, ⟨a, q, rfl, ha, hq⟩, k⟩ := h; rfl
  · obtain ⟨v, k1, k2, rfl, ⟨a, q, rfl, ha, hq⟩, k⟩ := h
    have nd := sc_wanted.nd
    refine ⟨_, (@pss_cons _ _ _ _ _ (ps_if (pt_cmpR op_eq (pe_ix (ix_tup' (K := K) rfl) (pv 0) pe_int (fun _ _ => rfl)) pe_str (nomark _)) (@pss_one _ _ _ (ps_ret (@pe_lst _ _ _ _ pa_nil))) pss_nil)
      (@pss_cons _ _ _ _ _ (ps_if (pt_cmpR op_eq (pe_ix (ix_tup' (K := K) rfl) (pv 0) pe_int (fun _ _ => rfl)) pe_str (nomark _)) (@pss_one _ _ _ (ps_ret (@pe_lst _ _ _ _ (@pa_cons _ _ _ _ _ (@pe_tup _ _ _ _ _ (@pa_cons _ _ _ _ _ (pe_ix (ix_tup' (K := K) rfl) (pv 0) pe_int (fun _ _ => rfl)) (@pa_cons _ _ _ _ _ pe_bl pa_nil (by rfl)) (by rfl))) pa_nil (by rfl))))) pss_nil)
      (@pss_one _ _ _ (ps_ret (@pe_lst _ _ _ _ (@pa_cons _ _ _ _ _ (@pe_tup _ _ _ _ _ (@pa_cons _ _ _ _ _ (pe_ix (ix_tup' (K := K) rfl) (pv 0) pe_int (fun _ _ => rfl)) (@pa_cons _ _ _ _ _ pe_bl pa_nil (by rfl)) (by rfl))) (@pa_cons _ _ _ _ _ (@pe_tup _ _ _ _ _ (@pa_cons _ _ _ _ _ (pe_ix (ix_tup' (K := K) rfl) (pv 0) pe_int (fun _ _ => rfl)) (@pa_cons _ _ _ _ _ (pe_cmpR op_eq (pe_ix (ix_tup' (K := K) rfl) (pv 0) pe_int (fun _ _ => rfl)) pe_str (nomark _)) pa_nil (by rfl)) (by rfl))) pa_nil (by rfl)) (by rfl))))))), ?_⟩
    refine ⟨_, rfl, a, _, 0, _, rfl, rfl, SqT.of ha, rfl, rfl, _, rfl, ?_⟩
    refine dec_false (by decide +kernel) ?_
    refine ⟨_, rfl, a, _, 0, _, rfl, rfl, SqT.of ha, rfl, rfl, _, rfl, ?_⟩
    refine dec_false (by decide +kernel) ?_
    refine ⟨_, rfl, a, _, 1, _, rfl, rfl, SqT.of ha, rfl, sz (show 2 ≤ 1000 by decide), fun p1 h1 => ?_⟩
    have t1 := Same.upd (o := .tup [kV k1, .bl true]) h1
    refine ⟨_, rfl, a, _, 2, _, rfl, rfl, SqT.of (t1 _ _ ha), rfl, _, rfl, a, _, 0, _, rfl, rfl, SqT.of (t1 _ _ ha), rfl, rfl, sz (show 2 ≤ 1000 by decide), fun p2 h2 => ⟨sz (show 2 ≤ 1000 by decide), fun l hl => ?_⟩⟩
    have ed : decide (V.str (Str.ofString "part") = V.str (Str.ofString "fill")) = false := by decide +kernel
    rw [ed] at hl ⊢
    have t2 := Same.upd (o := .tup [kV k2, .bl false]) h2
    have t3 := Same.upd (o := .lst [.ref p1, .ref p2]) hl
    exact k l p1 p2 _ (t1.trans (t2.trans t3)) upd_same (t3 _ _ (t2 _ _ upd_same)) (t3 _ _ upd_same)
end
end T10
namespace T10
open PySem L2 Tc
section
variable {P : Program} {w : World} {K : PySem.W.Frag} {mg : Str → Option Value} {base : Heap}
noncomputable abbrev s_check_place : Stmt := top 20
theorem sc_check_place : FnScope ["name", "kinds", "cask", "kind"] ["name", "kinds", "cask"] (defScope s_check_place) := ⟨rfl, rfl, rfl, by decide +kernel, rfl, by decide +kernel, by decide +kernel⟩
theorem ok_check_place {ca : Ca} (D : DefAt K mg "check_place" s_check_place) (T : Txt K mg ca) : FnAt P w K mg base CX0 1 "check_place" ["name", "kinds", "cask"] (spCkPlace) := by
  refine D.ok sc_check_place (fun vs H Q E h => ?_) (fun _ _ _ _ _ _ us hl => match us, hl with | [_, _, _], _ => rfl) (fun f cdv A outer s H vs Q E hr h => ?_)
  · obtain ⟨z, kk, c, kv, kd, rfl, hk, hv, hc, k⟩ := h; rfl
  · obtain ⟨z, kk, c, kv, kd, rfl, hk, hv, hc, k⟩ := h
    have nd := sc_check_place.nd
    refine ⟨_, (@pss_cons _ _ _ _ _ (@ps_set _ _ 3 _ _ _ _ nd rfl (Or.inl rfl) (pe_dget1 (hu_of hr) (pv 1) (pv 0) ⟨by rfl, by rfl, by rfl, by rfl⟩) (by rfl) (Or.inl rfl))
      (@pss_cons _ _ _ _ _ (ps_if (pt_cmpR op_isN (pv 3) pe_non (nomark _)) (@pss_one _ _ _ ps_never) pss_nil)
      (@pss_one _ _ _ (ps_if (PW.pt (pw_and (pt_val (pv 2)) (pw_and1 (pt_cmpR op_eq (pv 3) pe_str (nomark _))))) (@pss_one _ _ _ ps_never) pss_nil)))), ?_⟩
    have g := DGet.k (k := .inr z) hk
    rw [hv] at g
    refine ⟨_, rfl, kk, rfl, .inl ⟨kv, .inl hk⟩, _, rfl, _, g, ?_⟩
    refine ⟨_, rfl, rfl, _, rfl, ?_⟩
    refine iteF ?_
    refine ⟨_, rfl, _, rfl, ?_⟩
    refine ite2 (fun h => ?_) (fun _ => iteF k)
    refine ⟨_, rfl, rfl, _, rfl, ?_⟩
    refine ite2 (fun h2 => ?_) (fun _ => k)
    exact absurd (V.str.inj (of_decide_eq_true h2)) (hc h)
end
end T10
namespace T10
open PySem L2 Tc
section
variable {P : Program} {w : World} {K : PySem.W.Frag} {mg : Str → Option Value} {base : Heap}
noncomputable abbrev s_check_plain : Stmt := top 21
theorem sc_check_plain : FnScope ["deed", "kinds", "places", "name", "cask"] ["deed", "kinds"] (defScope s_check_plain) := ⟨rfl, rfl, rfl, by decide +kernel, rfl, by decide +kernel, by decide +kernel⟩
theorem ok_check_plain {ca : Ca} (D : DefAt K mg "check_plain" s_check_plain) (T : Txt K mg ca) (G_wanted : FnAt P w K mg base CX0 1 "wanted" ["deed"] (spWanted)) (G_check_place : FnAt P w K mg base CX0 1 "check_place" ["name", "kinds", "cask"] (spCkPlace)) : FnAt P w K mg base CX0 2 "check_plain" ["deed", "kinds"] (spCkPlain K) := by
  refine D.ok sc_check_plain (fun vs H Q E h => ?_) (fun _ _ _ _ _ _ us hl => match us, hl with | [_, _], _ => rfl) (fun f cdv A outer s H vs Q E hr h => ?_)
  · obtain ⟨v, kk, F, y, kv, rfl, hv, hk, ⟨ne, ⟨kd1, v1, n1⟩, ⟨kd2, v2⟩⟩, k⟩ := h; rfl
  · obtain ⟨v, kk, F, y, kv, rfl, hv, hk, ⟨ne, ⟨kd1, v1, n1⟩, ⟨kd2, v2⟩⟩, k⟩ := h
    have nd := sc_check_plain.nd
    refine ⟨_, (@pss_cons _ _ _ _ _ (@ps_set _ _ 2 _ _ _ _ nd rfl (Or.inl rfl) (pe_fn G_wanted hr (by rfl) pass0 (@pa_cons _ _ _ _ _ (pv 0) pa_nil (by rfl))) (by rfl) (Or.inl rfl))
      (@pss_cons _ _ _ _ _ (ps_for PassesOwn.never rfl (pi_list' (K := K) rfl (pv 2)) (pg_tup rfl (pgs_cons (pg_name (i := 3) nd rfl (Or.inl rfl)) (pgs_cons (pg_name (i := 4) nd rfl (Or.inl rfl)) pgs_nil))) (@pss_one _ _ _ (ps_expr (pe_fn G_check_place hr (by rfl) pass0 (@pa_cons _ _ _ _ _ (pv 3) (@pa_cons _ _ _ _ _ (pv 1) (@pa_cons _ _ _ _ _ (pv 4) pa_nil (by rfl)) (by rfl)) (by rfl))))))
      (@pss_one _ _ _ (ps_if (PW.pt (pw_and (pt_cmpR op_eq (pe_callB (call_len' (K := K) rfl) (by rfl) T.z_len PySem.boot_len (@pa_cons _ _ _ _ _ (pv 2) pa_nil (by rfl))) pe_int (nomark _)) (pw_and1 (pt_cmpR op_eq (pe_ix (ix_tup' (K := K) rfl) (pe_ix (ix_list' (K := K) rfl) (pv 2) pe_int (fun _ _ => rfl)) pe_int (fun _ _ => rfl)) (pe_ix (ix_tup' (K := K) rfl) (pe_ix (ix_list' (K := K) rfl) (pv 2) pe_int (fun _ _ => rfl)) pe_int (fun _ _ => rfl)) (nomark _))))) (@pss_one _ _ _ ps_never) pss_nil)))), ?_⟩
    refine ⟨_, rfl, v, .inr F, .inr y, rfl, hv, fun l a b H1 s1 hl ha hb => ?_⟩
    have hk1 := s1 _ _ hk
    refine ⟨_, rfl, l, rfl, ⟨_, SqL.of hl⟩, ?_⟩
    refine for_list (xs := [V.ref a, V.ref b]) (fun i σ H2 => ∃ v3 v4 : Option V, σ = [some v, some (.ref kk), some (.ref l), v3, v4] ∧ H2 = H1) ⟨none, none, rfl, rfl⟩ ?_ ?_ ?_
    · rintro i σ H2 hi ⟨v3, v4, rfl, rfl⟩
      exact SqL.of hl
    · rintro i x σ H2 hx ⟨v3, v4, rfl, rfl⟩
      match i, hx with
      | 0, hx =>
        obtain rfl : V.ref a = x := Option.some.inj hx
        refine ⟨a, _, rfl, SqT.of ha, rfl, _, _, rfl, _, _, rfl, rfl, ?_⟩
        exact ⟨_, rfl, _, rfl, _, rfl, F, kk, true, kv, kd1, rfl, hk1, v1, fun _ => n1, _, _, rfl, rfl⟩
      | 1, hx =>
        obtain rfl : V.ref b = x := Option.some.inj hx
        refine ⟨b, _, rfl, SqT.of hb, rfl, _, _, rfl, _, _, rfl, rfl, ?_⟩
        exact ⟨_, rfl, _, rfl, _, rfl, y, kk, false, kv, kd2, rfl, hk1, v2, (fun h => nomatch h), _, _, rfl, rfl⟩
      | i + 2, hx => cases hx
    · rintro σ H2 ⟨v3, v4, rfl, rfl⟩
      refine ⟨_, rfl, _, _, rfl, .inl ⟨_, SqL.of hl, rfl⟩, rfl, _, rfl, ?_⟩
      refine iteT ?_
      refine ⟨_, rfl, l, _, 0, _, rfl, rfl, SqL.of hl, rfl, a, _, 0, _, rfl, rfl, SqT.of ha, rfl, _, rfl, l, _, 1, _, rfl, rfl, SqL.of hl, rfl, b, _, 0, _, rfl, rfl, SqT.of hb, rfl, rfl, _, rfl, ?_⟩
      refine ite2 (fun h => ?_) (fun _ => k _ s1)
      exact absurd (V.str.inj (of_decide_eq_true h)) ne
end
end T10
namespace T10
open PySem L2 Tc
section
variable {P : Program} {w : World} {K : PySem.W.Frag} {mg : Str → Option Value} {base : Heap}
noncomputable abbrev s_check_do : Stmt := top 22
theorem sc_check_do : FnScope ["deed", "kinds", "ahead", "rule", "name"] ["deed", "kinds", "ahead"] (defScope s_check_do) := ⟨rfl, rfl, rfl, by decide +kernel, rfl, by decide +kernel, by decide +kernel⟩
theorem ok_check_do {ca : Ca} (D : DefAt K mg "check_do" s_check_do) (T : Txt K mg ca) (G_check_place : FnAt P w K mg base CX0 1 "check_place" ["name", "kinds", "cask"] (spCkPlace)) : FnAt P w K mg base CX0 2 "check_do" ["deed", "kinds", "ahead"] (spCkDo K) := by
  refine D.ok sc_check_do (fun vs H Q E h => ?_) (fun _ _ _ _ _ _ us hl => match us, hl with | [_, _, _], _ => rfl) (fun f cdv A outer s H vs Q E hr h => ?_)
  · obtain ⟨v, kk, ah, r, F, kv, av, rfl, ⟨a, q, rfl, ha, hq⟩, hk, hah, hr1, ⟨kd, v1⟩, k⟩ := h; rfl
  · obtain ⟨v, kk, ah, r, F, kv, av, rfl, ⟨a, q, rfl, ha, hq⟩, hk, hah, hr1, ⟨kd, v1⟩, k⟩ := h
    have nd := sc_check_do.nd
    refine ⟨_, (@pss_cons _ _ _ _ _ (@ps_set _ _ 3 _ _ _ _ nd rfl (Or.inl rfl) (pe_ix (ix_tup' (K := K) rfl) (pv 0) pe_int (fun _ _ => rfl)) (by rfl) (Or.inl rfl))
      (@pss_cons _ _ _ _ _ (ps_if (pt_cmp (pc_dnotin (hu_of hr) (pv 3) (pv 2))) (@pss_one _ _ _ ps_never) pss_nil)
      (@pss_cons _ _ _ _ _ (ps_if (pt_cmpR op_ne (pe_callB (call_len' (K := K) rfl) (by rfl) T.z_len PySem.boot_len (@pa_cons _ _ _ _ _ (pe_ix (ix_tup' (K := K) rfl) (pv 0) pe_int (fun _ _ => rfl)) pa_nil (by rfl))) (pe_dget (hu_of hr) (pv 2) (pv 3) (fun _ _ => rfl)) (nomark _)) (@pss_one _ _ _ ps_never) pss_nil)
      (@pss_one _ _ _ (ps_for PassesOwn.never rfl (pi_tup' (K := K) rfl (pe_ix (ix_tup' (K := K) rfl) (pv 0) pe_int (fun _ _ => rfl))) (pg_name (i := 4) nd rfl (Or.inl rfl)) (@pss_one _ _ _ (ps_expr (pe_fn G_check_place hr (by rfl) pass0 (@pa_cons _ _ _ _ _ (pv 4) (@pa_cons _ _ _ _ _ (pv 1) (@pa_cons _ _ _ _ _ pe_bl pa_nil (by rfl)) (by rfl)) (by rfl)))))))))), ?_⟩
    have g := DGet.k (k := .inr r) hah
    rw [hr1] at g
    refine ⟨_, rfl, a, _, 1, _, rfl, rfl, SqT.of ha, rfl, ?_⟩
    refine ⟨_, rfl, _, rfl, ah, _, rfl, g, _, rfl, ?_⟩
    refine iteF ?_
    refine ⟨_, rfl, a, _, 2, _, rfl, rfl, SqT.of ha, rfl, _, _, rfl, .inr ⟨_, SqT.of hq, rfl⟩, _, rfl, _, rfl, ah, _, rfl, g, rfl, _, rfl, ?_⟩
    refine iteF ?_
    refine ⟨_, rfl, a, _, 2, _, rfl, rfl, SqT.of ha, rfl, q, rfl, ⟨_, SqT.of hq⟩, ?_⟩
    refine for_tup (xs := [V.str F]) (fun i σ H2 => ∃ v4 : Option V, σ = [some (.ref a), some (.ref kk), some (.ref ah), some (.str r), v4] ∧ H2 = H) ⟨none, rfl, rfl⟩ ?_ ?_ ?_
    · rintro i σ H2 hi ⟨v4, rfl, rfl⟩
      exact SqT.of hq
    · rintro i x σ H2 hx ⟨v4, rfl, rfl⟩
      match i, hx with
      | 0, hx =>
        obtain rfl : V.str F = x := Option.some.inj hx
        exact ⟨_, rfl, _, rfl, F, kk, false, kv, kd, rfl, hk, v1, (fun h => nomatch h), _, rfl, rfl⟩
      | i + 1, hx => cases hx
    · rintro σ H2 ⟨v4, rfl, rfl⟩
      exact k _ (Same.refl _)
end
end T10
namespace T10
open PySem L2 Tc
section
variable {P : Program} {w : World} {K : PySem.W.Frag} {mg : Str → Option Value} {base : Heap}
noncomputable abbrev s_check_deeds : Stmt := top 23
theorem sc_check_deeds : FnScope ["deeds", "kinds", "ahead", "deed"] ["deeds", "kinds", "ahead"] (defScope s_check_deeds) := ⟨rfl, rfl, rfl, by decide +kernel, rfl, by decide +kernel, by decide +kernel⟩
theorem ok_check_deeds {ca : Ca} (D : DefAt K mg "check_deeds" s_check_deeds) (T : Txt K mg ca) (G_check_do : FnAt P w K mg base CX0 2 "check_do" ["deed", "kinds", "ahead"] (spCkDo K)) (G_check_plain : FnAt P w K mg base CX0 2 "check_plain" ["deed", "kinds"] (spCkPlain K)) : ∀ d, FnAt P w K mg base CX0 (d + 3) "check_deeds" ["deeds", "kinds", "ahead"] (spChk K d) := by
  intro d
  induction d with
  | zero =>
    refine D.ok sc_check_deeds (fun vs H Q E h => ?_) (fun _ _ _ _ _ _ us hl => match us, hl with | [_, _, _], _ => rfl) (fun f cdv A outer s H vs Q E hr h => ?_)
    · exact False.elim (by obtain ⟨_, _, _, _, _, _, _, _, _, _, _, _, _, e, _⟩ := h; omega)
    · exact False.elim (by obtain ⟨_, _, _, _, _, _, _, _, _, _, _, _, _, e, _⟩ := h; omega)
  | succ d G_check_deeds =>
  refine D.ok sc_check_deeds (fun vs H Q E h => ?_) (fun _ _ _ _ _ _ us hl => match us, hl with | [_, _, _], _ => rfl) (fun f cdv A outer s H vs Q E hr h => ?_)
  · obtain ⟨a, kk, ah, us, ds, kv, av, F, y, e, rfl, ha, hP, ed, hone, hk, hah, okp, okd, k⟩ := h; rfl
  · obtain ⟨a, kk, ah, us, ds, kv, av, F, y, e, rfl, ha, hP, ed, hone, hk, hah, okp, okd, k⟩ := h
    have nd := sc_check_deeds.nd
    refine ⟨_, (@pss_one _ _ _ (ps_for PassesOwn.never rfl (pi_tup' (K := K) rfl (pv 0)) (pg_name (i := 3) nd rfl (Or.inl rfl)) (@pss_one _ _ _ (ps_if (pt_cmpR op_eq (pe_ix (ix_tup' (K := K) rfl) (pv 3) pe_int (fun _ _ => rfl)) pe_str (nomark _)) (@pss_one _ _ _ (ps_expr (pe_fn G_check_deeds hr (by rfl) pass0 (@pa_cons _ _ _ _ _ (pe_ix (ix_tup' (K := K) rfl) (pv 3) pe_int (fun _ _ => rfl)) (@pa_cons _ _ _ _ _ (pv 1) (@pa_cons _ _ _ _ _ (pv 2) pa_nil (by rfl)) (by rfl)) (by rfl)) (by omega)))) (@pss_one _ _ _ (ps_if (pt_cmpR op_eq (pe_ix (ix_tup' (K := K) rfl) (pv 3) pe_int (fun _ _ => rfl)) pe_str (nomark _)) (@pss_one _ _ _ (ps_expr (pe_fn G_check_do hr (by rfl) pass0 (@pa_cons _ _ _ _ _ (pv 3) (@pa_cons _ _ _ _ _ (pv 1) (@pa_cons _ _ _ _ _ (pv 2) pa_nil (by rfl)) (by rfl)) (by rfl)) (by omega)))) (@pss_one _ _ _ (ps_expr (pe_fn G_check_plain hr (by rfl) pass0 (@pa_cons _ _ _ _ _ (pv 3) (@pa_cons _ _ _ _ _ (pv 1) pa_nil (by rfl)) (by rfl)) (by omega)))))))))), ?_⟩
    refine ⟨_, rfl, a, rfl, ⟨_, SqT.of ha⟩, ?_⟩
    refine for_tup (xs := us) (fun i σ H1 => ∃ v3 : Option V, σ = [some (.ref a), some (.ref kk), some (.ref ah), v3] ∧ Same H H1) ⟨none, rfl, Same.refl _⟩ ?_ ?_ ?_
    · rintro i σ H1 hi ⟨v3, rfl, s1⟩
      exact SqT.of (s1 _ _ ha)
    · rintro i x σ H1 hx ⟨v3, rfl, s1⟩
      obtain ⟨dk, hd, hv⟩ := paired_get hP hx
      have hmem := List.mem_of_getElem? hd
      have ok := okd dk hmem
      have hv := hv.ts s1.ts
      cases dk with
      | one d =>
        cases d with
        | pt =>
          obtain ⟨b, q, rfl, hb, hq⟩ := id hv
          refine ⟨_, rfl, b, _, 0, _, rfl, rfl, SqT.of hb, rfl, rfl, _, rfl, ?_⟩
          refine dec_false (by decide +kernel) ?_
          refine ⟨_, rfl, b, _, 0, _, rfl, rfl, SqT.of hb, rfl, rfl, _, rfl, ?_⟩
          refine dec_false (by decide +kernel) ?_
          exact ⟨_, rfl, _, rfl, _, kk, F, y, kv, rfl, hv, s1 _ _ hk, okp, fun H2 s2 => ⟨_, rfl, s1.trans s2⟩⟩
        | dd r =>
          obtain ⟨b, q, rfl, hb, hq⟩ := id hv
          refine ⟨_, rfl, b, _, 0, _, rfl, rfl, SqT.of hb, rfl, rfl, _, rfl, ?_⟩
          refine dec_false (by decide +kernel) ?_
          refine ⟨_, rfl, b, _, 0, _, rfl, rfl, SqT.of hb, rfl, rfl, _, rfl, ?_⟩
          refine dec_true rfl ?_
          obtain ⟨kd, v1, _⟩ := okp.2.1
          exact ⟨_, rfl, _, rfl, _, rfl, _, kk, ah, r, F, kv, av, rfl, hv, s1 _ _ hk, s1 _ _ hah, ok, ⟨kd, v1⟩, fun H2 s2 => ⟨_, rfl, s1.trans s2⟩⟩
      | tm n ds1 =>
        obtain ⟨b, t, us1, rfl, hb, ht, hP1⟩ := hv
        have e0 : e ≠ 0 := fun z => by
          obtain ⟨_, q⟩ := hone z _ hmem
          cases q
        refine ⟨_, rfl, b, _, 0, _, rfl, rfl, SqT.of hb, rfl, rfl, _, rfl, ?_⟩
        refine dec_true rfl ?_
        refine ⟨_, rfl, b, _, 2, _, rfl, rfl, SqT.of hb, rfl, _, rfl, _, rfl, t, kk, ah, us1, ds1.map K2.one, kv, av, F, y, e - 1, rfl, ht, paired_one hP1, by omega, ?_, s1 _ _ hk, s1 _ _ hah, okp, ?_, fun H2 s2 => ⟨_, rfl, s1.trans s2⟩⟩
        · intro _ x hx
          obtain ⟨k1, _, rfl⟩ := List.mem_map.mp hx
          exact ⟨k1, rfl⟩
        · intro x hx
          obtain ⟨k1, hk1, rfl⟩ := List.mem_map.mp hx
          exact ok k1 hk1
    · rintro σ H1 ⟨v3, rfl, s1⟩
      exact k H1 s1
end
end T10
namespace T10
open PySem L2 Tc
section
variable {P : Program} {w : World} {K : PySem.W.Frag} {mg : Str → Option Value} {base : Heap}
noncomputable abbrev s_look : Stmt := top 24
theorem sc_look : FnScope ["house", "script", "ahead", "rule", "kinds", "param"] ["house", "script"] (defScope s_look) := ⟨rfl, rfl, rfl, by decide +kernel, rfl, by decide +kernel, by decide +kernel⟩
theorem ok_look {ca : Ca} (D : DefAt K mg "look" s_look) (T : Txt K mg ca) (G_kinds_of : FnAt P w K mg base CX0 1 "kinds_of" ["house"] (spKinds K)) (G_check_deeds : FnAt P w K mg base CX0 5 "check_deeds" ["deeds", "kinds", "ahead"] (spChk K 2)) : FnAt P w K mg base CX0 6 "look" ["house", "script"] (spLook K) := by
  refine D.ok sc_look (fun vs H Q E h => ?_) (fun _ _ _ _ _ _ us hl => match us, hl with | [_, _], _ => rfl) (fun f cdv A outer s H vs Q E hr h => ?_)
  · obtain ⟨h, s, F, x, y, kd, rs, ds, rfl, hh, nFy, ⟨p, a, b, rv, us, rfl, hp, ha, hR, hb, hD⟩, ah, hkn, hrl, k⟩ := h; rfl
  · obtain ⟨h, s, F, x, y, kd, rs, ds, rfl, hh, nFy, ⟨p, a, b, rv, us, rfl, hp, ha, hR, hb, hD⟩, ah, hkn, hrl, k⟩ := h
    have nd := sc_look.nd
    refine ⟨_, (@pss_cons _ _ _ _ _ (@ps_set _ _ 2 _ _ _ _ nd rfl (Or.inl rfl) pe_dnewK (by rfl) (Or.inl rfl))
      (@pss_cons _ _ _ _ _ (ps_for PassesOwn.never rfl (pi_tup' (K := K) rfl (pe_ix (ix_tup' (K := K) rfl) (pv 1) pe_int (fun _ _ => rfl))) (pg_name (i := 3) nd rfl (Or.inl rfl)) (@pss_cons _ _ _ _ _ (@ps_set _ _ 4 _ _ _ _ nd rfl (Or.inl rfl) (pe_fn G_kinds_of hr (by rfl) pass0 (@pa_cons _ _ _ _ _ (pv 0) pa_nil (by rfl))) (by rfl) (Or.inl rfl))
      (@pss_cons _ _ _ _ _ (ps_for PassesOwn.never rfl (pi_tup' (K := K) rfl (pe_ix (ix_tup' (K := K) rfl) (pv 3) pe_int (fun _ _ => rfl))) (pg_name (i := 5) nd rfl (Or.inl rfl)) (@pss_one _ _ _ (ps_dput (hu_of hr) (pv 4) (pv 5) pe_str rfl)))
      (@pss_cons _ _ _ _ _ (ps_expr (pe_fn G_check_deeds hr (by rfl) pass0 (@pa_cons _ _ _ _ _ (pe_ix (ix_tup' (K := K) rfl) (pv 3) pe_int (fun _ _ => rfl)) (@pa_cons _ _ _ _ _ (pv 4) (@pa_cons _ _ _ _ _ (pv 2) pa_nil (by rfl)) (by rfl)) (by rfl))))
      (@pss_one _ _ _ (ps_dput (hu_of hr) (pv 2) (pe_ix (ix_tup' (K := K) rfl) (pv 3) pe_int (fun _ _ => rfl)) (pe_callB (call_len' (K := K) rfl) (by rfl) T.z_len PySem.boot_len (@pa_cons _ _ _ _ _ (pe_ix (ix_tup' (K := K) rfl) (pv 3) pe_int (fun _ _ => rfl)) pa_nil (by rfl))) rfl))))))
      (@pss_one _ _ _ (ps_expr (pe_fn G_check_deeds hr (by rfl) pass0 (@pa_cons _ _ _ _ _ (pe_ix (ix_tup' (K := K) rfl) (pv 1) pe_int (fun _ _ => rfl)) (@pa_cons _ _ _ _ _ (pe_fn G_kinds_of hr (by rfl) pass0 (@pa_cons _ _ _ _ _ (pv 0) pa_nil (by rfl))) (@pa_cons _ _ _ _ _ (pv 2) pa_nil (by rfl)) (by rfl)) (by rfl))))))), ?_⟩
    have nxy : x ≠ y := by obtain ⟨_, _, _, _, _, _, _, _, _, ne⟩ := hh; exact ne
    intro A hA
    have i0 := Same.upd (o := .dK []) hA
    refine ⟨_, rfl, p, _, 0, _, rfl, rfl, SqT.of (i0 _ _ hp), rfl, a, rfl, ⟨_, SqT.of (i0 _ _ ha)⟩, ?_⟩
    refine for_tup (xs := rv) (fun i σ H1 => ∃ (v3 v4 v5 : Option V) (av : List (Key × V)), σ = [some h, some (.ref p), some (.ref A), v3, v4, v5] ∧ Same H H1 ∧ H1 A = some (.dK av) ∧ av.length ≤ i ∧ ∀ r ∈ (rs.take i).map (·.1), valV av (.inr r) = some (.int 1)) ⟨none, none, none, [], rfl, i0, upd_same, Nat.le_refl _, fun _ z => nomatch z⟩ ?_ ?_ ?_
    · rintro i σ H1 hi ⟨v3, v4, v5, av, rfl, s1, _⟩
      exact SqT.of (s1 _ _ ha)
    · rintro i z σ H1 hz ⟨v3, v4, v5, av, rfl, s1, hA1, hal, hav⟩
      obtain ⟨r, hr1, hv⟩ := paired_get hR hz
      have hi : i < rs.length := (List.getElem?_eq_some_iff.mp hr1).1
      obtain ⟨ra, rb, rc, us1, rfl, hra, hrb, hrc, hP1⟩ := hv.ts s1.ts
      refine ⟨_, rfl, h, x, y, kd, rfl, hh.ts' s1, fun kk kv H2 s2 hkf hk2 hkl v1 v2 => ?_⟩
      refine ⟨_, rfl, ra, _, 1, _, rfl, rfl, SqT.of (s2 _ _ hra), rfl, rb, rfl, ⟨_, SqT.of (s2 _ _ hrb)⟩, ?_⟩
      refine for_tup (xs := [V.str F]) (fun j σ H3 => ∃ (v5 : Option V) (kv' : List (Key × V)), σ = [some h, some (.ref p), some (.ref A), some (.ref ra), some (.ref kk), v5] ∧ Same H1 H3 ∧ H3 kk = some (.dK kv') ∧ (j = 0 → kv' = kv) ∧ (1 ≤ j → valV kv' (.inr F) = some (.str (Str.ofString "param"))) ∧ valV kv' (.inr y) = some (.str kd)) ⟨_, kv, rfl, s2, hk2, fun _ => rfl, by omega, v2⟩ ?_ ?_ ?_
      · rintro j σ H3 hj ⟨v5, kv', rfl, s3, _⟩
        exact SqT.of (s3 _ _ hrb)
      · rintro j w σ H3 hw ⟨v5, kv', rfl, s3, hk3, e0, _, hy⟩
        match j, hw with
        | 0, hw =>
          obtain rfl : V.str F = w := Option.some.inj hw
          have := e0 rfl
          subst this
          refine ⟨_, rfl, _, rfl, kk, _, rfl, DPut.k (k := .inr F) hk3 (sz (by omega)), ?_⟩
          refine ⟨_, putK kv' (.inr F) (.str (Str.ofString "param")), rfl, s3.updD hkf, upd_same, by omega, fun _ => by rw [valV_put, if_pos rfl], ?_⟩
          rw [valV_put, if_neg (fun e => nFy (Sum.inr.inj e).symm)]; exact hy
        | j + 1, hw => cases hw
      · rintro σ H3 ⟨v5, kv', rfl, s3, hk3, _, hF, hy⟩
        have hF := hF (show 1 ≤ 1 by decide)
        have tS := s3.ts
        refine ⟨_, rfl, ra, _, 2, _, rfl, rfl, SqT.of (s3 _ _ hra), rfl, _, rfl, _, rfl, rc, kk, A, us1, r.2, kv', av, F, y, 1, rfl, s3 _ _ hrc, Paired.mapP hP1 (fun _ _ h => h.ts tS), rfl, (fun z => nomatch z), hk3, s3 _ _ hA1, ⟨nFy, ⟨_, hF, by decide +kernel⟩, ⟨_, hy⟩⟩, fun d hd => (ah.2 i r hr1 d hd).ok hav, fun H4 s4 => ?_⟩
        have s34 := s3.trans s4
        refine ⟨_, rfl, ra, _, 1, _, rfl, rfl, SqT.of (s34 _ _ hra), rfl, _, _, rfl, .inr ⟨_, SqT.of (s34 _ _ hrb), rfl⟩, _, rfl, _, rfl, ra, _, 0, _, rfl, rfl, SqT.of (s34 _ _ hra), rfl, A, _, rfl, DPut.k (k := .inr r.1) (s34 _ _ hA1) (sz (by omega)), ?_⟩
        refine ⟨_, _, _, putK av (.inr r.1) (.int 1), rfl, (s1.trans s34).updD hA, upd_same, Nat.le_trans (length_putK _ _ _) (by omega), fun w hw => ?_⟩
        rw [List.take_add_one, hr1, List.map_append] at hw
        rw [valV_put]
        split
        · rfl
        · rename_i hne
          rcases List.mem_append.mp hw with hw | hw
          · exact hav w hw
          · exact absurd (congrArg Sum.inr (List.mem_singleton.mp hw)) hne
    · rintro σ H1 ⟨v3, v4, v5, av, rfl, s1, hA1, hal, hav⟩
      have el : rs.take rv.length = rs := by rw [hR.length, List.take_length]
      rw [el] at hav
      refine ⟨_, rfl, p, _, 1, _, rfl, rfl, SqT.of (s1 _ _ hp), rfl, _, rfl, h, x, y, kd, rfl, hh.ts' s1, fun kk kv H2 s2 hkf hk2 hkl v1 v2 => ?_⟩
      exact ⟨_, rfl, b, kk, A, us, ds, kv, av, x, y, 1, rfl, s2 _ _ (s1 _ _ hb), Paired.mapP hD (fun _ _ h => h.ts (s1.trans s2).ts), rfl, (fun z => nomatch z), hk2, s2 _ _ hA1, ⟨nxy, ⟨_, v1, by decide +kernel⟩, ⟨_, v2⟩⟩, fun d hd => (hkn d hd).ok hav, fun H3 s3 => k H3 ((s1.trans s2).trans s3)⟩
end
end T10
namespace T10
open PySem L2 Tc
section
variable {P : Program} {w : World} {K : PySem.W.Frag} {mg : Str → Option Value} {base : Heap}
noncomputable abbrev s_many_of : Stmt := top 25
theorem sc_many_of : FnScope ["deeds", "counts", "many", "deed"] ["deeds", "counts"] (defScope s_many_of) := ⟨rfl, rfl, rfl, by decide +kernel, rfl, by decide +kernel, by decide +kernel⟩
theorem ok_many_of {ca : Ca} (D : DefAt K mg "many_of" s_many_of) (T : Txt K mg ca) : ∀ d, FnAt P w K mg base CX0 (d + 1) "many_of" ["deeds", "counts"] (spMany K d) := by
  intro d
  induction d with
  | zero =>
    refine D.ok sc_many_of (fun vs H Q E h => ?_) (fun _ _ _ _ _ _ us hl => match us, hl with | [_, _], _ => rfl) (fun f cdv A outer s H vs Q E hr h => ?_)
    · exact False.elim (by obtain ⟨_, _, _, _, _, _, _, _, _, _, _, _, e, _⟩ := h; omega)
    · exact False.elim (by obtain ⟨_, _, _, _, _, _, _, _, _, _, _, _, e, _⟩ := h; omega)
  | succ d G_many_of =>
  refine D.ok sc_many_of (fun vs H Q E h => ?_) (fun _ _ _ _ _ _ us hl => match us, hl with | [_, _], _ => rfl) (fun f cdv A outer s H vs Q E hr h => ?_)
  · obtain ⟨a, ac, us, ds, cv, cc, F, y, e, rfl, ha, hP, ed, hone, hc, hok, k⟩ := h; rfl
  · obtain ⟨a, ac, us, ds, cv, cc, F, y, e, rfl, ha, hP, ed, hone, hc, hok, k⟩ := h
    have nd := sc_many_of.nd
    refine ⟨_, (@pss_cons _ _ _ _ _ (@ps_set _ _ 2 _ _ _ _ nd rfl (Or.inl rfl) pe_int (by rfl) (Or.inl rfl))
      (@pss_cons _ _ _ _ _ (ps_for PassesOwn.never rfl (pi_tup' (K := K) rfl (pv 0)) (pg_name (i := 3) nd rfl (Or.inl rfl)) (@pss_one _ _ _ (ps_if (pt_cmpR op_eq (pe_ix (ix_tup' (K := K) rfl) (pv 3) pe_int (fun _ _ => rfl)) pe_str (nomark _)) (@pss_one _ _ _ (ps_aug (i := 2) nd rfl (Or.inl rfl) (@pe_op _ _ _ _ _ _ _ _ op_mulB (pe_ix (ix_tup' (K := K) rfl) (pv 3) pe_int (fun _ _ => rfl)) (pe_fn G_many_of hr (by rfl) pass0 (@pa_cons _ _ _ _ _ (pe_ix (ix_tup' (K := K) rfl) (pv 3) pe_int (fun _ _ => rfl)) (@pa_cons _ _ _ _ _ (pv 1) pa_nil (by rfl)) (by rfl)) (by omega))) ip_add)) (@pss_one _ _ _ (ps_if (pt_cmpR op_eq (pe_ix (ix_tup' (K := K) rfl) (pv 3) pe_int (fun _ _ => rfl)) pe_str (nomark _)) (@pss_one _ _ _ (ps_aug (i := 2) nd rfl (Or.inl rfl) (pe_dget (hu_of hr) (pv 1) (pe_ix (ix_tup' (K := K) rfl) (pv 3) pe_int (fun _ _ => rfl)) (fun _ _ => rfl)) ip_add)) (@pss_one _ _ _ (ps_aug (i := 2) nd rfl (Or.inl rfl) pe_int ip_add)))))))
      (@pss_one _ _ _ (ps_ret (pv 2))))), ?_⟩
    refine ⟨_, rfl, a, rfl, ⟨_, SqT.of ha⟩, ?_⟩
    refine for_tup (xs := us) (fun i σ H1 => ∃ v3 : Option V, σ = [some (.ref a), some (.ref ac), some (.int ((ds.map (cnt2 cc)).take i).sum), v3] ∧ H1 = H) ⟨none, rfl, rfl⟩ ?_ ?_ ?_
    · rintro i σ H1 hi ⟨v3, rfl, rfl⟩
      exact SqT.of ha
    · rintro i x σ H1 hx ⟨v3, rfl, rfl⟩
      obtain ⟨dk, hd, hv⟩ := paired_get hP hx
      have hmem := List.mem_of_getElem? hd
      have ok := hok dk hmem
      have es := sum_take (l := ds.map (cnt2 cc)) (i := i) (x := cnt2 cc dk) (by rw [List.getElem?_map, hd]; rfl)
      cases dk with
      | one d =>
        cases d with
        | pt =>
          obtain ⟨b, q, rfl, hb, hq⟩ := id hv
          refine ⟨_, rfl, b, _, 0, _, rfl, rfl, SqT.of hb, rfl, rfl, _, rfl, ?_⟩
          refine dec_false (by decide +kernel) ?_
          refine ⟨_, rfl, b, _, 0, _, rfl, rfl, SqT.of hb, rfl, rfl, _, rfl, ?_⟩
          refine dec_false (by decide +kernel) ?_
          refine ⟨_, rfl, _, _, rfl, rfl, ?_⟩
          refine ⟨some (.ref b), ?_, rfl⟩
          rw [es]; rfl
        | dd r =>
          obtain ⟨b, q, rfl, hb, hq⟩ := id hv
          have g := DGet.k (k := .inr r) hc
          rw [show valV cv (.inr r) = _ from ok] at g
          refine ⟨_, rfl, b, _, 0, _, rfl, rfl, SqT.of hb, rfl, rfl, _, rfl, ?_⟩
          refine dec_false (by decide +kernel) ?_
          refine ⟨_, rfl, b, _, 0, _, rfl, rfl, SqT.of hb, rfl, rfl, _, rfl, ?_⟩
          refine dec_true rfl ?_
          refine ⟨_, rfl, _, rfl, _, rfl, b, _, 1, _, rfl, rfl, SqT.of hb, rfl, ac, _, rfl, g, _, _, rfl, rfl, ?_⟩
          refine ⟨some (.ref b), ?_, rfl⟩
          rw [es]; rfl
      | tm n ds1 =>
        obtain ⟨b, t, us1, rfl, hb, ht, hP1⟩ := hv
        have e0 : e ≠ 0 := fun z => by
          obtain ⟨_, q⟩ := hone z _ hmem
          cases q
        refine ⟨_, rfl, b, _, 0, _, rfl, rfl, SqT.of hb, rfl, rfl, _, rfl, ?_⟩
        refine dec_true rfl ?_
        refine ⟨_, rfl, _, rfl, b, _, 1, _, rfl, rfl, SqT.of hb, rfl, _, rfl, b, _, 2, _, rfl, rfl, SqT.of hb, rfl, _, rfl, t, ac, us1, ds1.map K2.one, cv, cc, F, y, e - 1, rfl, ht, paired_one hP1, by omega, ?_, hc, ?_, ?_⟩
        · intro _ x hx
          obtain ⟨k1, _, rfl⟩ := List.mem_map.mp hx
          exact ⟨k1, rfl⟩
        · intro x hx
          obtain ⟨k1, hk1, rfl⟩ := List.mem_map.mp hx
          exact ok.1 k1 hk1
        rw [cnt_one]
        refine ⟨_, _, rfl, rfl, ok.2, _, _, rfl, rfl, ?_⟩
        refine ⟨some (.ref b), ?_, rfl⟩
        rw [es]; rfl
    · rintro σ H1 ⟨v3, rfl, rfl⟩
      have e1 : (ds.map (cnt2 cc)).take us.length = ds.map (cnt2 cc) := by rw [hP.length, ← List.length_map (f := cnt2 cc), List.take_length]
      rw [e1]
      exact ⟨_, rfl, k⟩
end
end T10
namespace T10
open PySem L2 Tc
section
variable {P : Program} {w : World} {K : PySem.W.Frag} {mg : Str → Option Value} {base : Heap}
noncomputable abbrev s_with_places : Stmt := top 26
theorem sc_with_places : FnScope ["deed", "stead"] ["deed", "stead"] (defScope s_with_places) := ⟨rfl, rfl, rfl, by decide +kernel, rfl, by decide +kernel, by decide +kernel⟩
theorem ok_with_places {ca : Ca} (D : DefAt K mg "with_places" s_with_places) (T : Txt K mg ca) : FnAt P w K mg base CX0 1 "with_places" ["deed", "stead"] (spWith K) := by
  refine D.ok sc_with_places (fun vs H Q E h => ?_) (fun _ _ _ _ _ _ us hl => match us, hl with | [_, _], _ => rfl) (fun f cdv A outer s H vs Q E hr h => ?_)
  · obtain ⟨v, st, F, y, P, sv, rfl, ⟨a, q, rfl, ha, hq⟩, hst, ⟨e1, e2⟩, k⟩ := h; rfl
  · obtain ⟨v, st, F, y, P, sv, rfl, ⟨a, q, rfl, ha, hq⟩, hst, ⟨e1, e2⟩, k⟩ := h
    have nd := sc_with_places.nd
    refine ⟨_, (@pss_cons _ _ _ _ _ (ps_if (pt_cmpR op_eq (pe_ix (ix_tup' (K := K) rfl) (pv 0) pe_int (fun _ _ => rfl)) pe_str (nomark _)) (@pss_one _ _ _ (ps_ret (pv 0))) pss_nil)
      (@pss_cons _ _ _ _ _ (ps_if (pt_cmpR op_eq (pe_ix (ix_tup' (K := K) rfl) (pv 0) pe_int (fun _ _ => rfl)) pe_str (nomark _)) (@pss_one _ _ _ (ps_ret (@pe_tup _ _ _ _ _ (@pa_cons _ _ _ _ _ (pe_ix (ix_tup' (K := K) rfl) (pv 0) pe_int (fun _ _ => rfl)) (@pa_cons _ _ _ _ _ (pe_ix (ix_tup' (K := K) rfl) (pv 0) pe_int (fun _ _ => rfl)) (@pa_cons _ _ _ _ _ (pe_dget2 (hu_of hr) (pv 1) (pe_ix (ix_tup' (K := K) rfl) (pv 0) pe_int (fun _ _ => rfl)) (pe_ix (ix_tup' (K := K) rfl) (pv 0) pe_int (fun _ _ => rfl)) ⟨by rfl, by rfl, by rfl, by rfl⟩) (@pa_cons _ _ _ _ _ (pe_ix (ix_tup' (K := K) rfl) (pv 0) pe_int (fun _ _ => rfl)) pa_nil (by rfl)) (by rfl)) (by rfl)) (by rfl))))) pss_nil)
      (@pss_one _ _ _ (ps_ret (@pe_op _ _ _ _ _ _ _ _ (op_catT' (K := K) rfl) (@pe_tup _ _ _ _ _ (@pa_cons _ _ _ _ _ (pe_ix (ix_tup' (K := K) rfl) (pv 0) pe_int (fun _ _ => rfl)) (@pa_cons _ _ _ _ _ (pe_dget2 (hu_of hr) (pv 1) (pe_ix (ix_tup' (K := K) rfl) (pv 0) pe_int (fun _ _ => rfl)) (pe_ix (ix_tup' (K := K) rfl) (pv 0) pe_int (fun _ _ => rfl)) ⟨by rfl, by rfl, by rfl, by rfl⟩) (@pa_cons _ _ _ _ _ (pe_dget2 (hu_of hr) (pv 1) (pe_ix (ix_tup' (K := K) rfl) (pv 0) pe_int (fun _ _ => rfl)) (pe_ix (ix_tup' (K := K) rfl) (pv 0) pe_int (fun _ _ => rfl)) ⟨by rfl, by rfl, by rfl, by rfl⟩) pa_nil (by rfl)) (by rfl)) (by rfl))) (pe_slice (sl_tup' (K := K) rfl) (pv 0) (po_some pe_int) po_none)))))), ?_⟩
    have g1 := DGet.k (k := F) hst
    have g2 := DGet.k (k := y) hst
    refine ⟨_, rfl, a, _, 0, _, rfl, rfl, SqT.of ha, rfl, rfl, _, rfl, ?_⟩
    refine dec_false (by decide +kernel) ?_
    refine ⟨_, rfl, a, _, 0, _, rfl, rfl, SqT.of ha, rfl, rfl, _, rfl, ?_⟩
    refine dec_false (by decide +kernel) ?_
    refine ⟨_, rfl, a, _, 0, _, rfl, rfl, SqT.of ha, rfl, _, rfl, st, rfl, .inl ⟨sv, .inl hst⟩, _, rfl, a, _, 1, _, rfl, rfl, SqT.of ha, rfl, _, rfl, a, _, 1, _, rfl, rfl, SqT.of ha, rfl, _, g1, _, rfl, st, rfl, .inl ⟨sv, .inl hst⟩, _, rfl, a, _, 2, _, rfl, rfl, SqT.of ha, rfl, _, rfl, a, _, 2, _, rfl, rfl, SqT.of ha, rfl, _, g2, sz (show 3 ≤ 1000 by decide), fun p hp => ?_⟩
    rw [e1, e2]
    have t1 := Same.upd (o := .tup [.str (Str.ofString "part"), kV P, kV y]) hp
    refine ⟨_, rfl, 3, rfl, a, _, rfl, SqT.of (t1 _ _ ha), (show ¬ (HT.sIx 4 0 (some 3) = 0 ∧ HT.sIx 4 4 none = 4) by decide), fun p2 hp2 => ?_⟩
    have t2 := Same.upd (o := .tup [.ref q]) hp2
    refine ⟨p, p2, _, _, rfl, rfl, SqT.of (t2 _ _ upd_same), SqT.of upd_same, List.cons_ne_nil _ _, sz (show 4 ≤ 1000 by decide), fun e => absurd e (List.cons_ne_nil _ _), fun _ r hr2 => ?_⟩
    have t3 := Same.upd (o := .tup [.str (Str.ofString "part"), kV P, kV y, .ref q]) hr2
    exact k _ _ (t1.trans (t2.trans t3)) ⟨r, q, rfl, upd_same, (t1.trans (t2.trans t3)) _ _ hq⟩
end
end T10
namespace T10
open PySem L2 Tc
section
variable {P : Program} {w : World} {K : PySem.W.Frag} {mg : Str → Option Value} {base : Heap}
noncomputable abbrev s_unrolled : Stmt := top 27
theorem sc_unrolled : FnScope ["deeds", "stead", "bodies", "plain", "deed", "places"] ["deeds", "stead", "bodies"] (defScope s_unrolled) := ⟨rfl, rfl, rfl, by decide +kernel, rfl, by decide +kernel, by decide +kernel⟩
theorem ok_unrolled {ca : Ca} (D : DefAt K mg "unrolled" s_unrolled) (T : Txt K mg ca) (G_with_places : FnAt P w K mg base CX0 1 "with_places" ["deed", "stead"] (spWith K)) : ∀ d, FnAt P w K mg base CX0 (d + 2) "unrolled" ["deeds", "stead", "bodies"] (spUnr K d) := by
  intro d
  induction d with
  | zero =>
    refine D.ok sc_unrolled (fun vs H Q E h => ?_) (fun _ _ _ _ _ _ us hl => match us, hl with | [_, _, _], _ => rfl) (fun f cdv A outer s H vs Q E hr h => ?_)
    · exact False.elim (by obtain ⟨_, _, _, _, _, _, _, _, _, _, _, _, _, _, _, e, _⟩ := h; omega)
    · exact False.elim (by obtain ⟨_, _, _, _, _, _, _, _, _, _, _, _, _, _, _, e, _⟩ := h; omega)
  | succ d G_unrolled =>
  refine D.ok sc_unrolled (fun vs H Q E h => ?_) (fun _ _ _ _ _ _ us hl => match us, hl with | [_, _, _], _ => rfl) (fun f cdv A outer s H vs Q E hr h => ?_)
  · obtain ⟨a, st, bd, us, ds, sv, bv, cc, F, y, P, e, rfl, ha, hP, ed, hone, hst, hSt, hbd, hbo, h200, k⟩ := h; rfl
  · obtain ⟨a, st, bd, us, ds, sv, bv, cc, F, y, P, e, rfl, ha, hP, ed, hone, hst, hSt, hbd, hbo, h200, k⟩ := h
    have nd := sc_unrolled.nd
    refine ⟨_, (@pss_cons _ _ _ _ _ (@ps_set _ _ 3 _ _ _ _ nd rfl (Or.inl rfl) (@pe_lst _ _ _ _ pa_nil) (by rfl) (Or.inl rfl))
      (@pss_cons _ _ _ _ _ (ps_for PassesOwn.never rfl (pi_tup' (K := K) rfl (pv 0)) (pg_name (i := 4) nd rfl (Or.inl rfl)) (@pss_one _ _ _ (ps_if (pt_cmpR op_eq (pe_ix (ix_tup' (K := K) rfl) (pv 4) pe_int (fun _ _ => rfl)) pe_str (nomark _)) (@pss_one _ _ _ (ps_if (pt_cmpR op_gt (pe_ix (ix_tup' (K := K) rfl) (pv 4) pe_int (fun _ _ => rfl)) pe_int (nomark _)) (@pss_one _ _ _ (ps_expr (pe_bm PySem.F.plainAttrs_list PySem.F.slot_list_extend PySem.F.type_list_extend mt_extend (pv 3) (@pa_cons _ _ _ _ _ (@pe_op _ _ _ _ _ _ _ _ op_rep (pe_fn G_unrolled hr (by rfl) pass0 (@pa_cons _ _ _ _ _ (pe_ix (ix_tup' (K := K) rfl) (pv 4) pe_int (fun _ _ => rfl)) (@pa_cons _ _ _ _ _ (pv 1) (@pa_cons _ _ _ _ _ (pv 2) pa_nil (by rfl)) (by rfl)) (by rfl)) (by omega)) (pe_ix (ix_tup' (K := K) rfl) (pv 4) pe_int (fun _ _ => rfl))) pa_nil (by rfl))))) pss_nil)) (@pss_one _ _ _ (ps_if (pt_cmpR op_eq (pe_ix (ix_tup' (K := K) rfl) (pv 4) pe_int (fun _ _ => rfl)) pe_str (nomark _)) (@pss_cons _ _ _ _ _ (@ps_set _ _ 5 _ _ _ _ nd rfl (Or.inr rfl) (pe_dictEnum (K := K) rfl rfl (by rfl) T.z_dict (by rfl) T.z_enumerate (@pa_cons _ _ _ _ _ (pe_comp ["name"] ["stead"] [1] rfl (by rfl) (pi_tup' (K := K) rfl (pe_ix (ix_tup' (K := K) rfl) (pv 4) pe_int (fun _ _ => rfl))) (fun _ _ _ _ => (pg_name (i := 0) (show List.Nodup (["name", "stead"] : List Str) from by decide) rfl (Or.inl rfl))) (fun _ _ _ _ => pif_none) (fun _ _ _ _ => (pe_dget2 (hu_of hr) (pv 1) (pv 0) (pv 0) ⟨by rfl, by rfl, by rfl, by rfl⟩))) pa_nil (by rfl))) (by rfl) (Or.inl rfl))
      (@pss_one _ _ _ (ps_expr (pe_bm PySem.F.plainAttrs_list PySem.F.slot_list_extend PySem.F.type_list_extend mt_extend (pv 3) (@pa_cons _ _ _ _ _ (pe_comp ["one"] ["places"] [5] rfl (by rfl) (pi_list' (K := K) rfl (pe_dget (hu_of hr) (pv 2) (pe_ix (ix_tup' (K := K) rfl) (pv 4) pe_int (fun _ _ => rfl)) (fun _ _ => rfl))) (fun _ _ _ _ => (pg_name (i := 0) (show List.Nodup (["one", "places"] : List Str) from by decide) rfl (Or.inl rfl))) (fun _ _ _ _ => pif_none) (fun _ _ _ _ => (pe_fn G_with_places hr (by rfl) pass0 (@pa_cons _ _ _ _ _ (pv 0) (@pa_cons _ _ _ _ _ (pv 1) pa_nil (by rfl)) (by rfl)) (by omega)))) pa_nil (by rfl)))))) (@pss_one _ _ _ (ps_expr (pe_bm PySem.F.plainAttrs_list PySem.F.slot_list_append PySem.F.type_list_append mt_append (pv 3) (@pa_cons _ _ _ _ _ (pe_fn G_with_places hr (by rfl) pass0 (@pa_cons _ _ _ _ _ (pv 4) (@pa_cons _ _ _ _ _ (pv 1) pa_nil (by rfl)) (by rfl)) (by omega)) pa_nil (by rfl))))))))))
      (@pss_one _ _ _ (ps_ret (pv 3))))), ?_⟩
    have nn : ∀ x ∈ ds.map (cnt2 cc), 0 ≤ x := fun x hx => by obtain ⟨d, hd, rfl⟩ := List.mem_map.mp hx; exact (hbo d hd).nn
    refine ⟨sz (by simp), fun l hl => ?_⟩
    have i0 := Same.upd (o := .lst []) hl
    refine ⟨_, rfl, a, rfl, ⟨_, SqT.of (i0 _ _ ha)⟩, ?_⟩
    refine for_tup (xs := us) (fun i σ H1 => ∃ (v4 v5 : Option V) (rs : List V), σ = [some (.ref a), some (.ref st), some (.ref bd), some (.ref l), v4, v5] ∧ Same H H1 ∧ H1 l = some (.lst rs) ∧ ((rs.length : Nat) : Int) = ((ds.map (cnt2 cc)).take i).sum ∧ ∀ u ∈ rs, PtV H1 u P (.inr y)) ⟨none, none, [], rfl, i0, upd_same, rfl, fun _ z => nomatch z⟩ ?_ ?_ ?_
    · rintro i σ H1 hi ⟨v4, v5, rs, rfl, s1, _⟩
      exact SqT.of (s1 _ _ ha)
    · rintro i x σ H1 hx ⟨v4, v5, rs, rfl, s1, h1, hlen, hall⟩
      obtain ⟨dk, hd, hv⟩ := paired_get hP hx
      have hmem := List.mem_of_getElem? hd
      have bo := hbo dk hmem
      have hc0 := bo.nn
      have hv := hv.ts s1.ts
      have es := sum_take (l := ds.map (cnt2 cc)) (i := i) (x := cnt2 cc dk) (by rw [List.getElem?_map, hd]; rfl)
      have hle := sum_part nn (i + 1)
      have hst1 := s1 _ _ hst
      cases dk with
      | one d =>
        cases d with
        | pt =>
          obtain ⟨b, q, rfl, hb, hq⟩ := id hv
          refine ⟨_, rfl, b, _, 0, _, rfl, rfl, SqT.of hb, rfl, rfl, _, rfl, ?_⟩
          refine dec_false (by decide +kernel) ?_
          refine ⟨_, rfl, b, _, 0, _, rfl, rfl, SqT.of hb, rfl, rfl, _, rfl, ?_⟩
          refine dec_false (by decide +kernel) ?_
          refine ⟨_, rfl, .inl ⟨rfl, _, SqL.of h1⟩, _, rfl, _, rfl, _, st, .inr F, .inr y, P, sv, rfl, hv, hst1, hSt, fun v' H2 s2 hv' => ⟨l, _, _, rfl, rfl, s2 _ _ h1, sz (by omega), ?_⟩⟩
          have tL := TSame.updL (o := .lst (rs ++ [v'])) (s2 _ _ h1)
          refine ⟨_, _, rs ++ [v'], rfl, (s1.trans s2).updD hl, upd_same, ?_, fun u hu => ?_⟩
          · rw [es, List.length_append, List.length_singleton]
            show _ = _ + (1 : Int)
            omega
          · rcases List.mem_append.mp hu with hu | hu
            · exact ((hall u hu).ts s2.ts).ts tL
            · rw [List.mem_singleton.mp hu]; exact hv'.ts tL
        | dd r =>
          obtain ⟨b, q, rfl, hb, hq⟩ := id hv
          obtain ⟨lr, bs, vb, hlr, hbl, hbs⟩ := bo.1
          have g := DGet.k (k := .inr r) hbd
          rw [vb] at g
          refine ⟨_, rfl, b, _, 0, _, rfl, rfl, SqT.of hb, rfl, rfl, _, rfl, ?_⟩
          refine dec_false (by decide +kernel) ?_
          refine ⟨_, rfl, b, _, 0, _, rfl, rfl, SqT.of hb, rfl, rfl, _, rfl, ?_⟩
          refine dec_true rfl ?_
          refine ⟨_, rfl, b, _, 2, _, rfl, rfl, SqT.of hb, rfl, q, rfl, ⟨_, SqT.of hq⟩, fun D hD => ?_⟩
          have gF := hSt.1
          refine block_tup (xs := [V.str F]) (fun j σ' H' => ∃ v : Option V, σ' = [v, some (.ref st)] ∧ Same H1 H' ∧ H' D = some (.lst (List.replicate j (kV P)))) ⟨none, rfl, Same.upd hD, upd_same⟩ ?_ ?_ ?_
          · rintro j σ' H' hj ⟨v, rfl, s2, hd2⟩
            exact SqT.of (s2 _ _ hq)
          · rintro j z σ' H' hz ⟨v, rfl, s2, hd2⟩
            match j, hz with
            | 0, hz =>
              obtain rfl : V.str F = z := Option.some.inj hz
              have hs2 := s2 _ _ hst1
              refine ⟨_, rfl, st, rfl, .inl ⟨sv, .inl hs2⟩, _, rfl, _, rfl, _, DGet.k (k := .inr F) hs2, _, hd2, sz (by simp), _, rfl, s2.updD hD, ?_⟩
              rw [upd_same]
              have gF : (valV sv (.inr F)).getD (V.str F) = kV P := gF
              rw [gF]; rfl
            | j + 1, hz => cases hz
          rintro σ' H3 ⟨v, rfl, s2, hd2⟩
          refine ⟨D, [kV P], rfl, SqL.of hd2, (show 1 < 4000 by decide), fun pp hpp => ?_⟩
          have t1 := Same.upd (o := .dK (numV [kV P])) hpp
          have s3 := s2.trans t1
          have hlr3 : upd H3 pp (.dK (numV [kV P])) lr = some (.lst bs) := s3 _ _ (s1 _ _ hlr)
          have hb3 := s3 _ _ hb
          have hbd3 := s3 _ _ (s1 _ _ hbd)
          have g3 := DGet.k (k := .inr r) hbd3
          rw [vb] at g3
          have hPt3 : ∀ u ∈ bs, PtV (upd H3 pp (.dK (numV [kV P]))) u (.inl 0) (.inr y) := fun u hu => ((hbs u hu).ts s1.ts).ts s3.ts
          refine ⟨_, rfl, .inl ⟨rfl, _, SqL.of (s3 _ _ h1)⟩, _, rfl, _, rfl, b, _, 1, _, rfl, rfl, SqT.of hb3, rfl, bd, _, rfl, g3, lr, rfl, ⟨_, SqL.of hlr3⟩, fun D2 hD2 => ?_⟩
          have hbn : bs.length ≤ 200 := by
            have hp0 := sum_nn (l := (ds.map (cnt2 cc)).take i) fun x hx => nn x (List.mem_of_mem_take hx)
            have ec : cnt2 cc (.one (.dd r)) = cc r := rfl
            omega
          refine block_list (xs := bs) (fun j σ' H' => ∃ (v : Option V) (ws : List V), σ' = [v, some (.ref pp)] ∧ Same (upd H3 pp (.dK (numV [kV P]))) H' ∧ H' D2 = some (.lst ws) ∧ ws.length = j ∧ ∀ u ∈ ws, PtV H' u P (.inr y)) ⟨none, [], rfl, Same.upd hD2, upd_same, rfl, fun _ z => nomatch z⟩ ?_ ?_ ?_
          · rintro j σ' H' hj ⟨v, ws, rfl, s4, _⟩
            exact SqL.of (s4 _ _ hlr3)
          · rintro j z σ' H' hz ⟨v, ws, rfl, s4, hd4, hw, hwa⟩
            have hj : j < bs.length := (List.getElem?_eq_some_iff.mp hz).1
            have hzu := (hPt3 z (List.mem_of_getElem? hz)).ts s4.ts
            refine ⟨_, rfl, _, rfl, z, pp, .inl 0, .inr y, P, numV [kV P], rfl, hzu, s4 _ _ upd_same, ⟨rfl, rfl⟩, fun v' H5 s5 hv' => ?_⟩
            have tL := TSame.updL (o := .lst (ws ++ [v'])) (s5 _ _ hd4)
            refine ⟨_, s5 _ _ hd4, sz (by omega), _, ws ++ [v'], rfl, (s4.trans s5).updD hD2, upd_same, by rw [List.length_append, hw]; rfl, fun u hu => ?_⟩
            rcases List.mem_append.mp hu with hu | hu
            · exact ((hwa u hu).ts s5.ts).ts tL
            · rw [List.mem_singleton.mp hu]; exact hv'.ts tL
          rintro σ' H6 ⟨v, ws, rfl, s4, hd4, hw, hwa⟩
          have s6 := s3.trans s4
          have h16 := s6 _ _ h1
          have tL := TSame.updL (o := .lst (rs ++ ws)) h16
          refine ⟨l, D2, _, _, rfl, rfl, h16, hd4, sz (by omega), ?_⟩
          refine ⟨_, _, rs ++ ws, rfl, (s1.trans s6).updD hl, upd_same, ?_, fun u hu => ?_⟩
          · rw [es, List.length_append, hw]
            show _ = _ + cc r
            omega
          · rcases List.mem_append.mp hu with hu | hu
            · exact ((hall u hu).ts s6.ts).ts tL
            · exact (hwa u hu).ts tL
      | tm n ds1 =>
        obtain ⟨b, t, us1, rfl, hb, ht, hP1⟩ := hv
        have e0 : e ≠ 0 := fun z => by
          obtain ⟨_, q⟩ := hone z _ hmem
          cases q
        refine ⟨_, rfl, b, _, 0, _, rfl, rfl, SqT.of hb, rfl, rfl, _, rfl, ?_⟩
        refine dec_true rfl ?_
        refine ⟨_, rfl, b, _, 1, _, rfl, rfl, SqT.of hb, rfl, _, _, rfl, rfl, _, rfl, ?_⟩
        have hsn : 0 ≤ (ds1.map (cnt1 cc)).sum := sum_nn fun x hx => by obtain ⟨d, hd, rfl⟩ := List.mem_map.mp hx; exact bo.2.2 d hd
        have ec : cnt2 cc (.tm n ds1) = n * (ds1.map (cnt1 cc)).sum := rfl
        refine ite2 (fun h => ?_) (fun h => ?_)
        · have h : 0 < n := of_decide_eq_true h
          have hs1 : (ds1.map (cnt1 cc)).sum ≤ n * (ds1.map (cnt1 cc)).sum := by
            have : 1 * (ds1.map (cnt1 cc)).sum ≤ n * (ds1.map (cnt1 cc)).sum := Int.mul_le_mul_of_nonneg_right (by omega) hsn
            omega
          have hpre := sum_nn fun x (hx : x ∈ (ds.map (cnt2 cc)).take i) => nn x (List.mem_of_mem_take hx)
          have hin : n * (ds1.map (cnt1 cc)).sum ≤ 200 := by omega
          refine ⟨_, rfl, .inl ⟨rfl, _, SqL.of h1⟩, _, rfl, b, _, 2, _, rfl, rfl, SqT.of hb, rfl, _, rfl, _, rfl, t, st, bd, us1, ds1.map K2.one, sv, bv, cc, F, y, P, e - 1, rfl, ht, paired_one hP1, by omega, ?_, hst1, hSt, s1 _ _ hbd, ?_, by rw [cnt_one]; omega, fun l2 rs2 H2 s2 h2 hl2 ha2 => ?_⟩
          · intro _ x hx
            obtain ⟨k1, _, rfl⟩ := List.mem_map.mp hx
            exact ⟨k1, rfl⟩
          · intro x hx
            obtain ⟨k1, hk1, rfl⟩ := List.mem_map.mp hx
            exact ⟨(bo.2.1 h k1 hk1).same s1, bo.2.2 k1 hk1⟩
          rw [cnt_one] at hl2
          have hr200 : rs2.length ≤ 200 := by omega
          have hn60 := bo.1
          have hrep : ((n.toNat * rs2.length : Nat) : Int) = n * (ds1.map (cnt1 cc)).sum := by
            rw [Int.natCast_mul, hl2]
            have : ((n.toNat : Nat) : Int) = n := Int.toNat_of_nonneg (by omega)
            rw [this]
          refine ⟨_, rfl, b, _, 1, _, rfl, rfl, SqT.of (s2 _ _ hb), rfl, l2, n, rs2, rfl, rfl, h2, by omega, by omega, ?_, fun pp hpp => ?_⟩
          · rw [Nat.mul_comm]; exact sz (by omega)
          have t2 := Same.upd (o := .lst (List.replicate n.toNat rs2).flatten) hpp
          have s3 := s2.trans t2
          have h13 := s3 _ _ h1
          have lenf : (List.replicate n.toNat rs2).flatten.length = n.toNat * rs2.length := len_rep _ _
          have tL := TSame.updL (o := .lst (rs ++ (List.replicate n.toNat rs2).flatten)) h13
          refine ⟨l, pp, _, _, rfl, rfl, h13, upd_same, by rw [lenf]; exact sz (by omega), ?_⟩
          refine ⟨_, _, rs ++ (List.replicate n.toNat rs2).flatten, rfl, (s1.trans s3).updD hl, upd_same, ?_, fun u hu => ?_⟩
          · rw [es, List.length_append, lenf, ec]; omega
          · rcases List.mem_append.mp hu with hu | hu
            · exact ((hall u hu).ts s3.ts).ts tL
            · obtain ⟨zs, hz1, hz2⟩ := List.mem_flatten.mp hu
              rw [(List.mem_replicate.mp hz1).2] at hz2
              exact ((ha2 u hz2).ts t2.ts).ts tL
        · have h : ¬ 0 < n := fun z => h (decide_eq_true z)
          have n0 : n = 0 := by have := bo.1.1; omega
          refine ⟨_, _, rs, rfl, s1, h1, ?_, hall⟩
          rw [es, ec, n0, Int.zero_mul, Int.add_zero]; exact hlen
    · rintro σ H1 ⟨v4, v5, rs, rfl, s1, h1, hlen, hall⟩
      have e1 : (ds.map (cnt2 cc)).take us.length = ds.map (cnt2 cc) := by rw [hP.length, ← List.length_map (f := cnt2 cc), List.take_length]
      rw [e1] at hlen
      exact ⟨_, rfl, k l rs H1 s1 h1 hlen hall⟩
end
end T10
namespace T10
open PySem L2 Tc
section
variable {P : Program} {w : World} {K : PySem.W.Frag} {mg : Str → Option Value} {base : Heap}
noncomputable abbrev s_bodies_of : Stmt := top 28
theorem sc_bodies_of : FnScope ["rules", "counts", "bodies", "rule", "stead", "number", "param"] ["rules", "counts"] (defScope s_bodies_of) := ⟨rfl, rfl, rfl, by decide +kernel, rfl, by decide +kernel, by decide +kernel⟩
theorem ok_bodies_of {ca : Ca} (D : DefAt K mg "bodies_of" s_bodies_of) (T : Txt K mg ca) (G_unrolled : FnAt P w K mg base CX0 4 "unrolled" ["deeds", "stead", "bodies"] (spUnr K 2)) : FnAt P w K mg base CX0 5 "bodies_of" ["rules", "counts"] (spBodies K) := by
  refine D.ok sc_bodies_of (fun vs H Q E h => ?_) (fun _ _ _ _ _ _ us hl => match us, hl with | [_, _], _ => rfl) (fun f cdv A outer s H vs Q E hr h => ?_)
  · obtain ⟨a, ac, F, y, rv, rs, cv, cc, rfl, ha, hR, nFy, hrl, ah, hc, hcc, k⟩ := h; rfl
  · obtain ⟨a, ac, F, y, rv, rs, cv, cc, rfl, ha, hR, nFy, hrl, ah, hc, hcc, k⟩ := h
    have nd := sc_bodies_of.nd
    refine ⟨_, (@pss_cons _ _ _ _ _ (@ps_set _ _ 2 _ _ _ _ nd rfl (Or.inl rfl) pe_dnewK (by rfl) (Or.inl rfl))
      (@pss_cons _ _ _ _ _ (ps_for PassesOwn.never rfl (pi_tup' (K := K) rfl (pv 0)) (pg_name (i := 3) nd rfl (Or.inl rfl)) (@pss_one _ _ _ (ps_if (pt_cmpR op_le (pe_dget (hu_of hr) (pv 1) (pe_ix (ix_tup' (K := K) rfl) (pv 3) pe_int (fun _ _ => rfl)) (fun _ _ => rfl)) (pe_gint (by rfl) T.g_MOST_DEEDS) (nomark _)) (@pss_cons _ _ _ _ _ (@ps_set _ _ 4 _ _ _ _ nd rfl (Or.inl rfl) pe_dnewK (by rfl) (Or.inl rfl))
      (@pss_cons _ _ _ _ _ (ps_for PassesOwn.never rfl (pi_enumT (K := K) rfl (by rfl) T.z_enumerate (@pa_cons _ _ _ _ _ (pe_ix (ix_tup' (K := K) rfl) (pv 3) pe_int (fun _ _ => rfl)) pa_nil (by rfl))) (pg_tup rfl (pgs_cons (pg_name (i := 5) nd rfl (Or.inl rfl)) (pgs_cons (pg_name (i := 6) nd rfl (Or.inl rfl)) pgs_nil))) (@pss_one _ _ _ (ps_dput (hu_of hr) (pv 4) (pv 6) (pv 5) rfl)))
      (@pss_one _ _ _ (ps_dput (hu_of hr) (pv 2) (pe_ix (ix_tup' (K := K) rfl) (pv 3) pe_int (fun _ _ => rfl)) (pe_fn G_unrolled hr (by rfl) pass0 (@pa_cons _ _ _ _ _ (pe_ix (ix_tup' (K := K) rfl) (pv 3) pe_int (fun _ _ => rfl)) (@pa_cons _ _ _ _ _ (pv 4) (@pa_cons _ _ _ _ _ (pv 2) pa_nil (by rfl)) (by rfl)) (by rfl))) rfl)))) pss_nil)))
      (@pss_one _ _ _ (ps_ret (pv 2))))), ?_⟩
    intro B hB
    have i0 := Same.upd (o := .dK []) hB
    refine ⟨_, rfl, a, rfl, ⟨_, SqT.of (i0 _ _ ha)⟩, ?_⟩
    refine for_tup (xs := rv) (fun i σ H1 => ∃ (v3 v4 v5 v6 : Option V) (bv : List (Key × V)), σ = [some (.ref a), some (.ref ac), some (.ref B), v3, v4, v5, v6] ∧ Same H H1 ∧ H1 B = some (.dK bv) ∧ bv.length ≤ i ∧ ∀ r ∈ (rs.take i).map (·.1), cc r ≤ 200 → bod1 H1 bv cc y (.dd r)) ⟨none, none, none, none, [], rfl, i0, upd_same, Nat.le_refl _, fun _ z => nomatch z⟩ ?_ ?_ ?_
    · rintro i σ H1 hi ⟨v3, v4, v5, v6, bv, rfl, s1, _⟩
      exact SqT.of (s1 _ _ ha)
    · rintro i z σ H1 hz ⟨v3, v4, v5, v6, bv, rfl, s1, hB1, hbl, hbo⟩
      obtain ⟨r, hr1, hv⟩ := paired_get hR hz
      have hrm := List.mem_of_getElem? hr1
      have hi : i < rs.length := (List.getElem?_eq_some_iff.mp hr1).1
      obtain ⟨hcv, hcs, hc0⟩ := hcc r hrm
      obtain ⟨ra, rb, rc, us1, rfl, hra, hrb, hrc, hP1⟩ := hv.ts s1.ts
      have g := DGet.k (k := .inr r.1) (s1 _ _ hc)
      rw [hcv] at g
      have etake : (rs.take (i + 1)).map (·.1) = (rs.take i).map (·.1) ++ [r.1] := by rw [List.take_add_one, hr1, List.map_append]; rfl
      refine ⟨_, rfl, _, rfl, ra, _, 0, _, rfl, rfl, SqT.of hra, rfl, ac, _, rfl, g, _, _, rfl, rfl, _, rfl, ?_⟩
      refine ite2 (fun hle => ?_) (fun hgt => ?_)
      · have hle : cc r.1 ≤ 200 := of_decide_eq_true hle
        intro S hS
        have t1 := Same.upd (o := .dK []) hS
        refine ⟨_, rfl, ra, _, 1, _, rfl, rfl, SqT.of (t1 _ _ hra), rfl, rb, _, rfl, SqT.of (t1 _ _ hrb), ?_⟩
        refine for_enumT (xs := [V.str F]) (fun j σ H3 => ∃ (v5 v6 : Option V) (sv : List (Key × V)), σ = [some (.ref a), some (.ref ac), some (.ref B), some (.ref ra), some (.ref S), v5, v6] ∧ Same H1 H3 ∧ H3 S = some (.dK sv) ∧ (j = 0 → sv = []) ∧ (1 ≤ j → sv = [(.inr F, .int 0)])) ⟨_, _, [], rfl, t1, upd_same, fun _ => rfl, by omega⟩ ?_ ?_ ?_
        · rintro j σ H3 hj ⟨v5, v6, sv, rfl, s3, _⟩
          exact SqT.of (s3 _ _ hrb)
        · rintro j w T σ H3 hw ⟨v5, v6, sv, rfl, s3, hS3, e0, _⟩ hT
          match j, hw with
          | 0, hw =>
            obtain rfl : V.str F = w := Option.some.inj hw
            have := e0 rfl
            subst this
            have tT := Same.upd (o := .tup [.int ((0 : Nat) : Int), .str F]) hT
            refine ⟨T, _, rfl, SqT.of upd_same, rfl, _, _, rfl, _, _, rfl, rfl, ?_⟩
            refine ⟨_, rfl, _, rfl, _, rfl, S, _, rfl, DPut.k (k := .inr F) (tT _ _ hS3) (sz (by simp)), ?_⟩
            exact ⟨_, _, _, rfl, (s3.trans tT).updD hS, upd_same, by omega, fun _ => rfl⟩
          | j + 1, hw => cases hw
        · rintro σ H3 ⟨v5, v6, sv, rfl, s3, hS3, _, hsv⟩
          have hsv : sv = [(.inr F, .int 0)] := hsv (show 1 ≤ 1 by decide)
          subst hsv
          have hB3 := s3 _ _ hB1
          have L0 : ∀ w ∈ (rs.take i).map (·.1), 0 ≤ cc w := fun w hw => by
            obtain ⟨q, hq, rfl⟩ := List.mem_map.mp hw
            exact (hcc q (List.mem_of_mem_take hq)).2.2
          have hbo3 := bod_of L0 (fun w hw hle => (hbo w hw hle).same s3) (ah.2 i r hr1) (by rw [← hcs]; exact hle)
          have st1 : StV [(.inr F, .int 0)] (.inr F) (.inr y) (.inl 0) := by
            constructor
            · rw [valV_pos rfl]; rfl
            · rw [valV_neg (fun e => nFy (Sum.inr.inj e)), valV_nil]; rfl
          refine ⟨_, rfl, ra, _, 2, _, rfl, rfl, SqT.of (s3 _ _ hra), rfl, _, rfl, _, rfl, rc, S, B, us1, r.2, _, bv, cc, F, y, .inl 0, 1, rfl, s3 _ _ hrc, Paired.mapP hP1 (fun _ _ h => h.ts s3.ts), rfl, (fun z => nomatch z), hS3, st1, hB3, hbo3, by rw [← hcs]; exact hle, fun l out H4 s4 hl4 hn4 ha4 => ?_⟩
          have s34 := s3.trans s4
          have hB4 := s34 _ _ hB1
          refine ⟨_, rfl, _, rfl, ra, _, 0, _, rfl, rfl, SqT.of (s34 _ _ hra), rfl, B, _, rfl, DPut.k (k := .inr r.1) hB4 (sz (by omega)), ?_⟩
          have kpB : ∀ c o, c ≠ B → H4 c = some o → upd H4 B (.dK (putK bv (.inr r.1) (.ref l))) c = some o := fun c o hc h => by rw [upd_ne hc]; exact h
          have tB : TSame H4 (upd H4 B (.dK (putK bv (.inr r.1) (.ref l)))) := fun c xs h => kpB c _ (by rintro rfl; rw [hB4] at h; cases h) h
          have nlB : ∀ {q : Addr} {xs : List V}, H4 q = some (.lst xs) → q ≠ B := fun h e => by rw [e, hB4] at h; cases h
          refine ⟨_, _, _, _, putK bv (.inr r.1) (.ref l), rfl, (s1.trans s34).updD hB, upd_same, Nat.le_trans (length_putK _ _ _) (by omega), fun w hw hw2 => ?_⟩
          rw [etake] at hw
          by_cases ew : w = r.1
          · subst ew
            refine ⟨l, out, by rw [valV_put, if_pos rfl], kpB _ _ (nlB hl4) hl4, by rw [hn4, ← hcs], fun u hu => (ha4 u hu).ts tB⟩
          · rcases List.mem_append.mp hw with hw | hw
            · obtain ⟨lr, bs, h1, h2, h3, h4⟩ := (hbo w hw hw2).same s34
              exact ⟨lr, bs, by rw [valV_put, if_neg (fun e => ew (Sum.inr.inj e))]; exact h1, kpB _ _ (nlB h2) h2, h3, fun u hu => (h4 u hu).ts tB⟩
            · exact absurd (List.mem_singleton.mp hw) ew
      · have hgt : ¬ cc r.1 ≤ 200 := fun z => hgt (decide_eq_true z)
        refine ⟨_, _, _, _, bv, rfl, s1, hB1, by omega, fun w hw hw2 => ?_⟩
        rw [etake] at hw
        rcases List.mem_append.mp hw with hw | hw
        · exact hbo w hw hw2
        · rw [List.mem_singleton.mp hw] at hw2; exact absurd hw2 hgt
    · rintro σ H1 ⟨v3, v4, v5, v6, bv, rfl, s1, hB1, hbl, hbo⟩
      have el : rs.take rv.length = rs := by rw [hR.length, List.take_length]
      rw [el] at hbo
      exact ⟨_, rfl, k B bv H1 s1 hB1 hbo⟩
end
end T10
namespace T10
open PySem L2 Tc
section
variable {P : Program} {w : World} {K : PySem.W.Frag} {mg : Str → Option Value} {base : Heap}
noncomputable abbrev s_opened : Stmt := top 29
theorem sc_opened : FnScope ["house", "script", "counts", "rule", "plain", "kinds", "deed"] ["house", "script"] (defScope s_opened) := ⟨rfl, rfl, rfl, by decide +kernel, rfl, by decide +kernel, by decide +kernel⟩
theorem ok_opened {ca : Ca} (D : DefAt K mg "opened" s_opened) (T : Txt K mg ca) (G_many_of : FnAt P w K mg base CX0 3 "many_of" ["deeds", "counts"] (spMany K 2)) (G_unrolled : FnAt P w K mg base CX0 4 "unrolled" ["deeds", "stead", "bodies"] (spUnr K 2)) (G_bodies_of : FnAt P w K mg base CX0 5 "bodies_of" ["rules", "counts"] (spBodies K)) (G_kinds_of : FnAt P w K mg base CX0 1 "kinds_of" ["house"] (spKinds K)) (G_check_plain : FnAt P w K mg base CX0 2 "check_plain" ["deed", "kinds"] (spCkPlain K)) : FnAt P w K mg base (CXE P w) 6 "opened" ["house", "script"] (spOpened K ca.TooMany) := by
  refine D.okE sc_opened (fun vs H Q E h => ?_) (fun _ _ _ _ _ _ us hl => match us, hl with | [_, _], _ => rfl) (fun f cdv A outer s H vs Q E hr h => ?_)
  · obtain ⟨h, s, x, y, n, rfl, ⟨F, kd, rs, ds, cc, hh, nFy, ⟨p, a, b, rv, us, rfl, hp, ha, hR, hb, hD⟩, ah, hkn, hrl, hcc, hmo, hmd, rfl⟩, k, kE⟩ := h; rfl
  · obtain ⟨h, s, x, y, n, rfl, ⟨F, kd, rs, ds, cc, hh, nFy, ⟨p, a, b, rv, us, rfl, hp, ha, hR, hb, hD⟩, ah, hkn, hrl, hcc, hmo, hmd, rfl⟩, k, kE⟩ := h
    have nd := sc_opened.nd
    refine ⟨_, (@pss_cons _ _ _ _ _ (@ps_set _ _ 2 _ _ _ _ nd rfl (Or.inl rfl) pe_dnewK (by rfl) (Or.inl rfl))
      (@pss_cons _ _ _ _ _ (ps_nox (ps_for PassesOwn.never rfl (pi_tup' (K := K) rfl (pe_ix (ix_tup' (K := K) rfl) (pv 1) pe_int (fun _ _ => rfl))) (pg_name (i := 3) nd rfl (Or.inl rfl)) (@pss_one _ _ _ (ps_dput (hu_of hr) (pv 2) (pe_ix (ix_tup' (K := K) rfl) (pv 3) pe_int (fun _ _ => rfl)) (pe_fn G_many_of hr (by rfl) pass0 (@pa_cons _ _ _ _ _ (pe_ix (ix_tup' (K := K) rfl) (pv 3) pe_int (fun _ _ => rfl)) (@pa_cons _ _ _ _ _ (pv 2) pa_nil (by rfl)) (by rfl))) rfl))))
      (@pss_cons _ _ _ _ _ (ps_if (pt_cmpR op_gt (pe_fn G_many_of hr (by rfl) pass0 (@pa_cons _ _ _ _ _ (pe_ix (ix_tup' (K := K) rfl) (pv 1) pe_int (fun _ _ => rfl)) (@pa_cons _ _ _ _ _ (pv 2) pa_nil (by rfl)) (by rfl))) (pe_gint (by rfl) T.g_MOST_DEEDS) (nomark _)) (@pss_one _ _ _ (ps_raise raises_cx rfl (by rfl) T.c_TooMany T.e_TooMany PySem.F.excBase_ValueError (@pa_cons _ _ _ _ _ pe_str pa_nil (by rfl)))) pss_nil)
      (@pss_cons _ _ _ _ _ (@ps_set _ _ 4 _ _ _ _ nd rfl (Or.inl rfl) (pe_fn G_unrolled hr (by rfl) pass0 (@pa_cons _ _ _ _ _ (pe_ix (ix_tup' (K := K) rfl) (pv 1) pe_int (fun _ _ => rfl)) (@pa_cons _ _ _ _ _ pe_dnewK (@pa_cons _ _ _ _ _ (pe_fn G_bodies_of hr (by rfl) pass0 (@pa_cons _ _ _ _ _ (pe_ix (ix_tup' (K := K) rfl) (pv 1) pe_int (fun _ _ => rfl)) (@pa_cons _ _ _ _ _ (pv 2) pa_nil (by rfl)) (by rfl))) pa_nil (by rfl)) (by rfl)) (by rfl))) (by rfl) (Or.inl rfl))
      (@pss_cons _ _ _ _ _ (@ps_set _ _ 5 _ _ _ _ nd rfl (Or.inl rfl) (pe_fn G_kinds_of hr (by rfl) pass0 (@pa_cons _ _ _ _ _ (pv 0) pa_nil (by rfl))) (by rfl) (Or.inl rfl))
      (@pss_cons _ _ _ _ _ (ps_nox (ps_for PassesOwn.never rfl (pi_list' (K := K) rfl (pv 4)) (pg_name (i := 6) nd rfl (Or.inl rfl)) (@pss_one _ _ _ (ps_expr (pe_fn G_check_plain hr (by rfl) pass0 (@pa_cons _ _ _ _ _ (pv 6) (@pa_cons _ _ _ _ _ (pv 5) pa_nil (by rfl)) (by rfl)))))))
      (@pss_one _ _ _ (ps_ret (pv 4))))))))), ?_⟩
    have nxy : x ≠ y := by obtain ⟨_, _, _, _, _, _, _, _, _, ne⟩ := hh; exact ne
    intro A hA
    have i0 := Same.upd (o := .dK []) hA
    refine ⟨_, rfl, p, _, 0, _, rfl, rfl, SqT.of (i0 _ _ hp), rfl, a, rfl, ⟨_, SqT.of (i0 _ _ ha)⟩, ?_⟩
    refine for_tup (xs := rv) (fun i σ H1 => ∃ (v3 v4 v5 v6 : Option V) (cv : List (Key × V)), σ = [some h, some (.ref p), some (.ref A), v3, v4, v5, v6] ∧ Same H H1 ∧ H1 A = some (.dK cv) ∧ cv.length ≤ i ∧ ∀ r ∈ (rs.take i).map (·.1), valV cv (.inr r) = some (.int (cc r))) ⟨none, none, none, none, [], rfl, i0, upd_same, Nat.le_refl _, fun _ z => nomatch z⟩ ?_ ?_ ?_
    · rintro i σ H1 hi ⟨v3, v4, v5, v6, cv, rfl, s1, _⟩
      exact SqT.of (s1 _ _ ha)
    · rintro i z σ H1 hz ⟨v3, v4, v5, v6, cv, rfl, s1, hA1, hcl, hcv⟩
      obtain ⟨r, hr1, hv⟩ := paired_get hR hz
      have hrm := List.mem_of_getElem? hr1
      have hi : i < rs.length := (List.getElem?_eq_some_iff.mp hr1).1
      obtain ⟨ra, rb, rc, us1, rfl, hra, hrb, hrc, hP1⟩ := hv.ts s1.ts
      refine ⟨_, rfl, ra, _, 2, _, rfl, rfl, SqT.of hra, rfl, _, rfl, rc, A, us1, r.2, cv, cc, F, y, 1, rfl, hrc, hP1, rfl, (fun z => nomatch z), hA1, fun d hd => has_of hcv (ah.2 i r hr1 d hd) (hmo r hrm d hd), ?_⟩
      rw [← (hcc r hrm).1]
      refine ⟨_, rfl, _, rfl, ra, _, 0, _, rfl, rfl, SqT.of hra, rfl, A, _, rfl, DPut.k (k := .inr r.1) hA1 (sz (by omega)), ?_⟩
      refine ⟨_, _, _, _, putK cv (.inr r.1) (.int (cc r.1)), rfl, s1.updD hA, upd_same, Nat.le_trans (length_putK _ _ _) (by omega), fun w hw => ?_⟩
      rw [List.take_add_one, hr1, List.map_append] at hw
      rw [valV_put]
      by_cases ew : w = r.1
      · subst ew; rw [if_pos rfl]
      · rw [if_neg (fun e => ew (Sum.inr.inj e))]
        rcases List.mem_append.mp hw with hw | hw
        · exact hcv w hw
        · exact absurd (List.mem_singleton.mp hw) ew
    · rintro σ H1 ⟨v3, v4, v5, v6, cv, rfl, s1, hA1, hcl, hcv⟩
      have el : rs.take rv.length = rs := by rw [hR.length, List.take_length]
      rw [el] at hcv
      have hD1 := Paired.mapP hD (fun _ _ h => K2V.ts s1.ts h)
      have L0 : ∀ w ∈ rs.map (·.1), 0 ≤ cc w := fun w hw => by
        obtain ⟨q, hq, rfl⟩ := List.mem_map.mp hw
        exact (hcc q hq).2
      refine ⟨_, rfl, p, _, 1, _, rfl, rfl, SqT.of (s1 _ _ hp), rfl, _, rfl, b, A, us, ds, cv, cc, x, y, 1, rfl, s1 _ _ hb, hD1, rfl, (fun z => nomatch z), hA1, fun d hd => has_of hcv (hkn d hd) (hmd d hd), ?_⟩
      refine ⟨_, _, rfl, rfl, _, rfl, ?_⟩
      refine ite2 (fun hgt => ?_) (fun hle => ?_)
      · have hgt : (200 : Int) < (ds.map (cnt2 cc)).sum := of_decide_eq_true hgt
        exact ⟨sz (by simp), kE (by omega) H1 s1⟩
      have hle : (ds.map (cnt2 cc)).sum ≤ 200 := by
        have : ¬ (200 : Int) < (ds.map (cnt2 cc)).sum := fun z => hle (decide_eq_true z)
        omega
      refine ⟨_, rfl, p, _, 1, _, rfl, rfl, SqT.of (s1 _ _ hp), rfl, fun S hS => ?_⟩
      have t1 := Same.upd (o := .dK []) hS
      have s2 := s1.trans t1
      refine ⟨_, rfl, p, _, 0, _, rfl, rfl, SqT.of (s2 _ _ hp), rfl, _, rfl, a, A, F, y, rv, rs, cv, cc, rfl, s2 _ _ ha, Paired.mapP hR (fun _ _ h => h.ts s2.ts), nFy, hrl, ah, t1 _ _ hA1, fun r hr => ⟨hcv r.1 (List.mem_map.mpr ⟨r, hr, rfl⟩), (hcc r hr).1, (hcc r hr).2⟩, fun B bv H3 s3 hB3 hbo => ?_⟩
      have s13 := t1.trans s3
      refine ⟨b, S, B, us, ds, [], bv, cc, x, y, .inr x, 1, rfl, s13 _ _ (s1 _ _ hb), Paired.mapP hD1 (fun _ _ h => K2V.ts s13.ts h), rfl, (fun z => nomatch z), s3 _ _ upd_same, ⟨rfl, rfl⟩, hB3, bod_of L0 hbo hkn hle, hle, fun l out H4 s4 hl4 hn4 ha4 => ?_⟩
      have s14 := s1.trans (s13.trans s4)
      refine ⟨_, rfl, h, x, y, kd, rfl, hh.ts' s14, fun kk kv H5 s5 hkf hk5 hkl v1 v2 => ?_⟩
      have hl5 := s5 _ _ hl4
      have ol : out.length ≤ 200 := by omega
      refine ⟨_, rfl, l, rfl, ⟨_, SqL.of hl5⟩, ?_⟩
      refine for_list (xs := out) (fun i σ H6 => ∃ v6 : Option V, ∃ v3 : Option V, σ = [some h, some (.ref p), some (.ref A), v3, some (.ref l), some (.ref kk), v6] ∧ Same H5 H6) ⟨_, _, rfl, Same.refl _⟩ ?_ ?_ ?_
      · rintro i σ H6 hi ⟨v6, v3, rfl, s6⟩
        exact SqL.of (s6 _ _ hl5)
      · rintro i u σ H6 hu ⟨v6, v3, rfl, s6⟩
        have hpu := ((ha4 u (List.mem_of_getElem? hu)).ts s5.ts).ts s6.ts
        exact ⟨_, rfl, _, rfl, u, kk, x, y, kv, rfl, hpu, s6 _ _ hk5, ⟨nxy, ⟨_, v1, by decide +kernel⟩, ⟨_, v2⟩⟩, fun H7 s7 => ⟨_, _, rfl, s6.trans s7⟩⟩
      · rintro σ H6 ⟨v6, v3, rfl, s6⟩
        exact ⟨_, rfl, k hle l out H6 (s14.trans (s5.trans s6)) (s6 _ _ hl5) hn4 fun u hu => ((ha4 u hu).ts s5.ts).ts s6.ts⟩
end
end T10
namespace T10
open PySem L2 Tc
section
variable {P : Program} {w : World} {K : PySem.W.Frag} {mg : Str → Option Value} {base : Heap}
noncomputable abbrev s__law_cell_at : Stmt := top 31
theorem sc__law_cell_at : FnScope ["_law_script", "_law_k"] ["_law_script", "_law_k"] (defScope s__law_cell_at) := ⟨rfl, rfl, rfl, by decide +kernel, rfl, by decide +kernel, by decide +kernel⟩
theorem ok__law_cell_at {ca : Ca} (D : DefAt K mg "_law_cell_at" s__law_cell_at) (T : Txt K mg ca) : FnAt P w K mg base CX0 1 "_law_cell_at" ["_law_script", "_law_k"] (spCell K) := by
  refine D.ok sc__law_cell_at (fun vs H Q E h => ?_) (fun _ _ _ _ _ _ us hl => match us, hl with | [_, _], _ => rfl) (fun f cdv A outer s H vs Q E hr h => ?_)
  · obtain ⟨a, ns, j, rfl, hS, hj, k⟩ := h; rfl
  · obtain ⟨a, ns, j, rfl, hS, hj, k⟩ := h
    have nd := sc__law_cell_at.nd
    refine ⟨_, (@pss_cons _ _ _ _ _ (ps_if (pt_cmpR op_lt (pv 1) (pe_callB (call_len' (K := K) rfl) (by rfl) T.z_len PySem.boot_len (@pa_cons _ _ _ _ _ (pv 0) pa_nil (by rfl))) (nomark _)) (@pss_one _ _ _ (ps_ret (pe_ix (ix_list' (K := K) rfl) (pv 0) (pv 1) (fun _ _ => rfl)))) pss_nil)
      (@pss_one _ _ _ (ps_ret pe_int))), ?_⟩
    refine ⟨_, rfl, _, rfl, _, _, rfl, .inl ⟨_, hS, rfl⟩, _, _, rfl, rfl, _, rfl, ?_⟩
    refine ite2 (fun h1 => ?_) (fun h1 => ?_)
    · obtain ⟨c, hc⟩ := map_at hj (of_decide_eq_true h1)
      refine ⟨_, rfl, _, rfl, a, _, j, _, rfl, rfl, hS, hc, k c⟩
    · exact k 0
end
end T10
namespace T10
open PySem L2 Tc
section
variable {P : Program} {w : World} {K : PySem.W.Frag} {mg : Str → Option Value} {base : Heap}
noncomputable abbrev s__law_mixed : Stmt := top 32
theorem sc__law_mixed : FnScope ["_law_cell"] ["_law_cell"] (defScope s__law_mixed) := ⟨rfl, rfl, rfl, by decide +kernel, rfl, by decide +kernel, by decide +kernel⟩
theorem ok__law_mixed {ca : Ca} (D : DefAt K mg "_law_mixed" s__law_mixed) (T : Txt K mg ca) : FnAt P w K mg base CX0 1 "_law_mixed" ["_law_cell"] (spMixE) := by
  refine D.ok sc__law_mixed (fun vs H Q E h => ?_) (fun _ _ _ _ _ _ us hl => match us, hl with | [_], _ => rfl) (fun f cdv A outer s H vs Q E hr h => ?_)
  · obtain ⟨c, rfl, k⟩ := h; rfl
  · obtain ⟨c, rfl, k⟩ := h
    have nd := sc__law_mixed.nd
    refine ⟨_, (@pss_one _ _ _ (ps_ret (@pe_op _ _ _ _ _ _ _ _ op_add (@pe_op _ _ _ _ _ _ _ _ op_modN (@pe_op _ _ _ _ _ _ _ _ op_mulB (pv 0) pe_int) pe_int) (@pe_op _ _ _ _ _ _ _ _ op_mulB pe_int (@pe_op _ _ _ _ _ _ _ _ op_modN (pv 0) (@pe_op _ _ _ _ _ _ _ _ op_pow pe_int pe_int)))))), ?_⟩
    refine ⟨_, rfl, _, _, rfl, rfl, IntMulOk.of_right (by decide), _, _, rfl, rfl, (show (2147483629 : Int) ≠ 0 by decide), _, rfl, _, _, rfl, rfl, ⟨by decide, by decide, by decide⟩, _, _, rfl, rfl, (by rw [pow10_30]; show (_ : Int) ≠ 0; decide), _, _, rfl, rfl, IntMulOk.of_left (by decide), _, _, rfl, rfl, ?_⟩
    rw [pow10_30]
    exact k
end
end T10
namespace T10
open PySem L2 Tc
section
variable {P : Program} {w : World} {K : PySem.W.Frag} {mg : Str → Option Value} {base : Heap}
noncomputable abbrev s__law_digits : Stmt := top 33
theorem sc__law_digits : FnScope ["_law_number", "_law_many", "_law_top", "_law_found", "_law_k"] ["_law_number", "_law_many", "_law_top"] (defScope s__law_digits) := ⟨rfl, rfl, rfl, by decide +kernel, rfl, by decide +kernel, by decide +kernel⟩
theorem ok__law_digits {ca : Ca} (D : DefAt K mg "_law_digits" s__law_digits) (T : Txt K mg ca) : FnAt P w K mg base CX0 1 "_law_digits" ["_law_number", "_law_many", "_law_top"] (spDigits) := by
  refine D.ok sc__law_digits (fun vs H Q E h => ?_) (fun _ _ _ _ _ _ us hl => match us, hl with | [_, _, _], _ => rfl) (fun f cdv A outer s H vs Q E hr h => ?_)
  · obtain ⟨n, m, rfl, m0, m10, k⟩ := h; rfl
  · obtain ⟨n, m, rfl, m0, m10, k⟩ := h
    have nd := sc__law_digits.nd
    refine ⟨_, (@pss_cons _ _ _ _ _ (@ps_set _ _ 3 _ _ _ _ nd rfl (Or.inl rfl) (@pe_lst _ _ _ _ pa_nil) (by rfl) (Or.inl rfl))
      (@pss_cons _ _ _ _ _ (ps_for PassesOwn.never rfl (pi_range1 (by rfl) T.z_range (@pa_cons _ _ _ _ _ (pv 1) pa_nil (by rfl))) (pg_name (i := 4) nd rfl (Or.inl rfl)) (@pss_cons _ _ _ _ _ (ps_expr (pe_bm PySem.F.plainAttrs_list PySem.F.slot_list_append PySem.F.type_list_append mt_append (pv 3) (@pa_cons _ _ _ _ _ (@pe_op _ _ _ _ _ _ _ _ op_modN (pv 0) (pv 2)) pa_nil (by rfl))))
      (@pss_one _ _ _ (@ps_set _ _ 0 _ _ _ _ nd rfl (Or.inl rfl) (@pe_op _ _ _ _ _ _ _ _ op_fdivB (pv 0) (pv 2)) (by rfl) (Or.inl rfl)))))
      (@pss_one _ _ _ (ps_ret (pv 3))))), ?_⟩
    refine ⟨sz (by simp), fun p hp => ?_⟩
    refine ⟨_, rfl, _, rfl, by omega, by omega, ?_⟩
    refine for_range (fun i σ H1 => ∃ (v4 : Option V) (x : Int) (ds : List Int), σ = [some (.int x), some (.int m), some (.int 26), some (.ref p), v4] ∧ Same H H1 ∧ H1 p = some (.lst (ds.map V.int)) ∧ ds.length = i ∧ ∀ d ∈ ds, 0 ≤ d ∧ d < 26) ⟨none, n, [], rfl, Same.upd hp, upd_same, rfl, fun _ z => nomatch z⟩ ?_ ?_
    · rintro i σ H1 hi ⟨v4, x, ds, rfl, s1, hp1, hl, hb⟩
      refine ⟨_, rfl, .inl ⟨rfl, _, SqL.of hp1⟩, _, rfl, _, rfl, _, _, rfl, rfl, (show (26 : Int) ≠ 0 by decide), p, _, _, rfl, rfl, hp1, by rw [List.length_map]; exact sz (by omega), ?_⟩
      refine ⟨_, rfl, _, rfl, _, _, rfl, rfl, divB_of (by decide) (by decide), ?_⟩
      refine ⟨_, x.fdiv 26, ds ++ [x.fmod 26], rfl, s1.updD hp, ?_, by rw [List.length_append, hl]; rfl, ?_⟩
      · rw [upd_same, List.map_append]; rfl
      · intro d hd
        rcases List.mem_append.mp hd with z | z
        · exact hb d z
        · have z := List.mem_singleton.mp z
          subst z
          exact fmod_lt (by decide)
    · rintro σ H1 ⟨v4, x, ds, rfl, s1, hp1, hl, hb⟩
      exact ⟨_, rfl, k p H1 ds s1 hp1 (by have : ds.length = m.toNat := hl; omega) hb⟩
end
end T10
namespace T10
open PySem L2 Tc
section
variable {P : Program} {w : World} {K : PySem.W.Frag} {mg : Str → Option Value} {base : Heap}
noncomputable abbrev s__law_names : Stmt := top 34
theorem sc__law_names : FnScope ["_law_number", "_law_many", "_law_words", "_law_letters", "_law_base", "_law_at", "_law_names_here", "_law_j", "_law_signs"] ["_law_number", "_law_many"] (defScope s__law_names) := ⟨rfl, rfl, rfl, by decide +kernel, rfl, by decide +kernel, by decide +kernel⟩
theorem ok__law_names {ca : Ca} (D : DefAt K mg "_law_names" s__law_names) (T : Txt K mg ca) (G__law_digits : FnAt P w K mg base CX0 1 "_law_digits" ["_law_number", "_law_many", "_law_top"] (spDigits)) : FnAt P w K mg base CX0 2 "_law_names" ["_law_number", "_law_many"] (spNam2) := by
  refine D.ok sc__law_names (fun vs H Q E h => ?_) (fun _ _ _ _ _ _ us hl => match us, hl with | [_, _], _ => rfl) (fun f cdv A outer s H vs Q E hr h => ?_)
  · obtain ⟨c, m, rfl, hc4, hm0, hm9, k⟩ := h; rfl
  · obtain ⟨c, m, rfl, hc4, hm0, hm9, k⟩ := h
    have nd := sc__law_names.nd
    refine ⟨_, (@pss_cons _ _ _ _ _ (@ps_set _ _ 2 _ _ _ _ nd rfl (Or.inl rfl) (@pe_lst _ _ _ _ (@pa_cons _ _ _ _ _ pe_str (@pa_cons _ _ _ _ _ pe_str (@pa_cons _ _ _ _ _ pe_str (@pa_cons _ _ _ _ _ pe_str (@pa_cons _ _ _ _ _ pe_str (@pa_cons _ _ _ _ _ pe_str (@pa_cons _ _ _ _ _ pe_str (@pa_cons _ _ _ _ _ pe_str (@pa_cons _ _ _ _ _ pe_str (@pa_cons _ _ _ _ _ pe_str pa_nil (by rfl)) (by rfl)) (by rfl)) (by rfl)) (by rfl)) (by rfl)) (by rfl)) (by rfl)) (by rfl)) (by rfl))) (by rfl) (Or.inl rfl))
      (@pss_cons _ _ _ _ _ (ps_if (PW.pt (pw_and (pt_cmpR op_eq (@pe_op _ _ _ _ _ _ _ _ op_modN (pv 0) pe_int) pe_int (nomark _)) (pw_and1 (pt_cmpR op_lt (pv 1) pe_int (nomark _))))) (@pss_one _ _ _ (ps_ret (pe_slice (sl_list' (K := K) rfl) (pv 2) po_none (po_some (pv 1))))) pss_nil)
      (@pss_cons _ _ _ _ _ (@ps_set _ _ 3 _ _ _ _ nd rfl (Or.inr rfl) pe_str (by rfl) (Or.inl rfl))
      (@pss_cons _ _ _ _ _ (@ps_set _ _ 4 _ _ _ _ nd rfl (Or.inr rfl) (pe_fn G__law_digits hr (by rfl) pass0 (@pa_cons _ _ _ _ _ (@pe_op _ _ _ _ _ _ _ _ op_fdivB (pv 0) pe_int) (@pa_cons _ _ _ _ _ (@pe_op _ _ _ _ _ _ _ _ op_add pe_int (@pe_op _ _ _ _ _ _ _ _ op_modN (@pe_op _ _ _ _ _ _ _ _ op_fdivB (pv 0) pe_int) pe_int)) (@pa_cons _ _ _ _ _ pe_int pa_nil (by rfl)) (by rfl)) (by rfl))) (by rfl) (Or.inl rfl))
      (@pss_cons _ _ _ _ _ (@ps_set _ _ 5 _ _ _ _ nd rfl (Or.inr rfl) (@pe_op _ _ _ _ _ _ _ _ op_modN (@pe_op _ _ _ _ _ _ _ _ op_modN (@pe_op _ _ _ _ _ _ _ _ op_fdivB (pv 0) pe_int) pe_int) (pe_callB (call_len' (K := K) rfl) (by rfl) T.z_len PySem.boot_len (@pa_cons _ _ _ _ _ (pv 4) pa_nil (by rfl)))) (by rfl) (Or.inl rfl))
      (@pss_cons _ _ _ _ _ (@ps_set _ _ 6 _ _ _ _ nd rfl (Or.inl rfl) (@pe_lst _ _ _ _ pa_nil) (by rfl) (Or.inl rfl))
      (@pss_cons _ _ _ _ _ (ps_for PassesOwn.never rfl (pi_range1 (by rfl) T.z_range (@pa_cons _ _ _ _ _ (pv 1) pa_nil (by rfl))) (pg_name (i := 7) nd rfl (Or.inr rfl)) (@pss_cons _ _ _ _ _ (ps_setcomp ["_law_k"] ["_law_letters", "_law_base", "_law_j", "_law_at"] [3, 4, 7, 5] (i := 8) nd rfl rfl rfl (by rfl) (pi_range1 (by rfl) T.z_range (@pa_cons _ _ _ _ _ (pe_callB (call_len' (K := K) rfl) (by rfl) T.z_len PySem.boot_len (@pa_cons _ _ _ _ _ (pv 4) pa_nil (by rfl))) pa_nil (by rfl))) (fun _ _ _ _ => (pg_name (i := 0) (show List.Nodup (["_law_k", "_law_letters", "_law_base", "_law_j", "_law_at"] : List Str) from by decide) rfl (Or.inl rfl))) (fun _ _ _ _ => pif_none) (fun _ _ _ _ => (pe_ix ix_str (pv 1) (@pe_op _ _ _ _ _ _ _ _ op_modN (@pe_op _ _ _ _ _ _ _ _ op_add (pe_ix (ix_list' (K := K) rfl) (pv 2) (pv 0) (fun _ _ => rfl)) (@pe_op _ _ _ _ _ _ _ _ op_mulB (pv 3) (pe_callTy call_int1 (by rfl) T.z_int bt_int (@pa_cons _ _ _ _ _ (pe_cmpR op_eq (pv 0) (pv 4) (nomark _)) pa_nil (by rfl))))) pe_int) (fun _ _ => rfl))))
      (@pss_one _ _ _ (ps_expr (pe_bm PySem.F.plainAttrs_list PySem.F.slot_list_append PySem.F.type_list_append mt_append (pv 6) (@pa_cons _ _ _ _ _ (pe_bm' (K := K) rfl PySem.F.plainAttrs_str PySem.F.slot_str_join PySem.F.type_str_join (mt_join' (K := K) rfl) pe_str (@pa_cons _ _ _ _ _ (pv 8) pa_nil (by rfl))) pa_nil (by rfl)))))))
      (@pss_one _ _ _ (ps_ret (pv 6)))))))))), ?_⟩
    refine ⟨sz (show 10 ≤ 1000 by decide), fun pw hpw => ?_⟩
    have sw := Same.upd (o := .lst (WN.map V.str)) hpw
    refine ⟨_, rfl, _, _, rfl, rfl, (show (4 : Int) ≠ 0 by decide), rfl, _, rfl, ?_⟩
    refine ite2 (fun h => absurd (V.int.inj (of_decide_eq_true h)) hc4) (fun _ => ?_)
    refine iteF ?_
    have q7 := fmod_lt (c := c.fdiv 4) (m := 7) (by decide)
    refine ⟨_, rfl, _, _, rfl, rfl, dd (by decide) (by decide), _, rfl, _, _, rfl, rfl, dd (by decide) (by decide), _, _, rfl, rfl, (show (7 : Int) ≠ 0 by decide), _, _, rfl, rfl, c.fdiv 56, 1 + (c.fdiv 4).fmod 7, rfl, by omega, by omega, fun D H1 bs s1 hd hl hb => ?_⟩
    have hlen : (bs.map V.int).length = bs.length := List.length_map ..
    have hne : (((bs.map V.int).length : Nat) : Int) ≠ 0 := by rw [hlen]; omega
    refine ⟨_, rfl, _, _, rfl, rfl, dd (by decide) (by decide), _, _, rfl, rfl, (show (7 : Int) ≠ 0 by decide), _, rfl, _, _, rfl, .inl ⟨_, SqL.of hd, rfl⟩, _, _, rfl, rfl, hne, ?_⟩
    have qa := fmod_lt (c := (c.fdiv 28).fmod 7) (m := (((bs.map V.int).length : Nat) : Int)) (by rw [hlen]; omega)
    let av : Int := ((c.fdiv 28).fmod 7).fmod (((bs.map V.int).length : Nat) : Int)
    obtain ⟨a0, ea⟩ : ∃ a0 : Nat, av = (a0 : Nat) := Int.eq_ofNat_of_zero_le qa.1
    have ha0 : a0 < bs.length := by
      have h2 : av < (((bs.map V.int).length : Nat) : Int) := qa.2
      rw [ea, hlen] at h2; omega
    refine ⟨sz (by simp), fun p hp => ?_⟩
    have sp1 := Same.upd (o := .lst []) hp
    have fp : H p = none := (sw.trans s1).free hp
    refine ⟨_, rfl, _, rfl, by omega, by omega, ?_⟩
    refine for_range (fun i σ H2 => ∃ v7 v8 : Option V, σ = [some (.int c), some (.int m), some (.ref pw), some (.str LT), some (.ref D), some (.int av), some (.ref p), v7, v8] ∧ Same H1 H2 ∧ H2 p = some (.lst (((List.range i).map (nam bs av bs.length)).map V.str))) ⟨none, none, rfl, sp1, upd_same⟩ ?_ ?_
    · rintro i σ H2 hi ⟨v7, v8, rfl, s2, hp2⟩
      have hi : i < m.toNat := hi
      have hd2 := s2 _ _ hd
      refine ⟨_, rfl, _, _, rfl, .inl ⟨_, SqL.of hd2, rfl⟩, _, rfl, by rw [hlen]; omega, by rw [hlen]; omega, fun D2 hD2 => ?_⟩
      refine block_range (fun j σ' H' => ∃ v : Option V, σ' = [v, some (.str LT), some (.ref D), some (.int (0 + (i : Int))), some (.int av)] ∧ Same H2 H' ∧ H' D2 = some (.lst ((((List.range j).map (lr bs av i)).map one1).map V.str))) ⟨none, rfl, Same.upd hD2, upd_same⟩ ?_ ?_
      · rintro j σ' H' hj ⟨v, rfl, s3, hd3⟩
        have hj : j < bs.length := by
          have hj : j < (((bs.map V.int).length : Nat) : Int).toNat := hj
          rw [hlen] at hj; simpa using hj
        have q26 := fmod_lt (c := bs.getD j 0 + (i : Int) * (if decide (V.int (j : Nat) = V.int av) = true then 1 else 0)) (m := 26) (by decide)
        refine ⟨_, rfl, _, rfl, _, rfl, D, _, _, _, rfl, rfl, SqL.of (s3 _ _ hd2), getD_at' hj, _, rfl, _, rfl, _, rfl, rfl, .inr ⟨_, rfl, _, _, rfl, rfl, mulOk_of 64 (Nat.lt_of_le_of_lt (m := 40) (by omega) (by decide)) ?_ (by decide), _, _, rfl, rfl, _, _, rfl, rfl, (show (26 : Int) ≠ 0 by decide), ?_⟩⟩
        · refine Nat.lt_of_le_of_lt (m := 1) ?_ (by decide)
          show (if _ then (1 : Int) else 0).natAbs ≤ 1
          split <;> decide
        refine ⟨_, _, lr bs av i j, rfl, rfl, sz (by decide), ?_, ?_⟩
        · have e1 : (bs.getD j 0 + (0 + (i : Int)) * (if decide (V.int (0 + (j : Int)) = V.int av) = true then 1 else 0)) = bs.getD j 0 + (i : Int) * (if decide (V.int (j : Nat) = V.int av) = true then 1 else 0) := by rw [Int.zero_add, Int.zero_add]
          show atI LT.cps.toList ((bs.getD j 0 + (0 + (i : Int)) * (if decide (V.int (0 + (j : Int)) = V.int av) = true then 1 else 0)).fmod 26) = _
          rw [e1]
          exact lt_at q26
        refine ⟨_, hd3, by rw [List.length_map, List.length_map, List.length_map, List.length_range]; exact sz (by omega), _, rfl, s3.updD hD2, ?_⟩
        rw [upd_same, List.range_succ, List.map_append, List.map_append, List.map_append]; rfl
      · rintro σ' H3 ⟨v, rfl, s3, hd3⟩
        have ej : (((bs.map V.int).length : Nat) : Int).toNat = bs.length := by rw [hlen]; simp
        have hd3 : H3 D2 = some (.lst (((lrs bs av bs.length i).map one1).map V.str)) := by
          have hd3 : H3 D2 = some (.lst ((((List.range (((bs.map V.int).length : Nat) : Int).toNat).map (lr bs av i)).map one1).map V.str)) := hd3
          rw [ej] at hd3; exact hd3
        have hp3 := s3 _ _ hp2
        refine ⟨_, rfl, .inl ⟨rfl, _, SqL.of hp3⟩, rfl, _, rfl, _, D2, (lrs bs av bs.length i).map one1, rfl, rfl, SqL.of hd3, ?_, p, _, _, rfl, rfl, hp3, by rw [List.length_map, List.length_map, List.length_range]; exact sz (by omega), ?_⟩
        · rw [sum_ones, List.length_map]
          unfold lrs
          rw [List.length_map, List.length_range]
          show bs.length + bs.length * 0 ≤ _
          omega
        refine ⟨_, _, rfl, (s2.trans s3).updD hp, ?_⟩
        have ez : Txt.join (Str.ofString "") ((lrs bs av bs.length i).map one1) = nam bs av bs.length i := join_cs _
        rw [upd_same, List.range_succ, List.map_append, List.map_append, ez]; rfl
    rintro σ H2 ⟨v7, v8, rfl, s2, hp2⟩
    have hp2 : H2 p = some (.lst (((List.range m.toNat).map (nam bs av bs.length)).map V.str)) := hp2
    refine ⟨_, rfl, k p H2 _ (sw.trans (s1.trans s2)) fp hp2 (by rw [List.length_map, List.length_range]; omega) ?_ fun z hz => ?_⟩
    · rw [ea]; exact nam_nodup2 ha0 (by omega)
    · obtain ⟨x, _, rfl⟩ := List.mem_map.mp hz
      exact ⟨nam_lay _ _ _ _, nam_zz (by omega)⟩
end
end T10
namespace T10
open PySem L2 Tc
section
variable {P : Program} {w : World} {K : PySem.W.Frag} {mg : Str → Option Value} {base : Heap}
noncomputable abbrev s__law_told : Stmt := top 35
theorem sc__law_told : FnScope ["_law_house", "_law_made", "_law_found", "_law_kinds", "e"] ["_law_house", "_law_made"] (defScope s__law_told) := ⟨rfl, rfl, rfl, by decide +kernel, rfl, by decide +kernel, by decide +kernel⟩
theorem ok__law_told {ca : Ca} (D : DefAt K mg "_law_told" s__law_told) (T : Txt K mg ca) (G_opened : FnAt P w K mg base (CXE P w) 6 "opened" ["house", "script"] (spOpened K ca.TooMany)) : FnAt P w K mg base CX0 7 "_law_told" ["_law_house", "_law_made"] (spTold K) := by
  refine D.ok sc__law_told (fun vs H Q E h => ?_) (fun _ _ _ _ _ _ us hl => match us, hl with | [_, _], _ => rfl) (fun f cdv A outer s H vs Q E hr h => ?_)
  · obtain ⟨h, s, x, y, n, rfl, ho, k, kE⟩ := h; rfl
  · obtain ⟨h, s, x, y, n, rfl, ho, k, kE⟩ := h
    have nd := sc__law_told.nd
    refine ⟨_, (@pss_cons _ _ _ _ _ (@ps_set _ _ 2 _ _ _ _ nd rfl (Or.inl rfl) pe_non (by rfl) (Or.inl rfl))
      (@pss_cons _ _ _ _ _ (@ps_set _ _ 3 _ _ _ _ nd rfl (Or.inl rfl) (@pe_lst _ _ _ _ pa_nil) (by rfl) (Or.inl rfl))
      (@pss_cons _ _ _ _ _ (ps_tryS (i := 2) rfl rfl nd rfl (Or.inl rfl) (pex_fn G_opened hr (by rfl) (@pa_cons _ _ _ _ _ (pv 0) (@pa_cons _ _ _ _ _ (pv 1) pa_nil (by rfl)) (by rfl))) (hd_as rfl nd (by rfl) T.c_TierError (i := 4) rfl rfl (fun _ => (@pss_one _ _ _ (@ps_set _ _ 3 _ _ _ _ nd rfl (Or.inl rfl) (@pe_lst _ _ _ _ (@pa_cons _ _ _ _ _ (pe_callB (call_isiE' (K := K) rfl) (by rfl) T.z_isinstance bt_isinstance (@pa_cons _ _ _ _ _ (pv 4) (@pa_cons _ _ _ _ _ (pe_glob (v := .ref _) (by rfl) T.c_NoPlace rfl) pa_nil (by rfl)) (by rfl))) (@pa_cons _ _ _ _ _ (pe_callB (call_isiE' (K := K) rfl) (by rfl) T.z_isinstance bt_isinstance (@pa_cons _ _ _ _ _ (pv 4) (@pa_cons _ _ _ _ _ (pe_glob (v := .ref _) (by rfl) T.c_NoCask rfl) pa_nil (by rfl)) (by rfl))) (@pa_cons _ _ _ _ _ (pe_callB (call_isiE' (K := K) rfl) (by rfl) T.z_isinstance bt_isinstance (@pa_cons _ _ _ _ _ (pv 4) (@pa_cons _ _ _ _ _ (pe_glob (v := .ref _) (by rfl) T.c_NoRule rfl) pa_nil (by rfl)) (by rfl))) (@pa_cons _ _ _ _ _ (pe_callB (call_isiE' (K := K) rfl) (by rfl) T.z_isinstance bt_isinstance (@pa_cons _ _ _ _ _ (pv 4) (@pa_cons _ _ _ _ _ (pe_glob (v := .ref _) (by rfl) T.c_TooMany rfl) pa_nil (by rfl)) (by rfl))) (@pa_cons _ _ _ _ _ (pe_callB (call_isiE' (K := K) rfl) (by rfl) T.z_isinstance bt_isinstance (@pa_cons _ _ _ _ _ (pv 4) (@pa_cons _ _ _ _ _ (pe_glob (v := .ref _) (by rfl) T.c_NoText rfl) pa_nil (by rfl)) (by rfl))) (@pa_cons _ _ _ _ _ (pe_callB (call_isiE' (K := K) rfl) (by rfl) T.z_isinstance bt_isinstance (@pa_cons _ _ _ _ _ (pv 4) (@pa_cons _ _ _ _ _ (pe_bltn (v := .ty "ValueError") (by rfl) T.z_ValueError bt_ValueError rfl) pa_nil (by rfl)) (by rfl))) (@pa_cons _ _ _ _ _ (pe_callB (call_isiE' (K := K) rfl) (by rfl) T.z_isinstance bt_isinstance (@pa_cons _ _ _ _ _ (pv 4) (@pa_cons _ _ _ _ _ (pe_glob (v := .ref _) (by rfl) T.c_NoNumber rfl) pa_nil (by rfl)) (by rfl))) (@pa_cons _ _ _ _ _ (pe_callB (call_isiE' (K := K) rfl) (by rfl) T.z_isinstance bt_isinstance (@pa_cons _ _ _ _ _ (pv 4) (@pa_cons _ _ _ _ _ (pe_glob (v := .ref _) (by rfl) T.c_Lacking rfl) pa_nil (by rfl)) (by rfl))) (@pa_cons _ _ _ _ _ (pe_callB (call_isiE' (K := K) rfl) (by rfl) T.z_isinstance bt_isinstance (@pa_cons _ _ _ _ _ (pv 4) (@pa_cons _ _ _ _ _ (pe_glob (v := .ref _) (by rfl) T.c_Full rfl) pa_nil (by rfl)) (by rfl))) (@pa_cons _ _ _ _ _ (pe_callB (call_isiE' (K := K) rfl) (by rfl) T.z_isinstance bt_isinstance (@pa_cons _ _ _ _ _ (pv 4) (@pa_cons _ _ _ _ _ (pe_glob (v := .ref _) (by rfl) T.c_NotSteady rfl) pa_nil (by rfl)) (by rfl))) (@pa_cons _ _ _ _ _ (pe_callB (call_isiE' (K := K) rfl) (by rfl) T.z_isinstance bt_isinstance (@pa_cons _ _ _ _ _ (pv 4) (@pa_cons _ _ _ _ _ (pe_glob (v := .ref _) (by rfl) T.c_NoDeed rfl) pa_nil (by rfl)) (by rfl))) (@pa_cons _ _ _ _ _ (pe_callB (call_isiE' (K := K) rfl) (by rfl) T.z_isinstance bt_isinstance (@pa_cons _ _ _ _ _ (pv 4) (@pa_cons _ _ _ _ _ (pe_glob (v := .ref _) (by rfl) T.c_Tied rfl) pa_nil (by rfl)) (by rfl))) (@pa_cons _ _ _ _ _ (pe_callB (call_isiE' (K := K) rfl) (by rfl) T.z_isinstance bt_isinstance (@pa_cons _ _ _ _ _ (pv 4) (@pa_cons _ _ _ _ _ (pe_glob (v := .ref _) (by rfl) T.c_NoChange rfl) pa_nil (by rfl)) (by rfl))) (@pa_cons _ _ _ _ _ (pe_callB (call_isiE' (K := K) rfl) (by rfl) T.z_isinstance bt_isinstance (@pa_cons _ _ _ _ _ (pv 4) (@pa_cons _ _ _ _ _ (pe_glob (v := .ref _) (by rfl) T.c_NoRow rfl) pa_nil (by rfl)) (by rfl))) (@pa_cons _ _ _ _ _ (pe_callB (call_isiE' (K := K) rfl) (by rfl) T.z_isinstance bt_isinstance (@pa_cons _ _ _ _ _ (pv 4) (@pa_cons _ _ _ _ _ (pe_glob (v := .ref _) (by rfl) T.c_NoName rfl) pa_nil (by rfl)) (by rfl))) pa_nil (by rfl)) (by rfl)) (by rfl)) (by rfl)) (by rfl)) (by rfl)) (by rfl)) (by rfl)) (by rfl)) (by rfl)) (by rfl)) (by rfl)) (by rfl)) (by rfl)) (by rfl))) (by rfl) (Or.inl rfl)))) hd_none))
      (@pss_one _ _ _ (ps_ret (@pe_tup _ _ _ _ _ (@pa_cons _ _ _ _ _ (pv 2) (@pa_cons _ _ _ _ _ (pv 3) pa_nil (by rfl)) (by rfl)))))))), ?_⟩
    refine ⟨sz (by simp), fun kk hkk => ?_⟩
    have t0 := Same.upd (o := .lst []) hkk
    refine ⟨_, rfl, _, rfl, h, s, x, y, n, rfl, ho.same t0, fun hn l out H1 s1 hl hn1 ha => ?_, fun hn H1 s1 => ?_⟩
    · refine ⟨_, rfl, _, rfl, sz (by simp), fun p hp => ?_⟩
      have t2 := Same.upd (o := .tup [.ref l, .ref kk]) hp
      exact k hn p l kk out _ (t0.trans (s1.trans t2)) upd_same (t2 _ _ (s1 _ _ upd_same)) (t2 _ _ hl) hn1 fun u hu => (ha u hu).ts t2.ts
    refine ⟨true, T.m_TooMany_TierError, ?_⟩
    refine iteT ?_
    intro a ha
    have hE : upd H1 a (excO a (.ref ca.TooMany)) a = some (excO a (.ref ca.TooMany)) := upd_same
    have ta := Same.upd (o := excO a (.ref ca.TooMany)) ha
    refine ⟨_, rfl, a, ca.TooMany, _, _, rfl, hE, T.x_TooMany, .inr (.inl ⟨_, rfl, T.i_TooMany_NoPlace⟩), _, rfl, a, ca.TooMany, _, _, rfl, hE, T.x_TooMany, .inr (.inl ⟨_, rfl, T.i_TooMany_NoCask⟩), _, rfl, a, ca.TooMany, _, _, rfl, hE, T.x_TooMany, .inr (.inl ⟨_, rfl, T.i_TooMany_NoRule⟩), _, rfl, a, ca.TooMany, _, _, rfl, hE, T.x_TooMany, .inr (.inl ⟨_, rfl, T.i_TooMany_TooMany⟩), _, rfl, a, ca.TooMany, _, _, rfl, hE, T.x_TooMany, .inr (.inl ⟨_, rfl, T.i_TooMany_NoText⟩), _, rfl, a, ca.TooMany, _, _, rfl, hE, T.x_TooMany, .inl ⟨_, rfl, T.v_TooMany⟩, _, rfl, a, ca.TooMany, _, _, rfl, hE, T.x_TooMany, .inr (.inl ⟨_, rfl, T.i_TooMany_NoNumber⟩), _, rfl, a, ca.TooMany, _, _, rfl, hE, T.x_TooMany, .inr (.inl ⟨_, rfl, T.i_TooMany_Lacking⟩), _, rfl, a, ca.TooMany, _, _, rfl, hE, T.x_TooMany, .inr (.inl ⟨_, rfl, T.i_TooMany_Full⟩), _, rfl, a, ca.TooMany, _, _, rfl, hE, T.x_TooMany, .inr (.inl ⟨_, rfl, T.i_TooMany_NotSteady⟩), _, rfl, a, ca.TooMany, _, _, rfl, hE, T.x_TooMany, .inr (.inl ⟨_, rfl, T.i_TooMany_NoDeed⟩), _, rfl, a, ca.TooMany, _, _, rfl, hE, T.x_TooMany, .inr (.inl ⟨_, rfl, T.i_TooMany_Tied⟩), _, rfl, a, ca.TooMany, _, _, rfl, hE, T.x_TooMany, .inr (.inl ⟨_, rfl, T.i_TooMany_NoChange⟩), _, rfl, a, ca.TooMany, _, _, rfl, hE, T.x_TooMany, .inr (.inl ⟨_, rfl, T.i_TooMany_NoRow⟩), _, rfl, a, ca.TooMany, _, _, rfl, hE, T.x_TooMany, .inr (.inl ⟨_, rfl, T.i_TooMany_NoName⟩), sz (by simp), fun kn hkn => ?_⟩
    have tn := Same.upd (o := .lst TMk) hkn
    refine ⟨_, rfl, _, rfl, sz (by simp), fun p hp => ?_⟩
    have tp := Same.upd (o := .tup [.non, .ref kn]) hp
    exact kE hn p kn _ (t0.trans (s1.trans (ta.trans (tn.trans tp)))) upd_same (tp _ _ upd_same)
end
end T10
namespace T10
open PySem L2 Tc
section
variable {P : Program} {w : World} {K : PySem.W.Frag} {mg : Str → Option Value} {base : Heap}
noncomputable abbrev s__law_only : Stmt := top 36
theorem sc__law_only : FnScope ["_law_place"] ["_law_place"] (defScope s__law_only) := ⟨rfl, rfl, rfl, by decide +kernel, rfl, by decide +kernel, by decide +kernel⟩
theorem ok__law_only {ca : Ca} (D : DefAt K mg "_law_only" s__law_only) (T : Txt K mg ca) : FnAt P w K mg base CX0 1 "_law_only" ["_law_place"] (spOnly) := by
  refine D.ok sc__law_only (fun vs H Q E h => ?_) (fun _ _ _ _ _ _ us hl => match us, hl with | [_], _ => rfl) (fun f cdv A outer s H vs Q E hr h => ?_)
  · obtain ⟨rfl, k⟩ := h; rfl
  · obtain ⟨rfl, k⟩ := h
    have nd := sc__law_only.nd
    refine ⟨_, (@pss_one _ _ _ (ps_ret (pe_comp ["_law_k"] ["_law_place"] [0] rfl (by rfl) (pi_range1 (by rfl) T.z_range (@pa_cons _ _ _ _ _ pe_int pa_nil (by rfl))) (fun _ _ _ _ => (pg_name (i := 0) (show List.Nodup (["_law_k", "_law_place"] : List Str) from by decide) rfl (Or.inl rfl))) (fun _ _ _ _ => pif_none) (fun _ _ _ _ => (pe_or (pe_cmpR op_eq (pv 0) (pv 1) (nomark _)) (pe_one (pe_cmpR op_eq (pv 0) pe_int (nomark _)))))))), ?_⟩
    refine ⟨_, rfl, by decide, by decide, fun D hD => ?_⟩
    refine block_range (fun j σ' H' => ∃ v : Option V, σ' = [v, some (.int 3)] ∧ Same H H' ∧ H' D = some (.lst (TMk.take j))) ⟨none, rfl, Same.upd hD, upd_same⟩ ?_ ?_
    · rintro j σ' H' hj ⟨v, rfl, s1, h1⟩
      have hj : j < 15 := hj
      have tl : (TMk.take j).length ≤ 900 := by rw [List.length_take]; omega
      refine ⟨_, rfl, _, rfl, rfl, _, rfl, ?_⟩
      refine ite2 (fun h => ?_) (fun h => ?_)
      · have e : (0 + (j : Nat) : Int) = 3 := V.int.inj (of_decide_eq_true h)
        have e : j = 3 := by omega
        subst e
        exact ⟨_, h1, sz (Nat.succ_le_of_lt (Nat.lt_of_le_of_lt tl (by decide))), _, rfl, s1.updD hD, upd_same⟩
      · refine ⟨_, rfl, rfl, _, h1, sz (Nat.succ_le_of_lt (Nat.lt_of_le_of_lt tl (by decide))), _, rfl, s1.updD hD, ?_⟩
        rw [upd_same, tmk_step hj (fun e => h (by subst e; rfl))]
    rintro σ' H' ⟨v, rfl, s1, h1⟩
    exact k D H' s1 h1
end
end T10
namespace T10
open PySem L2 Tc
section
variable {P : Program} {w : World} {K : PySem.W.Frag} {mg : Str → Option Value} {base : Heap}
noncomputable abbrev s__law_rules : Stmt := top 37
theorem sc__law_rules : FnScope ["_law_cells", "_law_names_here", "_law_y", "_law_far", "_law_rules_here", "_law_counts", "_law_k", "_law_cell", "_law_number", "_law_deeds", "_law_count", "_law_many", "_law_done"] ["_law_cells", "_law_names_here", "_law_y"] (defScope s__law_rules) := ⟨rfl, rfl, rfl, by decide +kernel, rfl, by decide +kernel, by decide +kernel⟩
theorem ok__law_rules {ca : Ca} (D : DefAt K mg "_law_rules" s__law_rules) (T : Txt K mg ca) (G__law_mixed : FnAt P w K mg base CX0 1 "_law_mixed" ["_law_cell"] (spMixE)) : FnAt P w K mg base CX0 2 "_law_rules" ["_law_cells", "_law_names_here", "_law_y"] (spRules K) := by
  refine D.ok sc__law_rules (fun vs H Q E h => ?_) (fun _ _ _ _ _ _ us hl => match us, hl with | [_, _, _], _ => rfl) (fun f cdv A outer s H vs Q E hr h => ?_)
  · obtain ⟨a, b, y, ms, zs, rfl, ha, hml, hb, hzl, k⟩ := h; rfl
  · obtain ⟨a, b, y, ms, zs, rfl, ha, hml, hb, hzl, k⟩ := h
    have nd := sc__law_rules.nd
    refine ⟨_, (@pss_cons _ _ _ _ _ (@ps_set _ _ 3 _ _ _ _ nd rfl (Or.inl rfl) pe_str (by rfl) (Or.inl rfl))
      (@pss_cons _ _ _ _ _ (@ps_set _ _ 4 _ _ _ _ nd rfl (Or.inl rfl) (@pe_lst _ _ _ _ pa_nil) (by rfl) (Or.inl rfl))
      (@pss_cons _ _ _ _ _ (@ps_set _ _ 5 _ _ _ _ nd rfl (Or.inl rfl) (@pe_lst _ _ _ _ pa_nil) (by rfl) (Or.inl rfl))
      (@pss_cons _ _ _ _ _ (ps_for PassesOwn.never rfl (pi_enum (K := K) rfl (by rfl) T.z_enumerate (@pa_cons _ _ _ _ _ (pv 0) pa_nil (by rfl))) (pg_tup rfl (pgs_cons (pg_name (i := 6) nd rfl (Or.inl rfl)) (pgs_cons (pg_name (i := 7) nd rfl (Or.inl rfl)) pgs_nil))) (@pss_cons _ _ _ _ _ (@ps_set _ _ 8 _ _ _ _ nd rfl (Or.inl rfl) (pe_fn G__law_mixed hr (by rfl) pass0 (@pa_cons _ _ _ _ _ (@pe_op _ _ _ _ _ _ _ _ op_add (@pe_op _ _ _ _ _ _ _ _ op_mulB pe_int (pv 7)) (pv 6)) pa_nil (by rfl))) (by rfl) (Or.inl rfl))
      (@pss_cons _ _ _ _ _ (@ps_set _ _ 9 _ _ _ _ nd rfl (Or.inl rfl) (@pe_op _ _ _ _ _ _ _ _ op_rep (@pe_lst _ _ _ _ (@pa_cons _ _ _ _ _ (@pe_tup _ _ _ _ _ (@pa_cons _ _ _ _ _ pe_str (@pa_cons _ _ _ _ _ (pv 3) (@pa_cons _ _ _ _ _ (pv 2) (@pa_cons _ _ _ _ _ (@pe_tup _ _ _ _ _ (@pa_cons _ _ _ _ _ pe_int (@pa_cons _ _ _ _ _ pe_int pa_nil (by rfl)) (by rfl))) pa_nil (by rfl)) (by rfl)) (by rfl)) (by rfl))) pa_nil (by rfl))) (@pe_op _ _ _ _ _ _ _ _ op_add pe_int (@pe_op _ _ _ _ _ _ _ _ op_modN (pv 7) pe_int))) (by rfl) (Or.inl rfl))
      (@pss_cons _ _ _ _ _ (@ps_set _ _ 10 _ _ _ _ nd rfl (Or.inl rfl) (@pe_op _ _ _ _ _ _ _ _ op_add pe_int (@pe_op _ _ _ _ _ _ _ _ op_modN (pv 7) pe_int)) (by rfl) (Or.inl rfl))
      (@pss_cons _ _ _ _ _ (ps_if (pt_cmpR op_gt (pv 6) pe_int (nomark _)) (@pss_cons _ _ _ _ _ (@ps_set _ _ 11 _ _ _ _ nd rfl (Or.inl rfl) (pe_ix (ix_list' (K := K) rfl) (@pe_lst _ _ _ _ (@pa_cons _ _ _ _ _ pe_int (@pa_cons _ _ _ _ _ pe_int (@pa_cons _ _ _ _ _ pe_int (@pa_cons _ _ _ _ _ pe_int (@pa_cons _ _ _ _ _ (@pe_op _ _ _ _ _ _ _ _ op_modN (@pe_op _ _ _ _ _ _ _ _ op_fdivB (pv 8) pe_int) pe_int) pa_nil (by rfl)) (by rfl)) (by rfl)) (by rfl)) (by rfl))) (@pe_op _ _ _ _ _ _ _ _ op_modN (pv 8) pe_int) (fun _ _ => rfl)) (by rfl) (Or.inl rfl))
      (@pss_cons _ _ _ _ _ (@ps_set _ _ 12 _ _ _ _ nd rfl (Or.inl rfl) (@pe_op _ _ _ _ _ _ _ _ op_rep (@pe_lst _ _ _ _ (@pa_cons _ _ _ _ _ (@pe_tup _ _ _ _ _ (@pa_cons _ _ _ _ _ pe_str (@pa_cons _ _ _ _ _ (pe_ix (ix_list' (K := K) rfl) (pv 1) (@pe_op _ _ _ _ _ _ _ _ op_sub (pv 6) pe_int) (fun _ _ => rfl)) (@pa_cons _ _ _ _ _ (@pe_tup _ _ _ _ _ (@pa_cons _ _ _ _ _ (pv 3) pa_nil (by rfl))) pa_nil (by rfl)) (by rfl)) (by rfl))) pa_nil (by rfl))) (@pe_op _ _ _ _ _ _ _ _ op_add pe_int (@pe_op _ _ _ _ _ _ _ _ op_modN (@pe_op _ _ _ _ _ _ _ _ op_fdivB (pv 8) pe_int) pe_int))) (by rfl) (Or.inl rfl))
      (@pss_cons _ _ _ _ _ (ps_expr (pe_bm PySem.F.plainAttrs_list PySem.F.slot_list_append PySem.F.type_list_append mt_append (pv 9) (@pa_cons _ _ _ _ _ (@pe_tup _ _ _ _ _ (@pa_cons _ _ _ _ _ pe_str (@pa_cons _ _ _ _ _ (pv 11) (@pa_cons _ _ _ _ _ (pe_callTy (call_tuple_of' (K := K) rfl) (by rfl) T.z_tuple bt_tuple (@pa_cons _ _ _ _ _ (pv 12) pa_nil (by rfl))) pa_nil (by rfl)) (by rfl)) (by rfl))) pa_nil (by rfl))))
      (@pss_one _ _ _ (@ps_set _ _ 10 _ _ _ _ nd rfl (Or.inl rfl) (@pe_op _ _ _ _ _ _ _ _ op_add (pv 10) (@pe_op _ _ _ _ _ _ _ _ op_mulB (@pe_op _ _ _ _ _ _ _ _ op_mulB (pv 11) (pe_callB (call_len' (K := K) rfl) (by rfl) T.z_len PySem.boot_len (@pa_cons _ _ _ _ _ (pv 12) pa_nil (by rfl)))) (pe_ix (ix_list' (K := K) rfl) (pv 5) (pe_un un_neg pe_int) (fun _ _ => rfl)))) (by rfl) (Or.inl rfl)))))) pss_nil)
      (@pss_cons _ _ _ _ _ (ps_expr (pe_bm PySem.F.plainAttrs_list PySem.F.slot_list_append PySem.F.type_list_append mt_append (pv 4) (@pa_cons _ _ _ _ _ (@pe_tup _ _ _ _ _ (@pa_cons _ _ _ _ _ (pe_ix (ix_list' (K := K) rfl) (pv 1) (pv 6) (fun _ _ => rfl)) (@pa_cons _ _ _ _ _ (@pe_tup _ _ _ _ _ (@pa_cons _ _ _ _ _ (pv 3) pa_nil (by rfl))) (@pa_cons _ _ _ _ _ (pe_callTy (call_tuple_of' (K := K) rfl) (by rfl) T.z_tuple bt_tuple (@pa_cons _ _ _ _ _ (pv 9) pa_nil (by rfl))) pa_nil (by rfl)) (by rfl)) (by rfl))) pa_nil (by rfl))))
      (@pss_one _ _ _ (ps_expr (pe_bm PySem.F.plainAttrs_list PySem.F.slot_list_append PySem.F.type_list_append mt_append (pv 5) (@pa_cons _ _ _ _ _ (pv 10) pa_nil (by rfl)))))))))))
      (@pss_one _ _ _ (ps_ret (@pe_lst _ _ _ _ (@pa_cons _ _ _ _ _ (pv 4) (@pa_cons _ _ _ _ _ (pv 5) pa_nil (by rfl)) (by rfl))))))))), ?_⟩
    refine ⟨sz (by simp), fun R hR0 => ?_⟩
    have t1 := Same.upd (o := .lst []) hR0
    refine ⟨sz (by simp), fun C hC0 => ?_⟩
    have t2 := Same.upd (o := .lst []) hC0
    have fC : H C = none := t1.free hC0
    have nRC : R ≠ C := by rintro rfl; rw [upd_same] at hC0; cases hC0
    refine ⟨_, rfl, a, _, rfl, SqL.of (t2 _ _ (t1 _ _ ha)), ?_⟩
    refine for_enum (xs := ms.map V.int) (fun j σ H1 => ∃ (v6 v7 v8 v9 v10 v11 v12 : Option V) (rv : List V), σ = [some (.ref a), some (.ref b), some (.str y), some (.str ZZ), some (.ref R), some (.ref C), v6, v7, v8, v9, v10, v11, v12] ∧ Same H H1 ∧ H1 R = some (.lst rv) ∧ H1 C = some (.lst (((List.range j).map (ct ms)).map V.int)) ∧ Paired (R1V ZZ y H1) rv ((List.range j).map (rl ms zs))) ⟨none, none, none, none, none, none, none, [], rfl, t1.trans t2, t2 _ _ upd_same, upd_same, .nil⟩ ?_ ?_ ?_
    · rintro j σ H1 hj ⟨v6, v7, v8, v9, v10, v11, v12, rv, rfl, s1, _⟩
      exact SqL.of (s1 _ _ ha)
    · rintro j w T0 σ H1 hw ⟨v6, v7, v8, v9, v10, v11, v12, rv, rfl, s1, hR1, hC1, hP⟩ hT
      rw [List.getElem?_map] at hw
      obtain ⟨c, hc, rfl⟩ := Option.map_eq_some_iff.mp hw
      have hj : j < ms.length := (List.getElem?_eq_some_iff.mp hc).1
      have ec : ms.getD j 0 = c := by rw [List.getD_eq_getElem?_getD, hc]; rfl
      have tT := Same.upd (o := .tup [.int (j : Nat), .int c]) hT
      have rvl : rv.length = j := by rw [hP.length, List.length_map, List.length_range]
      refine ⟨T0, _, rfl, SqT.of upd_same, rfl, _, _, rfl, _, _, rfl, rfl, ?_⟩
      have q3 := fmod_lt (c := c) (m := 3) (by decide)
      refine ⟨_, rfl, _, _, rfl, rfl, IntMulOk.of_left (by decide), _, rfl, _, _, rfl, rfl, 64 * c + (j : Nat), rfl, ?_⟩
      refine ⟨_, rfl, _, rfl, sz (by simp), fun q1 h1 => ⟨sz (by simp), fun q2 h2 => ⟨sz (by simp), fun q3' h3 => ⟨_, rfl, _, _, rfl, rfl, (show (3 : Int) ≠ 0 by decide), _, _, rfl, rfl, q3', _, _, rfl, rfl, upd_same, by omega, by omega, sz (by simp; omega), fun q4 h4 => ?_⟩⟩⟩⟩
      have u1 := Same.upd (o := .tup [.int 1, .int 2]) h1
      have u2 := Same.upd (o := .tup [.str (Str.ofString "part"), .str ZZ, .str y, .ref q1]) h2
      have u3 := Same.upd (o := .lst [.ref q2]) h3
      have u4 := Same.upd (o := .lst (List.replicate (1 + c.fmod 3).toNat [V.ref q2]).flatten) h4
      have hD4 := mkS4 (o := .lst (List.replicate (1 + c.fmod 3).toNat [V.ref q2]).flatten) h4
      have f4 : H1 q4 = none := (tT.trans (u1.trans (u2.trans u3))).free h4
      have s4 := tT.trans (u1.trans (u2.trans (u3.trans u4)))
      have hpt := mkPt (x := ZZ) (y := y) (u3.trans u4) upd_same (u2 _ _ upd_same)
      have hPp := paired_rep (F := K2V _ ZZ y) (ys := [K2.one .pt]) (.cons hpt .nil) (1 + c.fmod 3).toNat
      have hp1 : pn ms j = 1 + c.fmod 3 := by unfold pn; rw [ec]
      have lr1 : (List.replicate (1 + c.fmod 3).toNat [V.ref q2]).flatten.length ≤ 3 := by rw [len_rep]; simp; omega
      have hN : nb ms j = mxd (64 * c + (j : Nat)) := by unfold nb; rw [ec]
      refine ⟨_, rfl, _, _, rfl, rfl, (show (3 : Int) ≠ 0 by decide), _, _, rfl, rfl, ?_⟩
      refine ⟨_, rfl, _, _, rfl, rfl, _, rfl, ?_⟩
      refine ite2 (fun h => ?go1) (fun h => ?go2)
      case' go2 =>
        have hj0 : j = 0 := by
          have : ¬ (0 : Int) < (j : Nat) := fun z => h (decide_eq_true z)
          omega
        have ecnt : 1 + c.fmod 3 = ct ms j := by rw [← hp1, hj0]; rfl
        have erl : (rl ms zs j).2 = (List.replicate (1 + c.fmod 3).toNat [K2.one .pt]).flatten := by rw [rl_0 hj0, hp1]
        rw [← erl] at hPp
        have hPd := hPp
        have sx := s4
        have hD := hD4
        have ul : (List.replicate (1 + c.fmod 3).toNat [V.ref q2]).flatten.length ≤ 4 := by omega
        generalize (List.replicate (1 + c.fmod 3).toNat [V.ref q2]).flatten = us at *
      case' go1 =>
        have hj0 : 0 < j := by
          have : (0 : Int) < (j : Nat) := of_decide_eq_true h
          omega
        let N : Int := mxd (64 * c + (j : Nat))
        have dN := don_in N
        have mN := mny_in N
        refine ⟨_, rfl, _, _, rfl, rfl, dd (by decide) (by decide), _, _, rfl, rfl, (show (61 : Int) ≠ 0 by decide), sz (by simp), fun l1 hl1 => ⟨_, rfl, _, _, rfl, rfl, (show (5 : Int) ≠ 0 by decide), l1, _, _, _, rfl, rfl, SqL.of upd_same, mny_at N, ?_⟩⟩
        have w1 := Same.upd (o := .lst [V.int 0, .int 1, .int 1, .int 2, .int ((N.fdiv 6).fmod 61)]) hl1
        have s5 := s4.trans w1
        have hz := at_pred (zs := zs) hj0 (by omega)
        refine ⟨_, rfl, _, rfl, _, _, rfl, rfl, b, _, _, _, rfl, rfl, SqL.of (s5 _ _ (s1 _ _ hb)), hz, _, rfl, sz (by simp), fun q5 h5 => ⟨sz (by simp), fun q6 h6 => ⟨sz (by simp), fun q7 h7 => ⟨_, rfl, _, _, rfl, rfl, dd (by decide) (by decide), _, _, rfl, rfl, (show (2 : Int) ≠ 0 by decide), _, _, rfl, rfl, q7, don N, _, rfl, rfl, upd_same, by omega, by omega, sz (by simp; omega), fun q8 h8 => ?_⟩⟩⟩⟩
        have w5 := Same.upd (o := .tup [.str ZZ]) h5
        have w6 := Same.upd (o := .tup [.str (Str.ofString "do"), .str (zs.getD (j - 1) ZZ), .ref q5]) h6
        have w7 := Same.upd (o := .lst [.ref q6]) h7
        have w8 := Same.upd (o := .lst (List.replicate (don N).toNat [V.ref q6]).flatten) h8
        have w18 := w1.trans (w5.trans (w6.trans (w7.trans w8)))
        have s8 := s4.trans w18
        have hdo := mkDo (r := zs.getD (j - 1) ZZ) (z := ZZ) (w7.trans w8) upd_same (w6 _ _ upd_same)
        have hDo := paired_rep (F := K1V _ ZZ y) (ys := [K1.dd (zs.getD (j - 1) ZZ)]) (.cons hdo .nil) (don N).toNat
        have hq4a := w18 _ _ hD4
        have nq84 : q8 ≠ q4 := ne_none h8 ((w1.trans (w5.trans (w6.trans w7))) _ _ hD4)
        refine ⟨_, rfl, .inl ⟨rfl, _, SqL.of hq4a⟩, _, rfl, _, rfl, q8, _, rfl, .inl ⟨SqL.of upd_same, fun q9 h9 => ⟨sz (by simp), fun q10 h10 => ?_⟩⟩⟩
        have w9 := Same.upd (o := .tup (List.replicate (don N).toNat [V.ref q6]).flatten) h9
        have w10 := Same.upd (o := .tup [.str (Str.ofString "times"), .int (mny N), .ref q9]) h10
        have w910 := w9.trans w10
        have hq4b := w910 _ _ hq4a
        refine ⟨q4, _, _, rfl, rfl, hq4b, sz (by omega), ?_⟩
        have tq := ts_updL (o := .lst ((List.replicate (1 + c.fmod 3).toNat [V.ref q2]).flatten ++ [V.ref q10])) hq4b
        have htm := mkTm (F := ZZ) (y := y) (n := mny N) (tq _ _ upd_same) (tq _ _ (w10 _ _ upd_same)) (Paired.mapP hDo fun _ _ h => K1V.ts (fun c xs e => tq c xs (w910 c _ e)) h)
        have hPd := Paired.app (Paired.mapP hPp fun _ _ h => K2V.ts (fun c xs e => tq c xs ((w18.trans w910) c _ e)) h) (.cons htm .nil)
        have erl : (rl ms zs j).2 = (List.replicate (1 + c.fmod 3).toNat [K2.one .pt]).flatten ++ [K2.tm (mny N) (List.replicate (don N).toNat [K1.dd (zs.getD (j - 1) ZZ)]).flatten] := by rw [rl_pos hj0, hp1, hN]
        rw [← erl] at hPd
        have sx := (s8.trans w910).updD (o := .lst ((List.replicate (1 + c.fmod 3).toNat [V.ref q2]).flatten ++ [V.ref q10])) f4
        have hD := mkS4 (o := .lst ((List.replicate (1 + c.fmod 3).toNat [V.ref q2]).flatten ++ [V.ref q10])) hq4b
        have el : (((List.replicate (don N).toNat [V.ref q6]).flatten.length : Nat) : Int) = don N := by rw [len_rep]; simp; omega
        have hCx := sx _ _ hC1
        have hq8 := w910 _ _ (mkS4 (o := .lst (List.replicate (don N).toNat [V.ref q6]).flatten) h8)
        have hq8x := keepL (o' := .lst ((List.replicate (1 + c.fmod 3).toNat [V.ref q2]).flatten ++ [V.ref q10])) nq84 hq8
        have hct := ct_bits ms (k := j - 1) (by omega)
        refine ⟨_, rfl, _, rfl, _, rfl, _, _, rfl, .inl ⟨_, SqL.of hq8x, rfl⟩, _, _, rfl, rfl, (by rw [el]; exact mulOk_of 64 (Nat.lt_of_le_of_lt (m := 60) (by omega) (by decide)) (Nat.lt_of_le_of_lt (m := 2) (by omega) (by decide)) (by decide)), _, rfl, _, rfl, C, _, _, _, rfl, rfl, SqL.of hCx, at_lastc hj0, _, _, rfl, rfl, ?mul, _, _, rfl, rfl, ?_⟩
        case mul =>
          rw [el]
          have := md_in N
          exact mulOk_of 400 (Nat.lt_of_le_of_lt (m := 120) (by omega) (by decide)) (Nat.lt_trans hct (by decide)) (by decide)
        have ecnt : 1 + c.fmod 3 + mny N * (((List.replicate (don N).toNat [V.ref q6]).flatten.length : Nat) : Int) * ct ms (j - 1) = ct ms j := by rw [el, ct_pos hj0, hp1, hN]
        have ul : ((List.replicate (1 + c.fmod 3).toNat [V.ref q2]).flatten ++ [V.ref q10]).length ≤ 4 := by rw [List.length_append]; simp only [List.length_singleton]; omega
        generalize ((List.replicate (1 + c.fmod 3).toNat [V.ref q2]).flatten ++ [V.ref q10]) = us at *
      all_goals
        have hbx := sx _ _ (s1 _ _ hb)
        have hRx := sx _ _ hR1
        refine ⟨_, rfl, .inl ⟨rfl, _, SqL.of hRx⟩, _, rfl, _, rfl, b, _, _, _, rfl, rfl, SqL.of hbx, at_nm (by omega), _, rfl, sz (by simp), fun q11 h11 => ?_⟩
        have x11 := Same.upd (o := .tup [.str ZZ]) h11
        refine ⟨_, rfl, q4, _, rfl, .inl ⟨SqL.of (x11 _ _ hD), fun q12 h12 => ⟨sz (by simp), fun q13 h13 => ?_⟩⟩⟩
        have x12 := Same.upd (o := .tup us) h12
        have x13 := Same.upd (o := .tup [.str (zs.getD j ZZ), .ref q11, .ref q12]) h13
        have sy := sx.trans (x11.trans (x12.trans x13))
        have hRy := sy _ _ hR1
        have hCy := sy _ _ hC1
        refine ⟨R, _, _, rfl, rfl, hRy, sz (by omega), ?_⟩
        have tR := ts_updL (o := .lst (rv ++ [V.ref q13])) hRy
        have hCz := keepL (o' := .lst (rv ++ [V.ref q13])) nRC.symm hCy
        refine ⟨_, rfl, .inl ⟨rfl, _, SqL.of hCz⟩, _, rfl, C, _, _, rfl, rfl, hCz, by rw [List.length_map, List.length_map, List.length_range]; exact sz (by omega), ?_⟩
        refine ⟨_, _, _, _, _, _, _, rv ++ [.ref q13], rfl, ((s1.trans sy).updD hR0).updD fC, keepL nRC upd_same, ?_, ?_⟩
        · rw [upd_same, List.range_succ, List.map_append, List.map_append, List.map_singleton, List.map_singleton, ← ecnt]
        · rw [List.range_succ, List.map_append]
          refine Paired.app (Paired.mapP hP fun _ _ h => h.ts (fun c xs e => ts_updL hCz c xs (tR c xs (sy c _ e)))) (.cons ?_ .nil)
          exact ⟨q13, q11, q12, us, rfl, ts_updL hCz _ _ (tR _ _ upd_same), ts_updL hCz _ _ (tR _ _ (x13 _ _ (x12 _ _ upd_same))), ts_updL hCz _ _ (tR _ _ (x13 _ _ upd_same)), Paired.mapP hPd fun _ _ h => h.ts (fun c xs e => ts_updL hCz c xs (tR c xs ((x11.trans (x12.trans x13)) c _ e)))⟩
    · rintro σ H1 ⟨v6, v7, v8, v9, v10, v11, v12, rv, rfl, s1, hR1, hC1, hP⟩
      have el : (ms.map V.int).length = ms.length := List.length_map ..
      rw [el] at hC1 hP
      refine ⟨_, rfl, _, rfl, sz (by simp), fun p hp => ?_⟩
      have tp := Same.upd (o := .lst [.ref R, .ref C]) hp
      exact k p R C rv _ (s1.trans tp) upd_same (tp _ _ hR1) (tp _ _ hC1) (Paired.mapP hP fun _ _ h => h.ts tp.ts)
end
end T10
namespace T10
open PySem L2 Tc
section
variable {P : Program} {w : World} {K : PySem.W.Frag} {mg : Str → Option Value} {base : Heap}
noncomputable abbrev s_law : Stmt := top 38
theorem sc_law : FnScope ["_law_script", "_law_number", "_law_x", "_law_y", "_law_house", "_law_names_here", "_law_rules_here", "_law_counts", "_law_cell", "_law_one", "_law_deeds", "_law_count", "_law_many", "_law_made", "_law_found", "_law_kinds"] ["_law_script"] (defScope s_law) := ⟨rfl, rfl, rfl, by decide +kernel, rfl, by decide +kernel, by decide +kernel⟩
theorem ok_law {ca : Ca} {f : Addr} {fd : FuncData} (D : Fun K "law" "law" s_law f fd) (T : Txt K mg ca) (G__law_mixed : FnAt P w K mg base CX0 1 "_law_mixed" ["_law_cell"] (spMixE)) (G__law_cell_at : FnAt P w K mg base CX0 1 "_law_cell_at" ["_law_script", "_law_k"] (spCell K)) (G__law_names : FnAt P w K mg base CX0 2 "_law_names" ["_law_number", "_law_many"] (spNam2)) (G__law_rules : FnAt P w K mg base CX0 2 "_law_rules" ["_law_cells", "_law_names_here", "_law_y"] (spRules K)) (G_look : FnAt P w K mg base CX0 6 "look" ["house", "script"] (spLook K)) (G__law_told : FnAt P w K mg base CX0 7 "_law_told" ["_law_house", "_law_made"] (spTold K)) (G__law_only : FnAt P w K mg base CX0 1 "_law_only" ["_law_place"] (spOnly)) : FnOk P w K mg base CX0 8 f fd ["_law_script"] (spLaw K) := by
  refine D.ok sc_law (fun vs H Q E h => ?_) (fun cdv A outer s H vs Q E hr h => ?_)
  · obtain ⟨a, ns, rfl, hS, hlen, k⟩ := h; rfl
  · obtain ⟨a, ns, rfl, hS, hlen, k⟩ := h
    have nd := sc_law.nd
    refine ⟨_, (@pss_cons _ _ _ _ _ (@ps_set _ _ 1 _ _ _ _ nd rfl (Or.inl rfl) (pe_fn G__law_mixed hr (by rfl) pass0 (@pa_cons _ _ _ _ _ (pe_fn G__law_cell_at hr (by rfl) pass0 (@pa_cons _ _ _ _ _ (pv 0) (@pa_cons _ _ _ _ _ pe_int pa_nil (by rfl)) (by rfl))) pa_nil (by rfl))) (by rfl) (Or.inl rfl))
      (@pss_cons _ _ _ _ _ (ps_asg (pe_fn G__law_names hr (by rfl) pass0 (@pa_cons _ _ _ _ _ (@pe_op _ _ _ _ _ _ _ _ op_mulB (@pe_op _ _ _ _ _ _ _ _ op_fdivB (pv 1) pe_int) pe_int) (@pa_cons _ _ _ _ _ pe_int pa_nil (by rfl)) (by rfl))) (pg_lst (K := K) rfl rfl (pgs_cons (pg_name (i := 2) nd rfl (Or.inl rfl)) (pgs_cons (pg_name (i := 3) nd rfl (Or.inl rfl)) pgs_nil))))
      (@pss_cons _ _ _ _ _ (@ps_set _ _ 4 _ _ _ _ nd rfl (Or.inl rfl) (@pe_lst _ _ _ _ (@pa_cons _ _ _ _ _ (@pe_tup _ _ _ _ _ (@pa_cons _ _ _ _ _ pe_str (@pa_cons _ _ _ _ _ (pv 2) (@pa_cons _ _ _ _ _ (@pe_tup _ _ _ _ _ (@pa_cons _ _ _ _ _ pe_int (@pa_cons _ _ _ _ _ pe_int pa_nil (by rfl)) (by rfl))) pa_nil (by rfl)) (by rfl)) (by rfl))) (@pa_cons _ _ _ _ _ (pe_ix (ix_list' (K := K) rfl) (@pe_lst _ _ _ _ (@pa_cons _ _ _ _ _ (@pe_tup _ _ _ _ _ (@pa_cons _ _ _ _ _ pe_str (@pa_cons _ _ _ _ _ (pv 3) pa_nil (by rfl)) (by rfl))) (@pa_cons _ _ _ _ _ (@pe_tup _ _ _ _ _ (@pa_cons _ _ _ _ _ pe_str (@pa_cons _ _ _ _ _ (pv 3) (@pa_cons _ _ _ _ _ (@pe_tup _ _ _ _ _ (@pa_cons _ _ _ _ _ pe_int (@pa_cons _ _ _ _ _ pe_int pa_nil (by rfl)) (by rfl))) pa_nil (by rfl)) (by rfl)) (by rfl))) pa_nil (by rfl)) (by rfl))) (@pe_op _ _ _ _ _ _ _ _ op_modN (pv 1) pe_int) (fun _ _ => rfl)) pa_nil (by rfl)) (by rfl))) (by rfl) (Or.inl rfl))
      (@pss_cons _ _ _ _ _ (@ps_set _ _ 5 _ _ _ _ nd rfl (Or.inl rfl) (pe_fn G__law_names hr (by rfl) pass0 (@pa_cons _ _ _ _ _ (@pe_op _ _ _ _ _ _ _ _ op_add (@pe_op _ _ _ _ _ _ _ _ op_mulB (@pe_op _ _ _ _ _ _ _ _ op_fdivB (pv 1) pe_int) pe_int) pe_int) (@pa_cons _ _ _ _ _ pe_int pa_nil (by rfl)) (by rfl))) (by rfl) (Or.inl rfl))
      (@pss_cons _ _ _ _ _ (ps_asg (pe_fn G__law_rules hr (by rfl) pass0 (@pa_cons _ _ _ _ _ (pe_slice (sl_list' (K := K) rfl) (pv 0) (po_some pe_int) (po_some pe_int)) (@pa_cons _ _ _ _ _ (pv 5) (@pa_cons _ _ _ _ _ (pv 3) pa_nil (by rfl)) (by rfl)) (by rfl))) (pg_lst (K := K) rfl rfl (pgs_cons (pg_name (i := 6) nd rfl (Or.inl rfl)) (pgs_cons (pg_name (i := 7) nd rfl (Or.inl rfl)) pgs_nil))))
      (@pss_cons _ _ _ _ _ (@ps_set _ _ 8 _ _ _ _ nd rfl (Or.inl rfl) (pe_fn G__law_cell_at hr (by rfl) pass0 (@pa_cons _ _ _ _ _ (pv 0) (@pa_cons _ _ _ _ _ pe_int pa_nil (by rfl)) (by rfl))) (by rfl) (Or.inl rfl))
      (@pss_cons _ _ _ _ _ (ps_if (PW.pt (pw_or (pt_cmpR op_eq (@pe_op _ _ _ _ _ _ _ _ op_modN (pv 8) pe_int) pe_int (nomark _)) (pw_or1 (pt_cmpR (op_eqE' (K := K) rfl hr) (pv 6) (@pe_lst _ _ _ _ pa_nil) (nomark _))))) (@pss_cons _ _ _ _ _ (@ps_set _ _ 9 _ _ _ _ nd rfl (Or.inl rfl) (@pe_tup _ _ _ _ _ (@pa_cons _ _ _ _ _ pe_str (@pa_cons _ _ _ _ _ (pv 2) (@pa_cons _ _ _ _ _ (pv 3) (@pa_cons _ _ _ _ _ (@pe_tup _ _ _ _ _ (@pa_cons _ _ _ _ _ pe_int (@pa_cons _ _ _ _ _ pe_int pa_nil (by rfl)) (by rfl))) pa_nil (by rfl)) (by rfl)) (by rfl)) (by rfl))) (by rfl) (Or.inl rfl))
      (@pss_cons _ _ _ _ _ (@ps_set _ _ 10 _ _ _ _ nd rfl (Or.inl rfl) (@pe_op _ _ _ _ _ _ _ _ op_cat (@pe_lst _ _ _ _ (@pa_cons _ _ _ _ _ (@pe_tup _ _ _ _ _ (@pa_cons _ _ _ _ _ pe_str (@pa_cons _ _ _ _ _ pe_int (@pa_cons _ _ _ _ _ (@pe_op _ _ _ _ _ _ _ _ (op_repT (K := K) rfl) (@pe_tup _ _ _ _ _ (@pa_cons _ _ _ _ _ (pv 9) pa_nil (by rfl))) pe_int) pa_nil (by rfl)) (by rfl)) (by rfl))) pa_nil (by rfl))) (@pe_op _ _ _ _ _ _ _ _ op_rep (@pe_lst _ _ _ _ (@pa_cons _ _ _ _ _ (pv 9) pa_nil (by rfl))) (@pe_op _ _ _ _ _ _ _ _ op_modN (@pe_op _ _ _ _ _ _ _ _ op_fdivB (pv 8) pe_int) pe_int))) (by rfl) (Or.inl rfl))
      (@pss_one _ _ _ (@ps_set _ _ 11 _ _ _ _ nd rfl (Or.inl rfl) (@pe_op _ _ _ _ _ _ _ _ op_add pe_int (@pe_op _ _ _ _ _ _ _ _ op_modN (@pe_op _ _ _ _ _ _ _ _ op_fdivB (pv 8) pe_int) pe_int)) (by rfl) (Or.inl rfl))))) (@pss_cons _ _ _ _ _ (@ps_set _ _ 12 _ _ _ _ nd rfl (Or.inl rfl) (@pe_op _ _ _ _ _ _ _ _ op_modN (@pe_op _ _ _ _ _ _ _ _ op_fdivB (pv 8) pe_int) pe_int) (by rfl) (Or.inl rfl))
      (@pss_cons _ _ _ _ _ (@ps_set _ _ 10 _ _ _ _ nd rfl (Or.inl rfl) (@pe_lst _ _ _ _ (@pa_cons _ _ _ _ _ (@pe_tup _ _ _ _ _ (@pa_cons _ _ _ _ _ pe_str (@pa_cons _ _ _ _ _ (pv 12) (@pa_cons _ _ _ _ _ (@pe_tup _ _ _ _ _ (@pa_cons _ _ _ _ _ (@pe_tup _ _ _ _ _ (@pa_cons _ _ _ _ _ pe_str (@pa_cons _ _ _ _ _ (pe_ix (ix_tup' (K := K) rfl) (pe_ix (ix_list' (K := K) rfl) (pv 6) (pe_un un_neg pe_int) (fun _ _ => rfl)) pe_int (fun _ _ => rfl)) (@pa_cons _ _ _ _ _ (@pe_tup _ _ _ _ _ (@pa_cons _ _ _ _ _ (pv 2) pa_nil (by rfl))) pa_nil (by rfl)) (by rfl)) (by rfl))) pa_nil (by rfl))) pa_nil (by rfl)) (by rfl)) (by rfl))) pa_nil (by rfl))) (by rfl) (Or.inl rfl))
      (@pss_one _ _ _ (@ps_set _ _ 11 _ _ _ _ nd rfl (Or.inl rfl) (@pe_op _ _ _ _ _ _ _ _ op_mulB (pv 12) (pe_ix (ix_list' (K := K) rfl) (pv 7) (pe_un un_neg pe_int) (fun _ _ => rfl))) (by rfl) (Or.inl rfl))))))
      (@pss_cons _ _ _ _ _ (@ps_set _ _ 13 _ _ _ _ nd rfl (Or.inl rfl) (@pe_tup _ _ _ _ _ (@pa_cons _ _ _ _ _ (pe_callTy (call_tuple_of' (K := K) rfl) (by rfl) T.z_tuple bt_tuple (@pa_cons _ _ _ _ _ (pv 6) pa_nil (by rfl))) (@pa_cons _ _ _ _ _ (pe_callTy (call_tuple_of' (K := K) rfl) (by rfl) T.z_tuple bt_tuple (@pa_cons _ _ _ _ _ (pv 10) pa_nil (by rfl))) pa_nil (by rfl)) (by rfl))) (by rfl) (Or.inl rfl))
      (@pss_cons _ _ _ _ _ (ps_if (pt_cmpR op_notN (pe_fn G_look hr (by rfl) pass0 (@pa_cons _ _ _ _ _ (pv 4) (@pa_cons _ _ _ _ _ (pv 13) pa_nil (by rfl)) (by rfl))) pe_non (nomark _)) (@pss_one _ _ _ (ps_ret pe_bl)) pss_nil)
      (@pss_cons _ _ _ _ _ (ps_asg (pe_fn G__law_told hr (by rfl) pass0 (@pa_cons _ _ _ _ _ (pv 4) (@pa_cons _ _ _ _ _ (pv 13) pa_nil (by rfl)) (by rfl))) (pg_tup rfl (pgs_cons (pg_name (i := 14) nd rfl (Or.inl rfl)) (pgs_cons (pg_name (i := 15) nd rfl (Or.inl rfl)) pgs_nil))))
      (@pss_cons _ _ _ _ _ (ps_if (pt_cmpR op_gt (pv 11) pe_int (nomark _)) (@pss_one _ _ _ (ps_ret (pe_cmpR (op_eqD' (K := K) rfl hr) (pv 15) (pe_fn G__law_only hr (by rfl) pass0 (@pa_cons _ _ _ _ _ pe_int pa_nil (by rfl))) (nomark _)))) pss_nil)
      (@pss_one _ _ _ (ps_ret (pe_and (pe_cmpR (op_eqE' (K := K) rfl hr) (pv 15) (@pe_lst _ _ _ _ pa_nil) (nomark _)) (pe_and (pe_callB (call_isi' (K := K) rfl) (by rfl) T.z_isinstance bt_isinstance (@pa_cons _ _ _ _ _ (pv 14) (@pa_cons _ _ _ _ _ (pe_bltn (v := .ty "list") (by rfl) T.z_list bt_list rfl) pa_nil (by rfl)) (by rfl))) (pe_one (pe_cmpR (op_eqD' (K := K) rfl hr) (pv 14) (@pe_op _ _ _ _ _ _ _ _ op_rep (@pe_lst _ _ _ _ (@pa_cons _ _ _ _ _ (@pe_tup _ _ _ _ _ (@pa_cons _ _ _ _ _ pe_str (@pa_cons _ _ _ _ _ (pv 2) (@pa_cons _ _ _ _ _ (pv 3) (@pa_cons _ _ _ _ _ (@pe_tup _ _ _ _ _ (@pa_cons _ _ _ _ _ pe_int (@pa_cons _ _ _ _ _ pe_int pa_nil (by rfl)) (by rfl))) pa_nil (by rfl)) (by rfl)) (by rfl)) (by rfl))) pa_nil (by rfl))) (pv 11)) (nomark _)))))))))))))))))), ?_⟩
    obtain ⟨ms, hms, hml, _⟩ := cut_ints ns (some ((2 : Nat) : Int)) (some ((21 : Nat) : Int))
    rw [HT.sIx_nat, HT.sIx_nat] at hml
    have hms' : cutV (ns.map V.int) (some 2) (some 21) = ms.map V.int := hms
    have hml' : ms.length ≤ 19 := by omega
    refine ⟨_, rfl, a, ns, 0, rfl, hS, by omega, fun c0 => ⟨c0, rfl, ?_⟩⟩
    have m1 : ((mxd c0).fdiv 4 * 4).fmod 4 ≠ 1 := by rw [Int.fmod_eq_emod_of_nonneg _ (by decide)]; omega
    have m2 : ((mxd c0).fdiv 3 * 4 + 2).fmod 4 ≠ 1 := by rw [Int.fmod_eq_emod_of_nonneg _ (by decide)]; omega
    refine ⟨_, rfl, _, _, rfl, rfl, dd (by decide) (by decide), _, _, rfl, rfl, IntMulOk.of_right (by decide), _, 2, rfl, m1, by decide, by decide, fun p1 H1 zs s1 _ hp1 hl1 nd1 hz1 => ?_⟩
    obtain ⟨x, y, rfl⟩ := two_of hl1
    have nxy : x ≠ y := by
      have := List.nodup_cons.mp nd1
      intro e
      exact this.1 (by rw [e]; exact .head _)
    obtain ⟨⟨lx, zx⟩, ⟨ly, zy⟩⟩ := (⟨hz1 x (.head _), hz1 y (.tail _ (.head _))⟩ : (Lay x ∧ x ≠ ZZ) ∧ (Lay y ∧ y ≠ ZZ))
    refine ⟨p1, _, rfl, SqL.of hp1, rfl, _, _, rfl, _, _, rfl, rfl, ?_⟩
    refine ⟨_, rfl, sz (by simp), fun a1 h1 => ⟨sz (by simp), fun a2 h2 => ⟨_, rfl, sz (by simp), fun a3 h3 => ⟨_, rfl, sz (by simp), fun a4 h4 => ⟨sz (by simp), fun a5 h5 => ⟨sz (by simp), fun a6 h6 => ?_⟩⟩⟩⟩⟩⟩
    have e1 := Same.upd (o := .tup [.int 7, .int 2]) h1
    have e2 := Same.upd (o := .tup [.str (Str.ofString "cask"), .str x, .ref a1]) h2
    have e3 := Same.upd (o := .tup [.str (Str.ofString "sink"), .str y]) h3
    have e4 := Same.upd (o := .tup [.int 1, .int 1]) h4
    have e5 := Same.upd (o := .tup [.str (Str.ofString "cask"), .str y, .ref a4]) h5
    have e6 := Same.upd (o := .lst [.ref a3, .ref a5]) h6
    obtain ⟨pq, kd, r2, hat, hpq⟩ := pick2 (mxd c0) ((e4.trans (e5.trans e6)) _ _ upd_same) (e6 _ _ upd_same)
    refine ⟨_, rfl, _, _, rfl, rfl, (show (2 : Int) ≠ 0 by decide), a6, _, _, _, rfl, rfl, SqL.of upd_same, hat, sz (by simp), fun hh h7 => ?_⟩
    have e7 := Same.upd (o := .lst [.ref a2, .ref pq]) h7
    have e37 := e3.trans (e4.trans (e5.trans (e6.trans e7)))
    have s2 := s1.trans (e1.trans (e2.trans e37))
    have hHs := mkHs (K := K) upd_same (e37 _ _ upd_same) (e7 _ _ hpq) nxy
    show Ends.nx _ [_, _, _, _, _, _, _, _, _, _, _, _, _, _, _, _] _
    refine ⟨_, rfl, _, _, rfl, rfl, dd (by decide) (by decide), _, _, rfl, rfl, IntMulOk.of_right (by decide), _, _, rfl, rfl, _, 19, rfl, m2, by decide, by decide, fun p2 H3 zn s3 _ hp2 hl2 nd2 hz2 => ?_⟩
    have hl2' : zn.length = 19 := by omega
    refine ⟨_, rfl, 2, rfl, 21, rfl, a, _, rfl, (s2.trans s3).seq hS, fun Cq hCq => ?_⟩
    rw [hms']
    have t4 := Same.upd (o := .lst (ms.map V.int)) hCq
    refine ⟨_, rfl, _, rfl, Cq, p2, y, ms, zn, rfl, upd_same, hml', t4 _ _ hp2, hl2', fun p5 R C rv H5 s5 hp5 hR5 hC5 hP5 => ?_⟩
    refine ⟨p5, _, rfl, SqL.of hp5, rfl, _, _, rfl, _, _, rfl, rfl, ?_⟩
    show Ends.nx _ [_, _, _, _, _, _, _, _, _, _, _, _, _, _, _, _] _
    have hHs5 := hHs.ts' (s3.trans (t4.trans s5))
    have s05 := s2.trans (s3.trans (t4.trans s5))
    have ah := rls_ah (ms := ms) (zs := zn) nd2 (by omega)
    refine ⟨_, rfl, a, ns, 1, rfl, s05.seq hS, by omega, fun c1 => ?_⟩
    have q33 := fmod_lt (c := c1.fdiv 3) (m := 3) (by decide)
    have q34 := fmod_lt (c := c1.fdiv 3) (m := 4) (by decide)
    have rvl : rv.length = ms.length := by
      have := hP5.length
      unfold rls at this
      rw [List.length_map, List.length_range] at this
      exact this
    have rl60 : (rls ms zn).length ≤ 60 := by
      unfold rls
      rw [List.length_map, List.length_range]
      omega
    obtain ⟨hcc, hmoR⟩ := facR (ms := ms) nd2 (by omega) (by omega)
    refine ⟨_, rfl, _, _, rfl, rfl, (show (3 : Int) ≠ 0 by decide), rfl, _, rfl, ?_⟩
    refine ite2 (fun h => ?A1) (fun h => ?rest)
    case' A1 =>
      refine iteT ?_
      have sA := Same.refl H5
    case' rest =>
      refine ⟨_, rfl, sz (by simp), fun pe he => ⟨R, pe, rv, rfl, rfl, SqL.of (Same.upd he _ _ hR5), SqL.of upd_same, _, rfl, ?_⟩⟩
      have sA := Same.upd (o := .lst []) he
      refine ite2 (fun h2 => ?A2) (fun h2 => ?B)
    case' A1 =>
      refine ⟨_, rfl, _, rfl, sz (by simp), fun o1 g1 => ⟨sz (by simp), fun o2 g2 => ?_⟩⟩
      refine ⟨_, rfl, sz (by simp), fun o3 g3 => ⟨o3, 4, [V.ref o2], rfl, rfl, SqT.of upd_same, by decide, by decide, by simp, by simp, fun o4 g4 => ⟨sz (by simp), fun o5 g5 => ⟨sz (by simp), fun o6 g6 => ?_⟩⟩⟩⟩
      refine ⟨_, rfl, sz (by simp), fun o7 g7 => ⟨_, rfl, _, _, rfl, rfl, dd (by decide) (by decide), _, _, rfl, rfl, (show (3 : Int) ≠ 0 by decide), o7, _, _, rfl, rfl, upd_same, by omega, by omega, sz (by simp; omega), fun o8 g8 => ?_⟩⟩
      have i1 := Same.upd (o := .tup [.int 1, .int 2]) g1
      have i2 := Same.upd (o := .tup [.str (Str.ofString "part"), .str x, .str y, .ref o1]) g2
      have i3 := Same.upd (o := .tup [.ref o2]) g3
      have i4 := Same.upd (o := .tup (List.replicate 4 [V.ref o2]).flatten) g4
      have i5 := Same.upd (o := .tup [.str (Str.ofString "times"), .int 50, .ref o4]) g5
      have i6 := Same.upd (o := .lst [.ref o5]) g6
      have i7 := Same.upd (o := .lst [.ref o2]) g7
      have i8 := Same.upd (o := .lst (List.replicate ((c1.fdiv 3).fmod 3).toNat [V.ref o2]).flatten) g8
      refine ⟨o6, o8, _, _, rfl, rfl, (i7.trans i8) _ _ upd_same, upd_same, sz (by rw [len_rep]; simp; omega), fun o9 g9 => ?_⟩
      have i9 := Same.upd (o := .lst ([V.ref o5] ++ (List.replicate ((c1.fdiv 3).fmod 3).toNat [V.ref o2]).flatten)) g9
      have hdl := mkS4 (o := .lst ([V.ref o5] ++ (List.replicate ((c1.fdiv 3).fmod 3).toNat [V.ref o2]).flatten)) g9
      have hpt := mkPt (x := x) (y := y) (i3.trans (i4.trans (i5.trans (i6.trans (i7.trans (i8.trans i9)))))) upd_same (i2 _ _ upd_same)
      have h4t := (i5.trans (i6.trans (i7.trans (i8.trans i9)))) _ _ (mkS4 (o := .tup (List.replicate 4 [V.ref o2]).flatten) g4)
      have h5t := (i6.trans (i7.trans (i8.trans i9))) _ _ (mkS4 (o := .tup [.str (Str.ofString "times"), .int 50, .ref o4]) g5)
      have hPd := Paired.app (.cons (mkTm h5t h4t (paired_rep (F := K1V _ x y) (ys := [K1.pt]) (.cons hpt .nil) 4)) .nil) (paired_rep (F := K2V _ x y) (ys := [K2.one .pt]) (.cons hpt .nil) ((c1.fdiv 3).fmod 3).toNat)
      have sx := sA.trans (i1.trans (i2.trans (i3.trans (i4.trans (i5.trans (i6.trans (i7.trans (i8.trans i9))))))))
      refine ⟨_, rfl, _, _, rfl, rfl, dd (by decide) (by decide), _, _, rfl, rfl, (show (3 : Int) ≠ 0 by decide), _, _, rfl, rfl, ?_⟩
      obtain ⟨hkn, hmo, hcn⟩ := facA (rls ms zn) (ccf ms zn) q33.1
      show Ends.nx _ [_, _, _, _, _, _, _, _, _, _, _, _, _, _, _, _] _
      obtain ⟨ds, eds⟩ : ∃ ds, ds = ([K2.tm 50 (List.replicate 4 [K1.pt]).flatten] ++ (List.replicate ((c1.fdiv 3).fmod 3).toNat [K2.one .pt]).flatten) := ⟨_, rfl⟩
      rw [← eds] at hPd hkn hmo hcn
      generalize [V.ref o5] ++ (List.replicate ((c1.fdiv 3).fmod 3).toNat [V.ref o2]).flatten = us at *
    case' A2 =>
      refine ⟨_, rfl, _, rfl, sz (by simp), fun o1 g1 => ⟨sz (by simp), fun o2 g2 => ?_⟩⟩
      refine ⟨_, rfl, sz (by simp), fun o3 g3 => ⟨o3, 4, [V.ref o2], rfl, rfl, SqT.of upd_same, by decide, by decide, by simp, by simp, fun o4 g4 => ⟨sz (by simp), fun o5 g5 => ⟨sz (by simp), fun o6 g6 => ?_⟩⟩⟩⟩
      refine ⟨_, rfl, sz (by simp), fun o7 g7 => ⟨_, rfl, _, _, rfl, rfl, dd (by decide) (by decide), _, _, rfl, rfl, (show (3 : Int) ≠ 0 by decide), o7, _, _, rfl, rfl, upd_same, by omega, by omega, sz (by simp; omega), fun o8 g8 => ?_⟩⟩
      have i1 := Same.upd (o := .tup [.int 1, .int 2]) g1
      have i2 := Same.upd (o := .tup [.str (Str.ofString "part"), .str x, .str y, .ref o1]) g2
      have i3 := Same.upd (o := .tup [.ref o2]) g3
      have i4 := Same.upd (o := .tup (List.replicate 4 [V.ref o2]).flatten) g4
      have i5 := Same.upd (o := .tup [.str (Str.ofString "times"), .int 50, .ref o4]) g5
      have i6 := Same.upd (o := .lst [.ref o5]) g6
      have i7 := Same.upd (o := .lst [.ref o2]) g7
      have i8 := Same.upd (o := .lst (List.replicate ((c1.fdiv 3).fmod 3).toNat [V.ref o2]).flatten) g8
      refine ⟨o6, o8, _, _, rfl, rfl, (i7.trans i8) _ _ upd_same, upd_same, sz (by rw [len_rep]; simp; omega), fun o9 g9 => ?_⟩
      have i9 := Same.upd (o := .lst ([V.ref o5] ++ (List.replicate ((c1.fdiv 3).fmod 3).toNat [V.ref o2]).flatten)) g9
      have hdl := mkS4 (o := .lst ([V.ref o5] ++ (List.replicate ((c1.fdiv 3).fmod 3).toNat [V.ref o2]).flatten)) g9
      have hpt := mkPt (x := x) (y := y) (i3.trans (i4.trans (i5.trans (i6.trans (i7.trans (i8.trans i9)))))) upd_same (i2 _ _ upd_same)
      have h4t := (i5.trans (i6.trans (i7.trans (i8.trans i9)))) _ _ (mkS4 (o := .tup (List.replicate 4 [V.ref o2]).flatten) g4)
      have h5t := (i6.trans (i7.trans (i8.trans i9))) _ _ (mkS4 (o := .tup [.str (Str.ofString "times"), .int 50, .ref o4]) g5)
      have hPd := Paired.app (.cons (mkTm h5t h4t (paired_rep (F := K1V _ x y) (ys := [K1.pt]) (.cons hpt .nil) 4)) .nil) (paired_rep (F := K2V _ x y) (ys := [K2.one .pt]) (.cons hpt .nil) ((c1.fdiv 3).fmod 3).toNat)
      have sx := sA.trans (i1.trans (i2.trans (i3.trans (i4.trans (i5.trans (i6.trans (i7.trans (i8.trans i9))))))))
      refine ⟨_, rfl, _, _, rfl, rfl, dd (by decide) (by decide), _, _, rfl, rfl, (show (3 : Int) ≠ 0 by decide), _, _, rfl, rfl, ?_⟩
      obtain ⟨hkn, hmo, hcn⟩ := facA (rls ms zn) (ccf ms zn) q33.1
      show Ends.nx _ [_, _, _, _, _, _, _, _, _, _, _, _, _, _, _, _] _
      obtain ⟨ds, eds⟩ : ∃ ds, ds = ([K2.tm 50 (List.replicate 4 [K1.pt]).flatten] ++ (List.replicate ((c1.fdiv 3).fmod 3).toNat [K2.one .pt]).flatten) := ⟨_, rfl⟩
      rw [← eds] at hPd hkn hmo hcn
      generalize [V.ref o5] ++ (List.replicate ((c1.fdiv 3).fmod 3).toNat [V.ref o2]).flatten = us at *
    case' B =>
      have hne : 0 < ms.length := by
        rcases Nat.eq_zero_or_pos ms.length with z | z
        · exfalso
          have e0 : rv = [] := List.eq_nil_of_length_eq_zero (by omega)
          subst e0
          exact h2 rfl
        · exact z
      obtain ⟨rv', v, erv⟩ : ∃ rv' v, rv = rv' ++ [v] := by
        rcases List.eq_nil_or_concat rv with z | ⟨L, b, z⟩
        · rw [z] at rvl; simp at rvl; omega
        · exact ⟨L, b, by simpa using z⟩
      have ev : rv[ms.length - 1]? = some v := by
        rw [erv, List.length_append, List.length_singleton] at rvl
        rw [erv, List.getElem?_append_right (by omega)]
        have : ms.length - 1 - rv'.length = 0 := by omega
        rw [this]; rfl
      obtain ⟨r, hr, hv⟩ := paired_get hP5 ev
      have er : rl ms zn (ms.length - 1) = r := by
        unfold rls at hr
        rw [List.getElem?_map, List.getElem?_range (by omega)] at hr
        exact Option.some.inj hr
      subst er
      obtain ⟨ra, rb, rc, us1, rfl, hra, hrb, hrc, hP1⟩ := hv
      have hlast : atI rv (-1) = some (V.ref ra) := by rw [erv]; exact atI_last _ _
      refine ⟨_, rfl, _, _, rfl, rfl, dd (by decide) (by decide), _, _, rfl, rfl, (show (4 : Int) ≠ 0 by decide), ?_⟩
      refine ⟨_, rfl, _, rfl, _, rfl, R, _, _, _, rfl, rfl, SqL.of (sA _ _ hR5), hlast, ra, _, 0, _, rfl, rfl, SqT.of (sA _ _ hra), rfl, _, rfl, sz (by simp), fun o1 g1 => ⟨sz (by simp), fun o2 g2 => ⟨sz (by simp), fun o3 g3 => ⟨sz (by simp), fun o4 g4 => ⟨sz (by simp), fun o9 g9 => ?_⟩⟩⟩⟩⟩
      have i1 := Same.upd (o := .tup [.str x]) g1
      have i2 := Same.upd (o := .tup [.str (Str.ofString "do"), .str (zn.getD (ms.length - 1) ZZ), .ref o1]) g2
      have i3 := Same.upd (o := .tup [.ref o2]) g3
      have i4 := Same.upd (o := .tup [.str (Str.ofString "times"), .int ((c1.fdiv 3).fmod 4), .ref o3]) g4
      have i9 := Same.upd (o := .lst [.ref o4]) g9
      have hdl := mkS4 (o := .lst [.ref o4]) g9
      have hdo := mkDo (r := zn.getD (ms.length - 1) ZZ) (z := x) (i3.trans (i4.trans i9)) upd_same (i2 _ _ upd_same)
      have h3t := (i4.trans i9) _ _ (mkS4 (o := .tup [.ref o2]) g3)
      have h4t := i9 _ _ (mkS4 (o := .tup [.str (Str.ofString "times"), .int ((c1.fdiv 3).fmod 4), .ref o3]) g4)
      have hPd := Paired.cons (F := K2V _ x y) (mkTm h4t h3t (.cons (F := K1V _ x y) (b := K1.dd (zn.getD (ms.length - 1) ZZ)) hdo .nil)) .nil
      have sx := sA.trans (i1.trans (i2.trans (i3.trans (i4.trans i9))))
      have hct := ct_bits ms (k := ms.length - 1) (by omega)
      refine ⟨_, rfl, _, rfl, _, rfl, C, _, _, _, rfl, rfl, SqL.of (sx _ _ hC5), at_lastc hne, _, _, rfl, rfl, mulOk_of 400 (Nat.lt_of_le_of_lt (m := 4) (by omega) (by decide)) (Nat.lt_trans hct (by decide)) (by decide), ?_⟩
      obtain ⟨hkn, hmo, hcn⟩ := facB (ms := ms) (zn := zn) nd2 (by omega) hne hml' q34.1 q34.2
      show Ends.nx _ [_, _, _, _, _, _, _, _, _, _, _, _, _, _, _, _] _
      obtain ⟨ds, eds⟩ : ∃ ds, ds = [K2.tm ((c1.fdiv 3).fmod 4) [K1.dd (zn.getD (ms.length - 1) ZZ)]] := ⟨_, rfl⟩
      rw [← eds] at hPd hkn hmo hcn
      generalize [V.ref o4] = us at *
    all_goals
      refine ⟨_, rfl, R, _, rfl, .inl ⟨SqL.of (sx _ _ hR5), fun m1 k1 => ?_⟩⟩
      have j1 := Same.upd (o := .tup rv) k1
      refine ⟨_, rfl, o9, _, rfl, .inl ⟨SqL.of (j1 _ _ hdl), fun m2 k2 => ⟨sz (by simp), fun m3 k3 => ?_⟩⟩⟩
      have j2 := Same.upd (o := .tup us) k2
      have j3 := Same.upd (o := .tup [.ref m1, .ref m2]) k3
      have s13 := j1.trans (j2.trans j3)
      have hSc := mkSc (F := ZZ) (x := x) (y := y) (mkS4 (o := .tup [.ref m1, .ref m2]) k3) ((j2.trans j3) _ _ upd_same) (Paired.mapP hP5 fun _ _ h => h.ts (sx.trans s13).ts) (j3 _ _ upd_same) (Paired.mapP hPd fun _ _ h => h.ts s13.ts)
      have hHs7 := hHs5.ts' (sx.trans s13)
      show Ends.nx _ [_, _, _, _, _, _, _, _, _, _, _, _, _, _, _, _] _
      refine ⟨_, rfl, _, rfl, .ref hh, .ref m3, ZZ, x, y, kd, rls ms zn, ds, rfl, hHs7, zy.symm, hSc, ah, hkn, rl60, fun H7 s7 => ⟨rfl, _, rfl, ?_⟩⟩
      refine iteF ?_
      have hOp := mkOp hHs7 zy.symm hSc ah hkn rl60 hcc hmoR hmo
      refine ⟨_, rfl, _, rfl, .ref hh, .ref m3, x, y, _, rfl, hOp.same s7, fun hn pt l kk out H8 s8 hpt8 hkk hl8 hln hall => ?_, fun hn pt kk H8 s8 hpt8 hkk => ?_⟩
      · refine ⟨pt, _, rfl, SqT.of hpt8, rfl, _, _, rfl, _, _, rfl, rfl, ?_⟩
        show Ends.nx _ [_, _, _, _, _, _, _, _, _, _, _, _, _, _, _, _] _
        refine ⟨_, rfl, _, _, rfl, rfl, _, rfl, ?_⟩
        rw [hcn] at hn hln
        refine ite2 (fun h3 => absurd (of_decide_eq_true h3) (Int.not_lt.mpr hn)) (fun h3 => ?_)
        refine ⟨_, rfl, sz (by simp), fun pe2 he2 => ⟨kk, pe2, [], rfl, rfl, SqL.of (Same.upd he2 _ _ hkk), SqL.of upd_same, _, rfl, ?_⟩⟩
        refine ite2 (fun h4 => ?_) (fun h4 => absurd rfl h4)
        have v0 := Same.upd (o := .lst []) he2
        have hl9 := v0 _ _ hl8
        have tyl : tyS (upd H8 pe2 (.lst [])) (.ref l) = some "list" := by show tyH (upd H8 pe2 (.lst []) l) = _; rw [hl9]; rfl
        refine ⟨_, rfl, _, _, _, _, rfl, tyOf_of tyl, kit_tt (by decide) (by decide), _, rfl, ?_⟩
        refine ite2 (fun h5 => ?_) (fun h5 => absurd rfl h5)
        refine ⟨_, rfl, _, rfl, _, rfl, sz (by simp), fun b1 f1 => ⟨sz (by simp), fun b2 f2 => ⟨sz (by simp), fun b3 f3 => ⟨_, rfl, b3, _, _, rfl, rfl, upd_same, by omega, by omega, sz (by simp; omega), fun b4 f4 => ?_⟩⟩⟩⟩
        have u1 := Same.upd (o := .tup [.int 1, .int 2]) f1
        have u2 := Same.upd (o := .tup [.str (Str.ofString "part"), .str x, .str y, .ref b1]) f2
        have u3 := Same.upd (o := .lst [.ref b2]) f3
        have u13 := u1.trans (u2.trans u3)
        have hon := congrArg Int.toNat hln
        rw [Int.toNat_natCast] at hon
        have r8 := repL (K := K) (SqL.of hl8) (rep_ptsN lx ly hon hall)
        refine ⟨_, _, repL (SqL.of (Same.upd f4 _ _ (u13 _ _ hl9))) (rep_ptsN lx ly hon fun v hv => (hall v hv).ts (v0.trans (u13.trans (Same.upd f4))).ts), repL (SqL.of upd_same) (rep_rep lx ly (mkPt (u3.trans (Same.upd f4)) upd_same (u2 _ _ upd_same)) _), dep_pl _ _ _, ?_⟩
        rw [PySem.SeqAt.eqv_refl _ r8.lay]
        exact k _
      · refine ⟨pt, _, rfl, SqT.of hpt8, rfl, _, _, rfl, _, _, rfl, rfl, ?_⟩
        show Ends.nx _ [_, _, _, _, _, _, _, _, _, _, _, _, _, _, _, _] _
        refine ⟨_, rfl, _, _, rfl, rfl, _, rfl, ?_⟩
        rw [hcn] at hn
        refine ite2 (fun _ => ?_) (fun h3 => absurd (decide_eq_true (Int.not_le.mp hn)) h3)
        refine ⟨_, rfl, rfl, fun l9 H9 s9 hl9 => ?_⟩
        refine ⟨_, _, repL (SqL.of (s9 _ _ hkk)) rep_tm, repL (SqL.of hl9) rep_tm, dep_tm, ?_⟩
        have r1 : RepD K H9 (.list dTM) (.ref l9) := repL (SqL.of hl9) rep_tm
        rw [PySem.SeqAt.eqv_refl _ r1.lay]
        exact k _
end
end T10
namespace T10
open PySem L2 Tc
theorem all_mk {l : PySem.W.OpenLaw} {w : World} {K : PySem.W.Frag} {h : Heap} {mg : Str → Option Value} {fa : Addr} (X : K.In h) (G : h.Ns mainGlobals mg) (hfa : mg "law" = some (.ref fa))
    {k_Full : Addr}
    {k_Lacking : Addr}
    {k_NoCask : Addr}
    {k_NoChange : Addr}
    {k_NoDeed : Addr}
    {k_NoName : Addr}
    {k_NoNumber : Addr}
    {k_NoPlace : Addr}
    {k_NoRow : Addr}
    {k_NoRule : Addr}
    {k_NoText : Addr}
    {k_NotSteady : Addr}
    {k_Tied : Addr}
    {k_TierError : Addr}
    {k_TooMany : Addr}
    {f0 : Addr} {oc0 kV0 dc0 pm0 cd0 ct0 : Value} {od0 an0 : Option Addr} {sl0 : Array (Option Value)}
    {f1 : Addr} {oc1 kV1 dc1 pm1 cd1 ct1 : Value} {od1 an1 : Option Addr} {sl1 : Array (Option Value)}
    {f2 : Addr} {oc2 kV2 dc2 pm2 cd2 ct2 : Value} {od2 an2 : Option Addr} {sl2 : Array (Option Value)}
    {f3 : Addr} {oc3 kV3 dc3 pm3 cd3 ct3 : Value} {od3 an3 : Option Addr} {sl3 : Array (Option Value)}
    {f4 : Addr} {oc4 kV4 dc4 pm4 cd4 ct4 : Value} {od4 an4 : Option Addr} {sl4 : Array (Option Value)}
    {f5 : Addr} {oc5 kV5 dc5 pm5 cd5 ct5 : Value} {od5 an5 : Option Addr} {sl5 : Array (Option Value)}
    {f6 : Addr} {oc6 kV6 dc6 pm6 cd6 ct6 : Value} {od6 an6 : Option Addr} {sl6 : Array (Option Value)}
    {f7 : Addr} {oc7 kV7 dc7 pm7 cd7 ct7 : Value} {od7 an7 : Option Addr} {sl7 : Array (Option Value)}
    {f8 : Addr} {oc8 kV8 dc8 pm8 cd8 ct8 : Value} {od8 an8 : Option Addr} {sl8 : Array (Option Value)}
    {f9 : Addr} {oc9 kV9 dc9 pm9 cd9 ct9 : Value} {od9 an9 : Option Addr} {sl9 : Array (Option Value)}
    {f10 : Addr} {oc10 kV10 dc10 pm10 cd10 ct10 : Value} {od10 an10 : Option Addr} {sl10 : Array (Option Value)}
    {f11 : Addr} {oc11 kV11 dc11 pm11 cd11 ct11 : Value} {od11 an11 : Option Addr} {sl11 : Array (Option Value)}
    {f12 : Addr} {oc12 kV12 dc12 pm12 cd12 ct12 : Value} {od12 an12 : Option Addr} {sl12 : Array (Option Value)}
    {f13 : Addr} {oc13 kV13 dc13 pm13 cd13 ct13 : Value} {od13 an13 : Option Addr} {sl13 : Array (Option Value)}
    {f14 : Addr} {oc14 kV14 dc14 pm14 cd14 ct14 : Value} {od14 an14 : Option Addr} {sl14 : Array (Option Value)}
    {f15 : Addr} {oc15 kV15 dc15 pm15 cd15 ct15 : Value} {od15 an15 : Option Addr} {sl15 : Array (Option Value)}
    {f16 : Addr} {oc16 kV16 dc16 pm16 cd16 ct16 : Value} {od16 an16 : Option Addr} {sl16 : Array (Option Value)}
    {f17 : Addr} {oc17 kV17 dc17 pm17 cd17 ct17 : Value} {od17 an17 : Option Addr} {sl17 : Array (Option Value)}
    {f18 : Addr} {oc18 kV18 dc18 pm18 cd18 ct18 : Value} {od18 an18 : Option Addr} {sl18 : Array (Option Value)}
    {f19 : Addr} {oc19 kV19 dc19 pm19 cd19 ct19 : Value} {od19 an19 : Option Addr} {sl19 : Array (Option Value)}
    (a0 : PySem.W.nsIn K mainGlobals "kinds_of" = some (some (.ref f0))) (l0 : K.lookup f0 = some ⟨oc0, od0, .func (PySem.W.fnOf "kinds_of" "kinds_of" (defArgs s_kinds_of) (defBody s_kinds_of) (defScope s_kinds_of) .none kV0 dc0 pm0 an0 cd0 ct0), sl0⟩) (c0 : PySem.W.codeIn K cd0 "kinds_of" = true) (k0 : PySem.W.keepIn K (.ref f0) = true)
    (a1 : PySem.W.nsIn K mainGlobals "wanted" = some (some (.ref f1))) (l1 : K.lookup f1 = some ⟨oc1, od1, .func (PySem.W.fnOf "wanted" "wanted" (defArgs s_wanted) (defBody s_wanted) (defScope s_wanted) .none kV1 dc1 pm1 an1 cd1 ct1), sl1⟩) (c1 : PySem.W.codeIn K cd1 "wanted" = true) (k1 : PySem.W.keepIn K (.ref f1) = true)
    (a2 : PySem.W.nsIn K mainGlobals "check_place" = some (some (.ref f2))) (l2 : K.lookup f2 = some ⟨oc2, od2, .func (PySem.W.fnOf "check_place" "check_place" (defArgs s_check_place) (defBody s_check_place) (defScope s_check_place) .none kV2 dc2 pm2 an2 cd2 ct2), sl2⟩) (c2 : PySem.W.codeIn K cd2 "check_place" = true) (k2 : PySem.W.keepIn K (.ref f2) = true)
    (a3 : PySem.W.nsIn K mainGlobals "check_plain" = some (some (.ref f3))) (l3 : K.lookup f3 = some ⟨oc3, od3, .func (PySem.W.fnOf "check_plain" "check_plain" (defArgs s_check_plain) (defBody s_check_plain) (defScope s_check_plain) .none kV3 dc3 pm3 an3 cd3 ct3), sl3⟩) (c3 : PySem.W.codeIn K cd3 "check_plain" = true) (k3 : PySem.W.keepIn K (.ref f3) = true)
    (a4 : PySem.W.nsIn K mainGlobals "check_do" = some (some (.ref f4))) (l4 : K.lookup f4 = some ⟨oc4, od4, .func (PySem.W.fnOf "check_do" "check_do" (defArgs s_check_do) (defBody s_check_do) (defScope s_check_do) .none kV4 dc4 pm4 an4 cd4 ct4), sl4⟩) (c4 : PySem.W.codeIn K cd4 "check_do" = true) (k4 : PySem.W.keepIn K (.ref f4) = true)
    (a5 : PySem.W.nsIn K mainGlobals "check_deeds" = some (some (.ref f5))) (l5 : K.lookup f5 = some ⟨oc5, od5, .func (PySem.W.fnOf "check_deeds" "check_deeds" (defArgs s_check_deeds) (defBody s_check_deeds) (defScope s_check_deeds) .none kV5 dc5 pm5 an5 cd5 ct5), sl5⟩) (c5 : PySem.W.codeIn K cd5 "check_deeds" = true) (k5 : PySem.W.keepIn K (.ref f5) = true)
    (a6 : PySem.W.nsIn K mainGlobals "look" = some (some (.ref f6))) (l6 : K.lookup f6 = some ⟨oc6, od6, .func (PySem.W.fnOf "look" "look" (defArgs s_look) (defBody s_look) (defScope s_look) .none kV6 dc6 pm6 an6 cd6 ct6), sl6⟩) (c6 : PySem.W.codeIn K cd6 "look" = true) (k6 : PySem.W.keepIn K (.ref f6) = true)
    (a7 : PySem.W.nsIn K mainGlobals "many_of" = some (some (.ref f7))) (l7 : K.lookup f7 = some ⟨oc7, od7, .func (PySem.W.fnOf "many_of" "many_of" (defArgs s_many_of) (defBody s_many_of) (defScope s_many_of) .none kV7 dc7 pm7 an7 cd7 ct7), sl7⟩) (c7 : PySem.W.codeIn K cd7 "many_of" = true) (k7 : PySem.W.keepIn K (.ref f7) = true)
    (a8 : PySem.W.nsIn K mainGlobals "with_places" = some (some (.ref f8))) (l8 : K.lookup f8 = some ⟨oc8, od8, .func (PySem.W.fnOf "with_places" "with_places" (defArgs s_with_places) (defBody s_with_places) (defScope s_with_places) .none kV8 dc8 pm8 an8 cd8 ct8), sl8⟩) (c8 : PySem.W.codeIn K cd8 "with_places" = true) (k8 : PySem.W.keepIn K (.ref f8) = true)
    (a9 : PySem.W.nsIn K mainGlobals "unrolled" = some (some (.ref f9))) (l9 : K.lookup f9 = some ⟨oc9, od9, .func (PySem.W.fnOf "unrolled" "unrolled" (defArgs s_unrolled) (defBody s_unrolled) (defScope s_unrolled) .none kV9 dc9 pm9 an9 cd9 ct9), sl9⟩) (c9 : PySem.W.codeIn K cd9 "unrolled" = true) (k9 : PySem.W.keepIn K (.ref f9) = true)
    (a10 : PySem.W.nsIn K mainGlobals "bodies_of" = some (some (.ref f10))) (l10 : K.lookup f10 = some ⟨oc10, od10, .func (PySem.W.fnOf "bodies_of" "bodies_of" (defArgs s_bodies_of) (defBody s_bodies_of) (defScope s_bodies_of) .none kV10 dc10 pm10 an10 cd10 ct10), sl10⟩) (c10 : PySem.W.codeIn K cd10 "bodies_of" = true) (k10 : PySem.W.keepIn K (.ref f10) = true)
    (a11 : PySem.W.nsIn K mainGlobals "opened" = some (some (.ref f11))) (l11 : K.lookup f11 = some ⟨oc11, od11, .func (PySem.W.fnOf "opened" "opened" (defArgs s_opened) (defBody s_opened) (defScope s_opened) .none kV11 dc11 pm11 an11 cd11 ct11), sl11⟩) (c11 : PySem.W.codeIn K cd11 "opened" = true) (k11 : PySem.W.keepIn K (.ref f11) = true)
    (a12 : PySem.W.nsIn K mainGlobals "_law_cell_at" = some (some (.ref f12))) (l12 : K.lookup f12 = some ⟨oc12, od12, .func (PySem.W.fnOf "_law_cell_at" "_law_cell_at" (defArgs s__law_cell_at) (defBody s__law_cell_at) (defScope s__law_cell_at) .none kV12 dc12 pm12 an12 cd12 ct12), sl12⟩) (c12 : PySem.W.codeIn K cd12 "_law_cell_at" = true) (k12 : PySem.W.keepIn K (.ref f12) = true)
    (a13 : PySem.W.nsIn K mainGlobals "_law_mixed" = some (some (.ref f13))) (l13 : K.lookup f13 = some ⟨oc13, od13, .func (PySem.W.fnOf "_law_mixed" "_law_mixed" (defArgs s__law_mixed) (defBody s__law_mixed) (defScope s__law_mixed) .none kV13 dc13 pm13 an13 cd13 ct13), sl13⟩) (c13 : PySem.W.codeIn K cd13 "_law_mixed" = true) (k13 : PySem.W.keepIn K (.ref f13) = true)
    (a14 : PySem.W.nsIn K mainGlobals "_law_digits" = some (some (.ref f14))) (l14 : K.lookup f14 = some ⟨oc14, od14, .func (PySem.W.fnOf "_law_digits" "_law_digits" (defArgs s__law_digits) (defBody s__law_digits) (defScope s__law_digits) .none kV14 dc14 pm14 an14 cd14 ct14), sl14⟩) (c14 : PySem.W.codeIn K cd14 "_law_digits" = true) (k14 : PySem.W.keepIn K (.ref f14) = true)
    (a15 : PySem.W.nsIn K mainGlobals "_law_names" = some (some (.ref f15))) (l15 : K.lookup f15 = some ⟨oc15, od15, .func (PySem.W.fnOf "_law_names" "_law_names" (defArgs s__law_names) (defBody s__law_names) (defScope s__law_names) .none kV15 dc15 pm15 an15 cd15 ct15), sl15⟩) (c15 : PySem.W.codeIn K cd15 "_law_names" = true) (k15 : PySem.W.keepIn K (.ref f15) = true)
    (a16 : PySem.W.nsIn K mainGlobals "_law_told" = some (some (.ref f16))) (l16 : K.lookup f16 = some ⟨oc16, od16, .func (PySem.W.fnOf "_law_told" "_law_told" (defArgs s__law_told) (defBody s__law_told) (defScope s__law_told) .none kV16 dc16 pm16 an16 cd16 ct16), sl16⟩) (c16 : PySem.W.codeIn K cd16 "_law_told" = true) (k16 : PySem.W.keepIn K (.ref f16) = true)
    (a17 : PySem.W.nsIn K mainGlobals "_law_only" = some (some (.ref f17))) (l17 : K.lookup f17 = some ⟨oc17, od17, .func (PySem.W.fnOf "_law_only" "_law_only" (defArgs s__law_only) (defBody s__law_only) (defScope s__law_only) .none kV17 dc17 pm17 an17 cd17 ct17), sl17⟩) (c17 : PySem.W.codeIn K cd17 "_law_only" = true) (k17 : PySem.W.keepIn K (.ref f17) = true)
    (a18 : PySem.W.nsIn K mainGlobals "_law_rules" = some (some (.ref f18))) (l18 : K.lookup f18 = some ⟨oc18, od18, .func (PySem.W.fnOf "_law_rules" "_law_rules" (defArgs s__law_rules) (defBody s__law_rules) (defScope s__law_rules) .none kV18 dc18 pm18 an18 cd18 ct18), sl18⟩) (c18 : PySem.W.codeIn K cd18 "_law_rules" = true) (k18 : PySem.W.keepIn K (.ref f18) = true)
    (a19 : PySem.W.nsIn K mainGlobals "law" = some (some (.ref f19))) (l19 : K.lookup f19 = some ⟨oc19, od19, .func (PySem.W.fnOf "law" "law" (defArgs s_law) (defBody s_law) (defScope s_law) .none kV19 dc19 pm19 an19 cd19 ct19), sl19⟩) (c19 : PySem.W.codeIn K cd19 "law" = true) (k19 : PySem.W.keepIn K (.ref f19) = true)
    (z_ValueError : PySem.W.nsIn K mainGlobals "ValueError" = some none)
    (z_dict : PySem.W.nsIn K mainGlobals "dict" = some none)
    (z_enumerate : PySem.W.nsIn K mainGlobals "enumerate" = some none)
    (z_int : PySem.W.nsIn K mainGlobals "int" = some none)
    (z_isinstance : PySem.W.nsIn K mainGlobals "isinstance" = some none)
    (z_len : PySem.W.nsIn K mainGlobals "len" = some none)
    (z_list : PySem.W.nsIn K mainGlobals "list" = some none)
    (z_range : PySem.W.nsIn K mainGlobals "range" = some none)
    (z_tuple : PySem.W.nsIn K mainGlobals "tuple" = some none)
    {t_MOST_DEEDS : Tok} (w_MOST_DEEDS : PySem.W.nsIn K mainGlobals "MOST_DEEDS" = some (some (.int 200 t_MOST_DEEDS)))
    (y_Full : PySem.W.nsIn K mainGlobals "Full" = some (some (.ref k_Full)))
    (y_Lacking : PySem.W.nsIn K mainGlobals "Lacking" = some (some (.ref k_Lacking)))
    (y_NoCask : PySem.W.nsIn K mainGlobals "NoCask" = some (some (.ref k_NoCask)))
    (y_NoChange : PySem.W.nsIn K mainGlobals "NoChange" = some (some (.ref k_NoChange)))
    (y_NoDeed : PySem.W.nsIn K mainGlobals "NoDeed" = some (some (.ref k_NoDeed)))
    (y_NoName : PySem.W.nsIn K mainGlobals "NoName" = some (some (.ref k_NoName)))
    (y_NoNumber : PySem.W.nsIn K mainGlobals "NoNumber" = some (some (.ref k_NoNumber)))
    (y_NoPlace : PySem.W.nsIn K mainGlobals "NoPlace" = some (some (.ref k_NoPlace)))
    (y_NoRow : PySem.W.nsIn K mainGlobals "NoRow" = some (some (.ref k_NoRow)))
    (y_NoRule : PySem.W.nsIn K mainGlobals "NoRule" = some (some (.ref k_NoRule)))
    (y_NoText : PySem.W.nsIn K mainGlobals "NoText" = some (some (.ref k_NoText)))
    (y_NotSteady : PySem.W.nsIn K mainGlobals "NotSteady" = some (some (.ref k_NotSteady)))
    (y_Tied : PySem.W.nsIn K mainGlobals "Tied" = some (some (.ref k_Tied)))
    (y_TierError : PySem.W.nsIn K mainGlobals "TierError" = some (some (.ref k_TierError)))
    (y_TooMany : PySem.W.nsIn K mainGlobals "TooMany" = some (some (.ref k_TooMany)))
    (e_TooMany : PySem.W.excIn K k_TooMany [.type "ValueError", .type "Exception", .type "BaseException", .type "object"] "ValueError.__new__" = true)
    (x_TooMany : ExcK K k_TooMany)
    (i_TooMany_Full : PySem.W.kitOne K (.ref k_TooMany) (.ref k_Full) = some false)
    (m_TooMany_Full : PySem.W.exmOne K (.ref k_TooMany) (.ref k_Full) = some false)
    (i_TooMany_Lacking : PySem.W.kitOne K (.ref k_TooMany) (.ref k_Lacking) = some false)
    (m_TooMany_Lacking : PySem.W.exmOne K (.ref k_TooMany) (.ref k_Lacking) = some false)
    (i_TooMany_NoCask : PySem.W.kitOne K (.ref k_TooMany) (.ref k_NoCask) = some false)
    (m_TooMany_NoCask : PySem.W.exmOne K (.ref k_TooMany) (.ref k_NoCask) = some false)
    (i_TooMany_NoChange : PySem.W.kitOne K (.ref k_TooMany) (.ref k_NoChange) = some false)
    (m_TooMany_NoChange : PySem.W.exmOne K (.ref k_TooMany) (.ref k_NoChange) = some false)
    (i_TooMany_NoDeed : PySem.W.kitOne K (.ref k_TooMany) (.ref k_NoDeed) = some false)
    (m_TooMany_NoDeed : PySem.W.exmOne K (.ref k_TooMany) (.ref k_NoDeed) = some false)
    (i_TooMany_NoName : PySem.W.kitOne K (.ref k_TooMany) (.ref k_NoName) = some false)
    (m_TooMany_NoName : PySem.W.exmOne K (.ref k_TooMany) (.ref k_NoName) = some false)
    (i_TooMany_NoNumber : PySem.W.kitOne K (.ref k_TooMany) (.ref k_NoNumber) = some false)
    (m_TooMany_NoNumber : PySem.W.exmOne K (.ref k_TooMany) (.ref k_NoNumber) = some false)
    (i_TooMany_NoPlace : PySem.W.kitOne K (.ref k_TooMany) (.ref k_NoPlace) = some false)
    (m_TooMany_NoPlace : PySem.W.exmOne K (.ref k_TooMany) (.ref k_NoPlace) = some false)
    (i_TooMany_NoRow : PySem.W.kitOne K (.ref k_TooMany) (.ref k_NoRow) = some false)
    (m_TooMany_NoRow : PySem.W.exmOne K (.ref k_TooMany) (.ref k_NoRow) = some false)
    (i_TooMany_NoRule : PySem.W.kitOne K (.ref k_TooMany) (.ref k_NoRule) = some false)
    (m_TooMany_NoRule : PySem.W.exmOne K (.ref k_TooMany) (.ref k_NoRule) = some false)
    (i_TooMany_NoText : PySem.W.kitOne K (.ref k_TooMany) (.ref k_NoText) = some false)
    (m_TooMany_NoText : PySem.W.exmOne K (.ref k_TooMany) (.ref k_NoText) = some false)
    (i_TooMany_NotSteady : PySem.W.kitOne K (.ref k_TooMany) (.ref k_NotSteady) = some false)
    (m_TooMany_NotSteady : PySem.W.exmOne K (.ref k_TooMany) (.ref k_NotSteady) = some false)
    (i_TooMany_Tied : PySem.W.kitOne K (.ref k_TooMany) (.ref k_Tied) = some false)
    (m_TooMany_Tied : PySem.W.exmOne K (.ref k_TooMany) (.ref k_Tied) = some false)
    (i_TooMany_TierError : PySem.W.kitOne K (.ref k_TooMany) (.ref k_TierError) = some true)
    (m_TooMany_TierError : PySem.W.exmOne K (.ref k_TooMany) (.ref k_TierError) = some true)
    (i_TooMany_TooMany : PySem.W.kitOne K (.ref k_TooMany) (.ref k_TooMany) = some true)
    (m_TooMany_TooMany : PySem.W.exmOne K (.ref k_TooMany) (.ref k_TooMany) = some true)
    (v_TooMany : PySem.W.kitOne K (.ref k_TooMany) (.type "ValueError") = some true)
    : ∃ fd : FuncData, (∀ (s : Shared) (v : Value), BindsTo s fd ⟨[v], []⟩ [("_law_script", v)]) ∧ ∀ base : Heap, K.In base → base.Ns mainGlobals mg → FnOk l.prog w K mg base CX0 8 fa fd ["_law_script"] (spLaw K) := by
  have T : Txt K mg (⟨k_Full, k_Lacking, k_NoCask, k_NoChange, k_NoDeed, k_NoName, k_NoNumber, k_NoPlace, k_NoRow, k_NoRule, k_NoText, k_NotSteady, k_Tied, k_TierError, k_TooMany⟩ : Ca) := ⟨PySem.W.mg_none_of X G z_ValueError, PySem.W.mg_none_of X G z_dict, PySem.W.mg_none_of X G z_enumerate, PySem.W.mg_none_of X G z_int, PySem.W.mg_none_of X G z_isinstance, PySem.W.mg_none_of X G z_len, PySem.W.mg_none_of X G z_list, PySem.W.mg_none_of X G z_range, PySem.W.mg_none_of X G z_tuple, PySem.W.mg_of X G y_Full, PySem.W.mg_of X G y_Lacking, PySem.W.mg_of X G y_NoCask, PySem.W.mg_of X G y_NoChange, PySem.W.mg_of X G y_NoDeed, PySem.W.mg_of X G y_NoName, PySem.W.mg_of X G y_NoNumber, PySem.W.mg_of X G y_NoPlace, PySem.W.mg_of X G y_NoRow, PySem.W.mg_of X G y_NoRule, PySem.W.mg_of X G y_NoText, PySem.W.mg_of X G y_NotSteady, PySem.W.mg_of X G y_Tied, PySem.W.mg_of X G y_TierError, PySem.W.mg_of X G y_TooMany, ⟨_, PySem.W.mg_of X G w_MOST_DEEDS⟩, e_TooMany, x_TooMany, i_TooMany_Full, m_TooMany_Full, i_TooMany_Lacking, m_TooMany_Lacking, i_TooMany_NoCask, m_TooMany_NoCask, i_TooMany_NoChange, m_TooMany_NoChange, i_TooMany_NoDeed, m_TooMany_NoDeed, i_TooMany_NoName, m_TooMany_NoName, i_TooMany_NoNumber, m_TooMany_NoNumber, i_TooMany_NoPlace, m_TooMany_NoPlace, i_TooMany_NoRow, m_TooMany_NoRow, i_TooMany_NoRule, m_TooMany_NoRule, i_TooMany_NoText, m_TooMany_NoText, i_TooMany_NotSteady, m_TooMany_NotSteady, i_TooMany_Tied, m_TooMany_Tied, i_TooMany_TierError, m_TooMany_TierError, i_TooMany_TooMany, m_TooMany_TooMany, v_TooMany⟩
  have D_kinds_of : DefAt K mg "kinds_of" s_kinds_of := DefAt.mk' X G a0 l0 c0 k0
  have D_wanted : DefAt K mg "wanted" s_wanted := DefAt.mk' X G a1 l1 c1 k1
  have D_check_place : DefAt K mg "check_place" s_check_place := DefAt.mk' X G a2 l2 c2 k2
  have D_check_plain : DefAt K mg "check_plain" s_check_plain := DefAt.mk' X G a3 l3 c3 k3
  have D_check_do : DefAt K mg "check_do" s_check_do := DefAt.mk' X G a4 l4 c4 k4
  have D_check_deeds : DefAt K mg "check_deeds" s_check_deeds := DefAt.mk' X G a5 l5 c5 k5
  have D_look : DefAt K mg "look" s_look := DefAt.mk' X G a6 l6 c6 k6
  have D_many_of : DefAt K mg "many_of" s_many_of := DefAt.mk' X G a7 l7 c7 k7
  have D_with_places : DefAt K mg "with_places" s_with_places := DefAt.mk' X G a8 l8 c8 k8
  have D_unrolled : DefAt K mg "unrolled" s_unrolled := DefAt.mk' X G a9 l9 c9 k9
  have D_bodies_of : DefAt K mg "bodies_of" s_bodies_of := DefAt.mk' X G a10 l10 c10 k10
  have D_opened : DefAt K mg "opened" s_opened := DefAt.mk' X G a11 l11 c11 k11
  have D__law_cell_at : DefAt K mg "_law_cell_at" s__law_cell_at := DefAt.mk' X G a12 l12 c12 k12
  have D__law_mixed : DefAt K mg "_law_mixed" s__law_mixed := DefAt.mk' X G a13 l13 c13 k13
  have D__law_digits : DefAt K mg "_law_digits" s__law_digits := DefAt.mk' X G a14 l14 c14 k14
  have D__law_names : DefAt K mg "_law_names" s__law_names := DefAt.mk' X G a15 l15 c15 k15
  have D__law_told : DefAt K mg "_law_told" s__law_told := DefAt.mk' X G a16 l16 c16 k16
  have D__law_only : DefAt K mg "_law_only" s__law_only := DefAt.mk' X G a17 l17 c17 k17
  have D__law_rules : DefAt K mg "_law_rules" s__law_rules := DefAt.mk' X G a18 l18 c18 k18
  have e := hfa.symm.trans (PySem.W.mg_of X G a19)
  cases e
  refine ⟨PySem.W.fnOf "law" "law" (defArgs s_law) (defBody s_law) (defScope s_law) .none kV19 dc19 pm19 an19 cd19 ct19, fun s v => .of_eq rfl, fun base _ _ => ?_⟩
  have G_kinds_of := ok_kinds_of (P := l.prog) (w := w) (base := base) D_kinds_of T 
  have G_wanted := ok_wanted (P := l.prog) (w := w) (base := base) D_wanted T 
  have G_check_place := ok_check_place (P := l.prog) (w := w) (base := base) D_check_place T 
  have G_check_plain := ok_check_plain (P := l.prog) (w := w) (base := base) D_check_plain T G_wanted G_check_place
  have G_check_do := ok_check_do (P := l.prog) (w := w) (base := base) D_check_do T G_check_place
  have G_check_deeds := ok_check_deeds (P := l.prog) (w := w) (base := base) D_check_deeds T G_check_do G_check_plain 2
  have G_look := ok_look (P := l.prog) (w := w) (base := base) D_look T G_kinds_of G_check_deeds
  have G_many_of := ok_many_of (P := l.prog) (w := w) (base := base) D_many_of T  2
  have G_with_places := ok_with_places (P := l.prog) (w := w) (base := base) D_with_places T 
  have G_unrolled := ok_unrolled (P := l.prog) (w := w) (base := base) D_unrolled T G_with_places 2
  have G_bodies_of := ok_bodies_of (P := l.prog) (w := w) (base := base) D_bodies_of T G_unrolled
  have G_opened := ok_opened (P := l.prog) (w := w) (base := base) D_opened T G_many_of G_unrolled G_bodies_of G_kinds_of G_check_plain
  have G__law_cell_at := ok__law_cell_at (P := l.prog) (w := w) (base := base) D__law_cell_at T 
  have G__law_mixed := ok__law_mixed (P := l.prog) (w := w) (base := base) D__law_mixed T 
  have G__law_digits := ok__law_digits (P := l.prog) (w := w) (base := base) D__law_digits T 
  have G__law_names := ok__law_names (P := l.prog) (w := w) (base := base) D__law_names T G__law_digits
  have G__law_told := ok__law_told (P := l.prog) (w := w) (base := base) D__law_told T G_opened
  have G__law_only := ok__law_only (P := l.prog) (w := w) (base := base) D__law_only T 
  have G__law_rules := ok__law_rules (P := l.prog) (w := w) (base := base) D__law_rules T G__law_mixed
  exact ok_law (fun_mk (st := s_law) l19 c19 k19) T G__law_mixed G__law_cell_at G__law_names G__law_rules G_look G__law_told G__law_only
end T10
def PySem.W.Fast.tw670883272614668218 : Nat := 0
def PySem.W.Fast.tw2634074938681942184 : Nat := 0
def PySem.W.Fast.tw18182126429343752034 : Nat := 0
def PySem.W.Fast.tw5133775312109668668 : Nat := 0
def PySem.W.Fast.tw10385691835141431597 : Nat := 0
def PySem.W.Fast.tw7883928890364583887 : Nat := 0
def PySem.W.Fast.tw15353014135227880313 : Nat := 0
def PySem.W.Fast.tw17235515170248243619 : Nat := 0
def PySem.W.Fast.tw14429687486542085443 : Nat := 0
def PySem.W.Fast.tw8233828965868752049 : Nat := 0
def PySem.W.Fast.tw8170881904155892077 : Nat := 0
def PySem.W.Fast.tw3162188864303383040 : Nat := 0
open PySem PySem.W PyProof.Rows
set_option maxRecDepth 100000 in
set_option maxHeartbeats 0 in
theorem PySem.Challenge.cw_tiercask_k10_counted_ahead_holds : PySem.Challenge.rw_tiercask_k10_counted_ahead.Holds := by
  w_on; o_law; k_head; (case hw => w_witness2)
  k_fill
  refine L2.walk_ofK (l := PySem.Challenge.rw_tiercask_k10_counted_ahead) (n := 63) (k := 8) (x := "_law_script") (CX := L2.CX0) (sp := Tc.spLaw) rfl (by decide) rfl ⟨rfl, by decide, by decide⟩ (fun w h Y => PySem.W.kIn_of Y) ?F ?S ?C
  case F =>
    intro w mg fa h KX G hmg
    refine' T10.all_mk KX G hmg ?a0 ?l0 ?c0 ?k0 ?a1 ?l1 ?c1 ?k1 ?a2 ?l2 ?c2 ?k2 ?a3 ?l3 ?c3 ?k3 ?a4 ?l4 ?c4 ?k4 ?a5 ?l5 ?c5 ?k5 ?a6 ?l6 ?c6 ?k6 ?a7 ?l7 ?c7 ?k7 ?a8 ?l8 ?c8 ?k8 ?a9 ?l9 ?c9 ?k9 ?a10 ?l10 ?c10 ?k10 ?a11 ?l11 ?c11 ?k11 ?a12 ?l12 ?c12 ?k12 ?a13 ?l13 ?c13 ?k13 ?a14 ?l14 ?c14 ?k14 ?a15 ?l15 ?c15 ?k15 ?a16 ?l16 ?c16 ?k16 ?a17 ?l17 ?c17 ?k17 ?a18 ?l18 ?c18 ?k18 ?a19 ?l19 ?c19 ?k19 ?z_ValueError ?z_dict ?z_enumerate ?z_int ?z_isinstance ?z_len ?z_list ?z_range ?z_tuple ?w_MOST_DEEDS ?y_Full ?y_Lacking ?y_NoCask ?y_NoChange ?y_NoDeed ?y_NoName ?y_NoNumber ?y_NoPlace ?y_NoRow ?y_NoRule ?y_NoText ?y_NotSteady ?y_Tied ?y_TierError ?y_TooMany ?e_TooMany ?x_TooMany ?i_TooMany_Full ?m_TooMany_Full ?i_TooMany_Lacking ?m_TooMany_Lacking ?i_TooMany_NoCask ?m_TooMany_NoCask ?i_TooMany_NoChange ?m_TooMany_NoChange ?i_TooMany_NoDeed ?m_TooMany_NoDeed ?i_TooMany_NoName ?m_TooMany_NoName ?i_TooMany_NoNumber ?m_TooMany_NoNumber ?i_TooMany_NoPlace ?m_TooMany_NoPlace ?i_TooMany_NoRow ?m_TooMany_NoRow ?i_TooMany_NoRule ?m_TooMany_NoRule ?i_TooMany_NoText ?m_TooMany_NoText ?i_TooMany_NotSteady ?m_TooMany_NotSteady ?i_TooMany_Tied ?m_TooMany_Tied ?i_TooMany_TierError ?m_TooMany_TierError ?i_TooMany_TooMany ?m_TooMany_TooMany ?v_TooMany
    (case a0 => k_is); (case l0 => k_is); (case c0 => k_is); (case k0 => k_is); (case a1 => k_is); (case l1 => k_is); (case c1 => k_is); (case k1 => k_is)
    (case a2 => k_is); (case l2 => k_is); (case c2 => k_is); (case k2 => k_is); (case a3 => k_is); (case l3 => k_is); (case c3 => k_is); (case k3 => k_is)
    (case a4 => k_is); (case l4 => k_is); (case c4 => k_is); (case k4 => k_is); (case a5 => k_is); (case l5 => k_is); (case c5 => k_is); (case k5 => k_is)
    (case a6 => k_is); (case l6 => k_is); (case c6 => k_is); (case k6 => k_is); (case a7 => k_is); (case l7 => k_is); (case c7 => k_is); (case k7 => k_is)
    (case a8 => k_is); (case l8 => k_is); (case c8 => k_is); (case k8 => k_is); (case a9 => k_is); (case l9 => k_is); (case c9 => k_is); (case k9 => k_is)
    (case a10 => k_is); (case l10 => k_is); (case c10 => k_is); (case k10 => k_is); (case a11 => k_is); (case l11 => k_is); (case c11 => k_is); (case k11 => k_is)
    (case a12 => k_is); (case l12 => k_is); (case c12 => k_is); (case k12 => k_is); (case a13 => k_is); (case l13 => k_is); (case c13 => k_is); (case k13 => k_is)
    (case a14 => k_is); (case l14 => k_is); (case c14 => k_is); (case k14 => k_is); (case a15 => k_is); (case l15 => k_is); (case c15 => k_is); (case k15 => k_is)
    (case a16 => k_is); (case l16 => k_is); (case c16 => k_is); (case k16 => k_is); (case a17 => k_is); (case l17 => k_is); (case c17 => k_is); (case k17 => k_is)
    (case a18 => k_is); (case l18 => k_is); (case c18 => k_is); (case k18 => k_is); (case a19 => k_is); (case l19 => k_is); (case c19 => k_is); (case k19 => k_is)
    (case z_ValueError => k_is); (case z_dict => k_is); (case z_enumerate => k_is); (case z_int => k_is); (case z_isinstance => k_is); (case z_len => k_is); (case z_list => k_is); (case z_range => k_is)
    (case z_tuple => k_is); (case w_MOST_DEEDS => k_is); (case y_Full => k_is); (case y_Lacking => k_is); (case y_NoCask => k_is); (case y_NoChange => k_is); (case y_NoDeed => k_is); (case y_NoName => k_is)
    (case y_NoNumber => k_is); (case y_NoPlace => k_is); (case y_NoRow => k_is); (case y_NoRule => k_is); (case y_NoText => k_is); (case y_NotSteady => k_is); (case y_Tied => k_is); (case y_TierError => k_is)
    (case y_TooMany => k_is)
    (case e_TooMany => k_exc)
    (case x_TooMany => refine ⟨?_, ?_, ?_, ?_, ?_⟩ <;> k_is)
    (case i_TooMany_Full => kit_is)
    (case m_TooMany_Full => kts_exm)
    (case i_TooMany_Lacking => kit_is)
    (case m_TooMany_Lacking => kts_exm)
    (case i_TooMany_NoCask => kit_is)
    (case m_TooMany_NoCask => kts_exm)
    (case i_TooMany_NoChange => kit_is)
    (case m_TooMany_NoChange => kts_exm)
    (case i_TooMany_NoDeed => kit_is)
    (case m_TooMany_NoDeed => kts_exm)
    (case i_TooMany_NoName => kit_is)
    (case m_TooMany_NoName => kts_exm)
    (case i_TooMany_NoNumber => kit_is)
    (case m_TooMany_NoNumber => kts_exm)
    (case i_TooMany_NoPlace => kit_is)
    (case m_TooMany_NoPlace => kts_exm)
    (case i_TooMany_NoRow => kit_is)
    (case m_TooMany_NoRow => kts_exm)
    (case i_TooMany_NoRule => kit_is)
    (case m_TooMany_NoRule => kts_exm)
    (case i_TooMany_NoText => kit_is)
    (case m_TooMany_NoText => kts_exm)
    (case i_TooMany_NotSteady => kit_is)
    (case m_TooMany_NotSteady => kts_exm)
    (case i_TooMany_Tied => kit_is)
    (case m_TooMany_Tied => kts_exm)
    (case i_TooMany_TierError => kit_is)
    (case m_TooMany_TierError => kts_exm)
    (case i_TooMany_TooMany => kit_is)
    (case m_TooMany_TooMany => kts_exm)
    (case v_TooMany => kit_is)
  case S => exact fun K H a ns hl hO hS => ⟨a, ns, rfl, hS, hl, fun _ => rfl⟩
  case C => exact fun H s e s' z => z

import PyProof.Rows.All
import Wide.All
import OpenK.AllK
import Wide.FinOn
import Lean
import PyProof.EqAt
import PyProof.EqKinds
import PyProof.TupleCall
import PySem.Challenge.RW_tiercask_k09_opened
set_option Elab.async false
set_option linter.all false
set_option maxRecDepth 100000
set_option genSizeOf false
set_option maxHeartbeats 4000000
set_option exponentiation.threshold 100000
/-! THE HAND LAYER, for ints, bools, texts, own classes, LISTS and tuples (index, slices, in, append, pop ..), calls, loops. Paste it whole ahead of your own text; what your proof does not reach may be deleted. -/
namespace L2
open PySem PySem.Spec PyProof.Rows

noncomputable abbrev Key := Sum Int Str
noncomputable def keyIs : Key → Value → Bool
 | .inl k, v => Value.isInt k v
 | .inr x, v => Value.isStrOf x v
noncomputable def keyH (w : World) : Key → Int
 | .inl k => hashInt k
 | .inr x => hashStr w x
theorem keyIs_shape : ∀ {k : Key} {v : Value}, keyIs k v = true → (∃ i t, k = Sum.inl i ∧ v = Value.int i t) ∨ (∃ x t, k = Sum.inr x ∧ v = Value.str x t)
 | .inl i, v, h => by
  obtain ⟨t, e⟩ := Value.isInt_shape (k := i) (v := v) h
  exact .inl ⟨i, t, rfl, e⟩
 | .inr x, v, h => by
  obtain ⟨t, e⟩ := Value.isStrOf_shape (x := x) (v := v) h
  exact .inr ⟨x, t, rfl, e⟩
theorem keyIs_int (i : Int) (t : Tok) : keyIs (.inl i) (.int i t) = true := by simp [keyIs, Value.isInt]
theorem keyIs_str (x : Str) (t : Tok) : keyIs (.inr x) (.str x t) = true := by simp [keyIs, Value.isStrOf]
theorem key_ll (a b : Int) : decide ((Sum.inl a : Key) = Sum.inl b) = (a == b) := by
 by_cases e : a = b
 ·subst e; simp
 ·have h : ¬ (Sum.inl a : Key) = Sum.inl b := fun q => e (Sum.inl.inj q)
  rw [decide_eq_false h]
  exact (beq_eq_false_iff_ne.mpr e).symm
theorem key_rr (a b : Str) : decide ((Sum.inr a : Key) = Sum.inr b) = decide (a = b) := by
 by_cases e : a = b
 ·subst e; simp
 ·have h : ¬ (Sum.inr a : Key) = Sum.inr b := fun q => e (Sum.inr.inj q)
  rw [decide_eq_false h, decide_eq_false e]
theorem key_lr (a : Int) (b : Str) : decide ((Sum.inl a : Key) = Sum.inr b) = false := decide_eq_false (fun q => nomatch q)
theorem key_rl (a : Str) (b : Int) : decide ((Sum.inr a : Key) = Sum.inl b) = false := decide_eq_false (fun q => nomatch q)

noncomputable def mixKind (prog : Program) (w : World) : PySem.KeyKind prog w Key where
 is := keyIs
 hash := keyH w
 inj := fun v a b ha hb => by
  rcases keyIs_shape ha with ⟨i, t, rfl, rfl⟩ | ⟨x, t, rfl, rfl⟩
  ·rcases keyIs_shape hb with ⟨j, u, rfl, e⟩ | ⟨y, u, rfl, e⟩
   ·injection e with e1 _; rw [e1]
   ·exact nomatch e
  ·rcases keyIs_shape hb with ⟨j, u, rfl, e⟩ | ⟨y, u, rfl, e⟩
   ·exact nomatch e
   ·injection e with e1 _; rw [e1]
 byValue := fun k v h => by
  rcases keyIs_shape h with ⟨i, t, rfl, rfl⟩ | ⟨x, t, rfl, rfl⟩ <;> rfl
 pyHash := fun hv h => by
  rcases keyIs_shape hv with ⟨i, t, rfl, rfl⟩ | ⟨x, t, rfl, rfl⟩
  ·exact wpAny_pyHash_int h
  ·exact wpAny_pyHash_str h
 eqBool := fun hu hv h => by
  rcases keyIs_shape hu with ⟨i, t, rfl, rfl⟩ | ⟨x, t, rfl, rfl⟩
  ·rcases keyIs_shape hv with ⟨j, u, rfl, rfl⟩ | ⟨y, u, rfl, rfl⟩
   ·rw [key_ll] at h; exact wpAny_eqBool_int h
   ·rw [key_lr] at h; exact SeqAt.EqAt.int_str i t y u _ _ _ _ h
  ·rcases keyIs_shape hv with ⟨j, u, rfl, rfl⟩ | ⟨y, u, rfl, rfl⟩
   ·rw [key_rl] at h; exact SeqAt.EqAt.str_int x t j u _ _ _ _ h
   ·rw [key_rr] at h; exact wpAny_eqBool_str h
 «strs» := fun k x t v h => by
  rcases keyIs_shape h with ⟨i, u, rfl, e⟩ | ⟨y, u, rfl, e⟩
  ·exact nomatch e
  ·injection e with e1 _
   subst e1
   cases v <;> rfl

theorem mixKind_int (prog : Program) (w : World) (i : Int) (t : Tok) : (mixKind prog w).is (.inl i) (.int i t) = true := keyIs_int i t
theorem mixKind_str (prog : Program) (w : World) (x : Str) (t : Tok) : (mixKind prog w).is (.inr x) (.str x t) = true := keyIs_str x t
end L2

namespace L2
open PySem PySem.Spec PyProof.Rows

inductive V where
 | non | bl (b : Bool) | int (i : Int) | str (x : Str) | byt (b : Array UInt8) | flt (b : UInt64) | ref (a : Addr) | ty (n : String)
 deriving DecidableEq

noncomputable def RelV : V → Value → Prop
 | .non, u => u = Value.none
 | .bl b, u => u = Value.bool b
 | .int i, u => ∃ t, u = Value.int i t
 | .str x, u => ∃ t, u = Value.str x t
 | .byt b, u => ∃ t, u = Value.bytes b t
 | .flt b, u => ∃ t, u = Value.float b t
 | .ref a, u => u = Value.ref a
 | .ty n, u => u = Value.type n

noncomputable abbrev Vals : List V → List Value → Prop := Paired RelV
theorem Vals.length {xs : List V} {us : List Value} (r : Vals xs us) : xs.length = us.length := Paired.length r
theorem Vals.get : ∀ {xs : List V} {us : List Value} {i : Nat} {x : V}, Vals xs us → xs[i]? = some x → ∃ u, us[i]? = some u ∧ RelV x u
 | _, _, _, _, .nil, e => by simp at e
 | _, _, 0, _, .cons r _, e => by simp at e; subst e; exact ⟨_, rfl, r⟩
 | _, _, i + 1, x, .cons _ t, e => by
  obtain ⟨u, h1, h2⟩ := Vals.get (i := i) (x := x) t (by simpa using e)
  exact ⟨u, by simpa using h1, h2⟩
theorem Vals.set {x : V} {u : Value} (r : RelV x u) : ∀ {xs : List V} {us : List Value} (i : Nat), Vals xs us → Vals (xs.set i x) (us.set i u)
 | _, _, _, .nil => .nil
 | _, _, 0, .cons _ t => .cons r t
 | _, _, i + 1, .cons q t => .cons q (Vals.set r i t)
theorem Vals.append : ∀ {xs ys : List V} {us ws : List Value}, Vals xs us → Vals ys ws → Vals (xs ++ ys) (us ++ ws)
 | _, _, _, _, .nil, s => s
 | _, _, _, _, .cons r t, s => .cons r (Vals.append t s)
theorem Vals.take : ∀ {xs : List V} {us : List Value} (n : Nat), Vals xs us → Vals (xs.take n) (us.take n)
 | _, _, 0, _ => .nil
 | _, _, _ + 1, .nil => .nil
 | _, _, n + 1, .cons r t => .cons r (Vals.take n t)
theorem Vals.drop : ∀ {xs : List V} {us : List Value} (n : Nat), Vals xs us → Vals (xs.drop n) (us.drop n)
 | _, _, 0, r => r
 | _, _, _ + 1, .nil => .nil
 | _, _, n + 1, .cons _ t => Vals.drop n t
noncomputable def RelO : Option V → Option Value → Prop
 | some v, some u => RelV v u
 | none, none => True
 | _, _ => False
noncomputable def KV {κ : Type} : List (κ × V) → List (κ × Value) → Prop := Paired fun (p : κ × V) (q : κ × Value) => p.1 = q.1 ∧ RelV p.2 q.2

noncomputable def kV : Key → V
 | .inl i => .int i
 | .inr x => .str x

inductive HO where
 | lst (xs : List V)
 | tup (xs : List V)
 | dK (kvs : List (Key × V)) | dT (kvs : List (List Key × V))
 | set (S : Int → Bool) (n : Nat)
 | ins (C dx : Addr) (fs : List (Str × V))
 | own (x : Addr)
 | xd (fs : List (Str × V))
 | met (f x : Addr)
 | rng (lo hi : Int)
 | frz (o : Obj) (u : HO)
 | tbl (ps : Array Value)
 | ext (φ : Heap → Prop)

noncomputable abbrev Hp := Addr → Option HO
noncomputable def upd (H : Hp) (a : Addr) (o : HO) : Hp := fun b => if b = a then some o else H b
theorem upd_same {H : Hp} {a : Addr} {o : HO} : upd H a o a = some o := by unfold upd; rw [if_pos rfl]
theorem upd_ne {H : Hp} {a b : Addr} {o : HO} (h : b ≠ a) : upd H a o b = H b := by unfold upd; rw [if_neg h]
theorem ne_of {H : Hp} {a b : Addr} {o u : HO} (h : H a = some o) (h' : H b = some u) (d : o ≠ u) : a ≠ b := by
 intro e; subst e; rw [h] at h'; exact d (Option.some.inj h')
theorem ne_of_none {H : Hp} {a b : Addr} {o : HO} (h : H a = some o) (h' : H b = none) : a ≠ b := by
 intro e; subst e; rw [h] at h'; cases h'

section
variable (P : Program) (w : World)
noncomputable def ObjOk (H : Hp) (h : Heap) (a : Addr) : HO → Prop
 | .lst xs => xs.length ≤ sizeLine ∧ ∃ (its : List Value) (n : Nat), Vals xs its ∧ h.get? a = some { cls := .type "list", data := .seq its.toArray n }
 | .tup xs => xs.length ≤ sizeLine ∧ ∃ its : List Value, Vals xs its ∧ IsTup h a its.toArray
 | .dK kvs => kvs.length ≤ sizeLine ∧ (a == sysModules) = false ∧ ∃ vs, KV kvs vs ∧ h.DictOf (mixKind P w) a vs
 | .dT kvs => kvs.length ≤ sizeLine ∧ (a == sysModules) = false ∧ ∃ xs : List (List Key × Addr × Value),
   Paired (fun (p : List Key × V) (q : List Key × Addr × Value) => p.1 = q.1 ∧ H q.2.1 = some (.tup (p.1.map kV)) ∧ RelV p.2 q.2.2) kvs xs ∧
   ∃ o es ep, h.get? a = some o ∧ o.ExactDict ∧ o.data = .dict es ep ∧ es.toList = xs.map (entryOfKey (tupleKind (mixKind P w))) ∧ (xs.map (·.1)).Nodup
 | .set S n => h.SetOf (intKind P w) a S n
 | .ins C dx fs => H dx = some (.own a) ∧ fs.length ≤ 1000 ∧ dx ≠ a ∧ h.get? a = some (PySem.W.instObj C dx) ∧
   ∃ mA, h.Ns1 dx mA ∧ (∀ f, RelO (fs.lookup f) (mA f)) ∧ PySem.Within mA (fs.map (·.1))
 | .own _ => ∃ o, h.get? a = some o
 | .xd fs => ∃ mA, h.Ns1 a mA ∧ ∀ f, RelO (fs.lookup f) (mA f)
 | .rng lo hi => ∃ t u v, h.get? a = some { cls := .type "range", data := .fields #[.int lo t, .int hi u, .int 1 v] }
 | .frz o u => h.get? a = some o ∧ ObjOk H h a u
 | .tbl ps => h.get? a = some { cls := .none, data := .fields ps }
 | .met f x => h.get? a = some (PySem.W.methodObj (.ref f) (.ref x))
 | .ext φ => φ h ∧ (∃ o, h.get? a = some o) ∧ ∀ h1 h2 : Heap, φ h1 → (∀ o, h1.get? a = some o → h2.get? a = some o) → φ h2
noncomputable def HOk (H : Hp) (h : Heap) : Prop := ∀ a o, H a = some o → ObjOk P w H h a o
end

section
variable {P : Program} {w : World} {H H' : Hp} {h h' : Heap} {a : Addr} {o : HO}
theorem ObjOk.lt (x : ObjOk P w H h a o) : a < h.objs.size := by
 cases o with
 | lst xs => obtain ⟨_, _, _, _, e⟩ := x; exact Heap.lt_size e
 | tup xs => obtain ⟨_, _, _, p⟩ := x; exact p.lt
 | dK kvs => obtain ⟨_, _, _, _, o, _, _, e, _⟩ := x; exact Heap.lt_size e
 | dT kvs => obtain ⟨_, _, _, _, o, _, _, e, _⟩ := x; exact Heap.lt_size e
 | set S n => obtain ⟨o, _, _, _, e, _⟩ := x; exact Heap.lt_size e
 | ins C dx fs => obtain ⟨_, _, _, e, _⟩ := x; exact Heap.lt_size e
 | own y => obtain ⟨_, e⟩ := x; exact Heap.lt_size e
 | xd fs => obtain ⟨_, ⟨_, _, _, e, _⟩, _⟩ := x; exact Heap.lt_size e
 | rng lo hi => obtain ⟨_, _, _, e⟩ := x; exact Heap.lt_size e
 | frz ob u => obtain ⟨e, _⟩ := x; exact Heap.lt_size e
 | tbl ps => exact Heap.lt_size (show h.get? a = some _ from x)
 | met f y => exact Heap.lt_size (show h.get? a = some _ from x)
 | ext φ => obtain ⟨_, ⟨_, e⟩, _⟩ := x; exact Heap.lt_size e
theorem Paired.mapP {α β : Type} {F G : α → β → Prop} : ∀ {l₁ : List α} {l₂ : List β}, Paired F l₁ l₂ → (∀ a b, F a b → G a b) → Paired G l₁ l₂
 | _, _, .nil, _ => .nil
 | _, _, .cons r t, f => .cons (f _ _ r) (Paired.mapP t f)
theorem ObjOk.stay (x : ObjOk P w H h a o) (k : ∀ b u, (b = a ∨ H b = some (.own a)) → h.get? b = some u → h'.get? b = some u)
  (ho : ∀ b, H b = some (.own a) → H' b = some (.own a)) (ht : ∀ b xs, H b = some (.tup xs) → H' b = some (.tup xs)) : ObjOk P w H' h' a o := by
 induction o with
 | lst xs => obtain ⟨z, its, n, r, e⟩ := x; exact ⟨z, its, n, r, k _ _ (.inl rfl) e⟩
 | tup xs => obtain ⟨z, its, r, ob, e, c⟩ := x; exact ⟨z, its, r, ob, k _ _ (.inl rfl) e, c⟩
 | dK kvs => obtain ⟨z, y, vs, r, ob, es, ep, e, c⟩ := x; exact ⟨z, y, vs, r, ob, es, ep, k _ _ (.inl rfl) e, c⟩
 | dT kvs =>
  obtain ⟨z, y, xs, r, ob, es, ep, e, c⟩ := x
  exact ⟨z, y, xs, Paired.mapP r fun p q z => ⟨z.1, ht _ _ z.2.1, z.2.2⟩, ob, es, ep, k _ _ (.inl rfl) e, c⟩
 | set S n => obtain ⟨ob, es, ep, t, e, c⟩ := x; exact ⟨ob, es, ep, t, k _ _ (.inl rfl) e, c⟩
 | ins C dx fs =>
  obtain ⟨d, z, ne, e, mA, ⟨od, es, ep, e2, c⟩, r⟩ := x
  exact ⟨ho _ d, z, ne, k _ _ (.inl rfl) e, mA, ⟨od, es, ep, k _ _ (.inr d) e2, c⟩, r⟩
 | own y => obtain ⟨ob, e⟩ := x; exact ⟨ob, k _ _ (.inl rfl) e⟩
 | xd fs => obtain ⟨mA, ⟨od, es, ep, e, c⟩, r⟩ := x; exact ⟨mA, ⟨od, es, ep, k _ _ (.inl rfl) e, c⟩, r⟩
 | rng lo hi => obtain ⟨t, u, v, e⟩ := x; exact ⟨t, u, v, k _ _ (.inl rfl) e⟩
 | frz ob u ih => obtain ⟨e, q⟩ := x; exact ⟨k _ _ (.inl rfl) e, ih q⟩
 | tbl ps =>
  have e : h.get? a = some { cls := .none, data := .fields ps } := x
  show h'.get? a = some { cls := .none, data := .fields ps }
  exact k a _ (.inl rfl) e
 | met f y =>
  have e : h.get? a = some (PySem.W.methodObj (.ref f) (.ref y)) := x
  show h'.get? a = some (PySem.W.methodObj (.ref f) (.ref y))
  exact k a _ (.inl rfl) e
 | ext φ => obtain ⟨p, ⟨o, e⟩, st⟩ := x; exact ⟨st _ _ p fun o q => k _ _ (.inl rfl) q, ⟨o, k _ _ (.inl rfl) e⟩, st⟩
theorem HOk.lt (x : HOk P w H h) (e : H a = some o) : a < h.objs.size := (x a o e).lt
theorem HOk.fresh (x : HOk P w H h) (e : h.objs.size ≤ a) : H a = none := by
 cases q : H a with
 | none => rfl
 | some u => exact absurd (Nat.lt_of_lt_of_le (x.lt q) e) (Nat.lt_irrefl _)
theorem HOk.kept (x : HOk P w H h) (k : ∀ b u, h.get? b = some u → h'.get? b = some u) : HOk P w H h' := fun a o e =>
 (x a o e).stay (fun b u _ q => k b u q) (fun _ q => q) fun _ _ q => q
theorem HOk.laid (x : HOk P w H h) (k : ∀ b u, h.get? b = some u → h'.get? b = some u) (hp : h.objs.size ≤ a) (new : ObjOk P w (upd H a o) h' a o) : HOk P w (upd H a o) h' := fun b u e => by
 have hn := x.fresh hp
 by_cases hb : b = a
 ·subst hb; rw [upd_same] at e; cases e; exact new
 ·rw [upd_ne hb] at e
  exact (x b u e).stay (fun c v _ q => k c v q) (fun c q => by rw [upd_ne (ne_of_none q hn)]; exact q) fun c xs q => by rw [upd_ne (ne_of_none q hn)]; exact q
end

noncomputable def Rd (H : Hp) (a : Addr) (u : HO) : Prop := H a = some u ∨ ∃ o, H a = some (.frz o u)
theorem Rd.ok {P : Program} {w : World} {H : Hp} {h : Heap} {a : Addr} {u : HO} (r : Rd H a u) (x : HOk P w H h) : ObjOk P w H h a u := by
 rcases r with r | ⟨o, r⟩
 ·exact x a u r
 ·obtain ⟨_, q⟩ := x a _ r
  exact q
noncomputable def Mut : Option HO → Prop
 | some (.lst _) => True
 | some (.dK _) => True
 | some (.dT _) => True
 | some (.set _ _) => True
 | some (.ins _ _ _) => True
 | some (.ext _) => True
 | _ => False
section
variable {P : Program} {w : World} {H : Hp} {h h' : Heap} {x e : Addr} {o' : HO}
theorem HOk.write (ok : HOk P w H h) (mu : Mut (H x)) (he : e = x ∨ H e = some (.own x)) (k : ∀ b u, b ≠ e → h.get? b = some u → h'.get? b = some u) (heo : ∃ u, h'.get? e = some u)
  (new : ObjOk P w (upd H x o') h' x o') : HOk P w (upd H x o') h' := fun b u q => by
 have nown : ∀ c y, H c = some (.own y) → c ≠ x := fun c y r z => by subst z; rw [r] at mu; exact mu
 have ntup : ∀ c xs, H c = some (.tup xs) → c ≠ x := fun c xs r z => by subst z; rw [r] at mu; exact mu
 by_cases hb : b = x
 ·subst hb; rw [upd_same] at q; cases q; exact new
 ·rw [upd_ne hb] at q
  by_cases hbe : b = e
  ·have q' : H b = some (.own x) := by
    rcases he with z | z
    ·exact absurd (hbe.trans z) hb
    ·rw [hbe]; exact z
   rw [q] at q'; cases q'
   obtain ⟨v, hv⟩ := heo
   exact ⟨v, by rw [hbe]; exact hv⟩
  ·refine (ok b u q).stay (fun c v hc r => k c v ?_ r) (fun c r => by rw [upd_ne (nown c b r)]; exact r) fun c xs r => by rw [upd_ne (ntup c xs r)]; exact r
   rcases hc with rfl | hc
   ·exact hbe
   ·rintro rfl
    rcases he with z | z
    ·exact nown c b hc z
    ·rw [hc] at z; cases z; exact hb rfl
end

/-! ### kept unless tracked; of the frames at fs (the callers') the slots may change (an exception that passes writes there); of the records at ex (iterators) nothing is said -/
structure Un (fs ex : List Addr) (H H' : Hp) (h h' : Heap) : Prop where
 keep : ∀ b o, h.get? b = some o → H b = none → b ∉ fs → b ∉ ex → h'.get? b = some o
 slot : ∀ b o, h.get? b = some o → H b = none → b ∈ fs → b ∉ ex → ∃ sl, h'.get? b = some { o with slots := sl }
 free : ∀ b o, h.get? b = some o → H b = none → b ∉ ex → H' b = none
 there : ∀ b o, h.get? b = some o → b ∉ ex → ∃ o', h'.get? b = some o'
 tups : ∀ b xs, H b = some (.tup xs) → H' b = some (.tup xs)
 frzs : ∀ b o u, H b = some (.frz o u) → H' b = some (.frz o u)
 tbls : ∀ b ps, H b = some (.tbl ps) → ∃ more, H' b = some (.tbl (ps ++ more))
section
variable {fs fs' ex ex' : List Addr} {H H1 H2 : Hp} {h h1 h2 h' : Heap} {a x e : Addr} {o : HO}
theorem Un.any (u : Un fs ex H H1 h h1) {b : Addr} {ob : Obj} (q : h.get? b = some ob) (n : H b = none) (hx : b ∉ ex) : ∃ sl, h1.get? b = some { ob with slots := sl } := by
 by_cases hb : b ∈ fs
 ·exact u.slot b ob q n hb hx
 ·exact ⟨ob.slots, u.keep b ob q n hb hx⟩
theorem Un.kept (k : ∀ b u, h.get? b = some u → h'.get? b = some u) : Un fs ex H H h h' :=
 ⟨fun b ob q _ _ _ => k b ob q, fun b ob q _ _ _ => ⟨ob.slots, k b ob q⟩, fun _ _ _ n _ => n, fun b ob q _ => ⟨ob, k b ob q⟩, fun _ _ q => q, fun _ _ _ q => q, fun _ ps q => ⟨#[], by rw [q]; simp⟩⟩
theorem Un.refl : Un fs ex H H h h := Un.kept fun _ _ q => q
theorem Un.laid (k : ∀ b u, h.get? b = some u → h'.get? b = some u) (hp : h.objs.size ≤ a) (hn : H a = none) : Un fs ex H (upd H a o) h h' where
 keep := fun b u q _ _ _ => k b u q
 slot := fun b u q _ _ _ => ⟨u.slots, k b u q⟩
 free := fun b u q n _ => by rw [upd_ne (Nat.ne_of_lt (Nat.lt_of_lt_of_le (Heap.lt_size q) hp))]; exact n
 there := fun b u q _ => ⟨u, k b u q⟩
 tups := fun b xs q => by rw [upd_ne (ne_of_none q hn)]; exact q
 frzs := fun b u xs q => by rw [upd_ne (ne_of_none q hn)]; exact q
 tbls := fun b ps q => ⟨#[], by rw [upd_ne (ne_of_none q hn), q]; simp⟩
theorem Un.write (mu : Mut (H x)) (he : e = x ∨ H e = some (.own x)) (k : ∀ b u, b ≠ e → h.get? b = some u → h'.get? b = some u) (heo : ∃ u, h'.get? e = some u) : Un fs ex H (upd H x o) h h' := by
 have hx : ∀ b, H b = none → b ≠ x := fun b n z => by subst z; rw [n] at mu; exact mu
 have hb : ∀ b, H b = none → b ≠ e := fun b n z => by
  subst z
  rcases he with r | r
  ·exact hx b n r
  ·rw [n] at r; cases r
 have hm : ∀ b u, H b = some u → ¬ Mut (some u) → b ≠ x := fun b u q nm z => by subst z; rw [q] at mu; exact nm mu
 refine ⟨fun b u q n _ _ => k b u (hb b n) q, fun b u q n _ _ => ⟨u.slots, k b u (hb b n) q⟩, fun b u q n _ => by rw [upd_ne (hx b n)]; exact n, fun b u q _ => ?_,
  fun b xs q => by rw [upd_ne (hm b _ q fun z => z)]; exact q, fun b u xs q => by rw [upd_ne (hm b _ q fun z => z)]; exact q, fun b ps q => ⟨#[], by rw [upd_ne (hm b _ q fun z => z), q]; simp⟩⟩
 by_cases hbe : b = e
 ·subst hbe; exact heo
 ·exact ⟨u, k b u hbe q⟩
end

/-! ### the heap without what is tracked -/
noncomputable def trk (h : Heap) (H : Hp) : List Addr := (List.range h.objs.size).filter fun a => (H a).isSome
noncomputable def hidT (h : Heap) (H : Hp) : Heap := PySem.W.hideAll h (trk h H)
theorem hidT_size (h : Heap) (H : Hp) : (hidT h H).objs.size = h.objs.size := PySem.W.hideAll_size _ _
theorem hidT_get {h : Heap} {H : Hp} {b : Addr} {o : Obj} (e : h.get? b = some o) (n : H b = none) : (hidT h H).get? b = some o :=
 PySem.W.hideAll_get _ e fun hm => by
  have q : (H b).isSome = true := (List.mem_filter.mp hm).2
  rw [n] at q; simp at q
theorem of_hidT {h : Heap} {H : Hp} {b : Addr} {o : Obj} (e : (hidT h H).get? b = some o) : h.get? b = some o ∧ H b = none := by
 have e' : h.get? b = some o := PySem.W.of_hideAll (trk h H) e
 refine ⟨e', ?_⟩
 cases q : H b with
 | none => rfl
 | some x =>
  have hm : b ∈ trk h H := List.mem_filter.mpr ⟨List.mem_range.mpr (Heap.lt_size e'), by simp [q]⟩
  have z : (hidT h H).get? b = none := PySem.W.hideAll_none (trk h H) hm
  rw [z] at e; cases e

/-! ### OpenK's ledger, filled with every new object but one -/
noncomputable def allNews (g h : Heap) (L : Addr) : List (Addr × Obj) := (List.range h.objs.size).filterMap fun a => if a = L ∨ (g.get? a).isSome = true then none else (h.get? a).map fun o => (a, o)
theorem mem_allNews {g h : Heap} {L a : Addr} {o : Obj} (h1 : a ≠ L) (h2 : g.get? a = none) (h3 : h.get? a = some o) : (a, o) ∈ allNews g h L :=
 List.mem_filterMap.mpr ⟨a, List.mem_range.mpr (Heap.lt_size h3), by simp [h1, h2, h3]⟩
theorem of_mem_allNews {g h : Heap} {L : Addr} {p : Addr × Obj} (hp : p ∈ allNews g h L) : p.1 ≠ L ∧ g.get? p.1 = none ∧ h.get? p.1 = some p.2 := by
 obtain ⟨b, _, e⟩ := List.mem_filterMap.mp hp
 split at e
 ·cases e
 ·rename_i hn
  cases q : h.get? b with
  | none => rw [q] at e; simp at e
  | some u =>
   rw [q] at e
   simp only [Option.map_some, Option.some.injEq] at e
   subst e
   refine ⟨fun z => hn (.inl z), ?_, q⟩
   show g.get? b = none
   cases r : g.get? b with
   | none => rfl
   | some v => exact (hn (.inr (by simp [r]))).elim
theorem news_all {g h : Heap} {L : Addr} : News g L h (allNews g h L) := fun p hp => let ⟨a, b, c⟩ := of_mem_allNews hp; ⟨c, a, b⟩
end L2

namespace L2
open PySem PySem.Spec PyProof.Rows

structure Mod (K : PySem.W.Frag) (mg : Str → Option Value) (base : Heap) : Prop where
 kin : K.In base
 glob : base.Ns mainGlobals mg
 blt : ∃ mb, base.Ns builtinsNs mb ∧ ∀ x : Str, x ≠ "__name__" → mb x = bootBuiltins x
 nolimit : base.NoLimit

set_option genInjectivity false in
structure Cx where
 prog : Program
 w : World
 K : PySem.W.Frag
 mg : Str → Option Value
 base : Heap
 A : Around
 N : List Str
 s₀ : Shared
 H₀ : Hp
 env : Env
 outer : List Env
 stack : List Env
 ex : List Addr
 fn : Str → Bool
 calm : Bool
 pn : List (Addr × Obj)
 xe : Value → Shared → Prop
noncomputable def frs (l : List Env) : List Addr := l.filterMap (·.frame)
noncomputable abbrev Cx.fs (X : Cx) : List Addr := frs X.outer

noncomputable def Vis (sc : Scope) (x : Str) : Prop := sc.names.lookup x = some .local ∨ sc.names.lookup x = some .cell ∨ sc.names.lookup x = some .free
noncomputable def Loc (sc : Scope) (x : Str) : Prop := sc.names.lookup x = some .local ∨ sc.names.lookup x = some .cell
noncomputable def Look (env : Env) (h : Heap) (m : Str → Option Value) (x : Str) (u : Value) : Prop :=
 (env.kindOf x = some .local ∧ m x = some u) ∨ ((env.kindOf x = some .cell ∨ env.kindOf x = some .free) ∧ ∃ c, env.cells.lookup x = some c ∧ h.IsCell c (some u))

structure Cx.Ok (X : Cx) : Prop where
 mod : Mod X.K X.mg X.base
 kind : X.env.scope.kind = .function
 glob : X.env.globals = mainGlobals
 blt : X.env.builtins = builtinsNs
 above : X.s₀.heap.objs.size ≤ X.env.locals
 inj : ∀ x y c, X.env.cells.lookup x = some c → X.env.cells.lookup y = some c → x = y
 has : ∀ x, (X.env.kindOf x = some .cell ∨ X.env.kindOf x = some .free) → ∃ c, X.env.cells.lookup x = some c
 cab : ∀ x c, X.fn x = true → X.env.cells.lookup x = some c → X.s₀.heap.objs.size ≤ c
 hd : X.calm = true → X.A.handled = none
 frames : X.A.frames = some X.stack
 stk : X.stack = X.outer ∨ (X.stack = X.env :: X.outer ∧ X.env.frame = some X.env.locals)
 exf : ∀ b ∈ X.ex, b ≠ X.env.locals ∧ ∀ x c, X.env.cells.lookup x = some c → c ≠ b
 bs : ∀ b o, X.base.get? b = some o → X.s₀.heap.get? b = some o ∧ X.H₀ b = none
 bsz : X.base.objs.size ≤ X.s₀.heap.objs.size
 noex : ∀ b o, X.base.get? b = some o → b ∉ X.ex
 exfs : ∀ b ∈ X.ex, b ∉ X.fs
 funs : X.s₀.heap.FunFrames X.base X.outer
 frf : ∀ b ∈ X.fs, X.H₀ b = none

structure Inv (X : Cx) (pins : List (Addr × Obj)) (σ : List (Option V)) (H : Hp) (s : Shared) : Prop where
 ok : X.Ok
 os : s.os = X.s₀.os
 bare : AllBare s.gens
 base : Un X.fs X.ex X.H₀ H X.s₀.heap s.heap
 loc : ∃ m, s.heap.Ns X.env.locals m ∧ ∀ (i : Nat) (x : Str) (v : V), X.N[i]? = some x → σ[i]? = some (some v) → Vis X.env.scope x → ∃ u, RelV v u ∧ Look X.env s.heap m x u
 cell : ∀ x c, X.env.cells.lookup x = some c → ∃ v, s.heap.IsCell c v
 free : H X.env.locals = none
 freeC : ∀ x c, X.env.cells.lookup x = some c → H c = none
 pin : ∀ p ∈ X.pn ++ pins, s.heap.get? p.1 = some p.2 ∧ H p.1 = none ∧ p.1 ≠ X.env.locals ∧ p.1 ∉ X.fs ∧ ∀ v, p.2.data ≠ .cell v
 hok : HOk X.prog X.w H s.heap
 len : σ.length = X.N.length

section
variable {X : Cx} {pins : List (Addr × Obj)} {σ : List (Option V)} {H H' : Hp} {s : Shared} {h' : Heap}

theorem Cx.Ok.nofr (ok : X.Ok) {b : Addr} {o : Obj} (e : X.base.get? b = some o) : b ∉ X.fs := fun hb => by
 have := (ok.funs.mem hb).1
 rw [e] at this; cases this
theorem Inv.bs (I : Inv X pins σ H s) : ∀ b o, X.base.get? b = some o → s.heap.get? b = some o ∧ H b = none := fun b o e =>
 ⟨I.base.keep b o (I.ok.bs b o e).1 (I.ok.bs b o e).2 (I.ok.nofr e) (I.ok.noex b o e), I.base.free b o (I.ok.bs b o e).1 (I.ok.bs b o e).2 (I.ok.noex b o e)⟩
theorem Inv.bk (I : Inv X pins σ H s) : ∀ b o, X.base.get? b = some o → s.heap.get? b = some o := fun b o e => (I.bs b o e).1
theorem Inv.mod (I : Inv X pins σ H s) : Mod X.K X.mg X.base := I.ok.mod
theorem Inv.kIn (I : Inv X pins σ H s) : X.K.In s.heap := I.ok.mod.kin.keeps I.bk
theorem Inv.lt (I : Inv X pins σ H s) : X.env.locals < s.heap.objs.size := let ⟨_, hn, _⟩ := I.loc; hn.lt
theorem Inv.sz (I : Inv X pins σ H s) : X.s₀.heap.objs.size ≤ s.heap.objs.size := Nat.le_trans I.ok.above (Nat.le_of_lt I.lt)
theorem Inv.nofs (I : Inv X pins σ H s) {a : Addr} (h : s.heap.objs.size ≤ a) : a ∉ X.fs := fun hb => by
 obtain ⟨_, o, ho, _⟩ := I.ok.funs.mem hb
 exact absurd (Nat.lt_of_lt_of_le (Heap.lt_size ho) (Nat.le_trans I.sz h)) (Nat.lt_irrefl _)
theorem Inv.cne (I : Inv X pins σ H s) : ∀ x c, X.env.cells.lookup x = some c → c ≠ X.env.locals := fun x c e z => by
 obtain ⟨v, o, ho, hd⟩ := I.cell x c e
 obtain ⟨m, ⟨o', es, ep, ho', hd', _⟩, _⟩ := I.loc
 rw [z, ho'] at ho; cases ho; rw [hd'] at hd; cases hd
theorem Inv.funs (I : Inv X pins σ H s) : s.heap.FunFrames X.base X.outer := by
 have all : ∀ (l : List Env), (∀ b ∈ frs l, b ∈ X.fs) → X.s₀.heap.FunFrames X.base l → s.heap.FunFrames X.base l := by
  intro l
  induction l with
  | nil => intro _ _; trivial
  | cons env r ih =>
   intro hs hl
   obtain ⟨hk, ⟨L, o, hf, hn, ho, hd⟩, hr⟩ := hl
   have hL : L ∈ X.fs := hs L (by unfold frs; rw [List.filterMap_cons, hf]; exact List.mem_cons_self)
   obtain ⟨sl, e⟩ := I.base.slot L o ho (I.ok.frf L hL) hL fun z => I.ok.exfs L z hL
   exact ⟨hk, ⟨L, _, hf, hn, e, hd⟩, ih (fun b hb => hs b (by unfold frs; rw [List.filterMap_cons, hf]; exact List.mem_cons_of_mem _ hb)) hr⟩
 exact all X.outer (fun _ hb => hb) I.ok.funs

theorem Inv.stack (I : Inv X pins σ H s) : s.heap.FunFrames X.base X.stack := by
 rcases I.ok.stk with e | ⟨e, hf⟩
 ·rw [e]; exact I.funs
 ·rw [e]
  obtain ⟨m, hn, _⟩ := I.loc
  refine .cons (by rw [I.ok.kind]; decide) hf hn ?_ I.funs
  exact Heap.get?_none_of_le (Nat.le_trans I.ok.bsz I.ok.above)
theorem Inv.stkSub (I : Inv X pins σ H s) : ∀ b ∈ frs X.stack, b ∈ X.env.locals :: X.fs := fun b hb => by
 rcases I.ok.stk with e | ⟨e, hf⟩
 ·rw [e] at hb; exact List.mem_cons_of_mem _ hb
 ·rw [e] at hb
  unfold frs at hb
  rw [List.filterMap_cons, hf] at hb
  exact hb
theorem Inv.stkFree (I : Inv X pins σ H s) : ∀ b ∈ frs X.stack, H b = none := fun b hb => by
 rcases List.mem_cons.mp (I.stkSub b hb) with e | hb
 ·rw [e]; exact I.free
 ·obtain ⟨_, o, ho, _⟩ := I.ok.funs.mem hb
  exact I.base.free b o ho (I.ok.frf b hb) fun z => I.ok.exfs b z hb

theorem Inv.step {g' : Array GenState} {t' : Nat} {d' : Drawn} {ch : List Addr} (I : Inv X pins σ H s)
  (hch : ∀ b ∈ ch, (b ∈ X.ex ∨ X.s₀.heap.objs.size ≤ b) ∧ b ≠ X.env.locals ∧ (∀ x c, X.env.cells.lookup x = some c → c ≠ b) ∧ ∀ p ∈ X.pn ++ pins, p.1 ≠ b)
  (keep : ∀ b o, b ≠ X.env.locals → b ∉ X.fs → b ∉ ch → s.heap.get? b = some o → H b = none → h'.get? b = some o)
  (slot : ∀ b o, b ≠ X.env.locals → b ∈ X.fs → b ∉ ch → s.heap.get? b = some o → H b = none → ∃ sl, h'.get? b = some { o with slots := sl }) (free : ∀ b o, b ∉ ch → s.heap.get? b = some o → H b = none → H' b = none)
  (there : ∀ b o, b ∉ ch → s.heap.get? b = some o → ∃ o', h'.get? b = some o')
  (tups : ∀ b xs, H b = some (.tup xs) → H' b = some (.tup xs)) (frzs : ∀ b o u, H b = some (.frz o u) → H' b = some (.frz o u)) (tbls : ∀ b ps, H b = some (.tbl ps) → ∃ more, H' b = some (.tbl (ps ++ more)))
  (ns : ∀ m, s.heap.Ns X.env.locals m → h'.Ns X.env.locals m) (hok : HOk X.prog X.w H' h') (hg : AllBare g') :
  Inv X pins σ H' { s with heap := h', gens := g', drawn := d', toks := t' } := by
 have neL : ∀ b o, X.s₀.heap.get? b = some o → b ≠ X.env.locals := fun b o e => Nat.ne_of_lt (Nat.lt_of_lt_of_le (Heap.lt_size e) I.ok.above)
 have neC : ∀ b o, X.s₀.heap.get? b = some o → b ∉ X.ex → b ∉ ch := fun b o e hx hb => by
  rcases (hch b hb).1 with z | z
  ·exact hx z
  ·exact absurd (Nat.lt_of_lt_of_le (Heap.lt_size e) z) (Nat.lt_irrefl _)
 have cellK : ∀ x c, X.env.cells.lookup x = some c → ∀ v, s.heap.IsCell c v → h'.IsCell c v := fun x c e v ⟨o, ho, hd⟩ => by
  have nch : c ∉ ch := fun z => (hch c z).2.2.1 x c e rfl
  by_cases hc : c ∈ X.fs
  ·obtain ⟨sl, q⟩ := slot c o (I.cne x c e) hc nch ho (I.freeC x c e)
   exact ⟨_, q, hd⟩
  ·exact ⟨o, keep c o (I.cne x c e) hc nch ho (I.freeC x c e), hd⟩
 refine ⟨I.ok, I.os, hg, ⟨fun b o e n hb hx => ?_, fun b o e n hb hx => ?_, fun b o e n hx => ?_, fun b o e hx => ?_, fun b xs e => tups b xs (I.base.tups b xs e), fun b o xs e => frzs b o xs (I.base.frzs b o xs e), fun b ps e => ?_⟩, ?_, fun x c e => ?_, ?_, fun x c e => ?_, fun p hp => ?_, hok, I.len⟩
 ·exact keep b o (neL b o e) hb (neC b o e hx) (I.base.keep b o e n hb hx) (I.base.free b o e n hx)
 ·obtain ⟨sl, e1⟩ := I.base.slot b o e n hb hx
  obtain ⟨sl', e2⟩ := slot b _ (neL b o e) hb (neC b o e hx) e1 (I.base.free b o e n hx)
  exact ⟨sl', e2⟩
 ·obtain ⟨o', e1⟩ := I.base.there b o e hx
  exact free b o' (neC b o e hx) e1 (I.base.free b o e n hx)
 ·obtain ⟨o', e1⟩ := I.base.there b o e hx
  exact there b o' (neC b o e hx) e1
 ·obtain ⟨m1, e1⟩ := I.base.tbls b ps e
  obtain ⟨m2, e2⟩ := tbls b _ e1
  exact ⟨m1 ++ m2, by rw [e2, Array.append_assoc]⟩
 ·obtain ⟨m, hn, hl⟩ := I.loc
  refine ⟨m, ns m hn, fun i x v e1 e2 e3 => ?_⟩
  obtain ⟨u, r, l⟩ := hl i x v e1 e2 e3
  refine ⟨u, r, ?_⟩
  rcases l with l | ⟨k, c, e, z⟩
  ·exact .inl l
  ·exact .inr ⟨k, c, e, cellK x c e _ z⟩
 ·obtain ⟨v, z⟩ := I.cell x c e
  exact ⟨v, cellK x c e v z⟩
 ·obtain ⟨m, ⟨o, _, _, ho, _⟩, _⟩ := I.loc
  exact free _ o (fun z => (hch _ z).2.1 rfl) ho I.free
 ·obtain ⟨v, o, ho, hd⟩ := I.cell x c e
  exact free c o (fun z => (hch c z).2.2.1 x c e rfl) ho (I.freeC x c e)
 ·obtain ⟨e, n, ne, nf, d⟩ := I.pin p hp
  have nch : p.1 ∉ ch := fun z => (hch p.1 z).2.2.2 p hp rfl
  exact ⟨keep p.1 p.2 ne nf nch e n, free p.1 p.2 nch e n, ne, nf, d⟩
theorem Inv.un {t' : Nat} (I : Inv X pins σ H s) (u : Un X.fs [] H H' s.heap h') (hok : HOk X.prog X.w H' h') : Inv X pins σ H' { s with heap := h', toks := t' } := by
 obtain ⟨m, ⟨o, es, ep, ho, r⟩, _⟩ := id I.loc
 obtain ⟨sl, hL⟩ := u.any ho I.free (by simp)
 exact I.step (g' := s.gens) (d' := s.drawn) (ch := []) (fun _ z => nomatch z) (fun b o _ hb _ e n => u.keep b o e n hb (by simp)) (fun b o _ hb _ e n => u.slot b o e n hb (by simp)) (fun b o _ e n => u.free b o e n (by simp)) (fun b o _ e => u.there b o e (by simp)) u.tups u.frzs u.tbls (fun m' hm => by
  obtain ⟨o', es', ep', ho', r'⟩ := hm
  rw [ho] at ho'; cases ho'
  exact ⟨_, es', ep', hL, r'⟩) hok I.bare
theorem Inv.call {g' : Array GenState} {t' : Nat} {d' : Drawn} {ch : List Addr} (I : Inv X pins σ H s) (u : Un (frs X.stack) ch H H' s.heap h') (hok : HOk X.prog X.w H' h') (hg : AllBare g')
  (hch : ∀ b ∈ ch, (b ∈ X.ex ∨ X.s₀.heap.objs.size ≤ b) ∧ b ≠ X.env.locals ∧ (∀ x c, X.env.cells.lookup x = some c → c ≠ b) ∧ ∀ p ∈ X.pn ++ pins, p.1 ≠ b) :
  Inv X pins σ H' { s with heap := h', gens := g', drawn := d', toks := t' } := by
 obtain ⟨m, ⟨o, es, ep, ho, r⟩, _⟩ := id I.loc
 obtain ⟨sl, hL⟩ := u.any ho I.free fun z => (hch _ z).2.1 rfl
 exact I.step (ch := ch) hch (fun b o hL hb hc e n => u.keep b o e n (fun z => (List.mem_cons.mp (I.stkSub b z)).elim hL hb) hc) (fun b o _ _ hc e n => u.any e n hc) (fun b o hc e n => u.free b o e n hc) (fun b o hc e => u.there b o e hc) u.tups u.frzs u.tbls (fun m' hm => by
  obtain ⟨o', es', ep', ho', r'⟩ := hm
  rw [ho] at ho'; cases ho'
  exact ⟨_, es', ep', hL, r'⟩) hok hg
theorem Inv.turned {t' : Nat} {it : Addr} (I : Inv X pins σ H s) (k : ∀ b o, b ≠ it → s.heap.get? b = some o → h'.get? b = some o) (hn : H it = none) (hL : it ≠ X.env.locals)
  (h1 : it ∈ X.ex ∨ X.s₀.heap.objs.size ≤ it) (h2 : ∀ x c, X.env.cells.lookup x = some c → c ≠ it) (h3 : ∀ p ∈ X.pn ++ pins, p.1 ≠ it) : Inv X pins σ H { s with heap := h', toks := t' } := by
 have nit : ∀ b u, H b = some u → b ≠ it := fun b u e z => by rw [z, hn] at e; cases e
 refine I.step (g' := s.gens) (d' := s.drawn) (ch := [it]) (fun b hb => ?_) (fun b o _ _ hc e _ => k b o (fun z => hc (by simp [z])) e) (fun b o _ _ hc e _ => ⟨o.slots, k b o (fun z => hc (by simp [z])) e⟩) (fun _ _ _ _ n => n)
  (fun b o hc e => ⟨o, k b o (fun z => hc (by simp [z])) e⟩) (fun _ _ e => e) (fun _ _ _ e => e) (fun b ps e => ⟨#[], by rw [e]; simp⟩) (fun m hm => ?_) (fun b u e => ?_) I.bare
 ·have e : b = it := by simpa using hb
  subst e
  exact ⟨h1, hL, h2, h3⟩
 ·obtain ⟨o, es, ep, ho, r⟩ := hm
  exact ⟨o, es, ep, k _ o (Ne.symm hL) ho, r⟩
 ·refine (I.hok b u e).stay (fun c v hc q => k c v ?_ q) (fun _ q => q) fun _ _ q => q
  rcases hc with z | z
  ·rw [z]; exact nit b u e
  ·exact nit c _ z
theorem Inv.tok (I : Inv X pins σ H s) (t : Nat) : Inv X pins σ H { s with toks := t } := I.un (h' := s.heap) (t' := t) Un.refl I.hok
theorem Inv.kept {t' : Nat} (I : Inv X pins σ H s) (k : ∀ b u, s.heap.get? b = some u → h'.get? b = some u) : Inv X pins σ H { s with heap := h', toks := t' } := I.un (Un.kept k) (I.hok.kept k)
theorem Inv.laid {a : Addr} {o : HO} {t' : Nat} (I : Inv X pins σ H s) (k : ∀ b u, s.heap.get? b = some u → h'.get? b = some u) (hp : s.heap.objs.size ≤ a) (new : ObjOk X.prog X.w (upd H a o) h' a o) :
  Inv X pins σ (upd H a o) { s with heap := h', toks := t' } := I.un (Un.laid k hp (I.hok.fresh hp)) (I.hok.laid k hp new)
theorem Inv.write {x e : Addr} {o : HO} {t' : Nat} (I : Inv X pins σ H s) (mu : Mut (H x)) (he : e = x ∨ H e = some (.own x)) (k : ∀ b u, b ≠ e → s.heap.get? b = some u → h'.get? b = some u) (heo : ∃ u, h'.get? e = some u)
  (new : ObjOk X.prog X.w (upd H x o) h' x o) : Inv X pins σ (upd H x o) { s with heap := h', toks := t' } := I.un (Un.write mu he k heo) (I.hok.write mu he k heo new)
theorem Inv.pins_of {pins' : List (Addr × Obj)} (I : Inv X pins σ H s) (h : ∀ p ∈ pins', s.heap.get? p.1 = some p.2 ∧ H p.1 = none ∧ p.1 ≠ X.env.locals ∧ p.1 ∉ X.fs ∧ ∀ v, p.2.data ≠ .cell v) : Inv X pins' σ H s :=
 ⟨I.ok, I.os, I.bare, I.base, I.loc, I.cell, I.free, I.freeC, fun p hp => (List.mem_append.mp hp).elim (fun z => I.pin p (List.mem_append_left _ z)) (h p), I.hok, I.len⟩

theorem nodup_ix {N : List Str} (hN : N.Nodup) {i j : Nat} {x : Str} (a : N[i]? = some x) (b : N[j]? = some x) : i = j := by
 obtain ⟨h1, e1⟩ := List.getElem?_eq_some_iff.mp a
 obtain ⟨h2, e2⟩ := List.getElem?_eq_some_iff.mp b
 exact (List.getElem_inj hN).mp (e1.trans e2.symm)

theorem store_ok2 {M : Model} {A : Around} {E : Value → Shared → Prop} {i : Nat} {x : Str} {v : V} {u : Value} {Q : Unit → Shared → Prop} (I : Inv X pins σ H s) (hN : X.N.Nodup) (hi : X.N[i]? = some x) (hx : Loc X.env.scope x) (r : RelV v u)
  (h : ∀ s', Inv X pins (σ.set i (some v)) H s' → (∃ a, Heap.SameBut a s.heap s'.heap ∧ (a = X.env.locals ∨ X.env.cells.lookup x = some a)) → Q () s') (hf : X.fn x = true ∨ X.env.scope.names.lookup x = some .local := by first | exact .inl rfl | exact .inr rfl | assumption) : wpAny M A (storeName X.env x u) Q E s := by
 obtain ⟨m, hn, hl⟩ := id I.loc
 have hcls : (X.env.scope.kind == .class || (X.env.scope.kind == .module && X.env.locals != X.env.globals)) = false := by rw [I.ok.kind]; rfl
 have hiσ : i < σ.length := by rw [I.len]; exact (List.getElem?_eq_some_iff.mp hi).1
 have cne := I.cne
 have tracked : ∀ {a : Addr} {h' : Heap}, (∃ o, s.heap.get? a = some o ∧ H a = none) → Heap.SameBut a s.heap h' → HOk X.prog X.w H h' := fun {a h'} ha hs b ob e => by
  obtain ⟨_, _, hfree⟩ := ha
  refine (I.hok b ob e).stay (fun c w' hc q => (hs.2 c ?_).trans q) (fun _ q => q) fun _ _ q => q
  rintro rfl
  rcases hc with rfl | hc
  ·rw [hfree] at e; cases e
  ·rw [hfree] at hc; cases hc
 rcases hx with hk | hk
 ·refine wpAny_storeName_local hk hn (fun h' hn' hs => ?_) hcls
  obtain ⟨oL, _, _, hoL, _⟩ := id hn
  refine h _ ⟨I.ok, I.os, I.bare, ⟨fun b o e n hb hx => ?_, fun b o e n hb hx => ?_, I.base.free, fun b o e hx => ?_, I.base.tups, I.base.frzs, I.base.tbls⟩, ⟨_, hn', fun j y v' e1 e2 e3 => ?_⟩, fun y c e => ?_, I.free, I.freeC, fun p hp => ?_, tracked ⟨oL, hoL, I.free⟩ hs, by simpa using I.len⟩ ⟨_, hs, .inl rfl⟩
  ·exact (hs.2 b (Nat.ne_of_lt (Nat.lt_of_lt_of_le (Heap.lt_size e) I.ok.above))).trans (I.base.keep b o e n hb hx)
  ·obtain ⟨sl, e1⟩ := I.base.slot b o e n hb hx
   exact ⟨sl, (hs.2 b (Nat.ne_of_lt (Nat.lt_of_lt_of_le (Heap.lt_size e) I.ok.above))).trans e1⟩
  ·obtain ⟨o', e1⟩ := I.base.there b o e hx
   exact ⟨o', (hs.2 b (Nat.ne_of_lt (Nat.lt_of_lt_of_le (Heap.lt_size e) I.ok.above))).trans e1⟩
  ·by_cases hj : j = i
   ·subst hj
    rw [hi] at e1; cases e1
    rw [List.getElem?_set_self hiσ] at e2
    cases e2
    exact ⟨u, r, .inl ⟨hk, by simp⟩⟩
   ·rw [List.getElem?_set_ne (Ne.symm hj)] at e2
    obtain ⟨u', r', q⟩ := hl j y v' e1 e2 e3
    refine ⟨u', r', ?_⟩
    rcases q with ⟨k, e⟩ | ⟨k, c, e, z⟩
    ·refine .inl ⟨k, ?_⟩
     have : y ≠ x := fun e => hj (nodup_ix hN e1 (e ▸ hi))
     simp [this, e]
    ·exact .inr ⟨k, c, e, z.sameBut hs (cne y c e)⟩
  ·obtain ⟨w', z⟩ := I.cell y c e
   exact ⟨w', z.sameBut hs (cne y c e)⟩
  ·obtain ⟨e, n, ne, nf, d⟩ := I.pin p hp
   exact ⟨(hs.2 p.1 ne).trans e, n, ne, nf, d⟩
 ·have hfn : X.fn x = true := by
   rcases hf with z | z
   ·exact z
   ·rw [z] at hk; cases hk
  obtain ⟨c, hc⟩ := I.ok.has x (.inl hk)
  obtain ⟨w', z⟩ := I.cell x c hc
  refine wpAny_storeName_cell I.ok.kind hk hc z (fun h' hc' hs => ?_)
  obtain ⟨oc, hoc, hocd⟩ := id z
  refine h { s with heap := h' } ⟨I.ok, I.os, I.bare, ⟨fun b o e n hb hx => ?_, fun b o e n hb hx => ?_, I.base.free, fun b o e hx => ?_, I.base.tups, I.base.frzs, I.base.tbls⟩, ⟨m, hn.sameBut hs (Ne.symm (cne x c hc)), fun j y v' e1 e2 e3 => ?_⟩, fun y c' e => ?_, I.free, I.freeC, fun p hp => ?_, tracked ⟨oc, hoc, I.freeC x c hc⟩ hs, by simpa using I.len⟩ ⟨c, hs, .inr hc⟩
  ·exact (hs.2 b (Nat.ne_of_lt (Nat.lt_of_lt_of_le (Heap.lt_size e) (I.ok.cab x c hfn hc)))).trans (I.base.keep b o e n hb hx)
  ·obtain ⟨sl, e1⟩ := I.base.slot b o e n hb hx
   exact ⟨sl, (hs.2 b (Nat.ne_of_lt (Nat.lt_of_lt_of_le (Heap.lt_size e) (I.ok.cab x c hfn hc)))).trans e1⟩
  ·obtain ⟨o', e1⟩ := I.base.there b o e hx
   exact ⟨o', (hs.2 b (Nat.ne_of_lt (Nat.lt_of_lt_of_le (Heap.lt_size e) (I.ok.cab x c hfn hc)))).trans e1⟩
  ·by_cases hj : j = i
   ·subst hj
    rw [hi] at e1; cases e1
    rw [List.getElem?_set_self hiσ] at e2
    cases e2
    exact ⟨u, r, .inr ⟨.inl hk, c, hc, hc'⟩⟩
   ·rw [List.getElem?_set_ne (Ne.symm hj)] at e2
    obtain ⟨u', r', q⟩ := hl j y v' e1 e2 e3
    refine ⟨u', r', ?_⟩
    rcases q with q | ⟨k, c', e, z'⟩
    ·exact .inl q
    ·refine .inr ⟨k, c', e, z'.sameBut hs ?_⟩
     rintro rfl
     exact hj (nodup_ix hN e1 (I.ok.inj _ _ _ e hc ▸ hi))
  ·by_cases hcc : c' = c
   ·subst hcc; exact ⟨_, hc'⟩
   ·obtain ⟨w2, z2⟩ := I.cell y c' e
    exact ⟨w2, z2.sameBut hs hcc⟩
  ·obtain ⟨e, n, ne, nf, d⟩ := I.pin p hp
   refine ⟨(hs.2 p.1 ?_).trans e, n, ne, nf, d⟩
   intro q
   rw [q, hoc] at e
   have q' : oc = p.2 := Option.some.inj e
   exact d w' (by rw [← q']; exact hocd)
theorem store_ok {M : Model} {A : Around} {E : Value → Shared → Prop} {i : Nat} {x : Str} {v : V} {u : Value} {Q : Unit → Shared → Prop} (I : Inv X pins σ H s) (hN : X.N.Nodup) (hi : X.N[i]? = some x) (hx : Loc X.env.scope x) (r : RelV v u)
  (h : ∀ s', Inv X pins (σ.set i (some v)) H s' → Q () s') (hf : X.fn x = true ∨ X.env.scope.names.lookup x = some .local := by first | exact .inl rfl | exact .inr rfl | assumption) : wpAny M A (storeName X.env x u) Q E s :=
 store_ok2 I hN hi hx r (fun s' I' _ => h s' I') hf
theorem Inv.call' {s' : Shared} {ch : List Addr} (I : Inv X pins σ H s) (ho : s'.os = s.os) (u : Un (frs X.stack) ch H H' s.heap s'.heap) (hok : HOk X.prog X.w H' s'.heap) (hg : AllBare s'.gens)
  (hch : ∀ b ∈ ch, (b ∈ X.ex ∨ X.s₀.heap.objs.size ≤ b) ∧ b ≠ X.env.locals ∧ (∀ x c, X.env.cells.lookup x = some c → c ≠ b) ∧ ∀ p ∈ X.pn ++ pins, p.1 ≠ b) : Inv X pins σ H' s' := by
 obtain ⟨h', g', d', t', o'⟩ := s'
 have e : o' = s.os := ho
 subst e
 exact I.call (g' := g') (t' := t') (d' := d') u hok hg hch
end

/-! ### the judgements -/
noncomputable abbrev XK := Value → Option Addr → Hp → Prop
noncomputable abbrev St := List (Option V)
noncomputable abbrev VK := V → Hp → Prop
noncomputable abbrev TE := St → Hp → VK → Prop
noncomputable abbrev TT := St → Hp → (Bool → Hp → Prop) → Prop
noncomputable abbrev TA := St → Hp → (List V → Hp → Prop) → Prop
set_option genInjectivity false in
structure Ends where
 nx : St → Hp → Prop
 rt : VK
 bk : St → Hp → Prop := fun _ _ => False
 ct : St → Hp → Prop := fun _ _ => False
noncomputable abbrev TS := Ends → St → Hp → Prop

noncomputable def EP (X : Cx) (pins : List (Addr × Obj)) (σ : St) (Q : VK) (u : Value) (s' : Shared) : Prop := ∃ v H', Inv X pins σ H' s' ∧ RelV v u ∧ Q v H'
noncomputable def TP (X : Cx) (pins : List (Addr × Obj)) (σ : St) (Q : Bool → Hp → Prop) (b : Bool) (s' : Shared) : Prop := ∃ H', Inv X pins σ H' s' ∧ Q b H'
noncomputable def AP (X : Cx) (pins : List (Addr × Obj)) (σ : St) (Q : List V → Hp → Prop) (us : List Value) (s' : Shared) : Prop := ∃ vs H', Inv X pins σ H' s' ∧ Vals vs us ∧ Q vs H'
noncomputable def SP (X : Cx) (pins : List (Addr × Obj)) (D : Ends) (f : Flow) (s' : Shared) : Prop :=
 match f with
 | .next => ∃ σ' H', Inv X pins σ' H' s' ∧ D.nx σ' H'
 | .brk => ∃ σ' H', Inv X pins σ' H' s' ∧ D.bk σ' H'
 | .cont => ∃ σ' H', Inv X pins σ' H' s' ∧ D.ct σ' H'
 | .ret u => ∃ v σ' H', Inv X pins σ' H' s' ∧ RelV v u ∧ D.rt v H'

noncomputable def PE (X : Cx) (e : Expr) (t : TE) : Prop :=
 ∀ (pins : List (Addr × Obj)) (s : Shared) (σ : St) (H : Hp) (Q : VK), Inv X pins σ H s → t σ H Q → wpAny (model X.prog X.w) X.A (eval e X.env) (EP X pins σ Q) X.xe s
noncomputable def PT (X : Cx) (e : Expr) (t : TT) : Prop :=
 ∀ (pins : List (Addr × Obj)) (s : Shared) (σ : St) (H : Hp) (Q : Bool → Hp → Prop), Inv X pins σ H s → t σ H Q → wpAny (model X.prog X.w) X.A (isTrue e X.env (eval e X.env)) (TP X pins σ Q) X.xe s
noncomputable def PW (X : Cx) (e : Expr) (t : TT) : Prop :=
 ∀ (whole : Sem Value) (pins : List (Addr × Obj)) (s : Shared) (σ : St) (H : Hp) (Q : Bool → Hp → Prop), Inv X pins σ H s → t σ H Q → wpAny (model X.prog X.w) X.A (isTrue e X.env whole) (TP X pins σ Q) X.xe s
theorem PW.pt {X : Cx} {e : Expr} {t : TT} (h : PW X e t) : PT X e t := h _
noncomputable def PA (X : Cx) (es : List Expr) (t : TA) : Prop :=
 ∀ (pos : Pos) (pins : List (Addr × Obj)) (s : Shared) (σ : St) (H : Hp) (Q : List V → Hp → Prop), Inv X pins σ H s → t σ H Q → wpAny (model X.prog X.w) X.A (spliced (backTo pos (starEach es X.env))) (AP X pins σ Q) X.xe s
noncomputable def PS (X : Cx) (st : Stmt) (t : TS) : Prop :=
 ∀ (pins : List (Addr × Obj)) (s : Shared) (σ : St) (H : Hp) (D : Ends), Inv X pins σ H s → t D σ H → wpAny (model X.prog X.w) X.A (exec st X.env) (SP X pins D) X.xe s
noncomputable def PSs (X : Cx) (st : List Stmt) (t : TS) : Prop :=
 ∀ (pins : List (Addr × Obj)) (s : Shared) (σ : St) (H : Hp) (D : Ends), Inv X pins σ H s → t D σ H → wpAny (model X.prog X.w) X.A (execs st X.env) (SP X pins D) X.xe s
theorem thn {α : Type} {t : Sem α} {Q Q' : α → Shared → Prop} {M : Model} {A : Around} {E : Value → Shared → Prop} {s : Shared} (h : wpAny M A t Q E s) (hQ : ∀ a s, Q a s → Q' a s) : wpAny M A t Q' E s := wpAny_mono h hQ fun _ _ x => x
end L2

namespace L2
open PySem PySem.Spec PyProof.Rows
section
variable {X : Cx}

/-! ### names and constants -/
noncomputable def tVar (i : Nat) : TE := fun σ H Q => ∃ v, σ[i]? = some (some v) ∧ Q v H
noncomputable def tC (v : V) : TE := fun _ H Q => Q v H
theorem pe_var {i : Nat} {x : Str} {pos : Pos} (hN : X.N[i]? = some x) (hv : Vis X.env.scope x) (hd : (x == ("__debug__" : Str)) = false := by decide) (hcd : (x == ("__classdict__" : Str)) = false := by decide) : PE X (.Name x pos) (tVar i) := by
 intro pins s σ H Q I h
 obtain ⟨v, e, h⟩ := h
 obtain ⟨m, hn, hl⟩ := I.loc
 obtain ⟨u, r, l⟩ := hl i x v hN e hv
 have fin : EP X pins σ Q u s := ⟨v, H, I, r, h⟩
 rcases l with ⟨hk, hm⟩ | ⟨hk, c, hc, hcell⟩
 ·exact wpAny_Name (wpAny_loadName_local I.ok.kind hk hn hm fin) hd
 ·rcases hk with hk | hk
  ·exact wpAny_Name (wpAny_loadName_cell I.ok.kind hk hc hcell fin) hd
  ·exact wpAny_Name (wpAny_loadName_free I.ok.kind hk hc hcell fin hcd) hd
theorem pe_int {i j pos} : PE X (.Constant (.int i) j pos) (tC (.int i)) := fun _ _ _ H _ I h => wpAny_Constant_int ⟨.int i, H, I.tok _, ⟨_, rfl⟩, h⟩
theorem pe_bl {b j pos} : PE X (.Constant (.bool b) j pos) (tC (.bl b)) := fun _ _ _ H _ I h => Constant_bool ⟨.bl b, H, I, rfl, h⟩
theorem pe_non {j pos} : PE X (.Constant .none j pos) (tC .non) := fun _ _ _ H _ I h => Constant_none ⟨.non, H, I, rfl, h⟩
theorem pe_str {x j pos} : PE X (.Constant (.str x) j pos) (tC (.str x)) := fun _ _ _ H _ I h => Calls.Constant_str ⟨.str x, H, I.tok _, ⟨_, rfl⟩, h⟩

noncomputable def Gl (X : Cx) (x : Str) : Prop := X.env.kindOf x = some .globalImplicit
theorem ld_glob {E : Value → Shared → Prop} {pins : List (Addr × Obj)} {s : Shared} {σ : St} {H : Hp} {x : Str} {u : Value} {pos : Pos} {Q : Value → Shared → Prop} (I : Inv X pins σ H s) (hg : Gl X x) (hm : X.mg x = some u) (h : Q u s)
  (hd : (x == ("__debug__" : Str)) = false := by decide) : wpAny (model X.prog X.w) X.A (eval (.Name x pos) X.env) Q E s :=
 Calls.Name_function_global I.ok.kind hg (Calls.loadGlobal_global (by rw [I.ok.glob]; exact I.mod.glob.keeps I.bk) hm h) hd
theorem ld_blt {E : Value → Shared → Prop} {pins : List (Addr × Obj)} {s : Shared} {σ : St} {H : Hp} {x : Str} {u : Value} {pos : Pos} {Q : Value → Shared → Prop} (I : Inv X pins σ H s) (hg : Gl X x) (hm : X.mg x = none) (hv : bootBuiltins x = some u) (h : Q u s)
  (hn : x ≠ "__name__" := by decide) (hd : (x == ("__debug__" : Str)) = false := by decide) : wpAny (model X.prog X.w) X.A (eval (.Name x pos) X.env) Q E s := by
 obtain ⟨mb, h1, h2⟩ := I.mod.blt
 exact Calls.Name_function_global I.ok.kind hg (Calls.loadGlobal_builtin (by rw [I.ok.glob]; exact I.mod.glob.keeps I.bk) hm (by rw [I.ok.blt]; exact h1.keeps I.bk) ((h2 x hn).trans hv) h) hd
theorem pe_glob {x : Str} {v : V} {u : Value} {pos : Pos} (hg : Gl X x) (hm : X.mg x = some u) (r : RelV v u) (hd : (x == ("__debug__" : Str)) = false := by decide) : PE X (.Name x pos) (tC v) :=
 fun _ _ _ H _ I h => ld_glob I hg hm ⟨v, H, I, r, h⟩ hd
theorem pe_bltn {x : Str} {v : V} {u : Value} {pos : Pos} (hg : Gl X x) (hm : X.mg x = none) (hv : bootBuiltins x = some u) (r : RelV v u) (hn : x ≠ "__name__" := by decide) (hd : (x == ("__debug__" : Str)) = false := by decide) : PE X (.Name x pos) (tC v) :=
 fun _ _ _ H _ I h => ld_blt I hg hm hv ⟨v, H, I, r, h⟩ hn hd

/-! ### arithmetic -/
variable {a b : Expr} {ta tb : TE} {pos : Pos}
/-! ### comparisons -/
noncomputable def tB (t : TE) : TT := fun σ H Q => t σ H fun x H1 => ∃ c, x = .bl c ∧ Q c H1
theorem pt_val {e : Expr} {t : TE} (h : PE X e t) (he : ∀ whole, isTrue e X.env whole = (do let v ← whole; standAt e.pos; holding [v] (truthy v)) := by intro _; rfl) : PT X e (tB t) := by
 intro pins s σ H Q I hw
 refine isTrue_plain (thn (h pins s σ H _ I hw) fun v s1 ⟨x, H1, I1, r1, q1⟩ => ?_) (he _)
 obtain ⟨d, rfl, q⟩ := q1
 cases r1
 exact wpAny_truthy_bool ⟨H1, I1, q⟩

/-! ### and, or, not -/
variable {tA tB' : TT} {rest : List Expr}
noncomputable def tAnd (t u : TT) : TT := fun σ H Q => t σ H fun c H1 => if c = true then u σ H1 Q else Q false H1
noncomputable def tOr (t u : TT) : TT := fun σ H Q => t σ H fun c H1 => if c = true then Q true H1 else u σ H1 Q
noncomputable def tNot (t : TT) : TT := fun σ H Q => t σ H fun c H1 => Q (!c) H1
theorem pw_and1 (ha : PT X a tA) : PW X (.BoolOp .And [a] pos) tA := by
 intro wh pins s σ H Q I h
 refine isTrue_and (thn (ha pins s σ H Q I h) fun c s1 e => ?_)
 cases c with
 | true => exact isTrue_and_nil e
 | false => exact e
theorem pw_or1 (ha : PT X a tA) : PW X (.BoolOp .Or [a] pos) tA := by
 intro wh pins s σ H Q I h
 refine isTrue_or (thn (ha pins s σ H Q I h) fun c s1 e => ?_)
 cases c with
 | false => exact isTrue_or_nil e
 | true => exact e
theorem pw_and (ha : PT X a tA) (hb : PW X (.BoolOp .And (b :: rest) pos) tB') : PW X (.BoolOp .And (a :: b :: rest) pos) (tAnd tA tB') := by
 intro wh pins s σ H Q I h
 refine isTrue_and (thn (ha pins s σ H _ I h) fun c s1 ⟨H1, I1, q1⟩ => ?_)
 cases c with
 | true => exact hb wh pins s1 σ H1 Q I1 q1
 | false => exact ⟨H1, I1, q1⟩
theorem pw_or (ha : PT X a tA) (hb : PW X (.BoolOp .Or (b :: rest) pos) tB') : PW X (.BoolOp .Or (a :: b :: rest) pos) (tOr tA tB') := by
 intro wh pins s σ H Q I h
 refine isTrue_or (thn (ha pins s σ H _ I h) fun c s1 ⟨H1, I1, q1⟩ => ?_)
 cases c with
 | true => exact ⟨H1, I1, q1⟩
 | false => exact hb wh pins s1 σ H1 Q I1 q1
theorem pt_not (ha : PT X a tA) : PT X (.UnaryOp .Not a pos) (tNot tA) := by
 intro pins s σ H Q I h
 exact isTrue_not (ha pins s σ H (fun c H1 => Q (!c) H1) I h)
noncomputable def tAndV (ta tb : TE) : TE := fun σ H Q => ta σ H fun x H1 => ∃ c, x = .bl c ∧ if c = true then tb σ H1 Q else Q (.bl false) H1
noncomputable def tOrV (ta tb : TE) : TE := fun σ H Q => ta σ H fun x H1 => ∃ c, x = .bl c ∧ if c = true then Q (.bl true) H1 else tb σ H1 Q
noncomputable def tNotV (ta : TE) : TE := fun σ H Q => ta σ H fun x H1 => ∃ c, x = .bl c ∧ Q (.bl (!c)) H1
theorem pe_one {op} {t : TE} (h : PE X a t) : PE X (.BoolOp op [a] pos) t := fun pins s σ H Q I hw => BoolOp_one (h pins s σ H Q I hw)
theorem pe_and (ha : PE X a ta) (hb : PE X (.BoolOp .And (b :: rest) pos) tb) : PE X (.BoolOp .And (a :: b :: rest) pos) (tAndV ta tb) := by
 intro pins s σ H Q I h
 refine BoolOp_and (thn (ha pins s σ H _ I h) fun v s1 ⟨x, H1, I1, r1, q1⟩ => ?_)
 obtain ⟨c, rfl, q1⟩ := q1
 cases r1
 refine wpAny_truthy_bool ?_
 cases c with
 | true => exact hb pins s1 σ H1 Q I1 q1
 | false => exact ⟨.bl false, H1, I1, rfl, q1⟩
theorem pe_or (ha : PE X a ta) (hb : PE X (.BoolOp .Or (b :: rest) pos) tb) : PE X (.BoolOp .Or (a :: b :: rest) pos) (tOrV ta tb) := by
 intro pins s σ H Q I h
 refine BoolOp_or (thn (ha pins s σ H _ I h) fun v s1 ⟨x, H1, I1, r1, q1⟩ => ?_)
 obtain ⟨c, rfl, q1⟩ := q1
 cases r1
 refine wpAny_truthy_bool ?_
 cases c with
 | false => exact hb pins s1 σ H1 Q I1 q1
 | true => exact ⟨.bl true, H1, I1, rfl, q1⟩
theorem pe_not (ha : PE X a ta) : PE X (.UnaryOp .Not a pos) (tNotV ta) := by
 intro pins s σ H Q I h
 refine UnaryOp_ (thn (ha pins s σ H _ I h) fun v s1 ⟨x, H1, I1, r1, q1⟩ => ?_)
 obtain ⟨c, rfl, q1⟩ := q1
 cases r1
 exact not_of (wpAny_truthy_bool ⟨.bl (!c), H1, I1, rfl, q1⟩)
end
end L2

namespace L2
open PySem PySem.Spec PyProof.Rows

/-! ### a list, a tuple that is read: tracked, frozen, or an object of the module -/
noncomputable def SqL (K : PySem.W.Frag) (H : Hp) (a : Addr) (xs : List V) : Prop :=
 Rd H a (.lst xs) ∨
  ∃ (o : Obj) (its : Array Value) (n : Nat), K.lookup a = some o ∧ o.cls = .type "list" ∧ o.dict = none ∧ o.data = .seq its n ∧ its.size ≤ sizeLine ∧ Vals xs its.toList
noncomputable def SqT (K : PySem.W.Frag) (H : Hp) (a : Addr) (xs : List V) : Prop :=
 Rd H a (.tup xs) ∨
  ∃ (o : Obj) (its : Array Value) (n : Nat), K.lookup a = some o ∧ o.cls = .type "tuple" ∧ o.data = .seq its n ∧ its.size ≤ sizeLine ∧ Vals xs its.toList
noncomputable def absV : Value → Option V
 | .none => some .non
 | .bool b => some (.bl b)
 | .int i _ => some (.int i)
 | .str x _ => some (.str x)
 | .bytes b _ => some (.byt b)
 | .float b _ => some (.flt b)
 | .ref a => some (.ref a)
 | .type n => some (.ty n)
 | _ => none
theorem RelV.abs {x : V} {u : Value} (r : RelV x u) : absV u = some x := by
 cases x with
 | non => cases r; rfl
 | bl _ => cases r; rfl
 | int _ => obtain ⟨t, rfl⟩ := r; rfl
 | str _ => obtain ⟨t, rfl⟩ := r; rfl
 | byt _ => obtain ⟨t, rfl⟩ := r; rfl
 | flt _ => obtain ⟨t, rfl⟩ := r; rfl
 | ref _ => cases r; rfl
 | ty _ => cases r; rfl
theorem RelV.inj {x y : V} {u : Value} (r : RelV x u) (q : RelV y u) : x = y := Option.some.inj (r.abs.symm.trans q.abs)
theorem Vals.inj : ∀ {xs ys : List V} {us : List Value}, Vals xs us → Vals ys us → xs = ys
 | _, _, _, .nil, .nil => rfl
 | _, _, _, .cons r t, .cons r' t' => by rw [r.inj r', Vals.inj t t']
section
variable {X : Cx} {pins : List (Addr × Obj)} {σ : St} {H : Hp} {s : Shared} {a : Addr} {xs ys : List V}
theorem SqL.of {K : PySem.W.Frag} (h : H a = some (.lst xs)) : SqL K H a xs := .inl (.inl h)
theorem SqT.of {K : PySem.W.Frag} (h : H a = some (.tup xs)) : SqT K H a xs := .inl (.inl h)
theorem Inv.list (I : Inv X pins σ H s) (h : SqL X.K H a xs) : ∃ its : List Value, Vals xs its ∧ PlainL s.heap a its.toArray ∧ xs.length ≤ sizeLine := by
 rcases h with h | ⟨o, its, n, hk, hc, hd, hs, hz, r⟩
 ·obtain ⟨z, its, n, r, e⟩ := h.ok I.hok
  exact ⟨its, r, ⟨_, n, e, rfl, rfl, rfl⟩, z⟩
 ·refine ⟨its.toList, r, ⟨o, n, I.kIn a o hk, hc, hd, by simpa using hs⟩, ?_⟩
  have e := r.length
  simp only [Array.length_toList] at e
  omega
theorem Inv.tuple (I : Inv X pins σ H s) (h : SqT X.K H a xs) : ∃ its : List Value, Vals xs its ∧ IsTup s.heap a its.toArray ∧ xs.length ≤ sizeLine := by
 rcases h with h | ⟨o, its, n, hk, hc, hs, hz, r⟩
 ·obtain ⟨z, its, r, p⟩ := h.ok I.hok
  exact ⟨its, r, p, z⟩
 ·refine ⟨its.toList, r, ⟨o, I.kIn a o hk, hc, n, by simpa using hs⟩, ?_⟩
  have e := r.length
  simp only [Array.length_toList] at e
  omega
theorem Inv.list_inj (I : Inv X pins σ H s) (h : SqL X.K H a xs) (h' : SqL X.K H a ys) : xs = ys := by
 obtain ⟨its, r, ⟨o, n, e, _, _, d⟩, _⟩ := I.list h
 obtain ⟨its', r', ⟨o', n', e', _, _, d'⟩, _⟩ := I.list h'
 rw [e] at e'; cases e'
 rw [d] at d'
 injection d' with d1 _
 have : its = its' := by simpa using congrArg Array.toList d1
 subst this
 exact r.inj r'
theorem Inv.tuple_inj (I : Inv X pins σ H s) (h : SqT X.K H a xs) (h' : SqT X.K H a ys) : xs = ys := by
 obtain ⟨its, r, ⟨o, e, _, n, d⟩, _⟩ := I.tuple h
 obtain ⟨its', r', ⟨o', e', _, n', d'⟩, _⟩ := I.tuple h'
 rw [e] at e'; cases e'
 rw [d] at d'
 injection d' with d1 _
 have : its = its' := by simpa using congrArg Array.toList d1
 subst this
 exact r.inj r'
end

/-! ### another wish about exceptions -/
noncomputable abbrev Cx.wish (X : Cx) (E : Value → Shared → Prop) : Cx := { X with xe := E }
noncomputable abbrev Cx.nox (X : Cx) : Cx := X.wish fun _ _ => False
theorem Cx.Ok.wish {X : Cx} (ok : X.Ok) (E : Value → Shared → Prop) : (X.wish E).Ok :=
 ⟨ok.mod, ok.kind, ok.glob, ok.blt, ok.above, ok.inj, ok.has, ok.cab, ok.hd, ok.frames, ok.stk, ok.exf, ok.bs, ok.bsz, ok.noex, ok.exfs, ok.funs, ok.frf⟩
theorem Cx.Ok.unwish {X : Cx} {E : Value → Shared → Prop} (ok : (X.wish E).Ok) : X.Ok :=
 ⟨ok.mod, ok.kind, ok.glob, ok.blt, ok.above, ok.inj, ok.has, ok.cab, ok.hd, ok.frames, ok.stk, ok.exf, ok.bs, ok.bsz, ok.noex, ok.exfs, ok.funs, ok.frf⟩
section
variable {X : Cx} {pins : List (Addr × Obj)} {σ : St} {H : Hp} {s : Shared} {E : Value → Shared → Prop}
theorem Inv.wish (I : Inv X pins σ H s) (E : Value → Shared → Prop) : Inv (X.wish E) pins σ H s := ⟨I.ok.wish E, I.os, I.bare, I.base, I.loc, I.cell, I.free, I.freeC, I.pin, I.hok, I.len⟩
theorem Inv.unwish (I : Inv (X.wish E) pins σ H s) : Inv X pins σ H s := ⟨I.ok.unwish, I.os, I.bare, I.base, I.loc, I.cell, I.free, I.freeC, I.pin, I.hok, I.len⟩
theorem SP.unwish {D : Ends} {f : Flow} {s' : Shared} (h : SP (X.wish E) pins D f s') : SP X pins D f s' := by
 cases f with
 | next => obtain ⟨σ', H', I, q⟩ := h; exact ⟨σ', H', I.unwish, q⟩
 | brk => obtain ⟨σ', H', I, q⟩ := h; exact ⟨σ', H', I.unwish, q⟩
 | cont => obtain ⟨σ', H', I, q⟩ := h; exact ⟨σ', H', I.unwish, q⟩
 | ret u => obtain ⟨v, σ', H', I, r, q⟩ := h; exact ⟨v, σ', H', I.unwish, r, q⟩
theorem PSs.nox {st : List Stmt} {t : TS} (h : PSs X.nox st t) : PSs X st t := fun pins s σ H D I hw =>
 wpAny_mono (h pins s σ H D (I.wish _) hw) (fun _ _ q => q.unwish) fun _ _ z => False.elim z
end

/-! ### blocks and small statements -/
section
variable {X : Cx} {st : Stmt} {rest : List Stmt} {t u : TS} {e : Expr} {te : TE} {pos : Pos}
noncomputable def tNext : TS := fun D σ H => D.nx σ H
noncomputable def tSeq (t u : TS) : TS := fun D σ H => t { D with nx := u D } σ H
theorem pss_nil : PSs X [] tNext := fun _ _ σ H _ I h => wpAny_execs_nil ⟨σ, H, I, h⟩
theorem pss_cons (h1 : PS X st t) (h2 : PSs X rest u) : PSs X (st :: rest) (tSeq t u) := by
 intro pins s σ H D I h
 refine wpAny_execs_cons (thn (h1 pins s σ H { D with nx := u D } I h) fun f s1 q => ?_)
 cases f with
 | next =>
  obtain ⟨σ', H', I', q⟩ := q
  exact h2 pins s1 σ' H' D I' q
 | ret v => exact q
 | brk => exact q
 | cont => exact q
theorem pss_one (h1 : PS X st t) : PSs X [st] t := by
 intro pins s σ H D I h
 refine wpAny_execs_cons (thn (h1 pins s σ H D I h) fun f s1 q => ?_)
 cases f with
 | next => exact wpAny_execs_nil q
 | ret v => exact q
 | brk => exact q
 | cont => exact q
theorem Inv.quiet {pins : List (Addr × Obj)} {σ : St} {H : Hp} {s : Shared} (I : Inv X pins σ H s) : interactive X.env = false := by simp [interactive, I.ok.kind]
noncomputable def tDrop (te : TE) : TS := fun D σ H => te σ H fun _ H1 => D.nx σ H1
theorem ps_expr (he : PE X e te) (hs : swapsWith e none pos.line X.env = pure false := by rfl) : PS X (.Expr e pos) (tDrop te) := by
 intro pins s σ H D I h
 exact wpAny_Expr_any (thn (he pins s σ H _ I h) fun v s1 ⟨x, H1, I1, r1, q1⟩ => ⟨σ, H1, I1, q1⟩) I.quiet hs
noncomputable def tRet (te : TE) : TS := fun D σ H => te σ H D.rt
theorem ps_ret (he : PE X e te) : PS X (.Return (some e) pos) (tRet te) := by
 intro pins s σ H D I h
 exact wpAny_Return_some (thn (he pins s σ H _ I h) fun v s1 ⟨x, H1, I1, r1, q1⟩ => ⟨x, σ, H1, I1, r1, q1⟩)
noncomputable def tIfS (c : TT) (t u : TS) : TS := fun D σ H => c σ H fun b H1 => if b = true then t D σ H1 else u D σ H1
theorem ps_if {c : Expr} {a b : List Stmt} {tc : TT} (hc : PT X c tc) (ha : PSs X a t) (hb : PSs X b u) : PS X (.If c a b pos) (tIfS tc t u) := by
 intro pins s σ H D I h
 refine wpAny_If (thn (hc pins s σ H _ I h) fun d s1 ⟨H1, I1, q1⟩ => ?_)
 cases d with
 | true => exact ha pins s1 σ H1 D I1 q1
 | false => exact hb pins s1 σ H1 D I1 q1
noncomputable def tNever : TS := fun _ _ _ => False
end

/-! ### targets -/
noncomputable abbrev TG := V → St → Hp → (St → Hp → Prop) → Prop
noncomputable abbrev TGs := List V → St → Hp → (St → Hp → Prop) → Prop
noncomputable def PG (X : Cx) (target : Expr) (t : TG) : Prop :=
 ∀ (pins : List (Addr × Obj)) (s : Shared) (σ : St) (H : Hp) (v : V) (u : Value) (Q : St → Hp → Prop), Inv X pins σ H s → RelV v u → t v σ H Q →
  wpAny (model X.prog X.w) X.A (assign target X.env u) (fun _ s' => ∃ σ' H', Inv X pins σ' H' s' ∧ Q σ' H') X.xe s
noncomputable def PGs (X : Cx) (ts : List Expr) (t : TGs) : Prop :=
 ∀ (pins : List (Addr × Obj)) (s : Shared) (σ : St) (H : Hp) (vs : List V) (us : List Value) (Q : St → Hp → Prop), Inv X pins σ H s → Vals vs us → t vs σ H Q →
  wpAny (model X.prog X.w) X.A (assignInOrder ((assignEach ts X.env).map (·.2)) us) (fun _ s' => ∃ σ' H', Inv X pins σ' H' s' ∧ Q σ' H') X.xe s
noncomputable abbrev TSet := V → V → V → Hp → (Hp → Prop) → Prop
noncomputable def PSet (X : Cx) (t : TSet) : Prop :=
 ∀ (pins : List (Addr × Obj)) (s : Shared) (σ : St) (H : Hp) (o i v : V) (ov iv u : Value) (Q : Hp → Prop), Inv X pins σ H s → RelV o ov → RelV i iv → RelV v u → t o i v H Q →
  wpAny (model X.prog X.w) X.A (setItem ov iv u) (fun _ s' => ∃ H', Inv X pins σ H' s' ∧ Q H') X.xe s
noncomputable abbrev TIp := V → V → Hp → VK → Prop
noncomputable def PIp (X : Cx) (op : Operator) (t : TIp) : Prop :=
 ∀ (pins : List (Addr × Obj)) (s : Shared) (σ : St) (H : Hp) (x y : V) (v u : Value) (Q : VK), Inv X pins σ H s → RelV x v → RelV y u → t x y H Q →
  wpAny (model X.prog X.w) X.A (inplaceOp op v u) (EP X pins σ Q) X.xe s
section
variable {X : Cx} {pos : Pos}
noncomputable def gName (i : Nat) : TG := fun v σ H Q => Q (σ.set i (some v)) H
theorem pg_name {i : Nat} {x : Str} (hN : X.N.Nodup) (hi : X.N[i]? = some x) (hx : Loc X.env.scope x) (hf : X.fn x = true ∨ X.env.scope.names.lookup x = some .local := by first | exact .inl rfl | exact .inr rfl | assumption) : PG X (.Name x pos) (gName i) := by
 intro pins s σ H v u Q I r h
 exact wpAny_assign_Name (store_ok I hN hi hx r (fun s' I' => ⟨_, H, I', h⟩) hf)
noncomputable def gNil : TGs := fun vs σ H Q => vs = [] ∧ Q σ H
noncomputable def gCons (t : TG) (u : TGs) : TGs := fun vs σ H Q => ∃ v r, vs = v :: r ∧ t v σ H fun σ' H' => u r σ' H' Q
theorem pgs_nil : PGs X [] gNil := by
 intro pins s σ H vs us Q I r h
 obtain ⟨e, h⟩ := h
 subst e
 cases r
 exact assignInOrder_nil ⟨σ, H, I, h⟩
theorem pgs_cons {e : Expr} {es : List Expr} {t : TG} {u : TGs} (h1 : PG X e t) (h2 : PGs X es u)
  (hs : (assignEach (e :: es) X.env).map (·.2) = assign e X.env :: (assignEach es X.env).map (·.2) := by rfl) : PGs X (e :: es) (gCons t u) := by
 intro pins s σ H vs us Q I r h
 obtain ⟨v, vr, e1, h⟩ := h
 subst e1
 cases r with
 | cons r rr =>
  rw [hs]
  refine assignInOrder_cons (thn (h1 pins s σ H _ _ _ I r h) fun _ s1 ⟨σ1, H1, I1, q1⟩ => ?_)
  exact h2 pins s1 σ1 H1 _ _ Q I1 rr q1
noncomputable def gTup (K : PySem.W.Frag) (n : Nat) (t : TGs) : TG := fun v σ H Q => ∃ a xs, v = .ref a ∧ SqT K H a xs ∧ xs.length = n ∧ t xs σ H Q
theorem pg_tup {es : List Expr} {k : Nat} {t : TGs} {n : Nat} (hc : X.calm = true) (h : PGs X es t)
  (hn : (assignEach es X.env).length = n := by rfl) (hst : (assignEach es X.env).findIdx? (·.1) = none := by rfl) : PG X (.Tuple es k pos) (gTup X.K n t) := by
 intro pins s σ H v u Q I r hw
 obtain ⟨a, xs, e1, hq, hl, hw⟩ := hw
 subst e1
 cases r
 obtain ⟨its, rv, ht, hz⟩ := I.tuple hq
 refine assign_Tuple_tuple (I.ok.hd hc) ht (by simp [hn, ← hl, rv.length]) hst fun h' hx => ?_
 have I1 : Inv X pins σ H { s with heap := h' } := I.kept (t' := s.toks) fun b o e => hx b o (Nat.ne_of_lt (Heap.lt_size e)) e
 exact h pins _ σ H xs _ Q I1 (by simpa using rv) hw
noncomputable def gSub (to ti : TE) (t : TSet) : TG := fun v σ H Q => to σ H fun o H1 => ti σ H1 fun i H2 => t o i v H2 fun H3 => Q σ H3
theorem pg_sub {o i : Expr} {to ti : TE} {t : TSet} (ho : PE X o to) (hi : PE X i ti) (hs : PSet X t)
  (ha : ∀ v, assign (.Subscript o i pos) X.env v = (do
   let ov ← holding [v] (eval o X.env)
   let iv ← holding [v, ov] (eval i X.env)
   standAt pos
   holding [v, ov, iv] (setItem ov iv v)
   release [v, ov, iv] []) := by intro _; rfl) : PG X (.Subscript o i pos) (gSub to ti t) := by
 intro pins s σ H v u Q I r h
 rw [ha]
 refine wpAny_bind (wpAny_holding (thn (ho pins s σ H _ I h) fun ov s1 ⟨x, H1, I1, r1, q1⟩ => ?_))
 refine wpAny_bind (wpAny_holding (thn (hi pins s1 σ H1 _ I1 q1) fun iv s2 ⟨y, H2, I2, r2, q2⟩ => ?_))
 refine wpAny_bind (wpAny_standAt (wpAny_bind (wpAny_holding (thn (hs pins s2 σ H2 x y v ov iv u _ I2 r1 r2 r q2) fun _ s3 ⟨H3, I3, q3⟩ => ?_))))
 exact wpAny_release ⟨σ, H3, I3, q3⟩
noncomputable def tAsg (te : TE) (g : TG) : TS := fun D σ H => te σ H fun x H1 => g x σ H1 D.nx
theorem ps_asg {tg e : Expr} {te : TE} {g : TG} (he : PE X e te) (hg : PG X tg g) (hs : swapsWithSole [tg] e pos.line X.env = pure false := by rfl) (hw : swappedStores [tg] e X.env = pure none := by rfl)
  (h1 : (assignEach [tg] X.env).map (·.2) = [assign tg X.env] := by rfl) : PS X (.Assign [tg] e pos) (tAsg te g) := by
 intro pins s σ H D I h
 refine wpAny_Assign_stores (thn (he pins s σ H _ I h) fun v s1 ⟨x, H1, I1, r1, q1⟩ => ?_) hs hw
 rw [h1]
 exact thn (hg pins s1 σ H1 x v _ I1 r1 q1) fun _ s2 q => q
theorem ps_set {i : Nat} {x : Str} {e : Expr} {te : TE} {pos' : Pos} (hN : X.N.Nodup) (hi : X.N[i]? = some x) (hx : Loc X.env.scope x) (he : PE X e te) (hs : swapsWith e (some (.Name x pos')) pos.line X.env = pure false := by rfl) (hf : X.fn x = true ∨ X.env.scope.names.lookup x = some .local := by first | exact .inl rfl | exact .inr rfl | assumption) :
  PS X (.Assign [.Name x pos'] e pos) (tAsg te (gName i)) := by
 intro pins s σ H D I h
 refine wpAny_Assign_Name (thn (he pins s σ H _ I h) fun v s1 ⟨y, H1, I1, r1, q1⟩ => ?_) hs
 exact store_ok I1 hN hi hx r1 (fun s2 I2 => ⟨_, H1, I2, q1⟩) hf
noncomputable def tPar (i j : Nat) (ta : TA) : TS := fun D σ H => ta σ H fun vs H1 => ∃ v w, vs = [v, w] ∧ D.nx ((σ.set i (some v)).set j (some w)) H1
theorem ps_par {i j : Nat} {x y : Str} {a b : Expr} {ta : TA} {px py pt : Pos} {kt k2 pt2} (hc : X.calm = true) (hN : X.N.Nodup) (hi : X.N[i]? = some x) (hj : X.N[j]? = some y) (hij : i ≠ j)
  (hx : X.env.scope.names.lookup x = some .local) (hy : X.env.scope.names.lookup y = some .local) (ha : PA X [a, b] ta)
  (hw : swappedStores [.Tuple [.Name x px, .Name y py] kt pt] (.Tuple [a, b] k2 pt2) X.env = pure (some [x, y]))
  (hs : swapsWithSole [.Tuple [.Name x px, .Name y py] kt pt] (.Tuple [a, b] k2 pt2) pos.line X.env = pure false := by rfl) :
  PS X (.Assign [.Tuple [.Name x px, .Name y py] kt pt] (.Tuple [a, b] k2 pt2) pos) (tPar i j ta) := by
 intro pins s σ H D I h
 rw [exec_Assign_arm]
 refine wpAny_bind (wpAny_standAt ?_)
 rw [hs]
 refine wpAny_bind (wpAny_pure ?_)
 rw [if_neg (by decide)]
 refine wpAny_bind (Tuple_ (thn (ha _ pins s σ H _ I h) fun us s1 ⟨vs, H1, I1, r1, q1⟩ => ?_))
 obtain ⟨v, w, e1, q1⟩ := q1
 subst e1
 obtain ⟨u1, u2, rfl, rv, rw'⟩ : ∃ u1 u2, us = [u1, u2] ∧ RelV v u1 ∧ RelV w u2 := by
  cases r1 with
  | cons p q =>
   cases q with
   | cons p' q' =>
    cases q'
    exact ⟨_, _, rfl, p, p'⟩
 refine wpAny_newObj_type ?_ (by show 2 ≤ sizeLine; decide)
 have I2 : Inv X pins σ H1 { s1 with heap := s1.heap.push { cls := .type "tuple", data := .seq [u1, u2].toArray } } := I1.kept (t' := s1.toks) fun b o e => Heap.get?_push_of_some _ e
 rw [hw]
 refine wpAny_bind (wpAny_pure ?_)
 show wpAny (model X.prog X.w) X.A (do rule "assign.swapped-stores"; let items ← unpackItems (.ref s1.heap.objs.size) 2 none; assignInOrder [fun v => bindName X.env y v, fun v => bindName X.env x v] items.reverse; pure Flow.next) _ _ _
 refine wpAny_bind (wpAny_rule (wpAny_bind (unpackItems_tuple (items := #[u1, u2]) (I.ok.hd hc) (IsTup.new s1.heap _) fun h' hx' => ?_)))
 have I3 := I2.kept (h' := h') (t' := s1.toks) fun b o e => hx' b o (Nat.ne_of_lt (Heap.lt_size e)) e
 show wpAny _ _ (assignInOrder [fun v => bindName X.env y v, fun v => bindName X.env x v] [u2, u1] >>= fun _ => pure Flow.next) _ _ _
 refine wpAny_bind (assignInOrder_cons (wpAny_bindName (store_ok I3 hN hj (.inl hy) rw' (fun s2 I4 => ?_) (.inr hy))))
 refine assignInOrder_cons (wpAny_bindName (store_ok I4 hN hi (.inl hx) rv (fun s3 I5 => assignInOrder_nil (wpAny_pure ?_)) (.inr hx)))
 rw [List.set_comm _ _ (Ne.symm hij)] at I5
 exact ⟨_, H1, I5, q1⟩
noncomputable def tAug (i : Nat) (te : TE) (ti : TIp) : TS := fun D σ H => ∃ x, σ[i]? = some (some x) ∧ te σ H fun y H1 => ti x y H1 fun z H2 => D.nx (σ.set i (some z)) H2
theorem ps_aug {i : Nat} {x : Str} {e : Expr} {te : TE} {op : Operator} {ti : TIp} {pos' : Pos} (hN : X.N.Nodup) (hi : X.N[i]? = some x) (hx : Loc X.env.scope x) (he : PE X e te) (ho : PIp X op ti) (hf : X.fn x = true ∨ X.env.scope.names.lookup x = some .local := by first | exact .inl rfl | exact .inr rfl | assumption) :
  PS X (.AugAssign (.Name x pos') op e pos) (tAug i te ti) := by
 intro pins s σ H D I h
 obtain ⟨v, e1, h⟩ := h
 obtain ⟨m, hn, hl⟩ := I.loc
 have vis : Vis X.env.scope x := by rcases hx with k | k; exact .inl k; exact .inr (.inl k)
 obtain ⟨u, r, l⟩ := hl i x v hi e1 vis
 refine wpAny_AugAssign_Name ?_
 have go : wpAny (model X.prog X.w) X.A (eval e X.env) (fun w s₂ => wpAny (model X.prog X.w) X.A (inplaceOp op u w) (fun r s₃ => wpAny (model X.prog X.w) X.A (storeName X.env x r) (fun _ => SP X pins D .next) X.xe s₃) X.xe s₂) X.xe s := by
  refine thn (he pins s σ H _ I h) fun w s1 ⟨y, H1, I1, r1, q1⟩ => ?_
  refine thn (ho pins s1 σ H1 v y u w _ I1 r r1 q1) fun z s2 ⟨zv, H2, I2, r2, q2⟩ => ?_
  exact store_ok I2 hN hi hx r2 (fun s3 I3 => ⟨_, H2, I3, q2⟩) hf
 rcases l with ⟨hk, hm⟩ | ⟨hk, c, hc, hcell⟩
 ·exact wpAny_loadName_local I.ok.kind hk hn hm go
 ·rcases hk with hk | hk
  ·exact wpAny_loadName_cell I.ok.kind hk hc hcell go
  ·rcases hx with k | k
   ·have : X.env.scope.names.lookup x = some .free := hk
    rw [k] at this; cases this
   ·have : X.env.scope.names.lookup x = some .free := hk
    rw [k] at this; cases this
noncomputable def ipI (f : Int → Int → Int) : TIp := fun x y H Q => ∃ i j, x = .int i ∧ y = .int j ∧ Q (.int (f i j)) H
theorem ip_add : PIp X .Add (ipI fun i j => i + j) := by
 intro pins s σ H x y v u Q I r1 r2 h
 obtain ⟨i, j, e1, e2, q⟩ := h
 subst e1; subst e2
 obtain ⟨t, rfl⟩ := r1
 obtain ⟨t', rfl⟩ := r2
 exact iadd_int ⟨.int _, H, I.tok _, ⟨_, rfl⟩, q⟩
end

/-! ### while -/
section
variable {X : Cx} {pos : Pos}
noncomputable def tWhile (c : TT) (tb : TS) : TS := fun D σ H => ∃ W : Nat → St → Hp → Prop, (∃ m, W m σ H) ∧ ∀ m σ H, W m σ H →
 c σ H fun b H1 => if b = true then ∃ N : St → Hp → Prop, (∀ σ' H', N σ' H' → ∃ m', m' < m ∧ W m' σ' H') ∧ tb { D with nx := N, ct := N, bk := D.nx } σ H1 else D.nx σ H1
theorem ps_while {c : Expr} {body : List Stmt} {tc : TT} {tb : TS} (hp : PassesOwn (model X.prog X.w) X.A X.env X.xe) (hc : PT X c tc) (hb : PSs X body tb) : PS X (.While c body [] pos) (tWhile tc tb) := by
 intro pins s σ H D I h
 obtain ⟨W, ⟨m0, w0⟩, turn⟩ := h
 refine wpAny_While (codeAny_whileLoop (fun n s' => ∃ σ' H', Inv X pins σ' H' s' ∧ W n σ' H') ?_ m0 ⟨σ, H, I, w0⟩)
 rintro n s1 ⟨σ1, H1, I1, w1⟩
 refine wpAny_passesOwn hp (thn (hc pins s1 σ1 H1 _ I1 (turn n σ1 H1 w1)) fun b s2 ⟨H2, I2, q2⟩ => ?_)
 cases b with
 | true =>
  obtain ⟨N, hN, q2⟩ := q2
  rw [if_pos rfl]
  refine wpAny_passesOwn hp (thn (hb pins s2 σ1 H2 _ I2 q2) fun f s3 q3 => ?_)
  cases f with
  | next =>
   obtain ⟨σ3, H3, I3, n3⟩ := q3
   obtain ⟨m', hm, w3⟩ := hN σ3 H3 n3
   exact ⟨m', hm, σ3, H3, I3, w3⟩
  | cont =>
   obtain ⟨σ3, H3, I3, n3⟩ := q3
   obtain ⟨m', hm, w3⟩ := hN σ3 H3 n3
   exact ⟨m', hm, σ3, H3, I3, w3⟩
  | brk => exact q3
  | ret v => exact q3
 | false =>
  rw [if_neg Bool.false_ne_true]
  exact wpAny_execs_nil ⟨σ1, H2, I2, q2⟩
end

/-! ### what a loop or a comprehension walks -/
set_option genInjectivity false in
structure It where
 go : Nat → Hp → Prop
 yld : Nat → Hp → V → Hp → Prop
 stop : Nat → Hp → Prop
noncomputable def FpOk (X : Cx) (pins : List (Addr × Obj)) (H : Hp) (b : Addr) : Prop :=
 H b = none ∧ b ≠ X.env.locals ∧ b ∉ X.fs ∧ (b ∈ X.ex ∨ X.s₀.heap.objs.size ≤ b) ∧ (∀ x c, X.env.cells.lookup x = some c → c ≠ b) ∧ ∀ p ∈ X.pn ++ pins, p.1 ≠ b
theorem Inv.fpOk {X : Cx} {pins : List (Addr × Obj)} {σ : St} {H H' : Hp} {s : Shared} {b : Addr} (I : Inv X pins σ H s) (hb : s.heap.objs.size ≤ b) (hn : H' b = none) : FpOk X pins H' b := by
 refine ⟨hn, Nat.ne_of_gt (Nat.lt_of_lt_of_le I.lt hb), I.nofs hb, .inr (Nat.le_trans I.sz hb), fun x c e z => ?_, fun p hp z => ?_⟩
 ·obtain ⟨v, q⟩ := I.cell x c e
  exact absurd (Nat.lt_of_lt_of_le q.lt (by rw [z]; exact hb)) (Nat.lt_irrefl _)
 ·exact absurd (Nat.lt_of_lt_of_le (Heap.lt_size (I.pin p hp).1) (by rw [z]; exact hb)) (Nat.lt_irrefl _)
structure Turn (P : Program) (w : World) (K : PySem.W.Frag) (tg : Expr) (J : It) (fp : List Addr) (it : Addr) (tn : Nat → Heap → Prop) : Prop where
 mem : it ∈ fp
 obj : ∀ i h, tn i h → ∀ b ∈ fp, ∃ o, h.get? b = some o ∧ ∀ v, o.data ≠ .cell v
 keep : ∀ i h h', tn i h → (∀ b ∈ fp, ∀ o, h.get? b = some o → h'.get? b = some o) → tn i h'
 item : ∀ (X : Cx), X.prog = P → X.w = w → X.K = K → X.calm = true → ∀ (i : Nat) (pins : List (Addr × Obj)) (s : Shared) (σ : St) (H : Hp) (E : Value → Shared → Prop), Inv X pins σ H s → (∀ b ∈ fp, FpOk X pins H b) → tn i s.heap → J.go i H →
  wpAny (model P w) X.A (pyNext (.ref it)) (fun r s1 => ∃ u, r = some u ∧
   wpAny (model P w) X.A (letOwnedTupleGo tg (.ref it) u) (fun _ s2 => ∃ x H', Inv X pins σ H' s2 ∧ RelV x u ∧ J.yld i H x H' ∧ tn (i + 1) s2.heap ∧ ∀ b ∈ fp, H' b = none) E s1) E s
 done : ∀ (X : Cx), X.prog = P → X.w = w → X.K = K → X.calm = true → ∀ (i : Nat) (pins : List (Addr × Obj)) (s : Shared) (σ : St) (H : Hp) (E : Value → Shared → Prop), Inv X pins σ H s → (∀ b ∈ fp, FpOk X pins H b) → tn i s.heap → J.stop i H →
  wpAny (model P w) X.A (pyNext (.ref it)) (fun r s1 => r = none ∧ Inv X pins σ H s1) E s
 self : ∀ (A : Around) (i : Nat) (s : Shared) (Q : Value → Shared → Prop) (E : Value → Shared → Prop), tn i s.heap → Q (.ref it) s → wpAny (model P w) A (pyIter (.ref it)) Q E s
noncomputable abbrev TI := St → Hp → (It → Hp → Prop) → Prop
noncomputable def PIE (X : Cx) (pins : List (Addr × Obj)) (σ : St) (tg : Expr) (R : It → Hp → Prop) (itv : Value) (s2 : Shared) : Prop :=
 ∃ (it : Addr) (fp : List Addr) (tn : Nat → Heap → Prop) (J : It) (H' : Hp), itv = .ref it ∧ Inv X pins σ H' s2 ∧ Turn X.prog X.w X.K tg J fp it tn ∧ tn 0 s2.heap ∧ (∀ b ∈ fp, FpOk X pins H' b) ∧ R J H'
noncomputable def PI (X : Cx) (tg iter : Expr) (wi : TI) : Prop :=
 ∀ (pins : List (Addr × Obj)) (s : Shared) (σ : St) (H : Hp) (R : It → Hp → Prop), Inv X pins σ H s → wi σ H R →
  wpAny (model X.prog X.w) X.A (eval iter X.env) (fun v s1 => wpAny (model X.prog X.w) X.A (pyIter v) (PIE X pins σ tg R) X.xe s1) X.xe s

theorem go_of {M : Model} {A : Around} {E : Value → Shared → Prop} {s : Shared} {tg : Expr} {it : Addr} {u : Value} {o : Obj} {n : String} {vs : Array Value} {Q : Unit → Shared → Prop} (ho : s.heap.get? it = some o) (hc : o.cls = .type n) (hd : o.data = .fields vs)
    (hn : ["enumerate", "zip", "dict_itemiterator", "dict_reverseitemiterator", "odict_iterator", "itertools.zip_longest", "itertools.pairwise"].contains n = false) (hQ : Q () s) : wpAny M A (letOwnedTupleGo tg (.ref it) u) Q E s := by
  unfold letOwnedTupleGo
  cases tg <;> first
    | exact wpAny_pure hQ
    | (cases u <;> first
        | exact wpAny_pure hQ
        | (refine wpAny_bind (wpAny_load ho ?_)
           rw [hc, hd]
           show wpAny M A (if (["enumerate", "zip", "dict_itemiterator", "dict_reverseitemiterator", "odict_iterator", "itertools.zip_longest", "itertools.pairwise"].contains n && vs[0]? == some (rawInt _)) = true then _ else _) Q E s
           rw [if_neg (by intro h; rw [hn, Bool.false_and] at h; cases h)]
           exact wpAny_pure hQ))

noncomputable def Itl (K : PySem.W.Frag) (a : Addr) : It :=
 ⟨fun i H => ∃ xs x, SqL K H a xs ∧ xs[i]? = some x, fun i H x H' => H' = H ∧ ∀ xs, SqL K H a xs → xs[i]? = some x, fun i H => ∃ xs, SqL K H a xs ∧ xs.length ≤ i⟩
noncomputable def Itt (K : PySem.W.Frag) (a : Addr) : It :=
 ⟨fun i H => ∃ xs x, SqT K H a xs ∧ xs[i]? = some x, fun i H x H' => H' = H ∧ ∀ xs, SqT K H a xs → xs[i]? = some x, fun i H => ∃ xs, SqT K H a xs ∧ xs.length ≤ i⟩
noncomputable def Itr (lo : Int) (n : Nat) : It := ⟨fun i _ => i < n, fun i H x H' => H' = H ∧ x = .int (lo + i), fun i _ => n ≤ i⟩
theorem turn_list {P : Program} {w : World} {K : PySem.W.Frag} {tg : Expr} (a it : Addr) : Turn P w K tg (Itl K a) [it] it (fun i h => h.IsListIter it a i) where
 mem := by simp
 obj := fun i h st b hb => by
  have e : b = it := by simpa using hb
  subst e
  obtain ⟨o, e, c, d⟩ := st
  exact ⟨o, e, fun v z => by rw [d] at z; cases z⟩
 keep := fun i h h' st k => st.at fun o e => k it (by simp) o e
 item := by
  intro X hP hw hK hc i pins s σ H E I hf st hg
  subst hP hw hK
  obtain ⟨xs, x, hq, hx⟩ := hg
  obtain ⟨its, rv, p, hz⟩ := I.list hq
  obtain ⟨u, hu, ru⟩ := rv.get hx
  obtain ⟨f0, f1, f2, f3, f4, f5⟩ := hf it (by simp)
  refine wpAny_pyNext_list_item st p.isList (x := u) (by simpa using hu) fun h' st' sb => ?_
  have I1 : Inv X pins σ H { s with heap := h' } := I.turned (t' := s.toks) (fun b o hb e => (sb.2 b hb).trans e) f0 f1 f3 f4 f5
  obtain ⟨o, e, c, d⟩ := id st'
  exact ⟨u, rfl, go_of (s := { s with heap := h' }) e c d (by decide) ⟨x, H, I1, ru, ⟨rfl, fun ys hy => by rw [I.list_inj hy hq]; exact hx⟩, st', fun b hb => (hf b hb).1⟩⟩
 done := by
  intro X hP hw hK hc i pins s σ H E I hf st hg
  subst hP hw hK
  obtain ⟨xs, hq, hx⟩ := hg
  obtain ⟨its, rv, p, hz⟩ := I.list hq
  obtain ⟨f0, f1, f2, f3, f4, f5⟩ := hf it (by simp)
  have hl := rv.length
  exact wpAny_pyNext_list_end (I.ok.hd hc) st p.isList (by simp; omega) fun h' eb => ⟨rfl, I.turned (t' := s.toks) (fun b o hb e => eb b o hb e) f0 f1 f3 f4 f5⟩
 self := fun _ _ _ _ _ st h => wpAny_pyIter_listiter st h
theorem turn_tuple {P : Program} {w : World} {K : PySem.W.Frag} {tg : Expr} (a it : Addr) : Turn P w K tg (Itt K a) [it] it (fun i h => h.IsTupleIter it a i) where
 mem := by simp
 obj := fun i h st b hb => by
  have e : b = it := by simpa using hb
  subst e
  obtain ⟨o, e, c, d⟩ := st
  exact ⟨o, e, fun v z => by rw [d] at z; cases z⟩
 keep := fun i h h' st k => st.at fun o e => k it (by simp) o e
 item := by
  intro X hP hw hK hc i pins s σ H E I hf st hg
  subst hP hw hK
  obtain ⟨xs, x, hq, hx⟩ := hg
  obtain ⟨its, rv, p, hz⟩ := I.tuple hq
  obtain ⟨u, hu, ru⟩ := rv.get hx
  obtain ⟨f0, f1, f2, f3, f4, f5⟩ := hf it (by simp)
  refine wpAny_pyNext_tuple_item st (show s.heap.IsTuple a its.toArray from p) (x := u) (by simpa using hu) fun h' st' sb => ?_
  have I1 : Inv X pins σ H { s with heap := h' } := I.turned (t' := s.toks) (fun b o hb e => (sb.2 b hb).trans e) f0 f1 f3 f4 f5
  obtain ⟨o, e, c, d⟩ := id st'
  exact ⟨u, rfl, go_of (s := { s with heap := h' }) e c d (by decide) ⟨x, H, I1, ru, ⟨rfl, fun ys hy => by rw [I.tuple_inj hy hq]; exact hx⟩, st', fun b hb => (hf b hb).1⟩⟩
 done := by
  intro X hP hw hK hc i pins s σ H E I hf st hg
  subst hP hw hK
  obtain ⟨xs, hq, hx⟩ := hg
  obtain ⟨its, rv, p, hz⟩ := I.tuple hq
  obtain ⟨f0, f1, f2, f3, f4, f5⟩ := hf it (by simp)
  have hl := rv.length
  exact wpAny_pyNext_tuple_end (I.ok.hd hc) st (show s.heap.IsTuple a its.toArray from p) (by simp; omega) fun h' eb => ⟨rfl, I.turned (t' := s.toks) (fun b o hb e => eb b o hb e) f0 f1 f3 f4 f5⟩
 self := fun _ _ _ _ _ st h => wpAny_pyIter_tupleiter st h
theorem turn_range {P : Program} {w : World} {K : PySem.W.Frag} {tg : Expr} (it : Addr) (lo : Int) (n : Nat) : Turn P w K tg (Itr lo n) [it] it (fun i h => IsRangeIter h it (lo + (i : Nat) * 1) ((n : Int) - (i : Nat)) 1) where
 mem := by simp
 obj := fun i h st b hb => by
  have e : b = it := by simpa using hb
  subst e
  exact ⟨_, st, fun v z => by
   have z' : Data.fields _ = Data.cell v := z
   cases z'⟩
 keep := fun i h h' st k => k it (by simp) _ st
 item := by
  intro X hP hw hK hc i pins s σ H E I hf st hg
  subst hP hw hK
  obtain ⟨f0, f1, f2, f3, f4, f5⟩ := hf it (by simp)
  have W := Walks.range (prog := X.prog) (w := X.w) (I.ok.hd hc) it lo 1 n
  refine W.item i s _ _ hg st fun v h' tk hv st' kk => ?_
  obtain ⟨t, rfl⟩ := hv
  have I1 : Inv X pins σ H { s with heap := h', toks := tk } := I.turned (fun b o hb e => kk b o (by simpa using hb) e) f0 f1 f3 f4 f5
  refine ⟨_, rfl, go_of (s := { s with heap := h', toks := tk }) (n := "range_iterator") st' rfl rfl (by decide) ⟨.int (lo + i), H, I1, ⟨t, ?_⟩, ⟨rfl, rfl⟩, st', fun b hb => (hf b hb).1⟩⟩
  rw [Int.mul_one]
 done := by
  intro X hP hw hK hc i pins s σ H E I hf st hg
  subst hP hw hK
  obtain ⟨f0, f1, f2, f3, f4, f5⟩ := hf it (by simp)
  exact wpAny_pyNext_range_end (I.ok.hd hc) st (by have : n ≤ i := hg; omega) fun h' eb => ⟨rfl, I.turned (t' := s.toks) (fun b o hb e => eb b o hb e) f0 f1 f3 f4 f5⟩
 self := fun _ _ _ _ _ st h => wpAny_pyIter_rangeiter st h
end L2

namespace L2
open PySem PySem.Spec PyProof.Rows
section
variable {X : Cx} {tg : Expr}
noncomputable def iList (K : PySem.W.Frag) (tl : TE) : TI := fun σ H R => tl σ H fun x H1 => ∃ a, x = .ref a ∧ (∃ xs, SqL K H1 a xs) ∧ R (Itl K a) H1
noncomputable def iTup (K : PySem.W.Frag) (tl : TE) : TI := fun σ H R => tl σ H fun x H1 => ∃ a, x = .ref a ∧ (∃ xs, SqT K H1 a xs) ∧ R (Itt K a) H1
theorem pi_list {l : Expr} {tl : TE} (hl : PE X l tl) : PI X tg l (iList X.K tl) := by
 intro pins s σ H R I h
 refine thn (hl pins s σ H _ I h) fun v s1 ⟨x, H1, I1, r1, q1⟩ => ?_
 obtain ⟨a, e, ⟨xs, hq⟩, q⟩ := q1
 subst e
 cases r1
 obtain ⟨its, rv, p, hz⟩ := I1.list hq
 refine wpAny_pyIter_list p.isList ?_
 refine ⟨s1.heap.objs.size, [s1.heap.objs.size], _, _, H1, rfl, I1.kept (t' := s1.toks) fun b o e => Heap.get?_push_of_some _ e, turn_list a _, ⟨_, Heap.get?_push_size _ rfl, rfl, rfl⟩, fun b hb => ?_, q⟩
 have e : b = s1.heap.objs.size := by simpa using hb
 subst e
 exact I1.fpOk (Nat.le_refl _) (I1.hok.fresh (Nat.le_refl _))
theorem pi_tup {l : Expr} {tl : TE} (hl : PE X l tl) : PI X tg l (iTup X.K tl) := by
 intro pins s σ H R I h
 refine thn (hl pins s σ H _ I h) fun v s1 ⟨x, H1, I1, r1, q1⟩ => ?_
 obtain ⟨a, e, ⟨xs, hq⟩, q⟩ := q1
 subst e
 cases r1
 obtain ⟨its, rv, p, hz⟩ := I1.tuple hq
 refine wpAny_pyIter_tuple (show s1.heap.IsTuple a its.toArray from p) ?_
 refine ⟨s1.heap.objs.size, [s1.heap.objs.size], _, _, H1, rfl, I1.kept (t' := s1.toks) fun b o e => Heap.get?_push_of_some _ e, turn_tuple a _, ⟨_, Heap.get?_push_size _ rfl, rfl, rfl⟩, fun b hb => ?_, q⟩
 have e : b = s1.heap.objs.size := by simpa using hb
 subst e
 exact I1.fpOk (Nat.le_refl _) (I1.hok.fresh (Nat.le_refl _))
theorem range_it {pins : List (Addr × Obj)} {σ : St} {H : Hp} {s : Shared} {R : It → Hp → Prop} {E : Value → Shared → Prop} {lo hi : Int} {t u v : Tok} {tk : Nat} (I : Inv X pins σ H s) (h1 : -(2 ^ 62) ≤ lo) (h2 : lo < 2 ^ 62) (h3 : -(2 ^ 62) ≤ hi) (h4 : hi < 2 ^ 62)
  (q : R (Itr lo (hi - lo).toNat) H) : wpAny (model X.prog X.w) X.A (pyIter (.ref s.heap.objs.size)) (PIE X pins σ tg R) E { s with heap := s.heap.push { cls := .type "range", data := .fields #[.int lo t, .int hi u, .int 1 v] }, toks := tk } := by
 refine wpAny_pyIter_range (IsRange.new ..) (small_one h1 h2 h3 h4) ?_
 have I1 : Inv X pins σ H { s with heap := s.heap.push { cls := .type "range", data := .fields #[.int lo t, .int hi u, .int 1 v] }, toks := tk } := I.kept fun b o e => Heap.get?_push_of_some _ e
 refine ⟨(s.heap.push { cls := .type "range", data := .fields #[.int lo t, .int hi u, .int 1 v] }).objs.size, [(s.heap.push { cls := .type "range", data := .fields #[.int lo t, .int hi u, .int 1 v] }).objs.size], _, _, H, rfl,
  I1.kept (t' := tk) fun b o e => Heap.get?_push_of_some _ e, turn_range _ lo (hi - lo).toNat, ?_, fun b hb => ?_, q⟩
 ·have e1 : lo + ((0 : Nat) : Int) * 1 = lo := by simp
  have e2 : (((hi - lo).toNat : Nat) : Int) - ((0 : Nat) : Int) = Builtin.Range.rangeSize lo hi 1 := by rw [rangeSize_one]; split <;> omega
  show IsRangeIter _ _ (lo + ((0 : Nat) : Int) * 1) ((((hi - lo).toNat : Nat) : Int) - ((0 : Nat) : Int)) 1
  rw [e1, e2]
  exact Heap.get?_push_size _ rfl
 ·have e : b = (s.heap.push { cls := .type "range", data := .fields #[.int lo t, .int hi u, .int 1 v] }).objs.size := by simpa using hb
  subst e
  exact I1.fpOk (Nat.le_refl _) (I1.hok.fresh (Nat.le_refl _))
noncomputable def iRng1 (ta : TA) : TI := fun σ H R => ta σ H fun vs H1 => ∃ j : Int, vs = [.int j] ∧ -(2 ^ 62) ≤ j ∧ j < 2 ^ 62 ∧ R (Itr 0 j.toNat) H1
theorem pi_range1 {a : Expr} {ta : TA} {p pos : Pos} (hg : Gl X "range") (hm : X.mg "range" = none) (ha : PA X [a] ta) (hs : starEach [a] X.env = [(false, eval a X.env)] := by rfl) : PI X tg (.Call (.Name "range" p) [a] [] pos) (iRng1 ta) := by
 intro pins s σ H R I h
 refine Call_ (ld_blt I hg hm boot_range (PyProof.Rows.callWith_type1 (thn (ha pos pins s σ H _ I h) fun us s1 ⟨vs, H1, I1, r1, q1⟩ => ?_) hs rfl))
 obtain ⟨j, e, q1, q2, q⟩ := q1
 subst e
 cases r1 with
 | cons r rr =>
  cases rr
  obtain ⟨t, rfl⟩ := r
  exact call_range_1 (range_it I1 (by omega) (by omega) q1 q2 (by simpa using q))
/-! ### for -/
noncomputable def tFor (wi : TI) (g : TG) (tb : TS) : TS := fun D σ H => wi σ H fun J H1 => ∃ W : Nat → Nat → St → Hp → Prop, (∃ m, W 0 m σ H1) ∧ ∀ i m σ H, W i m σ H →
 (J.stop i H ∧ D.nx σ H) ∨ (J.go i H ∧ ∃ N : St → Hp → Prop, (∀ σ' H', N σ' H' → ∃ m', m' < m ∧ W (i + 1) m' σ' H') ∧ ∀ x H', J.yld i H x H' → g x σ H' fun σ2 H2 => tb { D with nx := N, ct := N, bk := D.nx } σ2 H2)
noncomputable def pinsAt (fp : List Addr) (h : Heap) : List (Addr × Obj) := fp.filterMap fun b => (h.get? b).map fun o => (b, o)
theorem mem_pinsAt {fp : List Addr} {h : Heap} {b : Addr} {o : Obj} (hb : b ∈ fp) (e : h.get? b = some o) : (b, o) ∈ pinsAt fp h := List.mem_filterMap.mpr ⟨b, hb, by rw [e]; rfl⟩
theorem of_pinsAt {fp : List Addr} {h : Heap} {p : Addr × Obj} (hp : p ∈ pinsAt fp h) : p.1 ∈ fp ∧ h.get? p.1 = some p.2 := by
 obtain ⟨b, hb, e⟩ := List.mem_filterMap.mp hp
 cases q : h.get? b with
 | none => rw [q] at e; cases e
 | some o =>
  rw [q] at e
  have e' : (b, o) = p := Option.some.inj e
  subst e'
  exact ⟨hb, q⟩
theorem Inv.pinned {pins : List (Addr × Obj)} {σ : St} {H : Hp} {s : Shared} {fp : List Addr} (I : Inv X pins σ H s) (hf : ∀ b ∈ fp, FpOk X pins H b) (ho : ∀ b ∈ fp, ∃ o, s.heap.get? b = some o ∧ ∀ v, o.data ≠ .cell v) : Inv X (pins ++ pinsAt fp s.heap) σ H s :=
 I.pins_of fun p hp => (List.mem_append.mp hp).elim (fun z => I.pin p (List.mem_append_right _ z)) fun z => by
  obtain ⟨hb, e⟩ := of_pinsAt z
  obtain ⟨f0, f1, f2, _⟩ := hf p.1 hb
  obtain ⟨o, e', d⟩ := ho p.1 hb
  rw [e] at e'; cases e'
  exact ⟨e, f0, f1, f2, d⟩
theorem Inv.unpinned {pins pl : List (Addr × Obj)} {σ : St} {H : Hp} {s : Shared} (I : Inv X (pins ++ pl) σ H s) : Inv X pins σ H s := I.pins_of fun p hp => I.pin p (List.mem_append_right _ (List.mem_append_left _ hp))
theorem ps_for {iter : Expr} {body : List Stmt} {wi : TI} {g : TG} {tb : TS} {pos : Pos} (hp : PassesOwn (model X.prog X.w) X.A X.env X.xe) (hc : X.calm = true) (hi : PI X tg iter wi) (hg : PG X tg g) (hb : PSs X body tb)
  (hs : ∀ x, foldedSetIterable iter X.env x = pure x := by intro _; rfl) : PS X (.For tg iter body [] pos) (tFor wi g tb) := by
 intro pins s σ H D I h
 refine wpAny_For (thn (hi pins s σ H _ I h) fun v s1 h1 => thn h1 fun itv s2 h2 => ?_) hs
 obtain ⟨it, fp, tn, J, H2, e, I2, T, st2, f2, W, ⟨m0, w0⟩, turn⟩ := h2
 subst e
 -- what stays true of the iterator's objects through the loop
 have stat : ∀ {H' : Hp}, (∀ b ∈ fp, H' b = none) → ∀ b ∈ fp, FpOk X pins H' b := fun hn b hb => ⟨hn b hb, (f2 b hb).2⟩
 refine codeAny_forLoop_any (fun n s' => ∃ i σ' H', Inv X pins σ' H' s' ∧ tn i s'.heap ∧ (∀ b ∈ fp, H' b = none) ∧ W i n σ' H') ?_ m0 ⟨0, σ, H2, I2, st2, fun b hb => (f2 b hb).1, w0⟩
 rintro n s3 ⟨i, σ3, H3, I3, st3, fr3, w3⟩
 rcases turn i n σ3 H3 w3 with ⟨stop, qn⟩ | ⟨go, N, hN, step⟩
 ·refine wpAny_passesOwn hp (thn (T.done X rfl rfl rfl hc i pins s3 σ3 H3 X.xe I3 (stat fr3) st3 stop) fun r s4 ⟨hr, I4⟩ => ?_)
  subst hr
  exact wpAny_execs_nil ⟨σ3, H3, I4, qn⟩
 ·refine wpAny_passesOwn hp (thn (T.item X rfl rfl rfl hc i pins s3 σ3 H3 X.xe I3 (stat fr3) st3 go) fun r s4 ⟨u, hr, h4⟩ => ?_)
  subst hr
  refine wpAny_passesOwn hp (thn h4 fun _ s5 ⟨x, H5, I5, r5, y5, st5, fr5⟩ => ?_)
  have I5' := I5.pinned (stat fr5) (T.obj _ _ st5)
  refine wpAny_passesOwn hp (thn (hg _ s5 σ3 H5 x u _ I5' r5 (step x H5 y5)) fun _ s6 ⟨σ6, H6, I6, q6⟩ => ?_)
  refine wpAny_passesOwn hp (thn (hb _ s6 σ6 H6 _ I6 q6) fun f s7 q7 => ?_)
  have again : ∀ {σ7 : St} {H7 : Hp}, Inv X (pins ++ pinsAt fp s5.heap) σ7 H7 s7 → N σ7 H7 → ∃ m, m < n ∧ ∃ i σ' H', Inv X pins σ' H' s7 ∧ tn i s7.heap ∧ (∀ b ∈ fp, H' b = none) ∧ W i m σ' H' := fun {σ7 H7} I7 n7 => by
   obtain ⟨m', hm, w7⟩ := hN σ7 H7 n7
   refine ⟨m', hm, i + 1, σ7, H7, I7.unpinned, T.keep _ _ _ st5 fun b hb o e => (I7.pin (b, o) (List.mem_append_right _ (List.mem_append_right _ (mem_pinsAt hb e)))).1, fun b hb => ?_, w7⟩
   obtain ⟨o, e, d⟩ := T.obj _ _ st5 b hb
   exact (I7.pin (b, o) (List.mem_append_right _ (List.mem_append_right _ (mem_pinsAt hb e)))).2.1
  cases f with
  | next => obtain ⟨σ7, H7, I7, n7⟩ := q7; exact again I7 n7
  | cont => obtain ⟨σ7, H7, I7, n7⟩ := q7; exact again I7 n7
  | brk => obtain ⟨σ7, H7, I7, q7⟩ := q7; exact ⟨σ7, H7, I7.unpinned, q7⟩
  | ret v => obtain ⟨x7, σ7, H7, I7, r7, q7⟩ := q7; exact ⟨x7, σ7, H7, I7.unpinned, r7, q7⟩
end

/-! ### the forms one uses -/
theorem for_list {K : PySem.W.Frag} {a : Addr} {xs : List V} {g : TG} {tb : TS} {D : Ends} {σ : St} {H : Hp} (Pv : Nat → St → Hp → Prop) (h0 : Pv 0 σ H) (hl : ∀ i σ H, i ≤ xs.length → Pv i σ H → SqL K H a xs)
  (hs : ∀ i x σ H, xs[i]? = some x → Pv i σ H → g x σ H fun σ2 H2 => tb { D with nx := Pv (i + 1), ct := Pv (i + 1), bk := D.nx } σ2 H2) (hd : ∀ σ H, Pv xs.length σ H → D.nx σ H) :
  ∃ W : Nat → Nat → St → Hp → Prop, (∃ m, W 0 m σ H) ∧ ∀ i m σ H, W i m σ H →
   ((Itl K a).stop i H ∧ D.nx σ H) ∨ ((Itl K a).go i H ∧ ∃ N : St → Hp → Prop, (∀ σ' H', N σ' H' → ∃ m', m' < m ∧ W (i + 1) m' σ' H') ∧ ∀ x H', (Itl K a).yld i H x H' → g x σ H' fun σ2 H2 => tb { D with nx := N, ct := N, bk := D.nx } σ2 H2) := by
 refine ⟨fun i m σ H => m = xs.length - i ∧ i ≤ xs.length ∧ Pv i σ H, ⟨xs.length, by simp, Nat.zero_le _, h0⟩, ?_⟩
 rintro i m σ H ⟨rfl, hi, p⟩
 have q := hl i σ H hi p
 by_cases hlt : i < xs.length
 ·refine .inr ⟨⟨xs, xs[i], q, by simp [hlt]⟩, Pv (i + 1), fun σ' H' p' => ⟨xs.length - (i + 1), by omega, rfl, hlt, p'⟩, fun x H' y => ?_⟩
  obtain ⟨e, y⟩ := y
  subst e
  exact hs i x σ _ (y xs q) p
 ·have e : i = xs.length := by omega
  subst e
  exact .inl ⟨⟨xs, q, Nat.le_refl _⟩, hd σ H p⟩
theorem for_tup {K : PySem.W.Frag} {a : Addr} {xs : List V} {g : TG} {tb : TS} {D : Ends} {σ : St} {H : Hp} (Pv : Nat → St → Hp → Prop) (h0 : Pv 0 σ H) (hl : ∀ i σ H, i ≤ xs.length → Pv i σ H → SqT K H a xs)
  (hs : ∀ i x σ H, xs[i]? = some x → Pv i σ H → g x σ H fun σ2 H2 => tb { D with nx := Pv (i + 1), ct := Pv (i + 1), bk := D.nx } σ2 H2) (hd : ∀ σ H, Pv xs.length σ H → D.nx σ H) :
  ∃ W : Nat → Nat → St → Hp → Prop, (∃ m, W 0 m σ H) ∧ ∀ i m σ H, W i m σ H →
   ((Itt K a).stop i H ∧ D.nx σ H) ∨ ((Itt K a).go i H ∧ ∃ N : St → Hp → Prop, (∀ σ' H', N σ' H' → ∃ m', m' < m ∧ W (i + 1) m' σ' H') ∧ ∀ x H', (Itt K a).yld i H x H' → g x σ H' fun σ2 H2 => tb { D with nx := N, ct := N, bk := D.nx } σ2 H2) := by
 refine ⟨fun i m σ H => m = xs.length - i ∧ i ≤ xs.length ∧ Pv i σ H, ⟨xs.length, by simp, Nat.zero_le _, h0⟩, ?_⟩
 rintro i m σ H ⟨rfl, hi, p⟩
 have q := hl i σ H hi p
 by_cases hlt : i < xs.length
 ·refine .inr ⟨⟨xs, xs[i], q, by simp [hlt]⟩, Pv (i + 1), fun σ' H' p' => ⟨xs.length - (i + 1), by omega, rfl, hlt, p'⟩, fun x H' y => ?_⟩
  obtain ⟨e, y⟩ := y
  subst e
  exact hs i x σ _ (y xs q) p
 ·have e : i = xs.length := by omega
  subst e
  exact .inl ⟨⟨xs, q, Nat.le_refl _⟩, hd σ H p⟩
theorem for_range {lo : Int} {n : Nat} {g : TG} {tb : TS} {D : Ends} {σ : St} {H : Hp} (Pv : Nat → St → Hp → Prop) (h0 : Pv 0 σ H)
  (hs : ∀ i σ H, i < n → Pv i σ H → g (.int (lo + i)) σ H fun σ2 H2 => tb { D with nx := Pv (i + 1), ct := Pv (i + 1), bk := D.nx } σ2 H2) (hd : ∀ σ H, Pv n σ H → D.nx σ H) :
  ∃ W : Nat → Nat → St → Hp → Prop, (∃ m, W 0 m σ H) ∧ ∀ i m σ H, W i m σ H →
   ((Itr lo n).stop i H ∧ D.nx σ H) ∨ ((Itr lo n).go i H ∧ ∃ N : St → Hp → Prop, (∀ σ' H', N σ' H' → ∃ m', m' < m ∧ W (i + 1) m' σ' H') ∧ ∀ x H', (Itr lo n).yld i H x H' → g x σ H' fun σ2 H2 => tb { D with nx := N, ct := N, bk := D.nx } σ2 H2) := by
 refine ⟨fun i m σ H => m = n - i ∧ i ≤ n ∧ Pv i σ H, ⟨n, by simp, Nat.zero_le _, h0⟩, ?_⟩
 rintro i m σ H ⟨rfl, hi, p⟩
 by_cases hlt : i < n
 ·refine .inr ⟨hlt, Pv (i + 1), fun σ' H' p' => ⟨n - (i + 1), by omega, rfl, hlt, p'⟩, fun x H' y => ?_⟩
  obtain ⟨e, y⟩ := y
  subst e y
  exact hs i σ _ hlt p
 ·have e : i = n := by omega
  subst e
  exact .inl ⟨Nat.le_refl _, hd σ H p⟩
theorem while_by {c : TT} {tb : TS} {D : Ends} {σ : St} {H : Hp} (Pv : St → Hp → Prop) (μ : St → Hp → Nat) (h0 : Pv σ H)
  (hs : ∀ σ H, Pv σ H → c σ H fun b H1 => if b = true then tb { D with nx := fun σ' H' => Pv σ' H' ∧ μ σ' H' < μ σ H, ct := fun σ' H' => Pv σ' H' ∧ μ σ' H' < μ σ H, bk := D.nx } σ H1 else D.nx σ H1)
  (mono : ∀ σ H Q Q', (∀ b H1, Q b H1 → Q' b H1) → c σ H Q → c σ H Q') : tWhile c tb D σ H := by
 refine ⟨fun m σ H => m = μ σ H ∧ Pv σ H, ⟨_, rfl, h0⟩, ?_⟩
 rintro m σ H ⟨rfl, p⟩
 refine mono σ H _ _ (fun b H1 q => ?_) (hs σ H p)
 cases b with
 | true => exact ⟨_, fun σ' H' ⟨p', l⟩ => ⟨_, l, rfl, p'⟩, q⟩
 | false => exact q
end L2

namespace L2
open PySem PySem.Spec PyProof.Rows

noncomputable abbrev R2 := V → V → Hp → VK → Prop
noncomputable def OpR (X : Cx) (f : Value → Value → Sem Value) (r : R2) : Prop :=
 ∀ (pins : List (Addr × Obj)) (s : Shared) (σ : St) (H : Hp) (x y : V) (v u : Value) (Q : VK), Inv X pins σ H s → RelV x v → RelV y u → r x y H Q →
  wpAny (model X.prog X.w) X.A (f v u) (EP X pins σ Q) X.xe s
noncomputable def UnR (X : Cx) (f : Value → Sem Value) (r : V → Hp → VK → Prop) : Prop :=
 ∀ (pins : List (Addr × Obj)) (s : Shared) (σ : St) (H : Hp) (x : V) (v : Value) (Q : VK), Inv X pins σ H s → RelV x v → r x H Q →
  wpAny (model X.prog X.w) X.A (f v) (EP X pins σ Q) X.xe s
noncomputable def CallR (X : Cx) (f : Value) (r : List V → Hp → VK → Prop) : Prop :=
 ∀ (pins : List (Addr × Obj)) (s : Shared) (σ : St) (H : Hp) (xs : List V) (us : List Value) (Q : VK), Inv X pins σ H s → Vals xs us → r xs H Q →
  wpAny (model X.prog X.w) X.A (call f us) (EP X pins σ Q) X.xe s
noncomputable def tOp (r : R2) (ta tb : TE) : TE := fun σ H Q => ta σ H fun x H1 => tb σ H1 fun y H2 => r x y H2 Q
noncomputable def tUn (r : V → Hp → VK → Prop) (ta : TE) : TE := fun σ H Q => ta σ H fun x H1 => r x H1 Q
noncomputable def rI (C : Int → Int → Prop) (g : Int → Int → V) : R2 := fun x y H Q => ∃ i j, x = .int i ∧ y = .int j ∧ C i j ∧ Q (g i j) H
noncomputable def rI0 (g : Int → Int → V) : R2 := fun x y H Q => ∃ i j, x = .int i ∧ y = .int j ∧ Q (g i j) H
noncomputable def rU (g : Int → V) : V → Hp → VK → Prop := fun x H Q => ∃ i, x = .int i ∧ Q (g i) H

section
variable {X : Cx} {a b c : Expr} {ta tb tc : TE} {pos : Pos}

theorem binT (ha : PE X a ta) (hb : PE X b tb) {pins : List (Addr × Obj)} {s : Shared} {σ : St} {H : Hp} {R : V → V → Hp → Prop} (I : Inv X pins σ H s)
  (h : ta σ H fun x H1 => tb σ H1 fun y H2 => R x y H2) {Q : Value → Shared → Prop} {f : Value → Value → Sem Value}
  (hf : ∀ v u s2 x y H2, Inv X pins σ H2 s2 → RelV x v → RelV y u → R x y H2 → wpAny (model X.prog X.w) X.A (f v u) Q X.xe s2) :
  wpAny (model X.prog X.w) X.A (eval a X.env) (fun v s₁ => wpAny (model X.prog X.w) X.A (eval b X.env) (fun u s₂ => wpAny (model X.prog X.w) X.A (f v u) Q X.xe s₂) X.xe s₁) X.xe s := by
 refine thn (ha pins s σ H _ I h) fun v s1 ⟨x, H1, I1, r1, q1⟩ => ?_
 refine thn (hb pins s1 σ H1 _ I1 q1) fun u s2 ⟨y, H2, I2, r2, q2⟩ => ?_
 exact hf v u s2 x y H2 I2 r1 r2 q2

theorem pe_op {op : Operator} {r : R2} (ho : OpR X (binaryOp op) r) (ha : PE X a ta) (hb : PE X b tb) : PE X (.BinOp a op b pos) (tOp r ta tb) := by
 intro pins s σ H Q I h
 exact wpAny_BinOp (binT ha hb I h fun v u s2 x y H2 I2 rx ry q => ho pins s2 σ H2 x y v u Q I2 rx ry q)
theorem pe_un {op : UnaryOp} {r : V → Hp → VK → Prop} (ho : UnR X (unaryOp op) r) (ha : PE X a ta) : PE X (.UnaryOp op a pos) (tUn r ta) := by
 intro pins s σ H Q I h
 exact UnaryOp_ (thn (ha pins s σ H _ I h) fun v s1 ⟨x, H1, I1, r1, q1⟩ => ho pins s1 σ H1 x v Q I1 r1 q1)
/-! ### ints -/
theorem opI {f : Value → Value → Sem Value} {C : Int → Int → Prop} {g : Int → Int → Int}
  (rule : ∀ (i j : Int) (t u : Tok) (s : Shared) (Q : Value → Shared → Prop) (E : Value → Shared → Prop), C i j → Q (.int (g i j) s.toks) { s with toks := s.toks + 1 } → wpAny (model X.prog X.w) X.A (f (.int i t) (.int j u)) Q E s) :
  OpR X f (rI C fun i j => .int (g i j)) := by
 intro pins s σ H x y v u Q I rx ry h
 obtain ⟨i, j, rfl, rfl, hc, q⟩ := h
 obtain ⟨t, rfl⟩ := rx
 obtain ⟨t', rfl⟩ := ry
 exact rule i j t t' s _ _ hc ⟨.int (g i j), H, I.tok _, ⟨_, rfl⟩, q⟩
theorem opI0 {f : Value → Value → Sem Value} {g : Int → Int → Int}
  (rule : ∀ (i j : Int) (t u : Tok) (s : Shared) (Q : Value → Shared → Prop) (E : Value → Shared → Prop), Q (.int (g i j) s.toks) { s with toks := s.toks + 1 } → wpAny (model X.prog X.w) X.A (f (.int i t) (.int j u)) Q E s) :
  OpR X f (rI0 fun i j => .int (g i j)) := by
 intro pins s σ H x y v u Q I rx ry h
 obtain ⟨i, j, rfl, rfl, q⟩ := h
 obtain ⟨t, rfl⟩ := rx
 obtain ⟨t', rfl⟩ := ry
 exact rule i j t t' s _ _ ⟨.int (g i j), H, I.tok _, ⟨_, rfl⟩, q⟩
theorem opB0 {f : Value → Value → Sem Value} {g : Int → Int → Bool}
  (rule : ∀ (i j : Int) (t u : Tok) (s : Shared) (Q : Value → Shared → Prop) (E : Value → Shared → Prop), Q (.bool (g i j)) s → wpAny (model X.prog X.w) X.A (f (.int i t) (.int j u)) Q E s) :
  OpR X f (rI0 fun i j => .bl (g i j)) := by
 intro pins s σ H x y v u Q I rx ry h
 obtain ⟨i, j, rfl, rfl, q⟩ := h
 obtain ⟨t, rfl⟩ := rx
 obtain ⟨t', rfl⟩ := ry
 exact rule i j t t' s _ _ ⟨.bl (g i j), H, I, rfl, q⟩

noncomputable def CPow (i j : Int) : Prop := 0 ≤ j ∧ j ≤ 1000000 ∧ i.natAbs < 2 ^ 64
theorem op_add : OpR X (binaryOp .Add) (rI0 fun i j => .int (i + j)) := opI0 fun _ _ _ _ _ _ _ q => add_int q
theorem op_sub : OpR X (binaryOp .Sub) (rI0 fun i j => .int (i - j)) := opI0 fun _ _ _ _ _ _ _ q => sub_int q
theorem op_modN : OpR X (binaryOp .Mod) (rI (fun _ j => j ≠ 0) fun i j => .int (i.fmod j)) := opI fun _ _ _ _ _ _ _ hc q => mod_int' hc q
theorem op_pow : OpR X (binaryOp .Pow) (rI CPow fun i j => .int (i ^ j.toNat)) := opI fun _ _ _ _ _ _ _ hc q => pow_int_small hc.1 hc.2.1 hc.2.2 q
theorem unI {f : Value → Sem Value} {g : Int → Int}
  (rule : ∀ (i : Int) (t : Tok) (s : Shared) (Q : Value → Shared → Prop) (E : Value → Shared → Prop), Q (.int (g i) s.toks) { s with toks := s.toks + 1 } → wpAny (model X.prog X.w) X.A (f (.int i t)) Q E s) :
  UnR X f (rU fun i => .int (g i)) := by
 intro pins s σ H x v Q I rx h
 obtain ⟨i, rfl, q⟩ := h
 obtain ⟨t, rfl⟩ := rx
 exact rule i t s _ _ ⟨.int (g i), H, I.tok _, ⟨_, rfl⟩, q⟩
theorem un_neg : UnR X (unaryOp .USub) (rU fun i => .int (-i)) := unI fun _ _ _ _ _ q => neg_int q
/-! ### bools among ints: n += (a < b) -/
end

/-! ### comparisons -/
noncomputable def scal : V → V → Bool
 | .non, .non => true | .non, .int _ => true | .int _, .non => true | .non, .bl _ => true | .bl _, .non => true | .non, .str _ => true | .str _, .non => true
 | .int _, .int _ => true | .bl _, .bl _ => true | .str _, .str _ => true | .byt _, .byt _ => true
 | .int _, .str _ => true | .str _, .int _ => true | .bl _, .str _ => true | .str _, .bl _ => true
 | _, _ => false
noncomputable def rEq : R2 := fun x y H Q => scal x y = true ∧ Q (.bl (decide (x = y))) H
noncomputable def rNe : R2 := fun x y H Q => scal x y = true ∧ Q (.bl (!decide (x = y))) H

theorem dec_int {i j : Int} : decide (V.int i = V.int j) = (i == j) := by
 rw [Bool.eq_iff_iff]
 simp
theorem dec_bl {i j : Bool} : decide (V.bl i = V.bl j) = (i == j) := by
 rw [Bool.eq_iff_iff]
 simp
theorem dec_str {i j : Str} : decide (V.str i = V.str j) = (i == j) := by
 rw [Bool.eq_iff_iff]
 simp
theorem dec_byt {i j : Array UInt8} : decide (V.byt i = V.byt j) = (i.toList == j.toList) := by
 rw [Bool.eq_iff_iff]
 cases i
 cases j
 simp

section
variable {X : Cx} {a b c : Expr} {ta tb tc : TE} {pos : Pos}
theorem fin_bl {pins : List (Addr × Obj)} {σ : St} {H : Hp} {s : Shared} {Q : VK} {k k' : Bool} (I : Inv X pins σ H s) (q : Q (.bl k) H) (e : k = k') : EP X pins σ Q (.bool k') s := by
 subst e
 exact ⟨.bl k, H, I, rfl, q⟩
theorem op_eq : OpR X (compareOp .Eq) rEq := by
 intro pins s σ H x y v u Q I rx ry h
 obtain ⟨hs, q⟩ := h
 cases x with
 | non =>
  cases rx
  cases y with
  | non => cases ry; exact PySem.EqNone.eq_none_none (fin_bl I q (by simp))
  | bl j => cases ry; exact PySem.EqNone.eq_none_bool (fin_bl I q (by simp))
  | int j => obtain ⟨t', rfl⟩ := ry; exact PySem.EqNone.eq_none_int (fin_bl I q (by simp))
  | str j => obtain ⟨t', rfl⟩ := ry; exact PySem.EqNone.eq_none_str (fin_bl I q (by simp))
  | _ => exact absurd (show false = true from hs) Bool.false_ne_true
 | bl i =>
  cases rx
  cases y with
  | non => cases ry; exact PySem.EqNone.eq_bool_none (fin_bl I q (by simp))
  | bl j => cases ry; exact eq_bool (fin_bl I q dec_bl)
  | str j => obtain ⟨t', rfl⟩ := ry; exact PySem.EqMixed.eq_bool_str (fin_bl I q (by simp))
  | _ => exact absurd (show false = true from hs) Bool.false_ne_true
 | int i =>
  obtain ⟨t, rfl⟩ := rx
  cases y with
  | non => cases ry; exact PySem.EqNone.eq_int_none (fin_bl I q (by simp))
  | int j => obtain ⟨t', rfl⟩ := ry; exact eq_int (fin_bl I q dec_int)
  | str j => obtain ⟨t', rfl⟩ := ry; exact PySem.EqMixed.eq_int_str (fin_bl I q (by simp))
  | _ => exact absurd (show false = true from hs) Bool.false_ne_true
 | str i =>
  obtain ⟨t, rfl⟩ := rx
  cases y with
  | non => cases ry; exact PySem.EqNone.eq_str_none (fin_bl I q (by simp))
  | bl j => cases ry; exact PySem.EqMixed.eq_str_bool (fin_bl I q (by simp))
  | int j => obtain ⟨t', rfl⟩ := ry; exact PySem.EqMixed.eq_str_int (fin_bl I q (by simp))
  | str j => obtain ⟨t', rfl⟩ := ry; exact eq_str (fin_bl I q dec_str)
  | _ => exact absurd (show false = true from hs) Bool.false_ne_true
 | byt i =>
  obtain ⟨t, rfl⟩ := rx
  cases y with
  | byt j => obtain ⟨t', rfl⟩ := ry; exact PySem.W.eq_bytes (fin_bl I q dec_byt)
  | _ => exact absurd (show false = true from hs) Bool.false_ne_true
 | _ => cases y <;> exact absurd (show false = true from hs) Bool.false_ne_true
theorem op_ne : OpR X (compareOp .NotEq) rNe := by
 intro pins s σ H x y v u Q I rx ry h
 obtain ⟨hs, q⟩ := h
 cases x with
 | non =>
  cases rx
  cases y with
  | non => cases ry; exact PySem.EqNone.ne_none_none (fin_bl I q (by simp))
  | bl j => cases ry; exact PySem.EqNone.ne_none_bool (fin_bl I q (by simp))
  | int j => obtain ⟨t', rfl⟩ := ry; exact PySem.EqNone.ne_none_int (fin_bl I q (by simp))
  | str j => obtain ⟨t', rfl⟩ := ry; exact PySem.EqNone.ne_none_str (fin_bl I q (by simp))
  | _ => exact absurd (show false = true from hs) Bool.false_ne_true
 | bl i =>
  cases rx
  cases y with
  | non => cases ry; exact PySem.EqNone.ne_bool_none (fin_bl I q (by simp))
  | bl j => cases ry; exact ne_bool (fin_bl I q (congrArg not dec_bl))
  | str j => obtain ⟨t', rfl⟩ := ry; exact PySem.EqMixed.ne_bool_str (fin_bl I q (by simp))
  | _ => exact absurd (show false = true from hs) Bool.false_ne_true
 | int i =>
  obtain ⟨t, rfl⟩ := rx
  cases y with
  | non => cases ry; exact PySem.EqNone.ne_int_none (fin_bl I q (by simp))
  | int j => obtain ⟨t', rfl⟩ := ry; exact ne_int (fin_bl I q (congrArg not dec_int))
  | str j => obtain ⟨t', rfl⟩ := ry; exact PySem.EqMixed.ne_int_str (fin_bl I q (by simp))
  | _ => exact absurd (show false = true from hs) Bool.false_ne_true
 | str i =>
  obtain ⟨t, rfl⟩ := rx
  cases y with
  | non => cases ry; exact PySem.EqNone.ne_str_none (fin_bl I q (by simp))
  | bl j => cases ry; exact PySem.EqMixed.ne_str_bool (fin_bl I q (by simp))
  | int j => obtain ⟨t', rfl⟩ := ry; exact PySem.EqMixed.ne_str_int (fin_bl I q (by simp))
  | str j => obtain ⟨t', rfl⟩ := ry; exact ne_str (fin_bl I q (congrArg not dec_str))
  | _ => exact absurd (show false = true from hs) Bool.false_ne_true
 | byt i =>
  obtain ⟨t, rfl⟩ := rx
  cases y with
  | byt j => obtain ⟨t', rfl⟩ := ry; exact PySem.W.ne_bytes (fin_bl I q (congrArg not dec_byt))
  | _ => exact absurd (show false = true from hs) Bool.false_ne_true
 | _ => cases y <;> exact absurd (show false = true from hs) Bool.false_ne_true

theorem op_lt : OpR X (compareOp .Lt) (rI0 fun i j => .bl (decide (i < j))) := opB0 fun _ _ _ _ _ _ _ q => lt_int q
theorem op_le : OpR X (compareOp .LtE) (rI0 fun i j => .bl (decide (i ≤ j))) := opB0 fun _ _ _ _ _ _ _ q => le_int q
theorem op_gt : OpR X (compareOp .Gt) (rI0 fun i j => .bl (decide (j < i))) := opB0 fun _ _ _ _ _ _ _ q => gt_int q
theorem op_isN : OpR X (compareOp .Is) (fun x y H Q => y = .non ∧ Q (.bl (decide (x = .non))) H) := by
 intro pins s σ H x y v u Q I rx ry h
 obtain ⟨rfl, q⟩ := h
 cases ry
 refine is_none_gen (fin_bl I q ?_)
 cases x <;> first
  | (cases rx; rfl)
  | (obtain ⟨t, rfl⟩ := rx; rfl)
theorem op_notN : OpR X (compareOp .IsNot) (fun x y H Q => y = .non ∧ Q (.bl (!decide (x = .non))) H) := by
 intro pins s σ H x y v u Q I rx ry h
 obtain ⟨rfl, q⟩ := h
 cases ry
 refine isnot_none_gen (fin_bl I q ?_)
 cases x <;> first
  | (cases rx; rfl)
  | (obtain ⟨t, rfl⟩ := rx; rfl)

theorem nomark (b : Expr) {op : CmpOp} (h : op ≠ .In := by decide) (h2 : op ≠ .NotIn := by decide) : behindInMarks op b = false := by
 have e1 : (op == CmpOp.In) = false := by cases op <;> first | rfl | exact absurd rfl h
 have e2 : (op == CmpOp.NotIn) = false := by cases op <;> first | rfl | exact absurd rfl h2
 cases b <;> simp [behindInMarks, e1, e2]
theorem pe_cmpR {op : CmpOp} {r : R2} (ho : OpR X (compareOp op) r) (ha : PE X a ta) (hb : PE X b tb) (hm : behindInMarks op b = false) : PE X (.Compare a [op] [b] pos) (tOp r ta tb) := by
 intro pins s σ H Q I h
 exact wpAny_Compare1 (binT ha hb I h fun v u s2 x y H2 I2 rx ry q => ho pins s2 σ H2 x y v u Q I2 rx ry q) hm
noncomputable def tTest (t : TE) : TT := fun σ H Q => t σ H fun x H' => ∃ k, x = .bl k ∧ Q k H'
theorem pt_cmpR {op : CmpOp} {r : R2} (ho : OpR X (compareOp op) r) (ha : PE X a ta) (hb : PE X b tb) (hm : behindInMarks op b = false) : PT X (.Compare a [op] [b] pos) (tTest (tOp r ta tb)) := by
 intro pins s σ H Q I h
 refine wpAny_isTrue_Compare1 (thn (ha pins s σ H _ I h) fun v s1 ⟨x, H1, I1, r1, q1⟩ => thn (hb pins s1 σ H1 _ I1 q1) fun u s2 ⟨y, H2, I2, r2, q2⟩ =>
  thn (ho pins s2 σ H2 x y v u _ I2 r1 r2 q2) fun c s3 ⟨z, H3, I3, r3, k, e, q3⟩ => ?_) hm
 subst e
 cases r3
 exact wpAny_truthy_bool ⟨H3, I3, q3⟩
/-! ### truth -/
theorem line63 : (sizeLine : Nat) < 2 ^ 63 := by rw [sizeLine_eq]; decide
/-! ### strs and bytes -/
theorem op_add_str : OpR X (binaryOp .Add) (fun x y H Q => ∃ i j, x = .str i ∧ y = .str j ∧ i.length + j.length ≤ sizeLine ∧ Q (.str (i ++ j)) H) := by
 intro pins s σ H x y v u Q I rx ry h
 obtain ⟨i, j, rfl, rfl, hz, q⟩ := h
 obtain ⟨t, rfl⟩ := rx
 obtain ⟨t', rfl⟩ := ry
 exact add_str (fun t' tk => ⟨.str (i ++ j), H, I.tok _, ⟨_, rfl⟩, q⟩) hz
/-! ### scalar builtins, by CallR -/
theorem vals1 {x : V} {us : List Value} (r : Vals [x] us) : ∃ u, us = [u] ∧ RelV x u := by
 cases r with
 | cons r1 r2 => cases r2; exact ⟨_, rfl, r1⟩
theorem vals2 {x y : V} {us : List Value} (r : Vals [x, y] us) : ∃ u w', us = [u, w'] ∧ RelV x u ∧ RelV y w' := by
 cases r with
 | cons r1 r2 =>
  cases r2 with
  | cons r3 r4 => cases r4; exact ⟨_, _, rfl, r1, r3⟩
theorem call_int1 : CallR X (.type "int") (fun xs H Q => (∃ i, xs = [.int i] ∧ Q (.int i) H) ∨ ∃ k, xs = [.bl k] ∧ Q (.int (if k then 1 else 0)) H) := by
 intro pins s σ H xs us Q I r h
 rcases h with ⟨i, rfl, q⟩ | ⟨k, rfl, q⟩
 ·obtain ⟨u, rfl, t, rfl⟩ := vals1 r
  exact call_int_int ⟨.int i, H, I, ⟨_, rfl⟩, q⟩
 ·obtain ⟨u, rfl, r1⟩ := vals1 r
  cases r1
  exact call_int_bool ⟨.int (if k then 1 else 0), H, I.tok _, ⟨_, rfl⟩, q⟩
theorem call_str_int : CallR X (.type "str") (fun xs H Q => ∃ i, xs = [.int i] ∧ i.natAbs.log2 < 1920 ∧ Q (.str (toString i)) H) := by
 intro pins s σ H xs us Q I r h
 obtain ⟨i, rfl, hz, q⟩ := h
 obtain ⟨u, rfl, t, rfl⟩ := vals1 r
 exact PySem.P.str_of_int hz ⟨.str _, H, I.tok _, ⟨_, rfl⟩, q⟩
noncomputable def LenV (K : PySem.W.Frag) (x : V) (H : Hp) (n : Nat) : Prop :=
 match x with
 | .str y => y.length ≤ sizeLine ∧ n = y.length
 | .byt y => y.size ≤ sizeLine ∧ n = y.size
 | .ref p => (∃ xs, SqL K H p xs ∧ n = xs.length) ∨ ∃ xs, SqT K H p xs ∧ n = xs.length
 | _ => False
theorem call_len : CallR X (.builtin "len") (fun xs H Q => ∃ x n, xs = [x] ∧ LenV X.K x H n ∧ Q (.int n) H) := by
 intro pins s σ H xs us Q I r h
 obtain ⟨x, n, rfl, e, q⟩ := h
 obtain ⟨u, rfl, rx⟩ := vals1 r
 have hl := line63
 have hs : sizeLine = 16777216 := sizeLine_eq
 cases x with
 | str y =>
  obtain ⟨t, rfl⟩ := rx
  obtain ⟨hy, e'⟩ : y.length ≤ sizeLine ∧ n = y.length := e
  subst e'
  exact len_str (by omega) ⟨.int _, H, I.tok _, ⟨_, rfl⟩, q⟩
 | byt y =>
  obtain ⟨t, rfl⟩ := rx
  obtain ⟨hy, e'⟩ : y.size ≤ sizeLine ∧ n = y.size := e
  subst e'
  exact PySem.W.len_bytes (by omega) ⟨.int _, H, I.tok _, ⟨_, rfl⟩, q⟩
 | ref p =>
  cases rx
  have e' : (∃ xs, SqL X.K H p xs ∧ n = xs.length) ∨ ∃ xs, SqT X.K H p xs ∧ n = xs.length := e
  rcases e' with ⟨xs, hx, e'⟩ | ⟨xs, hx, e'⟩
  ·subst e'
   obtain ⟨its, r', pl, hz⟩ := I.list hx
   have hlen := r'.length
   exact Calls.call_len_list pl.isList (by simp only [List.size_toArray]; omega) ⟨.int xs.length, H, I.tok _, ⟨_, by simp only [List.size_toArray]; rw [hlen]⟩, q⟩
  ·subst e'
   obtain ⟨its, r', pl, hz⟩ := I.tuple hx
   have hlen := r'.length
   exact len_tuple pl (by simp only [List.size_toArray]; omega) ⟨.int xs.length, H, I.tok _, ⟨_, by simp only [List.size_toArray]; rw [hlen]⟩, q⟩
 | _ => exact (show False from e).elim
end
end L2

namespace L2
open PySem PySem.Spec PyProof.Rows

/-! ### an instance, its attributes a map -/
structure ObjM (h : Heap) (x dx C : Addr) (mA : Str → Option Value) : Prop where
 obj : h.get? x = some (PySem.W.instObj C dx)
 ns : h.Ns1 dx mA
 ne : dx ≠ x

theorem lookIn_ns {h : Heap} {dx : Addr} {mA : Str → Option Value} (n : h.Ns1 dx mA) : ∃ od, h.get? dx = some od ∧ ∀ name, PySem.W.lookIn name od = some (mA name) := by
 obtain ⟨o, es, ep, ho, hd, hk, _, hm⟩ := n
 refine ⟨o, ho, fun name => ?_⟩
 have e := hm name
 unfold nsFind findBy at e
 rw [← Array.find?_toList] at e
 unfold PySem.W.lookIn
 rw [hd]
 dsimp only
 split
 ·rename_i y q
  rw [q] at e
  exact congrArg some e
 ·rename_i q
  rw [q] at e
  have a : es.toList.any (·.refKey) = false := by
   rw [List.any_eq_false]
   intro y hy
   obtain ⟨z, t, hkey⟩ := hk y (Array.mem_toList_iff.mp hy)
   simp [DictEntry.refKey, hkey]
  have a' : ¬ es.toList.any (·.refKey) = true := by rw [a]; exact Bool.false_ne_true
  rw [if_neg a']
  exact congrArg some e

theorem ObjM.look {h : Heap} {x dx C : Addr} {mA : Str → Option Value} (I : ObjM h x dx C mA) : ∃ od, PySem.W.InstAt h x (PySem.W.instObj C dx) C (some od) ∧ ∀ name, PySem.W.lookIn name od = some (mA name) :=
 let ⟨od, ho, hl⟩ := lookIn_ns I.ns
 ⟨od, ⟨I.obj, rfl, rfl, ho⟩, hl⟩

section
variable {prog : Program} {w : World} {A : Around} {E : Value → Shared → Prop} {s : Shared} {K : PySem.W.Frag} {x dx C f : Addr} {mA : Str → Option Value} {name : Str} {v : Value}

end

/-! ### the attributes as a list of pairs -/
theorem RelO.some_of {v : V} {o : Option Value} (r : RelO (some v) o) : ∃ u, o = some u ∧ RelV v u := by
 cases o with
 | none => exact (show False from r).elim
 | some u => exact ⟨u, rfl, r⟩
section
variable {P : Program} {w : World} {H H' : Hp} {h h' : Heap} {a C dx : Addr} {fs fs' : List (Str × V)}
theorem ins_get (hok : HOk P w H h) (e : H a = some (.ins C dx fs)) : ∃ mA, ObjM h a dx C mA ∧ (∀ f, RelO (fs.lookup f) (mA f)) ∧ PySem.Within mA (fs.map (·.1)) ∧ fs.length ≤ 1000 ∧ H dx = some (.own a) := by
 obtain ⟨d, z, ne, ob, mA, n, r, q⟩ := (show ObjOk P w H h a (.ins C dx fs) from hok a _ e)
 exact ⟨mA, ⟨ob, n, ne⟩, r, q, z, d⟩
end

/-! ### what of the text a class must have -/
structure Cls (K : PySem.W.Frag) (C : Addr) : Prop where
 pg : PySem.W.plainGet K C Str.empty = true
 hd : PySem.W.hasDictIn K C = true
 po : PySem.W.plainOver K C = true
 sa : PySem.W.findIn K (.ref C) "__setattr__" = some (some (.builtin "object.__setattr__"))
theorem Cls.get {K : PySem.W.Frag} {C : Addr} (c : Cls K C) (f : Str) : PySem.W.plainGet K C f = true := c.pg
section
variable {X : Cx} {pins : List (Addr × Obj)} {σ : St} {H : Hp} {s : Shared} {a C dx : Addr} {fs : List (Str × V)} {f : Str} {v : V} {A : Around} {E : Value → Shared → Prop}

end

/-! ### readings and rules -/
section
variable {X : Cx} {o e value : Expr} {f : Str} {pos pos' tpos : Pos} {ta tv : TE}
end

/-! ### isinstance -/
section
variable {X : Cx} {pins : List (Addr × Obj)} {σ : St} {H : Hp} {s : Shared} {A : Around} {E : Value → Shared → Prop} {Q : Value → Shared → Prop} {c : Value} {b : Bool}
inductive TyOf (K : PySem.W.Frag) (H : Hp) : V → Value → Prop where
 | non : TyOf K H .non (.type "NoneType")
 | bl (x : Bool) : TyOf K H (.bl x) (.type "bool")
 | int (i : Int) : TyOf K H (.int i) (.type "int")
 | str (x : Str) : TyOf K H (.str x) (.type "str")
 | flt (x : UInt64) : TyOf K H (.flt x) (.type "float")
 | lst {a : Addr} {xs : List V} (e : H a = some (.lst xs)) : TyOf K H (.ref a) (.type "list")
 | frz {a : Addr} {o : Obj} {xs : List V} (e : H a = some (.frz o (.lst xs))) : TyOf K H (.ref a) (.type "list")
 | tup {a : Addr} {xs : List V} (e : H a = some (.tup xs)) : TyOf K H (.ref a) (.type "tuple")
 | dK {a : Addr} {kvs : List (Key × V)} (e : H a = some (.dK kvs)) : TyOf K H (.ref a) (.type "dict")
 | dT {a : Addr} {kvs : List (List Key × V)} (e : H a = some (.dT kvs)) : TyOf K H (.ref a) (.type "dict")
 | ins {a C dx : Addr} {fs : List (Str × V)} (e : H a = some (.ins C dx fs)) (cl : Cls K C) (ha : PySem.W.findIn K (.ref C) "__class__" = some (some (.builtin "object.__class__")))
   (hn : PySem.W.specialIn K (.builtin "object.__class__") "__get__" = some (some (.builtin "getset_descriptor.__get__"))) (htk : PySem.W.takesIn K (.builtin "object.__class__") = some true)
   (hm : PySem.W.mroIn K C (.type "object") = some true) : TyOf K H (.ref a) (.ref C)
theorem isinst_ok {x : V} {u t : Value} (I : Inv X pins σ H s) (rx : RelV x u) (ty : TyOf X.K H x t) (e : PySem.W.kitOne X.K t c = some b) (h : ∀ tk, Q (.bool b) { s with toks := tk }) :
  wpAny (model X.prog X.w) A (call (.builtin "isinstance") [u, c]) Q E s := by
 cases ty with
 | non => cases (show u = Value.none from rx); exact PySem.W.kia_one PySem.W.kitx_none I.kIn True.intro e (fun z => nomatch z) h
 | bl y => cases (show u = Value.bool y from rx); exact PySem.W.kia_one PySem.W.kitx_bool I.kIn True.intro e (fun z => nomatch z) h
 | int i => obtain ⟨t, q⟩ := (show ∃ t, u = Value.int i t from rx); cases q; exact PySem.W.kia_one PySem.W.kitx_int I.kIn True.intro e (fun z => nomatch z) h
 | str y => obtain ⟨t, q⟩ := (show ∃ t, u = Value.str y t from rx); cases q; exact PySem.W.kia_one PySem.W.kitx_str I.kIn True.intro e (fun z => nomatch z) h
 | flt y => obtain ⟨t, q⟩ := (show ∃ t, u = Value.float y t from rx); cases q; exact PySem.W.kia_one PySem.W.kitx_float I.kIn True.intro e (fun z => nomatch z) h
 | @lst a xs ea =>
  cases (show u = Value.ref a from rx)
  obtain ⟨_, _, n, _, h1⟩ := (show ObjOk X.prog X.w H s.heap a (.lst xs) from I.hok a _ ea)
  exact PySem.W.kia_one PySem.W.kitx_list I.kIn ⟨_, h1, rfl⟩ e (fun z => nomatch z) h
 | @frz a ob xs ea =>
  cases (show u = Value.ref a from rx)
  obtain ⟨_, _, _, n, _, h1⟩ := (show ObjOk X.prog X.w H s.heap a (.frz ob (.lst xs)) from I.hok a _ ea)
  exact PySem.W.kia_one PySem.W.kitx_list I.kIn ⟨_, h1, rfl⟩ e (fun z => nomatch z) h
 | @tup a xs ea =>
  cases (show u = Value.ref a from rx)
  obtain ⟨_, _, _, p⟩ := (show ObjOk X.prog X.w H s.heap a (.tup xs) from I.hok a _ ea)
  obtain ⟨o, h1, h2, _⟩ := p
  exact PySem.W.kia_one PySem.W.kitx_tuple I.kIn ⟨o, h1, h2⟩ e (fun z => nomatch z) h
 | @dK a kvs ea =>
  cases (show u = Value.ref a from rx)
  obtain ⟨_, _, vs, _, p⟩ := (show ObjOk X.prog X.w H s.heap a (.dK kvs) from I.hok a _ ea)
  obtain ⟨o, es, ep, h1, h2, _⟩ := p
  exact PySem.W.kia_one PySem.W.kitx_dict I.kIn ⟨o, h1, h2.1⟩ e (fun z => nomatch z) h
 | @dT a kvs ea =>
  cases (show u = Value.ref a from rx)
  obtain ⟨_, _, xs, _, o, es, ep, h1, h2, _⟩ := (show ObjOk X.prog X.w H s.heap a (.dT kvs) from I.hok a _ ea)
  exact PySem.W.kia_one PySem.W.kitx_dict I.kIn ⟨o, h1, h2.1⟩ e (fun z => nomatch z) h
 | @ins a C dx fs ea cl ha hn htk hm =>
  cases (show u = Value.ref a from rx)
  obtain ⟨mA, O, _⟩ := ins_get I.hok ea
  obtain ⟨od, J, _⟩ := O.look
  exact PySem.W.kia_one (PySem.W.kitx_own (cl.get _) cl.hd ha hn htk hm) I.kIn J e (fun z => nomatch z) h
end
end L2

namespace L2
open PySem PySem.Spec PyProof.Rows

/-! ### room -/
structure Room (k : Nat) (A : Around) : Prop where
 hd : A.handled = none
 dp : A.depth + 3 * k + 5 < recursionLimit
 un : A.units + 16 * k + 200 < cLine
theorem Room.mono {j k : Nat} {A : Around} (r : Room k A) (h : j ≤ k) : Room j A := ⟨r.hd, by have := r.dp; omega, by have := r.un; omega⟩
theorem Room.deeper {k : Nat} {A : Around} (r : Room (k + 1) A) (env : Env) : Room k (A.deeper env) :=
 ⟨r.hd, by have := r.dp; show A.depth + 1 + 3 * k + 5 < _; omega, by have := r.un; show A.units + 3 + 16 * k + 200 < _; omega⟩
theorem Room.depth {k : Nat} {A : Around} (r : Room k A) : A.depth < recursionLimit := by have := r.dp; omega
theorem Room.units {k : Nat} {A : Around} (r : Room k A) : A.units + 64 < cLine := by have := r.un; omega
theorem Room.units0 {k : Nat} {A : Around} (r : Room k A) : A.units < cLine := by have := r.un; omega

/-! ### argument lists and displays -/
noncomputable def tNil : TA := fun _ H Q => Q [] H
noncomputable def tCons (ta : TE) (tr : TA) : TA := fun σ H Q => ta σ H fun x H1 => tr σ H1 fun xs H2 => Q (x :: xs) H2
section
variable {X : Cx} {e : Expr} {es : List Expr} {te : TE} {t : TA} {pos : Pos}
theorem pa_nil : PA X [] tNil := fun _ _ _ _ H Q I h => Calls.spliced_nil ⟨[], H, I, .nil, h⟩
theorem pa_cons (ha : PE X e te) (hr : PA X es t) (hs : starEach (e :: es) X.env = (false, eval e X.env) :: starEach es X.env := by rfl) : PA X (e :: es) (tCons te t) := by
 intro pos pins s σ H Q I h
 rw [hs]
 show wpAny _ _ (spliced ((false, eval e X.env) :: backTo pos (starEach es X.env))) _ _ s
 refine Calls.spliced_cons (thn (ha pins s σ H _ I h) fun u s1 ⟨x, H1, I1, r1, q1⟩ => ?_)
 exact thn (hr pos pins s1 σ H1 _ I1 q1) fun us s2 ⟨xs, H2, I2, r2, q2⟩ => ⟨x :: xs, H2, I2, .cons r1 r2, q2⟩

noncomputable def tTup (t : TA) : TE := fun σ H Q => t σ H fun xs H1 => xs.length ≤ sizeLine ∧ ∀ p, H1 p = none → Q (.ref p) (upd H1 p (.tup xs))
noncomputable def tLst (t : TA) : TE := fun σ H Q => t σ H fun xs H1 => xs.length ≤ sizeLine ∧ ∀ p, H1 p = none → Q (.ref p) (upd H1 p (.lst xs))
theorem pe_tup {x1} (h : PA X es t) : PE X (.Tuple es x1 pos) (tTup t) := by
 intro pins s σ H Q I hq
 refine wpAny_Tuple_spliced (thn (h pos pins s σ H _ I hq) fun us s1 ⟨xs, H1, I1, r, z, q⟩ => ⟨by rw [← r.length]; exact z, ?_⟩)
 have hf : H1 s1.heap.objs.size = none := I1.hok.fresh (Nat.le_refl _)
 refine ⟨.ref s1.heap.objs.size, upd H1 s1.heap.objs.size (.tup xs), I1.laid (t' := s1.toks) (fun b u e => Heap.get?_push_of_some _ e) (Nat.le_refl _) ?_, rfl, q _ hf⟩
 exact ⟨z, us, r, ⟨_, Heap.get?_push_size _ rfl, rfl, _, rfl⟩⟩
theorem pe_lst (h : PA X es t) : PE X (.List es pos) (tLst t) := by
 intro pins s σ H Q I hq
 refine wpAny_List_spliced (thn (h pos pins s σ H _ I hq) fun us s1 ⟨xs, H1, I1, r, z, q⟩ => ⟨by rw [← r.length]; exact z, ?_⟩)
 have hf : H1 s1.heap.objs.size = none := I1.hok.fresh (Nat.le_refl _)
 refine ⟨.ref s1.heap.objs.size, upd H1 s1.heap.objs.size (.lst xs), I1.laid (t' := s1.toks) (fun b u e => Heap.get?_push_of_some _ e) (Nat.le_refl _) ?_, rfl, q _ hf⟩
 exact ⟨z, us, 0, r, Heap.get?_push_size _ rfl⟩
end

/-! ### what a def promises -/
noncomputable abbrev Sp := List V → Hp → VK → XK → Prop
noncomputable abbrev CXT := List Env → Hp → Shared → XK → Value → Shared → Prop

structure Env0 (P : Program) (w : World) (K : PySem.W.Frag) (mg : Str → Option Value) (base : Heap) (A : Around) (outer : List Env) (s : Shared) (H : Hp) : Prop where
 frames : A.frames = some outer
 mod : Mod K mg base
 bs : ∀ b o, base.get? b = some o → s.heap.get? b = some o ∧ H b = none
 bsz : base.objs.size ≤ s.heap.objs.size
 funs : s.heap.FunFrames base outer
 frf : ∀ b ∈ frs outer, H b = none
 hok : HOk P w H s.heap
 bare : AllBare s.gens
noncomputable def CE (outer : List Env) (P : Program) (w : World) (H : Hp) (s : Shared) (Q : VK) (u : Value) (s' : Shared) : Prop :=
 ∃ v H', s'.os = s.os ∧ AllBare s'.gens ∧ Un (frs outer) [] H H' s.heap s'.heap ∧ HOk P w H' s'.heap ∧ RelV v u ∧ Q v H'
noncomputable def CR (CX : CXT) (outer : List Env) (P : Program) (w : World) (H : Hp) (s : Shared) (Q : VK) (E : XK) (r : Result) (s' : Shared) : Prop :=
 match r with
 | .ok (.ret u) => CE outer P w H s Q u s'
 | .ok _ => False
 | .error e => CX outer H s E e s'
structure FnOk (P : Program) (w : World) (K : PySem.W.Frag) (mg : Str → Option Value) (base : Heap) (CX : CXT) (k : Nat) (f : Addr) (fd : FuncData) (ps : List Str) (sp : Sp) : Prop where
 len : ∀ vs H Q E, sp vs H Q E → vs.length = ps.length
 run : ∀ (A : Around) (outer : List Env) (s : Shared) (H : Hp) (args : Args) (us : List Value) (vs : List V) (Q : VK) (E : XK), Room k A → Env0 P w K mg base A outer s H → BindsTo s fd args (ps.zip us) → Vals vs us → sp vs H Q E →
  codeAny (model P w) A (.call (.ref f) args) (CR CX outer P w H s Q E) s
section
variable {X : Cx} {pins : List (Addr × Obj)} {σ : St} {H : Hp} {s s' : Shared}
theorem Inv.env0 (I : Inv X pins σ H s) : Env0 X.prog X.w X.K X.mg X.base X.A X.stack s H :=
 ⟨I.ok.frames, I.ok.mod, I.bs, Nat.le_trans I.ok.bsz I.sz, I.stack, I.stkFree, I.hok, I.bare⟩
theorem Inv.after {Q : VK} {u : Value} (I : Inv X pins σ H s) (h : CE X.stack X.prog X.w H s Q u s') : EP X pins σ Q u s' := by
 obtain ⟨v, H', os, bare, un, hok, r, q⟩ := h
 obtain ⟨hh, g, d, t, os'⟩ := s'
 obtain rfl : os' = s.os := os
 exact ⟨v, H', I.call (h' := hh) (g' := g) (d' := d) (t' := t) (ch := []) un hok bare (fun b z => absurd z (by simp)), r, q⟩
end

/-! ### calls -/
noncomputable def tCall (sp : Sp) (dvs : List V) (E : XK) (t : TA) : TE := fun σ H Q => t σ H fun vs H1 => sp (vs ++ dvs) H1 Q E
noncomputable def Binds (K : PySem.W.Frag) (fd : FuncData) (ps : List Str) (ds : List Value) : Prop :=
 ∀ (s : Shared) (us : List Value), K.In s.heap → (us ++ ds).length = ps.length → BindsTo s fd ⟨us, []⟩ (ps.zip (us ++ ds))
theorem Binds.all {K : PySem.W.Frag} {fd : FuncData} {ps : List Str} (h : ∀ us : List Value, us.length = ps.length → bindArgs fd ⟨us, []⟩ = pure (ps.zip us)) : Binds K fd ps [] := fun s us _ hl => by
 rw [List.append_nil] at hl ⊢
 exact .of_eq (h us hl)

noncomputable def Passes (CX : CXT) (X : Cx) (E : XK) : Prop := ∀ (pins : List (Addr × Obj)) (σ : St) (H : Hp) (s : Shared) (e : Value) (s' : Shared), Inv X pins σ H s → CX X.stack H s E e s' → X.xe e s'

section
variable {X : Cx} {CX : CXT} {k : Nat} {f C : Addr} {fd : FuncData} {ps : List Str} {sp : Sp} {dvs : List V} {ds : List Value} {E : XK} {x m : Str} {p pos apos : Pos} {e o : Expr} {es : List Expr} {ta : TE} {t : TA}

theorem run_fn {pins : List (Addr × Obj)} {σ : St} {H : Hp} {s : Shared} {Q : VK} {us : List Value} {vs : List V} (F : FnOk X.prog X.w X.K X.mg X.base CX k f fd ps sp) (hr : Room k X.A) (hb : Binds X.K fd ps ds) (hd : Vals dvs ds) (hx : Passes CX X E)
  (I : Inv X pins σ H s) (r : Vals vs us) (h : sp (vs ++ dvs) H Q E) : wpAny (model X.prog X.w) X.A (call (.ref f) us) (EP X pins σ Q) X.xe s := by
 have r2 : Vals (vs ++ dvs) (us ++ ds) := r.append hd
 have hl : (us ++ ds).length = ps.length := by rw [← r2.length]; exact F.len _ _ _ _ h
 refine wpAny_call (codeAny_mono (F.run X.A X.stack s H ⟨us, []⟩ (us ++ ds) (vs ++ dvs) Q E hr I.env0 (hb s us I.kIn hl) r2 h) fun r s' hq => ?_)
 cases r with
 | error e => exact hx pins σ H s e s' I hq
 | ok fl =>
  cases fl with
  | ret u => exact I.after hq
  | next => exact False.elim hq
  | brk => exact False.elim hq
  | cont => exact False.elim hq

theorem pe_call (F : FnOk X.prog X.w X.K X.mg X.base CX k f fd ps sp) (hr : Room k X.A) (hg : Gl X x) (hm : X.mg x = some (.ref f)) (hk : PySem.W.keepIn X.K (.ref f) = true) (hb : Binds X.K fd ps ds) (hd : Vals dvs ds) (hx : Passes CX X E)
  (ha : PA X (e :: es) t) (hdb : (x == ("__debug__" : Str)) = false := by decide) (he : starEach (e :: es) X.env = (false, eval e X.env) :: starEach es X.env := by rfl) (hpl : (backTo pos (starEach es X.env)).any (·.1) = false := by rfl) :
  PE X (.Call (.Name x p) (e :: es) [] pos) (tCall sp dvs E t) := by
 intro pins s σ H Q I h
 refine wpAny_Call_Name_kw (ld_glob I hg hm ?_ hdb)
 refine PySem.W.callWith_K (h₀ := X.base) I.ok.mod.kin hk (thn (ha pos pins s σ H _ I h) fun us s1 ⟨vs, H1, I1, r, q⟩ => ⟨I1.kIn, ?_⟩) he hpl
 exact run_fn F hr hb hd hx I1 r q
end

/-! ### keywords -/
section
variable {X : Cx} {CX : CXT} {k : Nat} {f C : Addr} {fd : FuncData} {ps ks : List Str} {sp : Sp} {E : XK} {x m : Str} {p pos apos kpos : Pos} {e o : Expr} {es : List Expr} {kws : List Keyword} {te ta : TE} {t tk : TA} {nm : Option Str}
variable {g : List Value → List Value → List Value} {gV : List V → List V → List V}
end

/-! ### a def's body keeps its promise -/
structure FnScope (N P : List Str) (sc : Scope) : Prop where
 kind : sc.kind = .function
 co : sc.isCoroutine = false
 gen : sc.isGenerator = false
 nd : N.Nodup
 pre : N.take P.length = P
 par : ∀ x ∈ P, sc.names.lookup x = some .local ∨ sc.names.lookup x = some .cell
 nofree : ∀ y ∈ sc.names, y.2 ≠ .free

theorem bindL_out {kindOf : Str → Option NameKind} {x : Str} : ∀ {binds : List (Str × Value)} {m : Str → Option Value}, (∀ v, (x, v) ∉ binds) → bindL kindOf binds m x = m x
 | [], _, _ => rfl
 | (n, v) :: r, m, h => by
  unfold bindL
  rw [bindL_out fun w hw => h w (List.mem_cons_of_mem _ hw)]
  split
  ·have : x ≠ n := by rintro rfl; exact h v List.mem_cons_self
   simp [this]
  ·rfl
theorem bindC_out {kindOf : Str → Option NameKind} {x : Str} : ∀ {binds : List (Str × Value)} {m : Str → Option Value}, (∀ v, (x, v) ∉ binds) → bindC kindOf binds m x = m x
 | [], _, _ => rfl
 | (n, v) :: r, m, h => by
  unfold bindC
  rw [bindC_out fun w hw => h w (List.mem_cons_of_mem _ hw)]
  split
  ·rfl
  ·have : x ≠ n := by rintro rfl; exact h v List.mem_cons_self
   simp [this]
theorem bindL_get {kindOf : Str → Option NameKind} {x : Str} {v : Value} : ∀ {P : List Str} {vs : List Value} {i : Nat} {m : Str → Option Value}, P.Nodup → P[i]? = some x → vs[i]? = some v → kindOf x = some .local →
  bindL kindOf (P.zip vs) m x = some v
 | [], _, _, _, _, h, _, _ => by simp at h
 | _ :: _, [], _, _, _, _, h, _ => by simp at h
 | p :: P, w :: vs, 0, m, nd, h1, h2, hk => by
  simp at h1 h2; subst h1; subst h2
  show bindL kindOf ((p, w) :: P.zip vs) m p = _
  unfold bindL
  rw [bindL_out fun v hv => (List.nodup_cons.mp nd).1 (List.of_mem_zip hv).1, if_pos hk]
  simp
 | p :: P, w :: vs, i + 1, m, nd, h1, h2, hk => by
  show bindL kindOf ((p, w) :: P.zip vs) m x = _
  unfold bindL
  exact bindL_get (i := i) (List.nodup_cons.mp nd).2 (by simpa using h1) (by simpa using h2) hk
theorem bindC_get {kindOf : Str → Option NameKind} {x : Str} {v : Value} : ∀ {P : List Str} {vs : List Value} {i : Nat} {m : Str → Option Value}, P.Nodup → P[i]? = some x → vs[i]? = some v → kindOf x ≠ some .local →
  bindC kindOf (P.zip vs) m x = some v
 | [], _, _, _, _, h, _, _ => by simp at h
 | _ :: _, [], _, _, _, _, h, _ => by simp at h
 | p :: P, w :: vs, 0, m, nd, h1, h2, hk => by
  simp at h1 h2; subst h1; subst h2
  show bindC kindOf ((p, w) :: P.zip vs) m p = _
  unfold bindC
  rw [bindC_out fun v hv => (List.nodup_cons.mp nd).1 (List.of_mem_zip hv).1, if_neg hk]
  simp
 | p :: P, w :: vs, i + 1, m, nd, h1, h2, hk => by
  show bindC kindOf ((p, w) :: P.zip vs) m x = _
  unfold bindC
  exact bindC_get (i := i) (List.nodup_cons.mp nd).2 (by simpa using h1) (by simpa using h2) hk

noncomputable def start (N : List Str) (vs : List V) : St := vs.map some ++ List.replicate (N.length - vs.length) none

noncomputable def cxOf (CX : CXT) (P : Program) (w : World) (K : PySem.W.Frag) (mg : Str → Option Value) (base : Heap) (N : List Str) (qual : Str) (scope : Scope) (f : Addr) (cd : Value) (A : Around) (outer : List Env) (s : Shared) (H : Hp) (E : XK) : Cx where
 prog := P
 w := w
 K := K
 mg := mg
 base := base
 A := A.deeper (envOfC qual scope s.heap.objs.size f cd)
 N := N
 s₀ := s
 H₀ := H
 env := envOfC qual scope s.heap.objs.size f cd
 outer := outer
 stack := envOfC qual scope s.heap.objs.size f cd :: outer
 ex := []
 calm := true
 fn := fun _ => true
 pn := []
 xe := fun e s' => wpAny (model P w) (A.deeper (envOfC qual scope s.heap.objs.size f cd)) (leaving (envOfC qual scope s.heap.objs.size f cd) e) (fun _ s'' => CX outer H s E e s'') (fun e' s'' => CX outer H s E e' s'') s'

theorem cell_has {sc : Scope} {n : Nat} {x : Str} (h : sc.names.lookup x = some .cell) : ∃ c, (cellsFrom n sc.names []).lookup x = some c := by
 have q := PySem.W.cellsFrom_some sc.names n [] (.inl h)
 exact Option.isSome_iff_exists.mp q

theorem inv_start {CX : CXT} {P : Program} {w : World} {K : PySem.W.Frag} {mg : Str → Option Value} {base : Heap} {N ps : List Str} {qual : Str} {scope : Scope} {f : Addr} {cd : Value} {A : Around} {outer : List Env} {s s1 : Shared} {H : Hp} {E : XK} {us : List Value} {vs : List V}
  (S : FnScope N ps scope) (hd : A.handled = none) (e0 : Env0 P w K mg base A outer s H) (hl : vs.length = ps.length) (r : Vals vs us)
  (x : InCallC s s.heap.objs.size (bindL (envOfC qual scope s.heap.objs.size f cd).kindOf (ps.zip us) fun _ => none) (cellsFrom (s.heap.objs.size + 1) scope.names []) (bindC (envOfC qual scope s.heap.objs.size f cd).kindOf (ps.zip us) fun _ => none) s1) :
  Inv (cxOf CX P w K mg base N qual scope f cd A outer s H E) [] (start N vs) H s1 := by
 have hpl : ps.length ≤ N.length := by have := congrArg List.length S.pre; rw [List.length_take] at this; omega
 obtain ⟨h1, tk, rfl, hk⟩ := x.done
 have noA : ∀ b : Addr, b ∉ (cxOf CX P w K mg base N qual scope f cd A outer s H E).ex := fun b z => absurd (show b ∈ ([] : List Addr) from z) (by simp)
 refine ⟨⟨e0.mod, S.kind, rfl, rfl, Nat.le_refl _, fun y z c h1 h2 => ?_, fun y hy => ?_, fun y c _ h => ?_, fun _ => hd, Around.frames_deeper e0.frames, .inr ⟨rfl, rfl⟩, fun b z => absurd z (noA b), e0.bs, e0.bsz, fun b _ _ => noA b, fun b z => absurd z (noA b), e0.funs, e0.frf⟩,
  rfl, e0.bare, Un.kept hk, ⟨_, x.toInCall.ns, fun i y v h1 h2 h3 => ?_⟩, fun y c h => ⟨_, x.cell y c h⟩, e0.hok.fresh (Nat.le_refl _), fun y c h => ?_, fun p hp => absurd (show p ∈ ([] : List (Addr × Obj)) from hp) (by simp), e0.hok.kept hk, ?_⟩
 ·exact name_of_addr x.apart (PySem.mem_of_lookup h1) (PySem.mem_of_lookup h2)
 ·have hy : scope.names.lookup y = some .cell ∨ scope.names.lookup y = some .free := hy
  rcases hy with hy | hy
  ·exact cell_has hy
  ·exact absurd rfl (S.nofree _ (PySem.mem_of_lookup hy))
 ·exact Nat.le_of_lt (x.above y c (PySem.mem_of_lookup h))
 ·have hi : i < vs.length := by
   unfold start at h2
   by_cases hi : i < vs.length
   ·exact hi
   ·rw [List.getElem?_append_right (by simpa using hi)] at h2
    rw [List.getElem?_replicate] at h2
    split at h2 <;> cases h2
  have ha : vs[i]? = some v := by
   unfold start at h2
   rw [List.getElem?_append_left (by simpa using hi), List.getElem?_map] at h2
   cases e : vs[i]? with
   | none => rw [e] at h2; cases h2
   | some a => rw [e] at h2; cases h2; rfl
  obtain ⟨u, hu, rv⟩ := r.get ha
  have hp : ps[i]? = some y := by
   rw [← S.pre, List.getElem?_take_of_lt (by omega)]; exact h1
  have ndP : ps.Nodup := by rw [← S.pre]; exact S.nd.sublist (List.take_sublist _ _)
  refine ⟨u, rv, ?_⟩
  rcases S.par y (List.mem_of_getElem? hp) with k | k
  ·exact .inl ⟨k, bindL_get ndP hp hu k⟩
  ·obtain ⟨c, e⟩ := cell_has (n := s.heap.objs.size + 1) k
   refine .inr ⟨.inl k, c, e, ?_⟩
   have q := x.cell y c e
   rw [bindC_get ndP hp hu (by show scope.names.lookup y ≠ _; rw [k]; decide)] at q
   exact q
 ·exact e0.hok.fresh (Nat.le_of_lt (x.above y c (PySem.mem_of_lookup h)))
 ·unfold start
  show _ = N.length
  rw [List.length_append, List.length_map, List.length_replicate]
  omega

theorem fn_of {CX : CXT} {P : Program} {w : World} {K : PySem.W.Frag} {mg : Str → Option Value} {base : Heap} {k : Nat} {f : Addr} {name qual : Str} {params : Arguments} {body : List Stmt} {scope : Scope} {dV kV doc pm cdv ct oc : Value} {an od : Option Addr}
  {osl : Array (Option Value)} {N ps : List Str} {sp : Sp} (lk : K.lookup f = some ⟨oc, od, .func (PySem.W.fnOf name qual params body scope dV kV doc pm an cdv ct), osl⟩) (hcd : PySem.W.codeIn K cdv qual = true) (S : FnScope N ps scope)
  (len : ∀ vs H Q E, sp vs H Q E → vs.length = ps.length)
  (hbody : ∀ (A : Around) (outer : List Env) (s : Shared) (H : Hp) (vs : List V) (Q : VK) (E : XK), Room k (A.deeper (envOfC qual scope s.heap.objs.size f cdv)) → sp vs H Q E →
   ∃ t, PSs (cxOf CX P w K mg base N qual scope f cdv A outer s H E) body t ∧ t { nx := fun _ H' => Q .non H', rt := Q } (start N vs) H) :
  FnOk P w K mg base CX (k + 1) f (PySem.W.fnOf name qual params body scope dV kV doc pm an cdv ct) ps sp := by
 refine ⟨len, fun A outer s H args us vs Q E hr e0 hb r hsp => ?_⟩
 have hl := len _ _ _ _ hsp
 have KX : K.In s.heap := e0.mod.kin.keeps fun b o e => (e0.bs b o e).1
 have lim : s.heap.NoLimit := e0.mod.nolimit.keeps fun b o e => (e0.bs b o e).1
 have hkind : ∀ y ∈ ps.zip us, scope.names.lookup y.1 = some .local ∨ (scope.names.lookup y.1 = some .cell ∧ ((cellsFrom (s.heap.objs.size + 1) scope.names []).lookup y.1).isSome = true) := fun ⟨n, v⟩ hy => by
  rcases S.par n (List.of_mem_zip hy).1 with q | q
  ·exact .inl q
  ·exact .inr ⟨q, PySem.W.cellsFrom_some _ _ _ (.inl q)⟩
 refine codeAny_call_function hr.depth (KX _ _ lk) rfl S.co S.gen rfl (PySem.W.codeRec_of KX hcd) (hb _ _ _ _ ?_)
 refine wpAny_newFunctionEnv_cells S.kind hkind fun env he s1 x => ?_
 subst he
 refine ⟨lim.keeps x.toInCall.keep, codeAny_func ?_⟩
 obtain ⟨t, ht, hq⟩ := hbody A outer s H vs Q E (hr.deeper _) hsp
 have I : Inv (cxOf CX P w K mg base N qual scope f cdv A outer s H E) [] (start N vs) H s1 := inv_start S hr.hd e0 hl r x
 refine wpAny_mono (ht [] s1 (start N vs) H _ I hq) (fun fl s' hs => ?_) fun e s' hs => hs
 have fin : ∀ {σ' : St} {H' : Hp} {v : V} {u : Value}, Inv (cxOf CX P w K mg base N qual scope f cdv A outer s H E) [] σ' H' s' → RelV v u → Q v H' → CE outer P w H s Q u s' :=
  fun {σ' H' v u} J rv q => ⟨v, H', J.os, J.bare, J.base, J.hok, rv, q⟩
 cases fl with
 | ret u =>
  obtain ⟨v, σ', H', J, rv, q⟩ := hs
  exact fin J rv q
 | next =>
  obtain ⟨σ', H', J, q⟩ := hs
  exact fin (v := V.non) (u := Value.none) J rfl q
 | brk =>
  obtain ⟨_, _, _, q⟩ := hs
  exact False.elim q
 | cont =>
  obtain ⟨_, _, _, q⟩ := hs
  exact False.elim q
end L2

namespace L2
open PySem PySem.Spec PyProof.Rows
section
variable {X : Cx} {x : Str} {p pos : Pos} {e : Expr} {es : List Expr} {t : TA} {id T : String} {r : List V → Hp → VK → Prop}

noncomputable def tCB (r : List V → Hp → VK → Prop) (t : TA) : TE := fun σ H Q => t σ H fun vs H1 => r vs H1 Q
theorem pe_callB (hc : CallR X (.builtin id) r) (hg : Gl X x) (hm : X.mg x = none) (hv : bootBuiltins x = some (.builtin id)) (ha : PA X (e :: es) t) (hn : x ≠ "__name__" := by decide) (hdb : (x == ("__debug__" : Str)) = false := by decide)
  (he : starEach (e :: es) X.env = (false, eval e X.env) :: starEach es X.env := by rfl) (hpl : (backTo pos (starEach es X.env)).any (·.1) = false := by rfl) : PE X (.Call (.Name x p) (e :: es) [] pos) (tCB r t) := by
 intro pins s σ H Q I h
 refine wpAny_Call_Name_kw (ld_blt I hg hm hv ?_ hn hdb)
 exact PyProof.Rows.callWith_builtin1 (thn (ha pos pins s σ H _ I h) fun us s1 ⟨vs, H1, I1, r1, q1⟩ => hc pins s1 σ H1 vs us Q I1 r1 q1) he hpl
theorem pe_callTy (hc : CallR X (.type T) r) (hg : Gl X x) (hm : X.mg x = none) (hv : bootBuiltins x = some (.type T)) (ha : PA X (e :: es) t) (hn : x ≠ "__name__" := by decide) (hdb : (x == ("__debug__" : Str)) = false := by decide)
  (he : starEach (e :: es) X.env = (false, eval e X.env) :: starEach es X.env := by rfl) (hpl : (backTo pos (starEach es X.env)).any (·.1) = false := by rfl) : PE X (.Call (.Name x p) (e :: es) [] pos) (tCB r t) := by
 intro pins s σ H Q I h
 refine wpAny_Call_Name_kw (ld_blt I hg hm hv ?_ hn hdb)
 exact PyProof.Rows.callWith_type1 (thn (ha pos pins s σ H _ I h) fun us s1 ⟨vs, H1, I1, r1, q1⟩ => hc pins s1 σ H1 vs us Q I1 r1 q1) he hpl
end
end L2

namespace L2
open PySem PySem.Spec PyProof.Rows

/-! ### lists of pairs as tables -/
section
variable {κ : Type} [DecidableEq κ]
noncomputable def valV (kvs : List (κ × V)) (k : κ) : Option V := (kvs.find? fun kv => decide (kv.1 = k)).map (·.2)
noncomputable def putK (kvs : List (κ × V)) (k : κ) (v : V) : List (κ × V) :=
 if (kvs.any fun kv => decide (kv.1 = k)) = true then kvs.map (fun kv => if kv.1 = k then (kv.1, v) else kv) else kvs ++ [(k, v)]
theorem valV_pos {p : κ × V} {r : List (κ × V)} {k : κ} (e : p.1 = k) : valV (p :: r) k = some p.2 := by simp [valV, List.find?_cons, e]
theorem valV_neg {p : κ × V} {r : List (κ × V)} {k : κ} (e : ¬ p.1 = k) : valV (p :: r) k = valV r k := by simp [valV, List.find?_cons, e]
theorem valV_any (k : κ) : ∀ kvs : List (κ × V), (kvs.any fun kv => decide (kv.1 = k)) = (valV kvs k).isSome
 | [] => rfl
 | p :: r => by
  rw [List.any_cons]
  by_cases e : p.1 = k
  ·simp only [valV_pos e, decide_eq_true e, Bool.true_or, Option.isSome_some]
  ·rw [valV_neg e, decide_eq_false e, Bool.false_or]; exact valV_any k r
theorem valV_map (k j : κ) (y : V) : ∀ kvs : List (κ × V), valV (kvs.map fun kv => if kv.1 = k then (kv.1, y) else kv) j = (valV kvs j).map fun x => if j = k then y else x
 | [] => rfl
 | p :: r => by
  have ih := valV_map k j y r
  rw [List.map_cons]
  by_cases h : p.1 = k
  ·rw [if_pos h]
   by_cases e : p.1 = j
   ·rw [valV_pos (p := (p.1, y)) e, valV_pos e, Option.map_some, if_pos (e.symm.trans h)]
   ·rw [valV_neg (p := (p.1, y)) e, valV_neg e, ih]
  ·rw [if_neg h]
   by_cases e : p.1 = j
   ·rw [valV_pos (p := p) e, valV_pos e, Option.map_some, if_neg (fun z => h (e.trans z))]
   ·rw [valV_neg (p := p) e, valV_neg e, ih]
theorem valV_snoc (k j : κ) (y : V) : ∀ kvs : List (κ × V), valV kvs k = none → valV (kvs ++ [(k, y)]) j = if j = k then some y else valV kvs j
 | [], _ => by
  by_cases e : k = j
  ·rw [if_pos e.symm]; exact valV_pos (p := (k, y)) e
  ·rw [if_neg (fun z => e z.symm)]; exact valV_neg (p := (k, y)) e
 | p :: r, hn => by
  rw [List.cons_append]
  have hk : ¬ p.1 = k := fun z => by rw [valV_pos z] at hn; cases hn
  rw [valV_neg hk] at hn
  have ih := valV_snoc k j y r hn
  by_cases e : p.1 = j
  ·rw [valV_pos e, valV_pos e, if_neg (fun z => hk (e.trans z))]
  ·rw [valV_neg e, valV_neg e, ih]
theorem valV_put (kvs : List (κ × V)) (k j : κ) (y : V) : valV (putK kvs k y) j = if j = k then some y else valV kvs j := by
 unfold putK
 by_cases a : (kvs.any fun kv => decide (kv.1 = k)) = true
 ·rw [if_pos a, valV_map]
  rw [valV_any] at a
  by_cases e : j = k
  ·obtain ⟨x, hx⟩ := Option.isSome_iff_exists.mp a
   rw [if_pos e, e, hx, Option.map_some, if_pos rfl]
  ·rw [if_neg e]
   cases valV kvs j with
   | none => rfl
   | some x => rw [Option.map_some, if_neg e]
 ·rw [if_neg a]
  refine valV_snoc k j y kvs ?_
  rw [valV_any] at a
  cases q : valV kvs k with
  | none => rfl
  | some x => rw [q] at a; exact (a rfl).elim
theorem length_putK (kvs : List (κ × V)) (k : κ) (v : V) : (putK kvs k v).length ≤ kvs.length + 1 := by
 unfold putK
 split
 ·rw [List.length_map]; omega
 ·rw [List.length_append, List.length_cons, List.length_nil]; omega
theorem RelO.isSome_eq {o : Option V} {u : Option Value} (r : RelO o u) : o.isSome = u.isSome := by
 cases o with
 | none => cases u with
  | none => rfl
  | some _ => exact (show False from r).elim
 | some _ => cases u with
  | none => exact (show False from r).elim
  | some _ => rfl
theorem RelO.getD {o : Option V} {u : Option Value} {d : V} {d' : Value} (r : RelO o u) (rd : RelV d d') : RelV (o.getD d) (u.getD d') := by
 cases o with
 | none => cases u with
  | none => exact rd
  | some _ => exact (show False from r).elim
 | some _ => cases u with
  | none => exact (show False from r).elim
  | some _ => exact r

theorem KV.val {kvs : List (κ × V)} {vs : List (κ × Value)} (r : KV kvs vs) (k : κ) : RelO (valV kvs k) (valueAt vs k) := by
 unfold KV at r
 induction r with
 | nil => exact True.intro
 | @cons p q ps qs h t ih =>
  obtain ⟨h1, h2⟩ := h
  by_cases e : p.1 = k
  ·have e' : q.1 = k := h1.symm.trans e
   have b : valueAt (q :: qs) k = some q.2 := by simp [valueAt, List.find?_cons, e']
   rw [valV_pos e, b]; exact h2
  ·have e' : ¬ q.1 = k := fun z => e (h1.trans z)
   have b : valueAt (q :: qs) k = valueAt qs k := by simp [valueAt, List.find?_cons, e']
   rw [valV_neg e, b]; exact ih
theorem KV.any {kvs : List (κ × V)} {vs : List (κ × Value)} (r : KV kvs vs) (k : κ) : (kvs.any fun kv => decide (kv.1 = k)) = vs.any fun kv => decide (kv.1 = k) := by
 unfold KV at r
 induction r with
 | nil => rfl
 | cons h t ih => rw [List.any_cons, List.any_cons, ih, h.1]
theorem KV.repl {kvs : List (κ × V)} {vs : List (κ × Value)} (r : KV kvs vs) (k : κ) {y : V} {u : Value} (ry : RelV y u) :
  KV (kvs.map fun kv => if kv.1 = k then (kv.1, y) else kv) (vs.map fun kv => if kv.1 = k then (kv.1, u) else kv) := by
 unfold KV at r ⊢
 induction r with
 | nil => exact .nil
 | @cons p q ps qs h t ih =>
  rw [List.map_cons, List.map_cons]
  refine .cons ?_ ih
  obtain ⟨h1, h2⟩ := h
  by_cases e : p.1 = k
  ·rw [if_pos e, if_pos (h1.symm.trans e)]; exact ⟨h1, ry⟩
  ·rw [if_neg e, if_neg (fun z => e (h1.trans z))]; exact ⟨h1, h2⟩
theorem KV.put {kvs : List (κ × V)} {vs : List (κ × Value)} (r : KV kvs vs) (k : κ) {y : V} {u : Value} (ry : RelV y u) : KV (putK kvs k y) (stored vs k u) := by
 unfold putK stored
 rw [r.any k]
 by_cases e : (vs.any fun kv => decide (kv.1 = k)) = true
 ·rw [if_pos e, if_pos e]; exact r.repl k ry
 ·rw [if_neg e, if_neg e]; exact Paired.snoc r ⟨rfl, ry⟩
theorem KV.length {kvs : List (κ × V)} {vs : List (κ × Value)} (r : KV kvs vs) : kvs.length = vs.length := Paired.length r
end


/-! ### a tracked dict, its keys ints and texts or tuples of these -/
theorem kV_is {P : Program} {w : World} {k : Key} {u : Value} (r : RelV (kV k) u) : (mixKind P w).is k u = true := by
 cases k with
 | inl i => obtain ⟨t, e⟩ := (show ∃ t, u = Value.int i t from r); subst e; exact mixKind_int P w i t
 | inr x => obtain ⟨t, e⟩ := (show ∃ t, u = Value.str x t from r); subst e; exact mixKind_str P w x t
theorem kV_inj {a b : Key} (e : kV a = kV b) : a = b := by
 cases a with
 | inl i => cases b with
  | inl j => have e' : V.int i = V.int j := e; injection e' with e'; rw [e']
  | inr y => exact nomatch (show V.int i = V.str y from e)
 | inr x => cases b with
  | inl j => exact nomatch (show V.str x = V.int j from e)
  | inr y => have e' : V.str x = V.str y := e; injection e' with e'; rw [e']
theorem items_are {P : Program} {w : World} : ∀ {ks : List Key} {us : List Value}, Vals (ks.map kV) us → ItemsAre (mixKind P w) ks us
 | [], _, r => by rw [List.map_nil] at r; cases r; exact .nil
 | k :: ks, _, r => by
  rw [List.map_cons] at r
  cases r with
  | cons h t => exact .cons (kV_is h) (items_are t)

noncomputable abbrev KT (H : Hp) : List (List Key × V) → List (List Key × Addr × Value) → Prop := Paired fun p q => p.1 = q.1 ∧ H q.2.1 = some (.tup (p.1.map kV)) ∧ RelV p.2 q.2.2
theorem KT.val {H : Hp} {kvs : List (List Key × V)} {xs : List (List Key × Addr × Value)} (r : KT H kvs xs) (k : List Key) : RelO (valV kvs k) ((atKey xs k).map (·.2)) := by
 induction r with
 | nil => exact True.intro
 | @cons p q ps qs h t ih =>
  obtain ⟨h1, _, h2⟩ := h
  by_cases e : p.1 = k
  ·have e' : q.1 = k := h1.symm.trans e
   have b : atKey (q :: qs) k = some q.2 := by simp [atKey, List.find?_cons, e']
   rw [valV_pos e, b]; exact h2
  ·have e' : ¬ q.1 = k := fun z => e (h1.trans z)
   have b : atKey (q :: qs) k = atKey qs k := by simp [atKey, List.find?_cons, e']
   rw [valV_neg e, b]; exact ih
theorem KT.repl {H : Hp} {kvs : List (List Key × V)} {xs : List (List Key × Addr × Value)} (r : KT H kvs xs) (k : List Key) {y : V} {u : Value} (ry : RelV y u) :
  KT H (kvs.map fun kv => if kv.1 = k then (kv.1, y) else kv) (xs.map (putAt k u)) := by
 induction r with
 | nil => exact .nil
 | @cons p q ps qs h t ih =>
  rw [List.map_cons, List.map_cons]
  refine .cons ?_ ih
  obtain ⟨h1, h2, h3⟩ := h
  unfold putAt
  by_cases e : p.1 = k
  ·rw [if_pos e, if_pos (h1.symm.trans e)]; exact ⟨h1, h2, ry⟩
  ·rw [if_neg e, if_neg (fun z => e (h1.trans z))]; exact ⟨h1, h2, h3⟩
theorem KT.put {H : Hp} {kvs : List (List Key × V)} {xs : List (List Key × Addr × Value)} (r : KT H kvs xs) (k : List Key) {b : Addr} {y : V} {u : Value} (hb : H b = some (.tup (k.map kV))) (ry : RelV y u) :
  KT H (putK kvs k y) (storedH xs k b u) := by
 have e : (kvs.any fun kv => decide (kv.1 = k)) = (atKey xs k).isSome := by
  rw [valV_any, (r.val k).isSome_eq, Option.isSome_map]
 unfold putK storedH
 rw [e]
 by_cases q : (atKey xs k).isSome = true
 ·rw [if_pos q, if_pos q]; exact r.repl k ry
 ·rw [if_neg q, if_neg q]; exact Paired.snoc r ⟨rfl, hb, ry⟩
theorem KT.keeps {H H' : Hp} {kvs : List (List Key × V)} {xs : List (List Key × Addr × Value)} (r : KT H kvs xs) (ht : ∀ b ys, H b = some (.tup ys) → H' b = some (.tup ys)) : KT H' kvs xs :=
 Paired.mapP r fun _ _ z => ⟨z.1, ht _ _ z.2.1, z.2.2⟩

section
variable {P : Program} {w : World} {H : Hp} {h : Heap} {a : Addr}
theorem rd_of {u : HO} (ok : HOk P w H h) (e : Rd H a u) : ObjOk P w H h a u := e.ok ok
theorem dk_rd {kvs : List (Key × V)} (ok : HOk P w H h) (e : Rd H a (.dK kvs)) : kvs.length ≤ sizeLine ∧ (a == sysModules) = false ∧ ∃ vs, KV kvs vs ∧ h.DictOf (mixKind P w) a vs :=
 show ObjOk P w H h a (.dK kvs) from rd_of ok e
theorem dk_of {kvs : List (Key × V)} (ok : HOk P w H h) (e : H a = some (.dK kvs)) : kvs.length ≤ sizeLine ∧ (a == sysModules) = false ∧ ∃ vs, KV kvs vs ∧ h.DictOf (mixKind P w) a vs := dk_rd ok (.inl e)
theorem key_of {ks : List Key} (ok : HOk P w H h) (e : H a = some (.tup (ks.map kV))) : (tupleKind (mixKind P w)).is h ks a := by
 obtain ⟨_, its, r, o, h1, h2, n, h3⟩ := (show ObjOk P w H h a (.tup (ks.map kV)) from ok a _ e)
 exact ⟨o, its.toArray, n, h1, h2, h3, by simpa using items_are r⟩
theorem dt_rd {kvs : List (List Key × V)} (ok : HOk P w H h) (e : Rd H a (.dT kvs)) : kvs.length ≤ sizeLine ∧ (a == sysModules) = false ∧
  ∃ xs, KT H kvs xs ∧ h.DictOfH (tupleKind (mixKind P w)) a xs := by
 obtain ⟨z, y, xs, r, o, es, ep, h1, h2, h3, h4, h5⟩ := (show ObjOk P w H h a (.dT kvs) from rd_of ok e)
 refine ⟨z, y, xs, r, o, es, ep, h1, h2, h3, h4, fun x hx => ?_, h5⟩
 have all : ∀ {l : List (List Key × V)} {m : List (List Key × Addr × Value)}, KT H l m → ∀ x ∈ m, (tupleKind (mixKind P w)).is h x.1 x.2.1 := by
  intro l m q
  induction q with
  | nil => intro x hx; exact nomatch hx
  | @cons p q ps qs hq t ih =>
   intro x hx
   rcases List.mem_cons.mp hx with e | hx
   ·subst e
    exact key_of ok (by rw [← hq.1]; exact hq.2.1)
   ·exact ih x hx
 exact all r x hx
theorem dt_of {kvs : List (List Key × V)} (ok : HOk P w H h) (e : H a = some (.dT kvs)) : kvs.length ≤ sizeLine ∧ (a == sysModules) = false ∧
  ∃ xs, KT H kvs xs ∧ h.DictOfH (tupleKind (mixKind P w)) a xs := dt_rd ok (.inl e)
end

noncomputable def DGet (H : Hp) (a : Addr) (y : V) (r : Option V) : Prop :=
 (∃ kvs k, Rd H a (.dK kvs) ∧ y = kV k ∧ r = valV kvs k) ∨ ∃ kvs k b, Rd H a (.dT kvs) ∧ y = .ref b ∧ H b = some (.tup (k.map kV)) ∧ r = valV kvs k
noncomputable def DPut (H : Hp) (a : Addr) (y v : V) (H' : Hp) : Prop :=
 (∃ kvs k, H a = some (.dK kvs) ∧ y = kV k ∧ kvs.length < sizeLine ∧ H' = upd H a (.dK (putK kvs k v))) ∨
 ∃ kvs k b, H a = some (.dT kvs) ∧ y = .ref b ∧ H b = some (.tup (k.map kV)) ∧ kvs.length < sizeLine ∧ H' = upd H a (.dT (putK kvs k v))
theorem DGet.k {H : Hp} {a : Addr} {kvs : List (Key × V)} {k : Key} (e : H a = some (.dK kvs)) : DGet H a (kV k) (valV kvs k) := .inl ⟨kvs, k, .inl e, rfl, rfl⟩
theorem DPut.k {H : Hp} {a : Addr} {kvs : List (Key × V)} {k : Key} {v : V} (e : H a = some (.dK kvs)) (hl : kvs.length < sizeLine) : DPut H a (kV k) v (upd H a (.dK (putK kvs k v))) := .inl ⟨kvs, k, e, rfl, hl, rfl⟩
section
variable {X : Cx} {pins : List (Addr × Obj)} {σ : St} {H : Hp} {s : Shared} {a : Addr} {y v : V} {u r : Value} {o : Option V} {A : Around} {E : Value → Shared → Prop}

theorem Inv.big (I : Inv X pins σ H s) : sysModules < s.heap.objs.size := by
 have h : mainGlobals < s.heap.objs.size := (I.mod.glob.keeps I.bk).lt
 exact Nat.lt_trans (by decide) h

theorem d_getItem {Q : Value → Shared → Prop} (hu : A.units + 1 < cLine) (I : Inv X pins σ H s) (g : DGet H a y (some v)) (ry : RelV y u) (h : ∀ w' s', Inv X pins σ H s' → RelV v w' → Q w' s') :
  wpAny (model X.prog X.w) A (getItem (.ref a) u) Q E s := by
 rcases g with ⟨kvs, k, e, ey, l⟩ | ⟨kvs, k, b, e, ey, eb, l⟩
 ·subst ey
  obtain ⟨z, hd, vs, rel, dd⟩ := dk_rd I.hok e
  obtain ⟨w', hw, rw'⟩ := RelO.some_of (v := v) (o := valueAt vs k) (by rw [l]; exact rel.val k)
  exact wpAny_getItem_of (kV_is ry) dd.mapOf hw (h w' _ (I.tok _) rw')
 ·subst ey
  cases (show u = Value.ref b from ry)
  obtain ⟨z, hd, xs, rel, dd⟩ := dt_rd I.hok e
  obtain ⟨w', hw, rw'⟩ := RelO.some_of (v := v) (o := (atKey xs k).map (·.2)) (by rw [l]; exact rel.val k)
  obtain ⟨p, hp, hp2⟩ := Option.map_eq_some_iff.mp hw
  refine wpAny_getItem_heap (tupleKind_room_in1 hu) (key_of I.hok eb) dd hp ?_
  rw [hp2]
  exact h w' _ (I.tok _) rw'
theorem d_write {h' : Heap} {t' : Nat} {ob : HO} (I : Inv X pins σ H s) (mu : Mut (H a)) (hs : Heap.SameBut a s.heap h') (he : ∃ q, h'.get? a = some q) (new : ObjOk X.prog X.w (upd H a ob) h' a ob) :
  Inv X pins σ (upd H a ob) { s with heap := h', toks := t' } :=
 I.write (x := a) (e := a) mu (.inl rfl) (fun b q hb z => (hs.2 b hb).trans z) he new
theorem dk_new {P : Program} {w : World} {H' : Hp} {h' : Heap} {kvs : List (Key × V)} {vs : List (Key × Value)} (z : kvs.length ≤ sizeLine) (hd : (a == sysModules) = false) (rel : KV kvs vs) (dd : h'.DictOf (mixKind P w) a vs) :
  ObjOk P w H' h' a (.dK kvs) := ⟨z, hd, vs, rel, dd⟩
theorem d_setItem {H' : Hp} {Q : Unit → Shared → Prop} (hu : A.units + 1 < cLine) (I : Inv X pins σ H s) (g : DPut H a y v H') (ry : RelV y u) (rv : RelV v r) (h : ∀ s', Inv X pins σ H' s' → Q () s') :
  wpAny (model X.prog X.w) A (setItem (.ref a) u r) Q E s := by
 rcases g with ⟨kvs, k, e, ey, l, eH⟩ | ⟨kvs, k, b, e, ey, eb, l, eH⟩
 ·subst ey eH
  obtain ⟨z, hd, vs, rel, dd⟩ := dk_of I.hok e
  have hz : vs.length ≤ sizeLine := by rw [← rel.length]; exact z
  have hl : (putK kvs k v).length ≤ sizeLine := by have := length_putK kvs k v; omega
  refine wpAny_setItem_pairs (hsz := hz) (kV_is ry) dd fun h' dd' hs => h _ ?_
  have he : ∃ q, h'.get? a = some q := let ⟨q, _, _, hq, _⟩ := dd'; ⟨q, hq⟩
  exact d_write I (by rw [e]; exact True.intro) hs he (dk_new hl hd (rel.put k rv) dd')
 ·subst ey eH
  cases (show u = Value.ref b from ry)
  obtain ⟨z, hd, xs, rel, dd⟩ := dt_of I.hok e
  have hz : xs.length ≤ sizeLine := by rw [← Paired.length rel]; exact z
  have hl : (putK kvs k v).length ≤ sizeLine := by have := length_putK kvs k v; omega
  refine wpAny_setItem_heap (hsz := hz) (tupleKind_room_in1 hu) (key_of I.hok eb) dd fun h' dd' hs => h _ ?_
  obtain ⟨q, es, ep, hq, h2, h3, h4, _, h5⟩ := dd'
  refine d_write I (by rw [e]; exact True.intro) hs ⟨q, hq⟩ ⟨hl, hd, _, (rel.put k eb rv).keeps fun c ys ec => ?_, q, es, ep, hq, h2, h3, h4, h5⟩
  rw [upd_ne (ne_of ec e (fun z => nomatch z))]
  exact ec
end

section
variable {X : Cx} {pins : List (Addr × Obj)} {σ : St} {H : Hp} {s : Shared} {a : Addr} {kvs : List (Key × V)} {k : Key} {u : Value} {A : Around} {E : Value → Shared → Prop}
end


/-! ### readings and rules -/
noncomputable def NoSl (i : Expr) : Prop := ∀ ov iv, subscripted i false ov iv = operate [ov, iv] (getItem ov iv)
theorem subD_of {prog : Program} {w : World} {A : Around} {E : Value → Shared → Prop} {s : Shared} {env : Env} {value slice : Expr} {pos : Pos} {T id : String} {Q : Value → Shared → Prop}
  (hl : typeLookup (.type T) "__getitem__" = pure (some (.builtin id))) (hs : NoSl slice)
  (h : wpAny (model prog w) A (eval value env) (fun o s₁ => wpAny (model prog w) A (eval slice env) (fun i s₂ => s₂.TypeIs o T ∧ wpAny (model prog w) A (getItem o i) Q E s₂) E s₁) E s) :
  wpAny (model prog w) A (eval (.Subscript value slice pos) env) Q E s := by
 refine Subscript_ (wpAny_mono h (fun o s₁ h₁ => wpAny_mono h₁ (fun i s₂ h₂ => ?_) fun _ _ x => x) fun _ _ x => x)
 obtain ⟨hT, h₂⟩ := h₂
 unfold subscriptTail
 refine wpAny_bind ?_
 rw [getitemInPython_of_ne hT.not_modules]
 refine wpAny_bind (wpAny_specialOf hT hl ?_)
 have fin : wpAny (model prog w) A (subscripted slice false o i) (fun r s₃ => wpAny (model prog w) A (letTemporaryGo value o r >>= fun _ => pure r) Q E s₃) E s₂ := by
  rw [hs o i]
  exact wpAny_operating (wpAny_mono h₂ (fun r s₃ h₃ => wpAny_bind (wpAny_letTemporaryGo (wpAny_pure h₃))) fun _ _ x => x)
 first
  | exact wpAny_pure (wpAny_bind fin)
  | exact wpAny_bind (wpAny_pure (wpAny_bind fin))
  | exact wpAny_bind fin

theorem dict_typeIs {X : Cx} {pins : List (Addr × Obj)} {σ : St} {H : Hp} {s : Shared} {a : Addr} {y : V} {o : Option V} (I : Inv X pins σ H s) (g : DGet H a y o) : s.TypeIs (.ref a) "dict" := by
 rcases g with ⟨kvs, k, e, _, _⟩ | ⟨kvs, k, b, e, _, _, _⟩
 ·obtain ⟨_, _, vs, _, dd⟩ := dk_rd I.hok e
  exact dd.typeIs
 ·obtain ⟨_, _, xs, _, dd⟩ := dt_rd I.hok e
  exact dd.typeIs
noncomputable def tDGet (td ty : TE) : TE := fun σ H Q => td σ H fun x H1 => ty σ H1 fun y H2 => ∃ a v, x = .ref a ∧ DGet H2 a y (some v) ∧ Q v H2
noncomputable def sDPut (td ty tv : TE) : TS := fun D σ H => tv σ H fun v H1 => td σ H1 fun x H2 => ty σ H2 fun y H3 => ∃ a H4, x = .ref a ∧ DPut H3 a y v H4 ∧ D.nx σ H4
section
variable {X : Cx} {o i e value : Expr} {pos pos' tpos : Pos} {td ty tv : TE}
theorem pe_dget (hu : X.A.units + 1 < cLine) (ho : PE X o td) (hi : PE X i ty) (hs : NoSl i) : PE X (.Subscript o i pos) (tDGet td ty) := by
 intro pins s σ H Q I h
 refine subD_of PySem.F.slot_dict_getitem.lookup hs (thn (ho pins s σ H _ I h) fun u s1 ⟨x, H1, I1, rx, q1⟩ => thn (hi pins s1 σ H1 _ I1 q1) fun iv s2 ⟨y, H2, I2, ry, a, v, ex, g, q2⟩ => ?_)
 subst ex
 obtain rfl : u = Value.ref a := rx
 exact ⟨dict_typeIs I2 g, d_getItem hu I2 g ry fun w' s3 I3 rw' => ⟨v, H2, I3, rw', q2⟩⟩
theorem ps_dput (hu : X.A.units + 1 < cLine) (ho : PE X o td) (hi : PE X i ty) (hv : PE X value tv) (hs : swapsWith value (some (.Subscript o i pos')) pos.line X.env = pure false) :
  PS X (.Assign [.Subscript o i pos'] value pos) (sDPut td ty tv) := by
 intro pins s σ H D I h
 refine wpAny_Assign_Subscript (thn (hv pins s σ H _ I h) fun r s1 ⟨v, H1, I1, rv, q1⟩ => thn (ho pins s1 σ H1 _ I1 q1) fun u s2 ⟨x, H2, I2, rx, q2⟩ => thn (hi pins s2 σ H2 _ I2 q2) fun iv s3 ⟨y, H3, I3, ry, a, H4, ex, g, q3⟩ => ?_) hs
 subst ex
 obtain rfl : u = Value.ref a := rx
 exact d_setItem hu I3 g ry rv fun s4 I4 => ⟨σ, H4, I4, q3⟩
end


/-! ### displays -/
theorem dk_empty {P : Program} {w : World} {H : Hp} (h : Heap) (hb : sysModules < h.objs.size) : ObjOk P w H (h.push { cls := .type "dict", data := .dict #[] }) h.objs.size (.dK []) :=
 ⟨Nat.zero_le _, beq_eq_false_iff_ne.mpr (Ne.symm (Nat.ne_of_lt hb)), [], .nil, Heap.DictOf.new h⟩
noncomputable def tDNewK : TE := fun _ H Q => ∀ p, H p = none → Q (.ref p) (upd H p (.dK []))
section
variable {X : Cx} {pos : Pos}
theorem pe_dnewK : PE X (.Dict [] [] pos) tDNewK := fun pins s σ H Q I h =>
 wpAny_Dict_empty ⟨.ref s.heap.objs.size, _, I.laid (a := s.heap.objs.size) (o := .dK []) (t' := s.toks) (fun _ _ q => Heap.get?_push_of_some _ q) (Nat.le_refl _) (dk_empty s.heap I.big), rfl, h _ (I.hok.fresh (Nat.le_refl _))⟩
end

/-! ### methods -/
structure M1 (X : Cx) (o : Expr) (m : Str) (apos : Pos) (e : Expr) (cpos : Pos) : Prop where
 base : attributeBase o m X.env (eval o X.env) = eval o X.env
 few : ((backTo cpos (starEach [e] X.env)).all (fun x => !x.1) && (backToKw cpos (keywordEach [] X.env)).all (fun x => x.1.isSome)
  && decide (([e] : List Expr).length + ([] : List Keyword).length + (if ([] : List Keyword).isEmpty then 0 else 1) < 30)) = true
 line : (apos.endLine == cpos.line) = true
 trees : backTo cpos (starEach [e] X.env) = [(false, eval e X.env)]
structure M2 (X : Cx) (o : Expr) (m : Str) (apos : Pos) (e f : Expr) (cpos : Pos) : Prop where
 base : attributeBase o m X.env (eval o X.env) = eval o X.env
 few : ((backTo cpos (starEach [e, f] X.env)).all (fun x => !x.1) && (backToKw cpos (keywordEach [] X.env)).all (fun x => x.1.isSome)
  && decide (([e, f] : List Expr).length + ([] : List Keyword).length + (if ([] : List Keyword).isEmpty then 0 else 1) < 30)) = true
 line : (apos.endLine == cpos.line) = true
 trees : backTo cpos (starEach [e, f] X.env) = [(false, eval e X.env), (false, eval f X.env)]

noncomputable def IsD (H : Hp) (a : Addr) : Prop := (∃ kvs, Rd H a (.dK kvs)) ∨ ∃ kvs, Rd H a (.dT kvs)
theorem isD_at {X : Cx} {pins : List (Addr × Obj)} {σ : St} {H : Hp} {s : Shared} {a : Addr} (I : Inv X pins σ H s) (d : IsD H a) :
  s.TypeIs (.ref a) "dict" ∧ (∀ b, Value.ref a = .ref b → ∃ ob, s.heap.get? b = some ob ∧ ob.dict = none) ∧ (a == sysModules) = false := by
 rcases d with ⟨kvs, e⟩ | ⟨kvs, e⟩
 ·obtain ⟨_, hd, vs, _, dd⟩ := dk_rd I.hok e
  refine ⟨dd.typeIs, fun b q => ?_, hd⟩
  cases q
  obtain ⟨ob, _, _, h1, h2, _⟩ := dd
  exact ⟨ob, h1, h2.2.1⟩
 ·obtain ⟨_, hd, xs, _, dd⟩ := dt_rd I.hok e
  refine ⟨dd.typeIs, fun b q => ?_, hd⟩
  cases q
  obtain ⟨ob, _, _, h1, h2, _⟩ := dd
  exact ⟨ob, h1, h2.2.1⟩

section
variable {X : Cx} {pins : List (Addr × Obj)} {σ : St} {H : Hp} {s : Shared} {a : Addr} {y d : V} {u r : Value} {o : Option V} {A : Around} {E : Value → Shared → Prop}
theorem d_get1 {Q : Value → Shared → Prop} (hu : A.units + 1 < cLine) (I : Inv X pins σ H s) (g : DGet H a y o) (ry : RelV y u) (h : ∀ w' s', Inv X pins σ H s' → RelV (o.getD .non) w' → Q w' s') :
  wpAny (model X.prog X.w) A (call (.builtin "dict.get") [.ref a, u]) Q E s := by
 rcases g with ⟨kvs, k, e, ey, l⟩ | ⟨kvs, k, b, e, ey, eb, l⟩
 ·subst ey
  obtain ⟨z, hd, vs, rel, dd⟩ := dk_rd I.hok e
  refine call_meetsIn PySem.F.slot_dict_get dd.typeIs PySem.F.entry_dict_get (PySem.F.args_dict_get_2 _ _) (meets_dict_get (mixKind X.prog X.w) a (kV_is ry) hd) ⟨_, dd.mapOf, h _ _ (I.tok _) ?_⟩
  rw [l]
  exact (rel.val k).getD rfl
 ·subst ey
  cases (show u = Value.ref b from ry)
  obtain ⟨z, hd, xs, rel, dd⟩ := dt_rd I.hok e
  refine call_meetsIn PySem.F.slot_dict_get dd.typeIs PySem.F.entry_dict_get (PySem.F.args_dict_get_2 _ _) (meetsH_dict_get (tupleKind (mixKind X.prog X.w)) a b hd) ⟨tupleKind_room_in1 hu, k, xs, key_of I.hok eb, dd, h _ _ (I.tok _) ?_⟩
  rw [l]
  exact (rel.val k).getD rfl
theorem d_get2 {Q : Value → Shared → Prop} (hu : A.units + 1 < cLine) (I : Inv X pins σ H s) (g : DGet H a y o) (ry : RelV y u) (rd : RelV d r) (h : ∀ w' s', Inv X pins σ H s' → RelV (o.getD d) w' → Q w' s') :
  wpAny (model X.prog X.w) A (call (.builtin "dict.get") [.ref a, u, r]) Q E s := by
 rcases g with ⟨kvs, k, e, ey, l⟩ | ⟨kvs, k, b, e, ey, eb, l⟩
 ·subst ey
  obtain ⟨z, hd, vs, rel, dd⟩ := dk_rd I.hok e
  refine call_meetsIn PySem.F.slot_dict_get dd.typeIs PySem.F.entry_dict_get (PySem.F.args_dict_get_3 _ _ _) (meets_dict_get_default (mixKind X.prog X.w) a (kV_is ry) hd r) ⟨_, dd.mapOf, h _ _ (I.tok _) ?_⟩
  rw [l]
  exact (rel.val k).getD rd
 ·subst ey
  cases (show u = Value.ref b from ry)
  obtain ⟨z, hd, xs, rel, dd⟩ := dt_rd I.hok e
  refine call_meetsIn PySem.F.slot_dict_get dd.typeIs PySem.F.entry_dict_get (PySem.F.args_dict_get_3 _ _ _) (meetsH_dict_get_default (tupleKind (mixKind X.prog X.w)) a b hd r) ⟨tupleKind_room_in1 hu, k, xs, key_of I.hok eb, dd, h _ _ (I.tok _) ?_⟩
  rw [l]
  exact (rel.val k).getD rd
end

noncomputable def tDGet1 (td ty : TE) : TE := fun σ H Q => td σ H fun x H1 => ∃ a, x = .ref a ∧ IsD H1 a ∧ ty σ H1 fun y H2 => ∃ o, DGet H2 a y o ∧ Q (o.getD .non) H2
noncomputable def tDGet2 (td ty tx : TE) : TE := fun σ H Q => td σ H fun x H1 => ∃ a, x = .ref a ∧ IsD H1 a ∧ ty σ H1 fun y H2 => tx σ H2 fun z H3 => ∃ o, DGet H3 a y o ∧ Q (o.getD z) H3
section
variable {X : Cx} {o e f : Expr} {apos cpos : Pos} {td ty tx : TE}
theorem pe_dget1 (hu : X.A.units + 1 < cLine) (ho : PE X o td) (he : PE X e ty) (m : M1 X o "get" apos e cpos) : PE X (.Call (.Attribute o "get" apos) [e] [] cpos) (tDGet1 td ty) := by
 intro pins s σ H Q I h
 refine wpAny_Call_method m.base m.few m.line PySem.F.plainAttrs_dict PySem.F.slot_dict_get PySem.F.type_dict_get (thn (ho pins s σ H _ I h) fun u s1 ⟨x, H1, I1, rx, a, ex, d, q1⟩ => ?_)
 subst ex
 obtain rfl : u = Value.ref a := rx
 obtain ⟨t1, t2, _⟩ := isD_at I1 d
 refine ⟨t1, t2, ?_⟩
 rw [m.trees]
 refine Calls.callWith_builtin rfl (Calls.evalArgs_plain (Calls.spliced_cons (thn (he pins s1 σ H1 _ I1 q1) fun iv s2 ⟨y, H2, I2, ry, ov, g, q2⟩ => Calls.spliced_nil ?_)))
 exact d_get1 hu I2 g ry fun w' s3 I3 rw' => ⟨_, H2, I3, rw', q2⟩
theorem pe_dget2 (hu : X.A.units + 1 < cLine) (ho : PE X o td) (he : PE X e ty) (hf : PE X f tx) (m : M2 X o "get" apos e f cpos) : PE X (.Call (.Attribute o "get" apos) [e, f] [] cpos) (tDGet2 td ty tx) := by
 intro pins s σ H Q I h
 refine wpAny_Call_method m.base m.few m.line PySem.F.plainAttrs_dict PySem.F.slot_dict_get PySem.F.type_dict_get (thn (ho pins s σ H _ I h) fun u s1 ⟨x, H1, I1, rx, a, ex, d, q1⟩ => ?_)
 subst ex
 obtain rfl : u = Value.ref a := rx
 obtain ⟨t1, t2, _⟩ := isD_at I1 d
 refine ⟨t1, t2, ?_⟩
 rw [m.trees]
 refine Calls.callWith_builtin rfl (Calls.evalArgs_plain (Calls.spliced_cons (thn (he pins s1 σ H1 _ I1 q1) fun iv s2 ⟨y, H2, I2, ry, q2⟩ =>
  Calls.spliced_cons (thn (hf pins s2 σ H2 _ I2 q2) fun fv s3 ⟨z, H3, I3, rz, ov, g, q3⟩ => Calls.spliced_nil ?_))))
 exact d_get2 hu I3 g ry rz fun w' s4 I4 rw' => ⟨_, H3, I4, rw', q3⟩
end

/-! ### dict(d): a copy -/
section
variable {X : Cx} {pins : List (Addr × Obj)} {σ : St} {H : Hp} {s : Shared} {a : Addr} {kvs : List (Key × V)} {A : Around} {E : Value → Shared → Prop}
end


section
variable {X : Cx} {pins : List (Addr × Obj)} {σ : St} {H : Hp} {s : Shared} {a : Addr} {y : V} {u : Value} {A : Around} {E : Value → Shared → Prop}
end
end L2

namespace HT
open PySem PyProof.Rows

section
open PySem.SeqAt
open PySem.AutoSeq1 (wpAny_loadPart')
open PySem.MeetsSeq PySem.MeetsSeq2 PySem.MeetsSeq3

end

section
variable {prog : Program} {w : World} {A : Around} {E : Value → Shared → Prop} {s : Shared}

theorem cat_tup {t b : Addr} {vs ws : List Value} {Q : Value → Shared → Prop} (ht : IsTup s.heap t vs.toArray) (hb : IsTup s.heap b ws.toArray) (hv : vs ≠ [])
  (h1 : ws = [] → Q (.ref t) s) (h2 : ws ≠ [] → Q (.ref s.heap.objs.size) { s with heap := s.heap.push { cls := .type "tuple", data := .seq (vs ++ ws).toArray } })
  (hsz : vs.length + ws.length ≤ sizeLine) : wpAny (model prog w) A (binaryOp .Add (.ref t) (.ref b)) Q E s := by
 obtain ⟨⟨cls, dd, data, sl⟩, ho, hc, n, hd⟩ := id ht
 obtain ⟨⟨cls2, dd2, data2, sl2⟩, ho2, hc2, n2, hd2⟩ := id hb
 simp only at hc hd hc2 hd2
 subst hc hd hc2 hd2
 have e : vs.toArray ++ ws.toArray = (vs ++ ws).toArray := by simp
 by_cases hw : ws = []
 ·exact concat_meets ⟨_, ho, rfl⟩ ⟨_, ho2, rfl⟩ noFill_tuple_add seq_tuple_add PySem.F.slot_tuple_add PySem.F.entry_tuple_add (PySem.F.args_tuple_add_2 _ _)
   (tuple_addW1 t b vs.toArray ws.toArray n n2 dd dd2 sl sl2 (by simpa using hv) (by simp [hw])) ⟨ho, ho2, h1 hw⟩
 ·refine concat_meets ⟨_, ho, rfl⟩ ⟨_, ho2, rfl⟩ noFill_tuple_add seq_tuple_add PySem.F.slot_tuple_add PySem.F.entry_tuple_add (PySem.F.args_tuple_add_2 _ _)
   (tuple_addW2 t b vs.toArray ws.toArray n n2 dd dd2 sl sl2 (by simpa using hv) (by simpa using hw) (by rw [List.size_toArray, List.size_toArray]; exact hsz)) ⟨ho, ho2, ?_⟩
  rw [e]
  exact h2 hw

/-! ### t[a:b], not the whole -/
noncomputable def sIx (n d : Nat) : Option Int → Nat
 | none => d
 | some v => if v < 0 then (v + (n : Int)).toNat else min v.toNat n
theorem sIx_none (n d : Nat) : sIx n d none = d := rfl
theorem sIx_nat (n d k : Nat) : sIx n d (some (k : Int)) = min k n := by
 show (if (k : Int) < 0 then ((k : Int) + (n : Int)).toNat else min (k : Int).toNat n) = min k n
 rw [if_neg (by omega), Int.toNat_natCast]
theorem sIx_le (n d : Nat) (hd : d ≤ n) (o : Option Int) : sIx n d o ≤ n := by
 cases o with
 | none => exact hd
 | some v =>
  show (if v < 0 then (v + (n : Int)).toNat else min v.toNat n) ≤ n
  by_cases hv : v < 0
  ·rw [if_pos hv]; omega
  ·rw [if_neg hv]; exact Nat.min_le_right _ _
theorem clip_eq (v : Int) (n d : Nat) : (if v < 0 then max (v + (n : Int)) 0 else min v (n : Int)) = ((sIx n d (some v) : Nat) : Int) := by
 show (if v < 0 then max (v + (n : Int)) 0 else min v (n : Int)) = (((if v < 0 then (v + (n : Int)).toNat else min v.toNat n) : Nat) : Int)
 by_cases hv : v < 0
 ·simp only [if_pos hv]; omega
 ·simp only [if_neg hv]; omega
theorem adjust_gen (lo hi : Option Int) (n : Nat) : Builtin.Slice.sliceAdjust lo hi 1 (n : Int) = (((sIx n 0 lo : Nat) : Int), ((sIx n n hi : Nat) : Int)) := by
 have h1 : ¬ ((1 : Int) < 0) := by omega
 unfold Builtin.Slice.sliceAdjust
 simp only [h1, if_false]
 refine Prod.ext ?_ ?_
 ·cases lo with
  | none => rfl
  | some v => exact clip_eq v n 0
 ·cases hi with
  | none => rfl
  | some v => exact clip_eq v n n
theorem places_gen (i j : Nat) : Builtin.Slice.slicePlaces (i : Int) (j : Int) 1 = j - i := by
 unfold Builtin.Slice.slicePlaces
 have h1 : (1 : Int) > 0 := by omega
 simp only [h1, if_true, Int.ediv_one]
 split <;> omega
theorem slicePart_ {v : Value} {o : Option Int} {Q : Option Int → Shared → Prop} (p : IsPart v o) (h : Q o s) : wpAny (model prog w) A (Builtin.Slice.slicePartIndex v) Q E s := by
 cases p with
 | none => exact slicePart_none h
 | int i t => exact slicePart_int h
theorem sliceApplied_gen {sl : Addr} {vl vu : Value} {lo hi : Option Int} {n : Nat} {Q : Int × Int × Nat → Shared → Prop} (hs : s.heap.IsSliceOf sl vl vu .none) (pl : IsPart vl lo) (pu : IsPart vu hi)
  (h : Q (((sIx n 0 lo : Nat) : Int), 1, sIx n n hi - sIx n 0 lo) s) : wpAny (model prog w) A (Builtin.Slice.sliceApplied (.ref sl) (pure (n : Int))) Q E s := by
 obtain ⟨os, hos, hcs, hds⟩ := id hs
 unfold Builtin.Slice.sliceApplied Builtin.Slice.sliceFields
 refine wpAny_bind (wpAny_bind (wpAny_field hos hds (x := vl) rfl (wpAny_bind (wpAny_field hos hds (x := vu) rfl (wpAny_bind (wpAny_field hos hds (x := .none) rfl (wpAny_pure ?_)))))))
 refine wpAny_bind (slicePart_none ?_)
 show wpAny _ _ (if ((1 : Int) == 0) = true then _ else _) _ _ s
 rw [if_neg (by decide)]
 refine wpAny_bind (slicePart_ pl (wpAny_bind (slicePart_ pu (wpAny_bind (wpAny_pure ?_)))))
 show wpAny _ _ (match Builtin.Slice.sliceAdjust lo hi 1 (n : Int) with | (lo, hi) => pure (lo, (1 : Int), Builtin.Slice.slicePlaces lo hi 1)) _ _ s
 rw [adjust_gen lo hi n]
 show wpAny _ _ (pure (((sIx n 0 lo : Nat) : Int), (1 : Int), Builtin.Slice.slicePlaces ((sIx n 0 lo : Nat) : Int) ((sIx n n hi : Nat) : Int) 1)) _ _ s
 rw [places_gen]
 exact wpAny_pure h
theorem pick_gen (xs : Array Value) (i k : Nat) : ((List.range k).filterMap fun (m : Nat) => xs[((i : Int) + (m : Int) * 1).toNat]?).toArray = ((xs.toList.drop i).take k).toArray := by
 have e : (fun (m : Nat) => xs[((i : Int) + (m : Int) * 1).toNat]?) = fun m => xs[i + m]? := by
  funext m
  have : ((i : Int) + (m : Int) * 1).toNat = i + m := by omega
  rw [this]
 rw [e]
 have := pick_run xs i k
 rw [List.filterMap_map] at this
 have e2 : ((fun x => xs[x]?) ∘ fun x => i + x) = fun m => xs[i + m]? := rfl
 rw [e2] at this
 rw [this]

theorem getItem_tuple_cut {t sl : Addr} {items : Array Value} {vl vu : Value} {lo hi : Option Int} {Q : Value → Shared → Prop} (ht : IsTup s.heap t items) (hs : s.heap.IsSliceOf sl vl vu .none) (pl : IsPart vl lo) (pu : IsPart vu hi)
  (hw : ¬ (sIx items.size 0 lo = 0 ∧ sIx items.size items.size hi = items.size))
  (h : Q (.ref s.heap.objs.size) { s with heap := s.heap.push { cls := .type "tuple", data := .seq ((items.toList.drop (sIx items.size 0 lo)).take (sIx items.size items.size hi - sIx items.size 0 lo)).toArray } })
  (hsz : items.size ≤ sizeLine) : wpAny (model prog w) A (getItem (.ref t) (.ref sl)) Q E s := by
 have htake : sizeOk (.seq ((items.toList.drop (sIx items.size 0 lo)).take (sIx items.size items.size hi - sIx items.size 0 lo)).toArray) := by
  show ((items.toList.drop (sIx items.size 0 lo)).take (sIx items.size items.size hi - sIx items.size 0 lo)).toArray.size ≤ sizeLine
  rw [List.size_toArray, List.length_take, List.length_drop, Array.length_toList]
  omega
 have hj : sIx items.size items.size hi ≤ items.size := sIx_le _ _ (Nat.le_refl _) hi
 obtain ⟨os, hos, hcs, hds⟩ := id hs
 have hTs : s.TypeIs (.ref sl) "slice" := ⟨os, hos, hcs⟩
 unfold getItem
 try with_reducible refine wpAny_holding ?_
 first | refine wpAny_bind (wpAny_pure ?_) | skip
 refine wpAny_bind (wpAny_sequenceKey ht.typeIs (by decide) ?_)
 refine wpAny_bind (wpAny_callSpecial?_slot (name := Str.ofString "__getitem__") ht.typeIs PyProof.Rows.slot_tuple_getitem
  (wpAny_call_entry PyProof.Rows.slot_tuple_getitem ht.typeIs entry_tuple_getitem ?_ (args_tuple_getitem _ _)))
 show wpAny _ _ (Builtin.Tuple.tupleItemsOf (.ref t) >>= _) _ _ s
 refine wpAny_bind (tupleItemsOf_ ht ?_)
 refine wpAny_bind (wpAny_typeOf hTs ?_)
 rw [if_pos (by decide)]
 refine wpAny_bind (sliceApplied_gen hs pl pu ?_)
 have hno : ¬ ((((sIx items.size 0 lo : Nat) : Int) == 0 && (1 : Int) == 1 && (sIx items.size items.size hi - sIx items.size 0 lo) == items.size) = true) := by
  intro q
  rw [Bool.and_eq_true, Bool.and_eq_true] at q
  have q1 : ((sIx items.size 0 lo : Nat) : Int) = 0 := eq_of_beq q.1.1
  have q2 : sIx items.size items.size hi - sIx items.size 0 lo = items.size := eq_of_beq q.2
  exact hw ⟨by omega, by omega⟩
 show wpAny _ _ (if (((sIx items.size 0 lo : Nat) : Int) == 0 && (1 : Int) == 1 && (sIx items.size items.size hi - sIx items.size 0 lo) == items.size) = true then _ else _) _ _ s
 rw [if_neg hno, pick_gen]
 first
  | exact wpAny_bind (m := Builtin.Tuple.tupleExact _) (wpAny_newObj_type (wpAny_pure ⟨_, rfl, wpAny_pure h⟩) htake)
  | exact wpAny_bind (m := Builtin.Tuple.tupleExact _) (wpAny_newObj_type (wpAny_bind (wpAny_pure (wpAny_pure ⟨_, rfl, wpAny_pure h⟩))) htake)
  | exact wpAny_bind (wpAny_bind (m := Builtin.Tuple.tupleExact _) (wpAny_newObj_type (wpAny_pure (wpAny_pure ⟨_, rfl, wpAny_pure h⟩)) htake))
  | exact wpAny_bind (wpAny_bind (m := Builtin.Tuple.tupleExact _) (wpAny_newObj_type (wpAny_pure ⟨_, rfl, wpAny_pure h⟩) htake))
end
end HT

namespace L2
open PySem PySem.Spec PyProof.Rows

/-! ### the parts of a slice -/
noncomputable abbrev TO := St → Hp → (Option Int → Hp → Prop) → Prop
noncomputable def PO (X : Cx) (e : Option Expr) (t : TO) : Prop :=
 ∀ (pins : List (Addr × Obj)) (s : Shared) (σ : St) (H : Hp) (Q : Option Int → Hp → Prop), Inv X pins σ H s → t σ H Q →
  wpAny (model X.prog X.w) X.A (evalPart e X.env) (fun u s' => ∃ o H', Inv X pins σ H' s' ∧ IsPart u o ∧ Q o H') X.xe s
noncomputable def tNoPart : TO := fun _ H Q => Q none H
noncomputable def tPart (t : TE) : TO := fun σ H Q => t σ H fun x H1 => ∃ i, x = .int i ∧ Q (some i) H1

section
variable {X : Cx} {e : Expr} {te : TE} {lo hi : Option Expr} {tl th : TO} {pos p2 : Pos}

theorem po_none : PO X none tNoPart := by
 intro pins s σ H Q I h
 rw [evalPart_none]
 exact wpAny_pure ⟨none, H, I, .none, h⟩
theorem po_some (h : PE X e te) : PO X (some e) (tPart te) := by
 intro pins s σ H Q I hw
 rw [evalPart_some]
 refine thn (h pins s σ H _ I hw) fun u s1 ⟨x, H1, I1, r1, q1⟩ => ?_
 obtain ⟨i, rfl, q⟩ := q1
 obtain ⟨t, rfl⟩ := r1
 exact ⟨some i, H1, I1, .int i t, q⟩

noncomputable def SlR (X : Cx) (r : V → Option Int → Option Int → Hp → VK → Prop) : Prop :=
 ∀ (pins : List (Addr × Obj)) (s : Shared) (σ : St) (H : Hp) (x : V) (v vl vu : Value) (lo hi : Option Int) (sl : Addr) (Q : VK), Inv X pins σ H s → RelV x v → s.heap.IsSliceOf sl vl vu .none → IsPart vl lo → IsPart vu hi → r x lo hi H Q →
  ∃ T id, typeLookup (.type T) "__getitem__" = pure (some (.builtin id)) ∧ s.TypeIs v T ∧ wpAny (model X.prog X.w) X.A (getItem v (.ref sl)) (EP X pins σ Q) X.xe s
noncomputable def tSl (r : V → Option Int → Option Int → Hp → VK → Prop) (te : TE) (tl th : TO) : TE := fun σ H Q => te σ H fun x H1 => tl σ H1 fun l H2 => th σ H2 fun u H3 => r x l u H3 Q
theorem pe_slice {r : V → Option Int → Option Int → Hp → VK → Prop} (hr : SlR X r) (he : PE X e te) (hl : PO X lo tl) (hu : PO X hi th) : PE X (.Subscript e (.Slice lo hi none p2) pos) (tSl r te tl th) := by
 intro pins s σ H Q I h
 refine Subscript_ (thn (he pins s σ H _ I h) fun v s1 ⟨x, H1, I1, r1, q1⟩ => ?_)
 refine wpAny_Slice (thn (hl pins s1 σ H1 _ I1 q1) fun vl s2 ⟨l, H2, I2, pl, q2⟩ => thn (hu pins s2 σ H2 _ I2 q2) fun vu s3 ⟨u, H3, I3, pu, q3⟩ => ?_)
 rw [evalPart_none]
 refine wpAny_pure ?_
 have I4 : Inv X pins σ H3 { s3 with heap := s3.heap.push { cls := .type "slice", data := .fields #[vl, vu, .none] } } := I3.kept (t' := s3.toks) fun b ob q => Heap.get?_push_of_some _ q
 obtain ⟨T, id, hT, ht, hg⟩ := hr pins { s3 with heap := s3.heap.push { cls := .type "slice", data := .fields #[vl, vu, .none] } } σ H3 x v vl vu l u s3.heap.objs.size Q I4 r1 (Heap.IsSliceOf.new ..) pl pu q3
 show wpAny (model X.prog X.w) X.A (subscriptTail e (.Slice lo hi none p2) v (.ref s3.heap.objs.size)) (EP X pins σ Q) X.xe { s3 with heap := s3.heap.push { cls := .type "slice", data := .fields #[vl, vu, .none] } }
 exact tail_any (ops := [.ref s3.heap.objs.size, v]) ht hT hg (by with_unfolding_all rfl)

noncomputable def cutV (xs : List V) (lo hi : Option Int) : List V := (xs.drop (HT.sIx xs.length 0 lo)).take (HT.sIx xs.length xs.length hi - HT.sIx xs.length 0 lo)
theorem cutV_length (xs : List V) (lo hi : Option Int) : (cutV xs lo hi).length ≤ xs.length := by
 unfold cutV
 rw [List.length_take, List.length_drop]
 omega
noncomputable def rSlT (K : PySem.W.Frag) : V → Option Int → Option Int → Hp → VK → Prop := fun x lo hi H Q => ∃ a xs, x = .ref a ∧ SqT K H a xs ∧
 ¬ (HT.sIx xs.length 0 lo = 0 ∧ HT.sIx xs.length xs.length hi = xs.length) ∧ ∀ p, H p = none → Q (.ref p) (upd H p (.tup (cutV xs lo hi)))
theorem sl_tup : SlR X (rSlT X.K) := by
 intro pins s σ H x v vl vu lo hi sl Q I rx hs pl pu h
 obtain ⟨a, xs, rfl, hx, hw, q⟩ := h
 cases rx
 obtain ⟨its, r, ht, hz⟩ := I.tuple hx
 have hlen : its.toArray.size = xs.length := by rw [List.size_toArray]; exact r.length.symm
 refine ⟨"tuple", _, PyProof.Rows.slot_tuple_getitem.lookup, ht.typeIs, ?_⟩
 refine HT.getItem_tuple_cut ht hs pl pu (by rw [hlen]; exact hw) ?_ (by rw [hlen]; exact hz)
 rw [hlen]
 refine ⟨.ref s.heap.objs.size, _, I.laid (t' := s.toks) (o := .tup (cutV xs lo hi)) (fun b ob q => Heap.get?_push_of_some _ q) (Nat.le_refl _) ?_, rfl, q _ (I.hok.fresh (Nat.le_refl _))⟩
 exact ⟨Nat.le_trans (cutV_length xs lo hi) hz, _, (r.drop (HT.sIx xs.length 0 lo)).take (HT.sIx xs.length xs.length hi - HT.sIx xs.length 0 lo), IsTup.new _ _⟩

/-! ### t < u, t + u -/
noncomputable def rCatT (K : PySem.W.Frag) : R2 := fun x y H Q => ∃ a b xs ys, x = .ref a ∧ y = .ref b ∧ SqT K H a xs ∧ SqT K H b ys ∧ xs ≠ [] ∧ xs.length + ys.length ≤ sizeLine ∧
 (ys = [] → Q (.ref a) H) ∧ (ys ≠ [] → ∀ p, H p = none → Q (.ref p) (upd H p (.tup (xs ++ ys))))
theorem Vals.nil_iff {xs : List V} {us : List Value} (r : Vals xs us) : us = [] ↔ xs = [] := by
 cases r with
 | nil => simp
 | cons _ _ => simp
theorem op_catT : OpR X (binaryOp .Add) (rCatT X.K) := by
 intro pins s σ H x y v u Q I rx ry h
 obtain ⟨a, b, xs, ys, rfl, rfl, ha, hb, hx, hz, q1, q2⟩ := h
 cases rx
 cases ry
 obtain ⟨its, r1, p1, _⟩ := I.tuple ha
 obtain ⟨its2, r2, p2, _⟩ := I.tuple hb
 refine HT.cat_tup p1 p2 (fun z => hx (r1.nil_iff.mp z)) (fun z => ⟨.ref a, H, I, rfl, q1 (r2.nil_iff.mp z)⟩) (fun z => ?_) (by rw [← r1.length, ← r2.length]; exact hz)
 refine ⟨.ref s.heap.objs.size, _, I.laid (t' := s.toks) (o := .tup (xs ++ ys)) (fun b ob q => Heap.get?_push_of_some _ q) (Nat.le_refl _) ?_, rfl, q2 (fun w => z (r2.nil_iff.mpr w)) _ (I.hok.fresh (Nat.le_refl _))⟩
 exact ⟨by rw [List.length_append]; exact hz, _, r1.append r2, IsTup.new _ _⟩
end
end L2

namespace L2
open PySem PySem.Spec PyProof.Rows

/-! ### places -/
noncomputable def ixN (n : Nat) (i : Int) : Option Nat := if 0 ≤ i then (if i < n then some i.toNat else none) else if -(n : Int) ≤ i then some (i + n).toNat else none
noncomputable def atI {α : Type} (xs : List α) (i : Int) : Option α := (ixN xs.length i).bind fun j => xs[j]?
theorem ixN_seq {n : Nat} {i : Int} {j : Nat} (h : ixN n i = some j) : seqIndex? i n = some j ∧ j < n ∧ -(n : Int) ≤ i ∧ i < n := by
 unfold ixN at h
 by_cases h0 : 0 ≤ i
 ·rw [if_pos h0] at h
  by_cases h1 : i < n
  ·rw [if_pos h1] at h
   have e : i.toNat = j := Option.some.inj h
   exact ⟨by rw [seqIndex_of h0 h1, e], by omega, by omega, h1⟩
  ·rw [if_neg h1] at h; cases h
 ·rw [if_neg h0] at h
  by_cases h1 : -(n : Int) ≤ i
  ·rw [if_pos h1] at h
   have e : (i + n).toNat = j := Option.some.inj h
   exact ⟨by rw [seqIndex_neg (by omega) h1, e], by omega, h1, by omega⟩
  ·rw [if_neg h1] at h; cases h
theorem atI_get {α : Type} {xs : List α} {i : Int} {v : α} (h : atI xs i = some v) : ∃ j, seqIndex? i xs.length = some j ∧ xs[j]? = some v ∧ j < xs.length ∧ -(xs.length : Int) ≤ i ∧ i < xs.length := by
 unfold atI at h
 cases e : ixN xs.length i with
 | none => rw [e] at h; cases h
 | some j =>
  rw [e] at h
  obtain ⟨h1, h2, h3, h4⟩ := ixN_seq e
  exact ⟨j, h1, h, h2, h3, h4⟩
theorem atI_nat {α : Type} {xs : List α} {j : Nat} {v : α} (h : xs[j]? = some v) : atI xs (j : Int) = some v := by
 have hj : j < xs.length := (List.getElem?_eq_some_iff.mp h).1
 have e : ixN xs.length (j : Int) = some j := by
  unfold ixN
  rw [if_pos (by omega), if_pos (by omega)]; simp
 unfold atI; rw [e]; exact h
theorem atI_last {α : Type} (xs : List α) (v : α) : atI (xs ++ [v]) (-1) = some v := by
 have hl : (xs ++ [v]).length = xs.length + 1 := by simp
 have e : ixN (xs ++ [v]).length (-1) = some xs.length := by
  unfold ixN
  rw [hl, if_neg (by decide), if_pos (by omega)]
  congr 1
  omega
 unfold atI
 rw [e]
 show (xs ++ [v])[xs.length]? = some v
 simp

/-! ### what may be subscripted -/
noncomputable def PlainIx (b : Expr) : Prop := ∀ o i, subscripted b false o i = operate [o, i] (getItem o i)
noncomputable def IxR (X : Cx) (r : R2) : Prop :=
 ∀ (value slice : Expr) (pins : List (Addr × Obj)) (s : Shared) (σ : St) (H : Hp) (x y : V) (v u : Value) (Q : VK), Inv X pins σ H s → RelV x v → RelV y u → r x y H Q →
  subscripted slice false v u = operate [v, u] (getItem v u) → wpAny (model X.prog X.w) X.A (subscriptTail value slice v u) (EP X pins σ Q) X.xe s
noncomputable def MtR (X : Cx) (id : String) (r : V → List V → Hp → VK → Prop) : Prop :=
 ∀ (pins : List (Addr × Obj)) (s : Shared) (σ : St) (H : Hp) (x : V) (xs : List V) (v : Value) (us : List Value) (Q : VK), Inv X pins σ H s → RelV x v → Vals xs us → r x xs H Q →
  wpAny (model X.prog X.w) X.A (call (.builtin id) (v :: us)) (EP X pins σ Q) X.xe s
section
variable {X : Cx} {a b : Expr} {ta tb : TE} {pos : Pos}
theorem pe_ix {r : R2} (hr : IxR X r) (ha : PE X a ta) (hb : PE X b tb) (hs : PlainIx b) : PE X (.Subscript a b pos) (tOp r ta tb) := by
 intro pins s σ H Q I h
 exact Subscript_ (binT ha hb I h fun v u s2 x y H2 I2 rx ry q => hr a b pins s2 σ H2 x y v u Q I2 rx ry q (hs _ _))

noncomputable def rIxL (K : PySem.W.Frag) : R2 := fun x y H Q => ∃ p xs i v, x = .ref p ∧ y = .int i ∧ SqL K H p xs ∧ atI xs i = some v ∧ Q v H
noncomputable def rIxT (K : PySem.W.Frag) : R2 := fun x y H Q => ∃ p xs i v, x = .ref p ∧ y = .int i ∧ SqT K H p xs ∧ atI xs i = some v ∧ Q v H
noncomputable def rIxS : R2 := fun x y H Q => ∃ z i c, x = .str z ∧ y = .int i ∧ z.length ≤ sizeLine ∧ atI z.cps.toList i = some c ∧ Q (.str ⟨#[c]⟩) H
theorem ix_list : IxR X (rIxL X.K) := by
 intro value slice pins s σ H x y v u Q I rx ry h hs
 obtain ⟨p, xs, i, z, rfl, rfl, hq, he, q⟩ := h
 cases rx
 obtain ⟨t, rfl⟩ := ry
 obtain ⟨its, r, pl, hz⟩ := I.list hq
 obtain ⟨j, h1, h2, h3, h4, h5⟩ := atI_get he
 obtain ⟨w, ew, rw'⟩ := r.get h2
 have hl := r.length
 have hn := line63
 have fin : EP X pins σ Q w s := ⟨z, H, I, rw', q⟩
 by_cases h0 : 0 ≤ i
 ·have hj : i.toNat = j := by
   rw [seqIndex_of h0 h5] at h1
   exact Option.some.inj h1
  exact item_listR pl.isList h0 (by omega) (by rw [hj]; simpa using ew) fin hs
 ·have hj : (i + (its.toArray.size : Int)).toNat = j := by
   rw [seqIndex_neg (by omega) h4] at h1
   rw [List.size_toArray, ← hl]
   exact Option.some.inj h1
  exact subscriptTail_builtinR (x := w) pl.isList.typeIs slot_list_getitem.lookup
   (wpAny_getItem_list_neg (Q := fun r s' => r = w ∧ EP X pins σ Q r s') pl.isList (by omega) (by rw [List.size_toArray] <;> omega) (by omega) (by rw [hj]; simpa using ew) ⟨rfl, fin⟩) hs
theorem ix_tup : IxR X (rIxT X.K) := by
 intro value slice pins s σ H x y v u Q I rx ry h hs
 obtain ⟨p, xs, i, z, rfl, rfl, hq, he, q⟩ := h
 cases rx
 obtain ⟨t, rfl⟩ := ry
 obtain ⟨its, r, pl, hz⟩ := I.tuple hq
 obtain ⟨j, h1, h2, h3, h4, h5⟩ := atI_get he
 obtain ⟨w, ew, rw'⟩ := r.get h2
 have hl := r.length
 have hn := line63
 have fin : EP X pins σ Q w s := ⟨z, H, I, rw', q⟩
 exact subscriptTail_builtinR (x := w) pl.typeIs slot_tuple_getitem.lookup
  (getItem_tuple (j := j) (Q := fun r s' => r = w ∧ EP X pins σ Q r s') pl (by omega) (by omega) (by rw [List.size_toArray, ← hl]; exact h1) (by simpa using ew) ⟨rfl, fin⟩) hs
theorem ix_str : IxR X rIxS := by
 intro value slice pins s σ H x y v u Q I rx ry h hs
 obtain ⟨z, i, c, rfl, rfl, hz, he, q⟩ := h
 obtain ⟨t, rfl⟩ := rx
 obtain ⟨t', rfl⟩ := ry
 obtain ⟨j, h1, h2, h3, h4, h5⟩ := atI_get he
 have hl : z.cps.toList.length = z.length := by simp [Str.length]
 rw [hl] at h1 h4 h5
 have hn := line63
 exact tail_any (typeIs_str s z t) slot_str_getitem.lookup (getItem_str (c := c) (by
  have e1 : decide (i < -(2 ^ 63 : Int)) = false := decide_eq_false (by omega)
  have e2 : decide (i ≥ 2 ^ 63) = false := decide_eq_false (by omega)
  rw [e1, e2, Bool.or_false]) (by rw [h1]; simpa using h2) ⟨.str ⟨#[c]⟩, H, I.tok _, ⟨_, rfl⟩, q⟩) hs
/-! ### xs[i] = v, any sign -/
theorem mapSeq_set (its : List Value) (n j : Nat) (u : Value) : Obj.mapSeq (·.setIfInBounds j u) { cls := .type "list", data := .seq its.toArray n } = { cls := .type "list", data := .seq (its.set j u).toArray n } := by
 simp [Obj.mapSeq]
theorem Inv.lst {pins : List (Addr × Obj)} {σ : St} {H : Hp} {s : Shared} {p : Addr} {xs : List V} (I : Inv X pins σ H s) (h : H p = some (.lst xs)) :
  ∃ (its : List Value) (n : Nat), Vals xs its ∧ s.heap.get? p = some { cls := .type "list", data := .seq its.toArray n } ∧ xs.length ≤ sizeLine := by
 obtain ⟨z, its, n, r, e⟩ := I.hok p _ h
 exact ⟨its, n, r, e, z⟩
theorem Inv.lstUpd {pins : List (Addr × Obj)} {σ : St} {H : Hp} {s : Shared} {p : Addr} {xs ys : List V} {its its' : List Value} {n n' : Nat} {f : Obj → Obj} (I : Inv X pins σ H s) (h : H p = some (.lst xs))
  (ho : s.heap.get? p = some { cls := .type "list", data := .seq its.toArray n }) (hf : f { cls := .type "list", data := .seq its.toArray n } = { cls := .type "list", data := .seq its'.toArray n' }) (r : Vals ys its') (hz : ys.length ≤ sizeLine) (t : Nat) :
  Inv X pins σ (upd H p (.lst ys)) { s with heap := s.heap.update p f, toks := t } := by
 have e : (s.heap.update p f).get? p = some { cls := .type "list", data := .seq its'.toArray n' } := by
  rw [Heap.get?_update_self f ho (by rw [hf] <;> rfl), hf]
 refine I.write (x := p) (e := p) (by rw [h]; trivial) (.inl rfl) (fun b u hb q => (Heap.get?_update_other _ _ (Ne.symm hb)).trans q) ⟨_, e⟩ ?_
 exact ⟨hz, its', n', r, e⟩
noncomputable def rSetL : V → V → V → Hp → (Hp → Prop) → Prop := fun o i v H Q => ∃ p xs k j, o = .ref p ∧ i = .int k ∧ H p = some (.lst xs) ∧ ixN xs.length k = some j ∧ Q (upd H p (.lst (xs.set j v)))
theorem set_list : PSet X rSetL := by
 intro pins s σ H o i v ov iv u Q I ro ri rv h
 obtain ⟨p, xs, k, j, rfl, rfl, hp, hj, q⟩ := h
 cases ro
 obtain ⟨t, rfl⟩ := ri
 obtain ⟨its, n, r, ho, hz⟩ := I.lst hp
 obtain ⟨h1, h2, h3, h4⟩ := ixN_seq hj
 have hl := r.length
 have hn := line63
 have I' : Inv X pins σ (upd H p (.lst (xs.set j v))) { s with heap := s.heap.update p (Obj.mapSeq (·.setIfInBounds j u)) } :=
  I.lstUpd hp ho (mapSeq_set its n j u) (r.set rv j) (by rw [List.length_set]; exact hz) s.toks
 by_cases h0 : 0 ≤ k
 ·have hk : k.toNat = j := by
   rw [seqIndex_of h0 h4] at h1
   exact Option.some.inj h1
  exact PySem.W.ki_setAt ho h0 (by omega) (by rw [List.size_toArray, ← hl]; exact h4) (by rw [hk]; exact ⟨_, I', q⟩)
 ·have hk : (k + (its.toArray.size : Int)).toNat = j := by
   rw [seqIndex_neg (by omega) h3] at h1
   rw [List.size_toArray, ← hl]
   exact Option.some.inj h1
  exact PySem.W.ki_setBack ho (by omega) (by rw [List.size_toArray, ← hl]; exact h3) (by omega) (by rw [hk]; exact ⟨_, I', q⟩)

/-! ### slices -/
theorem slice_bounds (lo hi : Option Int) (n : Nat) : (sliceBounds lo hi none n).1 = ((HT.sIx n 0 lo : Nat) : Int) ∧ (sliceBounds lo hi none n).2.1 = ((HT.sIx n n hi : Nat) : Int) ∧ (sliceBounds lo hi none n).2.2 = 1 := by
 refine ⟨?_, ?_, rfl⟩
 ·cases lo with
  | none => simp [sliceBounds, HT.sIx]
  | some i =>
   simp only [sliceBounds, HT.sIx, Option.getD_none, show (1 : Int) > 0 by decide, if_true]
   by_cases h : i < 0
   ·simp only [h, if_true] <;> omega
   ·simp only [h, if_false] <;> omega
 ·cases hi with
  | none => simp [sliceBounds, HT.sIx]
  | some i =>
   simp only [sliceBounds, HT.sIx, Option.getD_none, show (1 : Int) > 0 by decide, if_true]
   by_cases h : i < 0
   ·simp only [h, if_true] <;> omega
   ·simp only [h, if_false] <;> omega
theorem slicePick_cut (its : List Value) (lo hi : Option Int) : slicePick its.toArray lo hi none = ((its.drop (HT.sIx its.length 0 lo)).take (HT.sIx its.length its.length hi - HT.sIx its.length 0 lo)).toArray := by
 obtain ⟨h1, h2, h3⟩ := slice_bounds lo hi its.toArray.size
 unfold slicePick
 rw [h1, h2, h3]
 simp only [sliceRange_one, pick_run, List.size_toArray] <;> rfl
noncomputable def rSlL (K : PySem.W.Frag) : V → Option Int → Option Int → Hp → VK → Prop := fun x lo hi H Q => ∃ a xs, x = .ref a ∧ SqL K H a xs ∧ ∀ p, H p = none → Q (.ref p) (upd H p (.lst (cutV xs lo hi)))
theorem sl_list : SlR X (rSlL X.K) := by
 intro pins s σ H x v vl vu lo hi sl Q I rx hs pl pu h
 obtain ⟨a, xs, rfl, hx, q⟩ := h
 cases rx
 obtain ⟨its, r, ht, hz⟩ := I.list hx
 have hlen := r.length
 refine ⟨"list", _, slot_list_getitem.lookup, ht.isList.typeIs, ?_⟩
 refine wpAny_getItem_list_slice ht.isList hs pl pu .none (by simp) ?_ (by rw [List.size_toArray] <;> omega)
 rw [slicePick_cut, ← hlen]
 refine ⟨.ref s.heap.objs.size, _, I.laid (t' := s.toks) (o := .lst (cutV xs lo hi)) (fun b ob q => Heap.get?_push_of_some _ q) (Nat.le_refl _) ?_, rfl, q _ (I.hok.fresh (Nat.le_refl _))⟩
 exact ⟨Nat.le_trans (cutV_length xs lo hi) hz, _, 0, (r.drop (HT.sIx xs.length 0 lo)).take (HT.sIx xs.length xs.length hi - HT.sIx xs.length 0 lo), Heap.get?_push_size _ rfl⟩

/-! ### in, not in: flat items -/
noncomputable def flatV : V → Bool
 | .non => true
 | .bl _ => true
 | .int _ => true
 | .str _ => true
 | _ => false
noncomputable def eqV : V → V → Bool
 | .non, .non => true
 | .bl a, .bl b => a == b
 | .bl a, .int b => (if a then 1 else 0) == b
 | .int a, .bl b => a == (if b then 1 else 0)
 | .int a, .int b => a == b
 | .str a, .str b => a == b
 | _, _ => false
theorem eqAt_V {A : Around} {s : Shared} {y x : V} {u v : Value} (ry : RelV y u) (rx : RelV x v) (fy : flatV y = true) (fx : flatV x = true) : SeqAt.EqAt A s u v (eqV y x) := by
 cases y with
 | non =>
  cases ry
  cases x with
  | non => cases rx; exact SeqAt.EqAt.same _
  | bl b => cases rx; exact SeqAt.EqAt.none_bool b
  | int b => obtain ⟨t, rfl⟩ := rx; exact SeqAt.EqAt.none_int b t
  | str b => obtain ⟨t, rfl⟩ := rx; exact SeqAt.EqAt.none_str b t
  | _ => exact absurd (show false = true from fx) Bool.false_ne_true
 | bl a =>
  cases ry
  cases x with
  | non => cases rx; exact SeqAt.EqAt.bool_none a
  | bl b => cases rx; exact SeqAt.EqAt.bool_bool a b
  | int b => obtain ⟨t, rfl⟩ := rx; exact SeqAt.EqAt.bool_int a b t
  | str b => obtain ⟨t, rfl⟩ := rx; exact SeqAt.EqAt.bool_str a b t
  | _ => exact absurd (show false = true from fx) Bool.false_ne_true
 | int a =>
  obtain ⟨t', rfl⟩ := ry
  cases x with
  | non => cases rx; exact SeqAt.EqAt.int_none a t'
  | bl b => cases rx; exact SeqAt.EqAt.int_bool a t' b
  | int b => obtain ⟨t, rfl⟩ := rx; exact SeqAt.EqAt.int_int a t' b t
  | str b => obtain ⟨t, rfl⟩ := rx; exact SeqAt.EqAt.int_str a t' b t
  | _ => exact absurd (show false = true from fx) Bool.false_ne_true
 | str a =>
  obtain ⟨t', rfl⟩ := ry
  cases x with
  | non => cases rx; exact SeqAt.EqAt.str_none a t'
  | bl b => cases rx; exact SeqAt.EqAt.str_bool a t' b
  | int b => obtain ⟨t, rfl⟩ := rx; exact SeqAt.EqAt.str_int a t' b t
  | str b => obtain ⟨t, rfl⟩ := rx; exact SeqAt.EqAt.str_str a t' b t
  | _ => exact absurd (show false = true from fx) Bool.false_ne_true
 | _ => exact absurd (show false = true from fy) Bool.false_ne_true
noncomputable def eqU (x : V) (u : Value) : Bool := match u with
 | .none => eqV .non x
 | .bool b => eqV (.bl b) x
 | .int i _ => eqV (.int i) x
 | .str z _ => eqV (.str z) x
 | _ => false
theorem eqU_of {x y : V} {u : Value} (r : RelV y u) (f : flatV y = true) : eqU x u = eqV y x := by
 cases y with
 | non => cases r; rfl
 | bl b => cases r; rfl
 | int i => obtain ⟨t, rfl⟩ := r; rfl
 | str z => obtain ⟨t, rfl⟩ := r; rfl
 | _ => exact absurd (show false = true from f) Bool.false_ne_true
theorem any_eqU {x : V} : ∀ {xs : List V} {us : List Value}, Vals xs us → xs.all flatV = true → us.any (eqU x) = xs.any fun y => eqV y x
 | _, _, .nil, _ => rfl
 | y :: xs, u :: us, .cons r t, f => by
  rw [List.all_cons, Bool.and_eq_true] at f
  rw [List.any_cons, List.any_cons, eqU_of r f.1, any_eqU t f.2]
theorem mem_eqAt {A : Around} {s : Shared} {x : V} {v : Value} (rx : RelV x v) (fx : flatV x = true) : ∀ {xs : List V} {us : List Value}, Vals xs us → xs.all flatV = true → ∀ u ∈ us, SeqAt.EqAt A s u v (eqU x u)
 | _, _, .nil, _ => fun u hu => by cases hu
 | y :: xs, u :: us, .cons r t, f => fun u' hu => by
  rw [List.all_cons, Bool.and_eq_true] at f
  rcases List.mem_cons.mp hu with rfl | hu
  ·rw [eqU_of r f.1]; exact eqAt_V r rx f.1 fx
  ·exact mem_eqAt rx fx t f.2 u' hu
noncomputable def inV (x : V) (xs : List V) : Bool := xs.any fun y => eqV y x
noncomputable def rIn (K : PySem.W.Frag) (neg : Bool) : R2 := fun x y H Q => ∃ p xs, y = .ref p ∧ (SqL K H p xs ∨ SqT K H p xs) ∧ flatV x = true ∧ xs.all flatV = true ∧ Q (.bl (if neg then !inV x xs else inV x xs)) H
theorem op_in_seq : OpR X (compareOp .In) (rIn X.K false) := by
 intro pins s σ H x y v u Q I rx ry h
 obtain ⟨p, xs, rfl, hq, fx, fs, q⟩ := h
 cases ry
 rcases hq with hq | hq
 ·obtain ⟨its, r, pl, hz⟩ := I.list hq
  refine SeqAt.in_listAt (eqU x) pl.isList (fun w hw => mem_eqAt rx fx r fs w (by simpa using hw)) ⟨.bl _, H, I, rfl, ?_⟩
  rw [show its.toArray.any (eqU x) = its.any (eqU x) by simp, any_eqU r fs]
  exact q
 ·obtain ⟨its, r, pl, hz⟩ := I.tuple hq
  refine SeqAt.in_tupleAt (eqU x) pl (fun w hw => mem_eqAt rx fx r fs w (by simpa using hw)) ⟨.bl _, H, I, rfl, ?_⟩
  rw [show its.toArray.any (eqU x) = its.any (eqU x) by simp, any_eqU r fs]
  exact q
theorem op_notIn_seq : OpR X (compareOp .NotIn) (rIn X.K true) := by
 intro pins s σ H x y v u Q I rx ry h
 obtain ⟨p, xs, rfl, hq, fx, fs, q⟩ := h
 cases ry
 rcases hq with hq | hq
 ·obtain ⟨its, r, pl, hz⟩ := I.list hq
  refine SeqAt.notIn_listAt (eqU x) pl.isList (fun w hw => mem_eqAt rx fx r fs w (by simpa using hw)) ⟨.bl _, H, I, rfl, ?_⟩
  rw [show its.toArray.any (eqU x) = its.any (eqU x) by simp, any_eqU r fs]
  exact q
 ·obtain ⟨its, r, pl, hz⟩ := I.tuple hq
  refine SeqAt.notIn_tupleAt (eqU x) pl (fun w hw => mem_eqAt rx fx r fs w (by simpa using hw)) ⟨.bl _, H, I, rfl, ?_⟩
  rw [show its.toArray.any (eqU x) = its.any (eqU x) by simp, any_eqU r fs]
  exact q
/-! ### len, list(x), tuple(x) of any list or tuple that is read -/
theorem call_list_of : CallR X (.type "list") (fun xs H Q => ∃ p ys, xs = [.ref p] ∧ (SqL X.K H p ys ∨ SqT X.K H p ys) ∧ ∀ l, H l = none → Q (.ref l) (upd H l (.lst ys))) := by
 intro pins s σ H xs us Q I r h
 obtain ⟨p, ys, rfl, hq, q⟩ := h
 obtain ⟨u, rfl, rx⟩ := vals1 r
 cases rx
 have fin : ∀ (its : List Value), Vals ys its → ys.length ≤ sizeLine → ∀ (h' : Heap) (c' : Nat), (∀ b o', s.heap.get? b = some o' → h'.get? b = some o') →
   h'.get? s.heap.objs.size = some { cls := .type "list", dict := none, data := .seq its.toArray c', slots := #[] } → EP X pins σ Q (.ref s.heap.objs.size) { s with heap := h' } := fun its r' hz h' c' kp e =>
  ⟨.ref s.heap.objs.size, _, I.laid (t' := s.toks) kp (Nat.le_refl _) (show ObjOk X.prog X.w _ h' _ (.lst ys) from ⟨hz, its, c', r', e⟩), rfl, q _ (I.hok.fresh (Nat.le_refl _))⟩
 rcases hq with hq | hq
 ·obtain ⟨its, r', pl, hz⟩ := I.list hq
  have hlen := r'.length
  obtain ⟨o, ho, hc, n, hd⟩ := pl.isList
  exact call_list_seq p (.inl rfl) ho hc hd (fun h' c' kp e => fin its r' hz h' c' kp e) (by simp only [List.size_toArray] <;> omega)
 ·obtain ⟨its, r', pl, hz⟩ := I.tuple hq
  have hlen := r'.length
  obtain ⟨o, ho, hc, n, hd⟩ := pl
  exact call_list_seq p (.inr rfl) ho hc hd (fun h' c' kp e => fin its r' hz h' c' kp e) (by simp only [List.size_toArray] <;> omega)
theorem call_tuple_of : CallR X (.type "tuple") (fun xs H Q => ∃ p ys, xs = [.ref p] ∧ ((SqL X.K H p ys ∧ ∀ l, H l = none → Q (.ref l) (upd H l (.tup ys))) ∨ (SqT X.K H p ys ∧ Q (.ref p) H))) := by
 intro pins s σ H xs us Q I r h
 obtain ⟨p, ys, rfl, h⟩ := h
 obtain ⟨u, rfl, rx⟩ := vals1 r
 cases rx
 rcases h with ⟨hq, q⟩ | ⟨hq, q⟩
 ·obtain ⟨its, r', pl, hz⟩ := I.list hq
  have hlen := r'.length
  refine call_tuple_list pl.isList (fun h' kp => ?_) (by simp only [List.size_toArray] <;> omega)
  have I1 : Inv X pins σ H { s with heap := h' } := I.kept (t' := s.toks) kp
  have I2 : Inv X pins σ (upd H h'.objs.size (.tup ys)) { s with heap := h'.push { cls := .type "tuple", data := .seq its.toArray } } :=
   I1.laid (t' := s.toks) (fun b o e => Heap.get?_push_of_some _ e) (Nat.le_refl _) (show ObjOk X.prog X.w _ _ _ (.tup ys) from ⟨hz, its, r', IsTup.new _ _⟩)
  exact ⟨.ref h'.objs.size, _, I2, rfl, q _ (I1.hok.fresh (Nat.le_refl _))⟩
 ·obtain ⟨its, r', pl, hz⟩ := I.tuple hq
  exact call_tuple_same pl ⟨.ref p, H, I, rfl, q⟩

/-! ### the call of a builtin's method: o.m(..) -/
noncomputable def tyV (K : PySem.W.Frag) (T : String) (x : V) (H : Hp) : Prop := match x with
 | .str _ => T = "str"
 | .int _ => T = "int"
 | .ref p => (T = "list" ∧ ∃ xs, SqL K H p xs) ∨ (T = "tuple" ∧ ∃ o, K.lookup p = some o ∧ o.cls = .type "tuple" ∧ o.dict = none) ∨
   (T = "dict" ∧ ((∃ kvs, H p = some (.dK kvs)) ∨ ∃ kvs, H p = some (.dT kvs))) ∨ (T = "set" ∧ ∃ S n, H p = some (.set S n))
 | _ => False
theorem tyV_is {pins : List (Addr × Obj)} {σ : St} {H : Hp} {s : Shared} {T : String} {x : V} {v : Value} (I : Inv X pins σ H s) (r : RelV x v) (ty : tyV X.K T x H) :
  s.TypeIs v T ∧ ∀ a, v = .ref a → ∃ ob, s.heap.get? a = some ob ∧ ob.dict = none := by
 cases x with
 | str z =>
  obtain ⟨t, rfl⟩ := r
  cases (show T = "str" from ty)
  exact ⟨typeIs_str s z t, fun _ e => nomatch e⟩
 | int i =>
  obtain ⟨t, rfl⟩ := r
  cases (show T = "int" from ty)
  exact ⟨typeIs_int s i t, fun _ e => nomatch e⟩
 | ref p =>
  cases r
  rcases ty with ⟨rfl, xs, hq⟩ | ⟨rfl, o, hk, hc, hd⟩ | ⟨rfl, hk⟩ | ⟨rfl, S, n, hk⟩
  ·obtain ⟨its, _, pl, _⟩ := I.list hq
   refine ⟨pl.isList.typeIs, fun a e => ?_⟩
   cases e
   obtain ⟨o, n, e, c, hd, _⟩ := pl
   exact ⟨o, e, hd⟩
  ·refine ⟨⟨o, I.kIn p o hk, hc⟩, fun a e => ?_⟩
   cases e
   exact ⟨o, I.kIn _ o hk, hd⟩
  ·have z : ∃ o, s.heap.get? p = some o ∧ o.ExactDict := by
    rcases hk with ⟨kvs, hk⟩ | ⟨kvs, hk⟩
    ·obtain ⟨_, _, _, _, o, _, _, e, ex, _⟩ := I.hok p _ hk
     exact ⟨o, e, ex⟩
    ·obtain ⟨_, _, _, _, o, _, _, e, ex, _⟩ := I.hok p _ hk
     exact ⟨o, e, ex⟩
   obtain ⟨o, e, ex⟩ := z
   refine ⟨⟨o, e, ex.1⟩, fun a e2 => ?_⟩
   cases e2
   exact ⟨o, e, ex.2.1⟩
  ·obtain ⟨o, _, _, _, e, ex, _⟩ := I.hok p _ hk
   refine ⟨⟨o, e, ex.1⟩, fun a e2 => ?_⟩
   cases e2
   exact ⟨o, e, ex.2.1⟩
 | _ => exact False.elim ty
noncomputable def tBM0 (K : PySem.W.Frag) (T : String) (r : V → List V → Hp → VK → Prop) (to : TE) : TE := fun σ H Q => to σ H fun x H1 => tyV K T x H1 ∧ r x [] H1 Q
noncomputable def tBM (K : PySem.W.Frag) (T : String) (r : V → List V → Hp → VK → Prop) (to : TE) (t : TA) : TE := fun σ H Q => to σ H fun x H1 => tyV K T x H1 ∧ t σ H1 fun xs H2 => r x xs H2 Q
variable {o e : Expr} {es : List Expr} {to : TE} {t : TA} {name : Str} {apos cpos : Pos} {T id : String} {r : V → List V → Hp → VK → Prop}
theorem pe_bm0 (pa : PlainAttrs T) (slot : Slot T name id) (hty : typeOf (.builtin id) = pure (.type "method_descriptor")) (hm : MtR X id r) (ho : PE X o to)
  (hbase : attributeBase o name X.env (eval o X.env) = eval o X.env := by rfl) (hline : (apos.endLine == cpos.line) = true := by rfl) : PE X (.Call (.Attribute o name apos) [] [] cpos) (tBM0 X.K T r to) := by
 intro pins s σ H Q I h
 refine wpAny_Call_method0_late hbase hline (thn (ho pins s σ H _ I h) fun v s1 ⟨x, H1, I1, r1, ty, q1⟩ => ?_)
 obtain ⟨h1, h2⟩ := tyV_is I1 r1 ty
 exact ⟨T, id, pa, slot, hty, h1, h2, Calls.callWith_builtin rfl (PySem.evalArgs_none (hm pins s1 σ H1 x [] v [] Q I1 r1 .nil q1))⟩
theorem pe_bm (pa : PlainAttrs T) (slot : Slot T name id) (hty : typeOf (.builtin id) = pure (.type "method_descriptor")) (hm : MtR X id r) (ho : PE X o to) (ha : PA X (e :: es) t)
  (hbase : attributeBase o name X.env (eval o X.env) = eval o X.env := by rfl)
  (hfew : ((backTo cpos (starEach (e :: es) X.env)).all (fun x => !x.1) && (backToKw cpos (keywordEach [] X.env)).all (fun x => x.1.isSome)
   && decide ((e :: es).length + ([] : List Keyword).length + (if ([] : List Keyword).isEmpty then 0 else 1) < 30)) = true := by rfl)
  (hline : (apos.endLine == cpos.line) = true := by rfl) (hs : starEach (e :: es) X.env = (false, eval e X.env) :: starEach es X.env := by rfl) (hplain : (backTo cpos (starEach es X.env)).any (·.1) = false := by rfl) :
  PE X (.Call (.Attribute o name apos) (e :: es) [] cpos) (tBM X.K T r to t) := by
 intro pins s σ H Q I h
 refine wpAny_Call_method_late hbase hfew hline rfl (thn (ho pins s σ H _ I h) fun v s1 ⟨x, H1, I1, r1, ty, q1⟩ => ?_)
 obtain ⟨h1, h2⟩ := tyV_is I1 r1 ty
 refine ⟨T, id, pa, slot, hty, h1, h2, ?_⟩
 have hA := ha cpos pins s1 σ H1 _ I1 q1
 rw [hs] at hA ⊢
 refine Calls.callWith_builtin (by show (false || (backTo cpos (starEach es X.env)).any (·.1)) = false; rw [hplain] <;> rfl) (Calls.evalArgs_plain ?_)
 exact thn hA fun us s2 ⟨vs, H2, I2, r2, q2⟩ => hm pins s2 σ H2 x vs v us Q I2 r1 r2 q2
/- xs.append(e), list.index on a module's tuple .. are MtR facts of 06m -/
end
end L2

namespace L2
open PySem PySem.Spec PyProof.Rows

noncomputable def MtM (X : Cx) (id : String) (r : V → List V → Hp → VK → Prop) : Prop :=
 ∀ (pins : List (Addr × Obj)) (s : Shared) (σ : St) (H : Hp) (x : V) (xs : List V) (v : Value) (us : List Value) (Q : VK), Inv X pins σ H s → RelV x v → Vals xs us → r x xs H Q →
  wpAny (model X.prog X.w) X.A (call (.builtin id) (v :: us)) (EP X pins σ Q) X.xe s

/-! ### lists of values -/
theorem Vals.one : ∀ {x : V} {us : List Value}, Vals [x] us → ∃ u, us = [u] ∧ RelV x u
 | _, _, .cons r .nil => ⟨_, rfl, r⟩
theorem Vals.zero : ∀ {us : List Value}, Vals [] us → us = []
 | _, .nil => rfl
theorem Vals.dropLast {xs : List V} {us : List Value} (h : Vals xs us) : Vals xs.dropLast us.dropLast := by
 induction h with
 | nil => exact .nil
 | cons r t ih =>
  cases t with
  | nil => exact .nil
  | cons q t' => exact .cons r ih
theorem Vals.rep {xs : List V} {us : List Value} (h : Vals xs us) : ∀ k : Nat, Vals (List.replicate k xs).flatten (List.replicate k us).flatten
 | 0 => .nil
 | k + 1 => by
  rw [List.replicate_succ, List.replicate_succ, List.flatten_cons, List.flatten_cons]
  exact Vals.append h (Vals.rep h k)
theorem erase_last {α : Type} (l : List α) : l.eraseIdx (l.length - 1) = l.dropLast := by
 induction l with
 | nil => rfl
 | cons a r ih =>
  cases r with
  | nil => rfl
  | cons b r =>
   have e : (a :: b :: r).length - 1 = ((b :: r).length - 1) + 1 := by
    have h1 : (a :: b :: r).length = r.length + 2 := rfl
    have h2 : (b :: r).length = r.length + 1 := rfl
    omega
   rw [e, List.eraseIdx_cons_succ, ih]
   all_goals rfl
theorem foldl_rep (its : List Value) : ∀ (k : Nat) (acc : List Value),
  List.foldl (fun x1 x2 => x1 ++ x2) acc.toArray (List.replicate k its.toArray) = (acc ++ (List.replicate k its).flatten).toArray
 | 0, acc => by simp
 | k + 1, acc => by
  have e : acc.toArray ++ its.toArray = (acc ++ its).toArray := by simp
  have e2 : (acc ++ its) ++ (List.replicate k its).flatten = acc ++ (List.replicate (k + 1) its).flatten := by
   rw [List.replicate_succ, List.flatten_cons, List.append_assoc]
  rw [← e2, ← foldl_rep its k (acc ++ its), ← e, List.replicate_succ, List.foldl_cons]

section
variable {X : Cx} {pins : List (Addr × Obj)} {σ : St} {H : Hp} {s : Shared} {l b : Addr} {xs ys zs : List V}

/-! ### the two steps: a tracked list is rewritten, a new list is laid -/
theorem Inv.lset {its its' : List Value} {n : Nat} {f : Array Value → Array Value} {t' : Nat} (I : Inv X pins σ H s) (hH : H l = some (.lst xs))
  (e : s.heap.get? l = some { cls := .type "list", data := .seq its.toArray n }) (hf : f its.toArray = its'.toArray) (hv : Vals ys its') (hz : ys.length ≤ sizeLine) :
  Inv X pins σ (upd H l (.lst ys)) { s with heap := s.heap.update l (Obj.mapSeq f), toks := t' } := by
 have q := PySem.IsL.update e f
 rw [hf] at q
 refine I.write (x := l) (e := l) (by rw [hH]; exact trivial) (.inl rfl) (fun b' u hb hu => (Heap.get?_update_other s.heap (Obj.mapSeq f) (Ne.symm hb)).trans hu) ⟨_, q⟩ ?_
 exact ⟨hz, its', _, hv, q⟩
theorem Inv.lnew {its : List Value} {t' : Nat} (I : Inv X pins σ H s) (hv : Vals ys its) (hz : ys.length ≤ sizeLine) :
  Inv X pins σ (upd H s.heap.objs.size (.lst ys)) { s with heap := s.heap.push { cls := .type "list", data := .seq its.toArray }, toks := t' } :=
 I.laid (fun _ _ q => Heap.get?_push_of_some _ q) (Nat.le_refl _) ⟨hz, its, 0, hv, Heap.get?_push_size _ rfl⟩
theorem Inv.fresh (I : Inv X pins σ H s) : H s.heap.objs.size = none := I.hok.fresh (Nat.le_refl _)
theorem Inv.lstM (I : Inv X pins σ H s) (hH : H l = some (.lst xs)) : xs.length ≤ sizeLine ∧ ∃ (its : List Value) (n : Nat), Vals xs its ∧ xs.length = its.length ∧ s.heap.get? l = some { cls := .type "list", data := .seq its.toArray n } := by
 obtain ⟨z, its, n, r, e⟩ := I.hok l _ hH
 exact ⟨z, its, n, r, r.length, e⟩

theorem notLongL {n : Nat} (h : n ≤ sizeLine) : Builtin.List.listTooLong n = false := by
 unfold Builtin.List.listTooLong
 exact decide_eq_false (by omega)
end

section
variable {X : Cx}

/-! ### methods -/
noncomputable def rAppend : V → List V → Hp → VK → Prop := fun x vs H Q => ∃ l xs y, x = .ref l ∧ vs = [y] ∧ H l = some (.lst xs) ∧ xs.length < sizeLine ∧ Q .non (upd H l (.lst (xs ++ [y])))
theorem mt_append : MtM X "list.append" rAppend := by
 intro pins s σ H x vs v us Q I rx rv h
 obtain ⟨l, xs, y, rfl, rfl, hH, hz, q⟩ := h
 cases rx
 obtain ⟨u, rfl, ru⟩ := rv.one
 obtain ⟨z, its, n, r, hl, e⟩ := I.lstM hH
 refine call_meets F.slot_list_append ⟨_, e, rfl⟩ F.entry_list_append (F.args_list_append_2 _ _) (PySem.list_append l its.toArray n u (by rw [List.size_toArray]; omega)) ⟨e, ?_⟩
 refine ⟨.non, _, I.lset (its' := its ++ [u]) hH e (by simp) (r.append (.cons ru .nil)) ?_, rfl, q⟩
 rw [List.length_append, List.length_singleton]
 omega

noncomputable def rExtend : V → List V → Hp → VK → Prop := fun x vs H Q => ∃ l b xs zs, x = .ref l ∧ vs = [.ref b] ∧ H l = some (.lst xs) ∧ H b = some (.lst zs) ∧ xs.length + zs.length ≤ sizeLine ∧ Q .non (upd H l (.lst (xs ++ zs)))
theorem mt_extend : MtM X "list.extend" rExtend := by
 intro pins s σ H x vs v us Q I rx rv h
 obtain ⟨l, b, xs, zs, rfl, rfl, hH, hB, hz, q⟩ := h
 cases rx
 obtain ⟨u, rfl, ru⟩ := rv.one
 cases ru
 obtain ⟨z, its, n, r, hl, e⟩ := I.lstM hH
 obtain ⟨z2, its2, n2, r2, hl2, e2⟩ := I.lstM hB
 have hsz : its.toArray.size + its2.toArray.size ≤ sizeLine := by rw [List.size_toArray, List.size_toArray]; omega
 have hlong : ¬ (!its.toArray.isEmpty && Builtin.List.listTooLong (its.toArray.size + its2.toArray.size)) = true := by
  rw [notLongL hsz, Bool.and_false]
  exact Bool.false_ne_true
 refine call_meets F.slot_list_extend ⟨_, e, rfl⟩ F.entry_list_extend (F.args_list_extend_2 _ _)
  (AutoSeq1.list_extend_list_list_0 l its.toArray n b its2.toArray n2 hlong (by rw [List.size_toArray]; omega) (by omega)) ⟨e, e2, ?_⟩
 refine ⟨.non, _, I.lset (its' := its ++ its2) hH e (by simp) (r.append r2) ?_, rfl, q⟩
 rw [List.length_append]
 omega

noncomputable def rPop : V → List V → Hp → VK → Prop := fun x vs H Q => ∃ l xs y, x = .ref l ∧ vs = [] ∧ H l = some (.lst xs) ∧ xs[xs.length - 1]? = some y ∧ Q y (upd H l (.lst xs.dropLast))
theorem mt_pop : MtM X "list.pop" rPop := by
 intro pins s σ H x vs v us Q I rx rv h
 obtain ⟨l, xs, y, rfl, rfl, hH, hy, q⟩ := h
 cases rx
 have hus := rv.zero
 subst hus
 obtain ⟨z, its, n, r, hl, e⟩ := I.lstM hH
 obtain ⟨u, hu, ru⟩ := r.get hy
 have hy' : its.toArray[its.toArray.size - 1]? = some u := by
  show its.toArray[its.length - 1]? = some u
  rw [← Array.getElem?_toList, ← hl]
  exact hu
 refine call_meets F.slot_list_pop ⟨_, e, rfl⟩ F.entry_list_pop (F.args_list_pop_1 _) (MeetsSeq.list_pop_last l its.toArray n u hy' (by rw [List.size_toArray]; omega)) ⟨e, ?_⟩
 refine ⟨y, _, I.lset (its' := its.dropLast) hH e ?_ r.dropLast ?_, ru, q⟩
 ·show its.toArray.eraseIdxIfInBounds (its.toArray.size - 1) = its.dropLast.toArray
  rw [List.size_toArray, List.eraseIdxIfInBounds_toArray, erase_last]
 ·rw [List.length_dropLast]
  omega

/-! ### list + list, list += list, list * int -/
noncomputable def rCat : R2 := fun x y H Q => ∃ l b xs zs, x = .ref l ∧ y = .ref b ∧ H l = some (.lst xs) ∧ H b = some (.lst zs) ∧ xs.length + zs.length ≤ sizeLine ∧ ∀ p, H p = none → Q (.ref p) (upd H p (.lst (xs ++ zs)))
theorem op_cat : OpR X (binaryOp .Add) rCat := by
 intro pins s σ H x y v u Q I rx ry h
 obtain ⟨l, b, xs, zs, rfl, rfl, hH, hB, hz, q⟩ := h
 cases rx
 cases ry
 obtain ⟨z, its, n, r, hl, e⟩ := I.lstM hH
 obtain ⟨z2, its2, n2, r2, hl2, e2⟩ := I.lstM hB
 refine PySem.P.add_list e e2 ?_ (by rw [List.size_toArray, List.size_toArray]; omega)
 have ea : its.toArray ++ its2.toArray = (its ++ its2).toArray := by simp
 rw [ea]
 exact ⟨.ref _, _, I.lnew (t' := s.toks) (r.append r2) (by rw [List.length_append]; omega), rfl, q _ I.fresh⟩
noncomputable def rRep : R2 := fun x y H Q => ∃ l k xs, x = .ref l ∧ y = .int k ∧ H l = some (.lst xs) ∧ -(2 ^ 63) ≤ k ∧ k < 2 ^ 63 ∧ xs.length * k.toNat ≤ sizeLine ∧
 ∀ p, H p = none → Q (.ref p) (upd H p (.lst (List.replicate k.toNat xs).flatten))
theorem len_rep {α : Type} (xs : List α) (k : Nat) : (List.replicate k xs).flatten.length = k * xs.length := by
 induction k with
 | zero => simp
 | succ k ih => rw [List.replicate_succ, List.flatten_cons, List.length_append, ih, Nat.succ_mul, Nat.add_comm]
theorem op_rep : OpR X (binaryOp .Mult) rRep := by
 intro pins s σ H x y v u Q I rx ry h
 obtain ⟨l, k, xs, rfl, rfl, hH, h1, h2, hz, q⟩ := h
 cases rx
 obtain ⟨t, rfl⟩ := ry
 obtain ⟨z, its, n, r, hl, e⟩ := I.lstM hH
 have hlen : its.toArray.size * k.toNat ≤ sizeLine := by rw [List.size_toArray, ← hl]; exact hz
 have hcap : ¬ its.toArray.size * k.toNat > (2 ^ 63 - 1) / 8 := by
  have : (sizeLine : Nat) ≤ (2 ^ 63 - 1) / 8 := by decide
  omega
 have hfit : ¬ (!Builtin.List.listFitsIndex k) = true := by
  rw [fitsIndex_both h1 h2]
  exact Bool.false_ne_true
 have hlong : ¬ Builtin.List.listTooLong (its.toArray.size * k.toNat) = true := by
  rw [notLongL hlen]
  exact Bool.false_ne_true
 have hnew : List.foldl (fun x1 x2 => x1 ++ x2) #[] (List.replicate (if its.toArray.isEmpty = true then 0 else k.toNat) its.toArray) = (List.replicate k.toNat its).flatten.toArray := by
  have f0 : ∀ m : Nat, List.foldl (fun x1 x2 => x1 ++ x2) #[] (List.replicate m its.toArray) = (List.replicate m its).flatten.toArray := fun m => by
   have := foldl_rep its m []
   rw [List.nil_append] at this
   exact this
  rw [f0]
  cases its with
  | nil => simp
  | cons a r' => rw [if_neg (by simp)]
 refine wpAny_binaryOp_repeat_ref (T := "list") (U := "int") (by decide) ⟨_, e, rfl⟩ (fun s' => typeIs_int s' k t) noFill_list_mul F.fills_int_mul F.slot_int_rmul repeat_list F.slot_int_index.lookup
  (call_meets F.slot_int_rmul (typeIs_int s k t) F.entry_int_rmul (F.args_int_rmul_2 _ _) (int___rmul___int_list k t l its.toArray n)
   ⟨e, rfl, ⟨_, e, rfl⟩, call_meets F.slot_list_mul ⟨_, e, rfl⟩ F.entry_list_mul (F.args_list_mul_2 _ _) (AutoListH.list___mul___list_int_3 l its.toArray n k t hfit hcap hlong) ⟨e, ?_⟩⟩)
 rw [hnew]
 exact ⟨.ref _, _, I.lnew (t' := s.toks) (r.rep k.toNat) (by rw [len_rep, Nat.mul_comm]; exact hz), rfl, q _ I.fresh⟩

/-! ### del xs[i] -/
end

/-! ### xs[a:b] = ys -/
section
variable {prog : Program} {w : World} {A : Around} {E : Value → Shared → Prop} {s : Shared}
end

section
variable {X : Cx}
end
end L2

namespace Att
open PySem PySem.W PySem.Calls PyProof.Rows

/-! ### the script -/
theorem ints_of_wellAll {P : Params} {h : Heap} : ∀ (ns : List Int) (vs : List Value), WellAll P h vs (ns.map WData.int) → IntsAre vs ns := by
 intro ns
 induction ns with
 | nil =>
  intro vs w
  rw [List.map_nil] at w
  cases w
  exact .nil
 | cons n ns ih =>
  intro vs w
  rw [List.map_cons] at w
  cases w with
  | cons a b =>
   cases a
   exact .cons _ _ (ih _ b)

theorem script_of {l : OpenLaw} {n : Nat} (hn : l.most = some n) {P : Params} {h : Heap} {args : List WData} {vals : List Value}
  (hpre : l.row.toRowW.claim.pre args = true) (hwl : WellAll P h vals args) :
  ∃ a vs ns, vals = [Value.ref a] ∧ args = [WData.list (ns.map WData.int)] ∧ h.get? a = some { cls := .type "list", data := .seq vs.toArray } ∧ IntsAre vs ns ∧ ns.length ≤ n := by
 have hsh : WShape.hasAll [] args [.list .int] = true := (pre_splitW hpre).1
 have hc : l.pre.holds [] { args := args } = true := (pre_splitW hpre).2
 obtain ⟨d, r, rfl, h1, h2⟩ := hasAllW_cons hsh
 obtain rfl := hasAllW_nil h2
 obtain ⟨xs, rfl, h3⟩ := hasW_list h1
 obtain ⟨ns, rfl⟩ := items_int h3
 have hlen : ns.length ≤ n := by
  unfold OpenLaw.pre at hc
  have h4 : (WTm.not (.lt (.lit (.int (n : Int))) (.len (.arg 0)))).holds [] { args := [.list (ns.map .int)] } = true := by
   have h4 := (holds_andW hc).1
   rw [hn] at h4
   exact h4
  have h5 := condW_of h4 (w_not (w_lt w_lit (w_len_list (w_arg rfl))))
  rw [List.length_map] at h5
  refine Nat.le_of_not_lt fun q => ?_
  have q' : (n : Int) < ((ns.length : Nat) : Int) := by omega
  first
   | (rw [decide_eq_true q'] at h5; exact absurd h5 (by decide))
   | (simp at h5; omega)
 cases hwl with
 | cons w1 w2 =>
  cases w2
  cases w1 with
  | list ho hall => exact ⟨_, _, ns, rfl, rfl, ho, ints_of_wellAll ns _ hall, hlen⟩

theorem post_true (l : OpenLaw) (args : List WData) : l.row.toRowW.claim.post args (.bool true) args = true :=
 postW_of (r := l.row.toRowW) (X := (true == true))
  (show WShape.has [] (.bool true) .bool = true by first | rfl | decide | simp [WShape.has, WShape.arms, WShape.armsAll])
  (show (WTm.eq .res (.lit (.bool true))).value [] { args := args, res := some (.bool true), after := args } = some (.bool (true == true)) from w_eq_bool (w_res rfl) w_lit) rfl

/-! ### the attachment: holds_open's last premise (the goal 'hc' behind k_head) from a wpAny of the law's body -/
theorem attach_call {l : OpenLaw} {n : Nat} {q : Program} {loose : List Str} {XP : (Str → Option Value) → Heap → Prop} {YP : World → Heap → Prop} {d : DefRec}
  (hn : l.most = some n) (hdf : d.params.defaults = [])
  (call : ∀ (w : World) (s₀ s₁ : Shared) (mg mb : Str → Option Value) (fa : Addr) (o : Obj) (pm cd doc : Value) (a : Addr) (vs : List Value) (ns : List Int),
   Ground q loose [] XP w s₀ mg mb s₁.heap → YP w s₁.heap →
   s₁.heap.get? fa = some o → o.data = .func (docDef d.name d.params d.body d.scope pm cd doc) → s₁.heap.CodeRec cd d.name → mg d.name = some (.ref fa) →
   s₁.heap.get? a = some { cls := .type "list", data := .seq vs.toArray } → IntsAre vs ns → ns.length ≤ n → s₁.gens = #[] →
   codeAny (model l.prog w) callerA (.call (.ref fa) ⟨[.ref a], []⟩) (fun r s' => r = .ok (.ret (.bool true)) ∧ OldK s₁.heap s'.heap ∧ s'.os = s₁.os ∧ AllBare s'.gens) s₁) :
  WalkO q loose XP YP l.row.toRowW d [] (fun f vs => PySem.call f vs) := by
 intro w s₀ s₁ mg mb G Y fa o pm cd doc dV kV ho hd hcd hD hmg hg args vals as hpre hlay hrd hwl hlo
 obtain rfl : dV = .none := Dflts.none hD hdf
 obtain rfl : kV = .none := Dflts.noKw hD
 obtain ⟨a, vs, ns, rfl, rfl, hobj, hints, hlen⟩ := script_of hn hpre hwl
 refine enter_call (codeAny_mono (call w s₀ s₁ mg mb fa o pm cd doc a vs ns G Y ho (fd_plain hd) hcd hmg hobj hints hlen hg) fun r s' hq => ?_)
 obtain ⟨rfl, h2, h3, h4⟩ := hq
 exact ⟨.inl ⟨.bool true, .bool true, [], rfl, fun _ => rfl, .bool true, post_true l _, fun _ => ⟨List.Pairwise.nil, fun _ hm => (nomatch hm)⟩⟩, h2, h3, h4⟩

/-! ### rules over ANY heap (no ledger) from facts about the written part K: the library's own take a ledger (News) for what they write -/
section
variable {prog : Program} {w : World} {A : Around} {E : Value → Shared → Prop} {s : Shared} {K : Frag}

/-! the whole heap as the ledger: makes every rule that writes through a ledger a rule over any heap -/
end
end Att

namespace L2
open PySem PySem.Spec PyProof.Rows

theorem vals_ints : ∀ {vs : List Value} {ns : List Int}, IntsAre vs ns → Vals (ns.map V.int) vs
 | _, _, .nil => .nil
 | _, _, .cons n t h => .cons ⟨t, rfl⟩ (vals_ints h)

noncomputable def Only (H : Hp) : Prop := ∀ b, H b = none ∨ ∃ o xs, H b = some (.frz o (.lst xs))

theorem law_call {P : Program} {w : World} {K : PySem.W.Frag} {mg mb : Str → Option Value} {CX : CXT} {k : Nat} {fa a : Addr} {fd : FuncData} {x : Str} {sp : Sp} {s₁ : Shared} {vs : List Value} {ns : List Int}
  (KX : K.In s₁.heap) (hns : s₁.heap.Ns mainGlobals mg) (hb : s₁.heap.Ns builtinsNs mb) (hbb : ∀ x : Str, x ≠ "__name__" → mb x = bootBuiltins x) (hlim : s₁.heap.NoLimit) (hg : s₁.gens = #[])
  (ha : s₁.heap.get? a = some { cls := .type "list", data := .seq vs.toArray }) (hi : IntsAre vs ns) (hl : ns.length ≤ sizeLine) (hr : Room k callerA)
  (F : ∀ base : Heap, K.In base → base.Ns mainGlobals mg → FnOk P w K mg base CX k fa fd [x] sp) (hbind : ∀ (s : Shared) (u : Value), BindsTo s fd ⟨[u], []⟩ [(x, u)])
  (hsp : ∀ H : Hp, Only H → SqL K H a (ns.map V.int) → sp [.ref a] H (fun v _ => v = .bl true) fun _ _ _ => False)
  (hCX : ∀ H e s', CX [] H s₁ (fun _ _ _ => False) e s' → False) :
  codeAny (model P w) callerA (.call (.ref fa) ⟨[.ref a], []⟩) (fun r s' => r = .ok (.ret (.bool true)) ∧ OldK s₁.heap s'.heap ∧ s'.os = s₁.os ∧ AllBare s'.gens) s₁ := by
 have rv := vals_ints hi
 have lenV := hi.length
 -- from an abstract heap in which nothing but the script may be tracked
 have core : ∀ H : Hp, Only H → SqL K H a (ns.map V.int) → HOk P w H s₁.heap → (∀ b, H b ≠ none → b = a) → (H a ≠ none → K.lookup a = none) →
   codeAny (model P w) callerA (.call (.ref fa) ⟨[.ref a], []⟩) (fun r s' => r = .ok (.ret (.bool true)) ∧ OldK s₁.heap s'.heap ∧ s'.os = s₁.os ∧ AllBare s'.gens) s₁ := by
  intro H hO hS hok hA hK
  have base_of : ∀ {b : Addr} {o : Obj}, s₁.heap.get? b = some o → H b = none → (hidT s₁.heap H).get? b = some o := fun e n => hidT_get e n
  have noA : ∀ {b : Addr} {o : Obj} {es : Array DictEntry} {ep : Nat}, s₁.heap.get? b = some o → o.data = .dict es ep → H b = none := fun {b o es ep} e d => by
   cases q : H b with
   | none => rfl
   | some u =>
    have e' : b = a := hA b (by rw [q]; simp)
    subst e'
    rw [ha] at e; cases e
    have d' : Data.seq vs.toArray _ = Data.dict es ep := d
    cases d'
  have nsK : ∀ {b : Addr} {m : Str → Option Value}, s₁.heap.Ns b m → (hidT s₁.heap H).Ns b m := fun {b m} ⟨o, es, ep, e, d, r⟩ => ⟨o, es, ep, base_of e (noA e d), d, r⟩
  have hKb : K.In (hidT s₁.heap H) := fun b o e => base_of (KX b o e) (by
   cases q : H b with
   | none => rfl
   | some u =>
    have e' : b = a := hA b (by rw [q]; simp)
    subst e'
    rw [hK (by rw [q]; simp)] at e; cases e)
  have hM : Mod K mg (hidT s₁.heap H) := ⟨hKb, nsK hns, ⟨mb, nsK hb, hbb⟩, let ⟨mc, h1, h2⟩ := hlim; ⟨mc, nsK h1, h2⟩⟩
  have e0 : Env0 P w K mg (hidT s₁.heap H) callerA [] s₁ H := ⟨rfl, hM, fun b o e => of_hidT e, Nat.le_of_eq (hidT_size _ _), trivial, fun b hb => absurd (show b ∈ ([] : List Addr) from hb) (by simp), hok, .of_eq hg⟩
  refine codeAny_mono ((F _ hKb (nsK hns)).run callerA [] s₁ H ⟨[.ref a], []⟩ [.ref a] [.ref a] _ _ hr e0 (hbind s₁ (.ref a)) (.cons rfl .nil) (hsp H hO hS)) fun r s' h => ?_
  cases r with
  | error e => exact (hCX H e s' h).elim
  | ok fl =>
   cases fl with
   | next => exact False.elim h
   | brk => exact False.elim h
   | cont => exact False.elim h
   | ret u =>
    obtain ⟨v, H', os, bare, un, hok', r', q⟩ := h
    have q' : v = .bl true := q
    subst q'
    obtain rfl : u = Value.bool true := r'
    refine ⟨rfl, OldK.of_keep fun b o e => ?_, os, bare⟩
    cases q : H b with
    | none => exact un.keep b o e q (by intro z; exact absurd (show b ∈ ([] : List Addr) from z) (by simp)) (by simp)
    | some u =>
     rcases hO b with z | ⟨ob, xs, z⟩
     ·rw [q] at z; cases z
     ·have z2 := un.frzs b ob _ z
      obtain ⟨e1, _⟩ := hok b _ z
      obtain ⟨e2, _⟩ := hok' b _ z2
      rw [e] at e1; cases e1
      exact e2
 cases hk : K.lookup a with
 | some o =>
  -- the script is one of the module's own objects
  have e := KX a o hk
  rw [ha] at e
  cases e
  refine core (fun _ => none) (fun _ => .inl rfl) (.inr ⟨_, vs.toArray, _, hk, rfl, rfl, rfl, by rw [List.size_toArray, lenV]; exact hl, by simpa using rv⟩) (fun b u z => by have z' : (none : Option HO) = some u := z; cases z') (fun b z => absurd rfl z) fun z => absurd rfl z
 | none =>
  refine core (fun b => if b = a then some (.frz { cls := .type "list", data := .seq vs.toArray } (.lst (ns.map V.int))) else none) (fun b => ?_) (.inl (.inr ⟨{ cls := .type "list", data := .seq vs.toArray }, if_pos rfl⟩)) (fun b u z => ?_) (fun b z => ?_) fun _ => hk
  ·by_cases hb : b = a
   ·exact .inr ⟨_, _, if_pos hb⟩
   ·exact .inl (if_neg hb)
  ·by_cases hb : b = a
   ·have z' := (if_pos hb).symm.trans z
    cases z'
    subst hb
    exact ⟨ha, by rw [List.length_map]; exact hl, vs, _, rv, ha⟩
   ·have z' := (if_neg hb).symm.trans z
    cases z'
  ·by_cases hb : b = a
   ·exact hb
   ·exact absurd (if_neg hb) z
end L2

namespace L2
open PySem PySem.Spec PyProof.Rows

theorem walk_of {l : PySem.W.OpenLaw} {n k : Nat} {q : Program} {loose : List Str} {XP : (Str → Option Value) → Heap → Prop} {YP : World → Heap → Prop} {d : DefRec} {K : Params → PySem.W.Frag} {CX : World → CXT} {sp : World → Sp} {x : Str}
  (hn : l.most = some n) (hn2 : n ≤ sizeLine) (hdf : d.params.defaults = []) (hr : Room k callerA)
  (hY : ∀ (w : World) (h : Heap), YP w h → (K w.params).In h)
  (F : ∀ (w : World) (mg : Str → Option Value) (fa : Addr) (h : Heap), (K w.params).In h → h.Ns mainGlobals mg → mg d.name = some (.ref fa) →
   ∃ fd : FuncData, (∀ (s : Shared) (u : Value), BindsTo s fd ⟨[u], []⟩ [(x, u)]) ∧
    ∀ base : Heap, (K w.params).In base → base.Ns mainGlobals mg → FnOk l.prog w (K w.params) mg base (CX w) k fa fd [x] (sp w))
  (hsp : ∀ (w : World) (H : Hp) (a : Addr) (ns : List Int), ns.length ≤ n → Only H → SqL (K w.params) H a (ns.map V.int) → sp w [.ref a] H (fun v _ => v = .bl true) fun _ _ _ => False)
  (hCX : ∀ (w : World) (H : Hp) (s : Shared) (e : Value) (s' : Shared), CX w [] H s (fun _ _ _ => False) e s' → False) :
  PySem.W.WalkO q loose XP YP l.row.toRowW d [] (fun f vs => PySem.call f vs) := by
 refine Att.attach_call hn hdf fun w s₀ s₁ mg mb fa o pm cd doc a vs ns G Y ho hd hcd hmg hobj hints hlen hg => ?_
 have KX := hY w _ Y
 obtain ⟨fd, hb, hF⟩ := F w mg fa _ KX G.T.g hmg
 exact law_call KX G.T.g G.T.b G.T.builtins G.T.nolimit hg hobj hints (Nat.le_trans hlen hn2) hr hF hb (fun H hO hS => hsp w H a ns hlen hO hS) fun H e s' => hCX w H s₁ e s'
theorem walk_ofK {l : PySem.W.OpenLaw} {n k : Nat} {q : Program} {loose : List Str} {XP : (Str → Option Value) → Heap → Prop} {YP : World → Heap → Prop} {d : DefRec} {K : Params → PySem.W.Frag} {CX : CXT} {sp : PySem.W.Frag → Sp} {x : Str}
  (hn : l.most = some n) (hn2 : n ≤ sizeLine) (hdf : d.params.defaults = []) (hr : Room k callerA)
  (hY : ∀ (w : World) (h : Heap), YP w h → (K w.params).In h)
  (F : ∀ (w : World) (mg : Str → Option Value) (fa : Addr) (h : Heap), (K w.params).In h → h.Ns mainGlobals mg → mg d.name = some (.ref fa) →
   ∃ fd : FuncData, (∀ (s : Shared) (u : Value), BindsTo s fd ⟨[u], []⟩ [(x, u)]) ∧
    ∀ base : Heap, (K w.params).In base → base.Ns mainGlobals mg → FnOk l.prog w (K w.params) mg base CX k fa fd [x] (sp (K w.params)))
  (hsp : ∀ (K : PySem.W.Frag) (H : Hp) (a : Addr) (ns : List Int), ns.length ≤ n → Only H → SqL K H a (ns.map V.int) → sp K [.ref a] H (fun v _ => v = .bl true) fun _ _ _ => False)
  (hCX : ∀ (H : Hp) (s : Shared) (e : Value) (s' : Shared), CX [] H s (fun _ _ _ => False) e s' → False) :
  PySem.W.WalkO q loose XP YP l.row.toRowW d [] (fun f vs => PySem.call f vs) :=
 walk_of (K := K) (CX := fun _ => CX) (sp := fun w => sp (K w.params)) hn hn2 hdf hr hY F (fun w H a ns h1 h2 h3 => hsp (K w.params) H a ns h1 h2 h3) fun _ H s e s' => hCX H s e s'
end L2

/- THE LAST THEOREM (shape; LID, My.* are yours):
   My.Adr: a structure of the addresses that your layer names (classes, functions); My.Txt K t: a structure (Prop) of the equations over K;
   My.txt_mk : {K} {implicit addresses ..} (e1 : nsIn K mainGlobals "law" = some (some (.ref f))) (e2 : K.lookup f = some ⟨oc, od, .func (fnOf "law" "law" params body scope dV kV doc pm an cdv ct), sl⟩) (e3 : codeIn K cdv "law" = true) .. : ∃ t, My.Txt K t

set_option maxRecDepth 100000 in
set_option maxHeartbeats 0 in
theorem PySem.Challenge.cw_LID_holds : PySem.Challenge.rw_LID.Holds := by
 w_on; o_law; k_head; (case hw => w_witness2)
 k_fill
 refine L2.walk_of (l := PySem.Challenge.rw_LID) (n := 63) (k := 40) (x := "script") (CX := fun w => ..) (sp := fun _ => My.sp_law) rfl (by decide) rfl ⟨rfl, by decide, by decide⟩ (fun w h Y => PySem.W.kIn_of Y) ?F ?S ?C
 case F =>
  intro w mg fa h KX G hmg
  have T : ∃ t, My.Txt (L2.KOf KX) t := by
   dsimp only [L2.KOf]                          -- K must stand as «<heap const> w.params» for k_is
   refine' My.txt_mk ?e1 ?e2 ?e3 ..
   (case e1 => PySem.W.k_is)                    -- in the order: a name -> its address -> its object -> its parts
   (case e2 => PySem.W.k_is)
   ..
  obtain ⟨t, T⟩ := T
  have e0 := hmg.symm.trans (PySem.W.mg_of KX G T.law)
  cases e0                                       -- fa is the law's own address
  exact ⟨_, fun s u => .of_eq rfl, fun base kb nb => My.law_fn T kb nb⟩     -- if «.of_eq rfl» comes too early: refine' ⟨_, ?b, fun base kb nb => My.law_fn T kb nb⟩; exact fun s u => .of_eq rfl
 case S => exact fun w H a ns hl hO hS => ..
 case C => exact ..
(the tactic k_is has no namespace: write k_is) -/

/-! SHORT WORDS over the layer: a def of the text, its body, what a loop and a test want. -/
namespace L2
open PySem PySem.Spec PyProof.Rows

/-! ### the text by places -/
noncomputable def defArgs (s : Stmt) : Arguments := match s with
 | .FunctionDef _ a _ _ _ _ _ _ _ _ => a
 | _ => { posonlyargs := [], args := [], vararg := none, kwonlyargs := [], kw_defaults := [], kwarg := none, defaults := [] }
noncomputable def defBody (s : Stmt) : List Stmt := match s with
 | .FunctionDef _ _ b _ _ _ _ _ _ _ => b
 | _ => []
noncomputable def defScope (s : Stmt) : Scope := match s with
 | .FunctionDef _ _ _ _ _ _ sc _ _ _ => sc
 | _ => { kind := .function, names := [], isGenerator := false, isCoroutine := false }

/-! ### no exception leaves a def -/
noncomputable abbrev CX0 : CXT := fun _ _ _ _ _ _ => False
noncomputable abbrev E0 : XK := fun _ _ _ => False
theorem pass0 {X : Cx} : Passes CX0 X E0 := fun _ _ _ _ _ _ _ h => h.elim

/-! ### a def (or method) of the text as it stands behind the top -/
structure Fun (K : PySem.W.Frag) (x qual : Str) (st : Stmt) (f : Addr) (fd : FuncData) : Prop where
 ex : ∃ (oc : Value) (od : Option Addr) (kV doc pm : Value) (an : Option Addr) (cdv ct : Value) (osl : Array (Option Value)),
  fd = PySem.W.fnOf x qual (defArgs st) (defBody st) (defScope st) .none kV doc pm an cdv ct ∧ K.lookup f = some ⟨oc, od, .func fd, osl⟩ ∧ PySem.W.codeIn K cdv qual = true
 kp : PySem.W.keepIn K (.ref f) = true
section
variable {P : Program} {w : World} {K : PySem.W.Frag} {mg : Str → Option Value} {base : Heap}
theorem Fun.ok {x qual : Str} {st : Stmt} {f : Addr} {fd : FuncData} {N ps : List Str} {k : Nat} {sp : Sp} (F : Fun K x qual st f fd) (S : FnScope N ps (defScope st)) (len : ∀ vs H Q E, sp vs H Q E → vs.length = ps.length)
  (hbody : ∀ (cdv : Value) (A : Around) (outer : List Env) (s : Shared) (H : Hp) (vs : List V) (Q : VK) (E : XK), Room k (A.deeper (envOfC qual (defScope st) s.heap.objs.size f cdv)) → sp vs H Q E →
   ∃ t, PSs (cxOf CX0 P w K mg base N qual (defScope st) f cdv A outer s H E).nox (defBody st) t ∧ t { nx := fun _ H' => Q .non H', rt := Q } (start N vs) H) : FnOk P w K mg base CX0 (k + 1) f fd ps sp := by
 obtain ⟨oc, od, kV, doc, pm, an, cdv, ct, osl, rfl, lk, hcd⟩ := F.ex
 refine fn_of lk hcd S len fun A outer s H vs Q E hr hsp => ?_
 obtain ⟨t, h, q⟩ := hbody cdv A outer s H vs Q E hr hsp
 exact ⟨t, h.nox, q⟩
theorem Fun.binds {x qual : Str} {st : Stmt} {f : Addr} {fd : FuncData} {ps : List Str} (F : Fun K x qual st f fd)
  (h : ∀ (kV doc pm : Value) (an : Option Addr) (cdv ct : Value) (us : List Value), us.length = ps.length → bindArgs (PySem.W.fnOf x qual (defArgs st) (defBody st) (defScope st) .none kV doc pm an cdv ct) ⟨us, []⟩ = pure (ps.zip us)) : Binds K fd ps [] := by
 obtain ⟨oc, od, kV, doc, pm, an, cdv, ct, osl, rfl, lk, hcd⟩ := F.ex
 exact .all (h kV doc pm an cdv ct)
theorem fun_mk {x qual : Str} {st : Stmt} {f : Addr} {oc : Value} {od an : Option Addr} {osl : Array (Option Value)} {kV doc pm cdv ct : Value} (l : K.lookup f = some ⟨oc, od, .func (PySem.W.fnOf x qual (defArgs st) (defBody st) (defScope st) .none kV doc pm an cdv ct), osl⟩)
  (c : PySem.W.codeIn K cdv qual = true) (k : PySem.W.keepIn K (.ref f) = true) : Fun K x qual st f (PySem.W.fnOf x qual (defArgs st) (defBody st) (defScope st) .none kV doc pm an cdv ct) := ⟨⟨oc, od, kV, doc, pm, an, cdv, ct, osl, rfl, l, c⟩, k⟩
end
theorem hu_of {A : Around} {k : Nat} (hr : Room k A) : A.units + 1 < cLine := Nat.lt_of_le_of_lt (Nat.add_le_add_left (by decide : 1 ≤ 64) _) hr.units
theorem small1000 {n : Nat} (h : n ≤ 1000) : n < sizeLine := Nat.lt_of_le_of_lt h (by decide)

/-! ### expressions in short: the name that stands in the i-th slot -/
section
variable {X : Cx}
theorem pv (i : Nat) {x : Str} {pos : Pos} (hN : X.N[i]? = some x := by rfl) (hv : Vis X.env.scope x := by first | exact Or.inl rfl | exact Or.inr (Or.inl rfl) | exact Or.inr (Or.inr rfl)) (hd : (x == ("__debug__" : Str)) = false := by decide)
  (hcd : (x == ("__classdict__" : Str)) = false := by decide) : PE X (.Name x pos) (tVar i) := pe_var hN hv hd hcd
end

/-! ### tests -/
theorem iteF {A B : Prop} (h : B) : if false = true then A else B := by
 rw [if_neg Bool.false_ne_true]
 exact h
theorem iteT {A B : Prop} (h : A) : if true = true then A else B := by
 rw [if_pos rfl]
 exact h
theorem ite2 {c A B : Prop} [Decidable c] (h1 : c → A) (h2 : ¬ c → B) : if c then A else B := by
 by_cases h : c
 ·rw [if_pos h]
  exact h1 h
 ·rw [if_neg h]
  exact h2 h
/-! ### heaps -/
noncomputable def Same (H H' : Hp) : Prop := ∀ b o, H b = some o → H' b = some o
theorem Same.refl (H : Hp) : Same H H := fun _ _ h => h
theorem Same.trans {H H1 H2 : Hp} (a : Same H H1) (b : Same H1 H2) : Same H H2 := fun c o h => b c o (a c o h)
theorem Same.free {H H' : Hp} (e : Same H H') {l : Addr} (h : H' l = Option.none) : H l = Option.none := by
 cases q : H l with
 | none => rfl
 | some o =>
  rw [e l o q] at h
  cases h
theorem Same.seq {K : PySem.W.Frag} {H H' : Hp} {a : Addr} {xs : List V} (e : Same H H') (h : SqL K H a xs) : SqL K H' a xs := by
 rcases h with (h | ⟨o, h⟩) | h
 ·exact .inl (.inl (e _ _ h))
 ·exact .inl (.inr ⟨o, e _ _ h⟩)
 ·exact .inr h

/-! ### a dict's pairs: keys that differ -/
section
variable {κ : Type} [DecidableEq κ]
end
end L2

namespace Tc
theorem fmod_pos {t b : Int} (h : 0 < b) : 0 ≤ t.fmod b ∧ t.fmod b < b := by
 rw [Int.fmod_eq_emod_of_nonneg _ (Int.le_of_lt h)]
 exact ⟨Int.emod_nonneg _ (by omega), Int.emod_lt_of_pos _ h⟩
theorem fmod_neg {t b : Int} (h : b < 0) : b < t.fmod b ∧ t.fmod b ≤ 0 := by
 have e : t.fmod b = -((-t).fmod (-b)) := by
  have h1 := Int.mul_fdiv_add_fmod t b
  have h2 := Int.mul_fdiv_add_fmod (-t) (-b)
  rw [Int.neg_fdiv_neg] at h2
  have h3 : -b * t.fdiv b = -(b * t.fdiv b) := Int.neg_mul _ _
  rw [h3] at h2
  omega
 have p := fmod_pos (t := -t) (b := -b) (by omega)
 omega
theorem gcd_fmod (t b : Int) : Int.gcd b (t.fmod b) = Int.gcd t b := by
 have h1 := Int.mul_fdiv_add_fmod t b
 have e : t.fmod b = t + b * (-(t.fdiv b)) := by
  rw [Int.mul_neg]; omega
 rw [e, Int.gcd_comm, Int.gcd_add_mul_left_left]
structure Dv (t₀ b₀ t b : Int) : Prop where
 g : Int.gcd t b = Int.gcd t₀ b₀
 p : 0 < b₀ → 0 ≤ b ∧ (b = 0 → 0 < t)
 n : b₀ < 0 → b ≤ 0 ∧ (b = 0 → t < 0)
theorem Dv.less {t b : Int} (h : b ≠ 0) : (t.fmod b).natAbs < b.natAbs := by
 rcases Int.lt_or_gt_of_ne h with q | q
 ·have r := fmod_neg (t := t) q; omega
 ·have r := fmod_pos (t := t) q; omega
end Tc
namespace Tc
end Tc
namespace L2
open PySem PySem.Spec PyProof.Rows
/-! ### own rules: large ints, isinstance, steps of a range, calls by a bundled fact -/
theorem bt_isinstance : bootBuiltins "isinstance" = some (.builtin "isinstance") := by decide +kernel
theorem bt_int : bootBuiltins "int" = some (.type "int") := by decide +kernel
theorem bt_bool : bootBuiltins "bool" = some (.type "bool") := by decide +kernel
theorem bt_str : bootBuiltins "str" = some (.type "str") := by decide +kernel
theorem bt_list : bootBuiltins "list" = some (.type "list") := by decide +kernel
theorem bt_tuple : bootBuiltins "tuple" = some (.type "tuple") := by decide +kernel
theorem bt_dict : bootBuiltins "dict" = some (.type "dict") := by decide +kernel
theorem bt_ValueError : bootBuiltins "ValueError" = some (.type "ValueError") := by decide +kernel
section
variable {X : Cx}
theorem op_mulB : OpR X (binaryOp .Mult) (rI IntMulOk fun i j => .int (i * j)) := opI fun _ _ _ _ _ _ _ hc q => mul_int q hc
noncomputable def CDivB (_ j : Int) : Prop := j ≠ 0 ∧ j.natAbs.log2 < 9000
theorem op_fdivB : OpR X (binaryOp .FloorDiv) (rI CDivB fun i j => .int (i.fdiv j)) := opI fun _ _ _ _ _ _ _ hc q => floordiv_int hc.1 q (.inl (PyProof.noPylong_of_log2 hc.2))
theorem log2_lt {n k : Nat} (h : n < 2 ^ k) (hk : 0 < k) : n.log2 < k := by
 rcases Nat.eq_zero_or_pos n with h0 | hp
 ·subst h0
  have : Nat.log2 0 = 0 := by decide
  omega
 ·exact (Nat.log2_lt (Nat.ne_of_gt hp)).mpr h
theorem mulOk_of {a b : Int} (k : Nat) (ha : a.natAbs < 2 ^ k) (hb : b.natAbs < 2 ^ k) (h : k ≤ 67108864) : IntMulOk a b := by
 have bits : ∀ x : Int, x.natAbs < 2 ^ k → Builtin.Int.intBits x ≤ k := fun x hx => by
  unfold Builtin.Int.intBits
  split
  ·exact Nat.zero_le _
  ·rename_i hx0
   rcases Nat.eq_zero_or_pos k with h0 | hp
   ·subst h0
    have : x = 0 := by
     have : x.natAbs < 1 := hx
     omega
    simp [this] at hx0
   ·have := log2_lt hx hp
    omega
 exact IntMulOk.of_le (bits a ha) (bits b hb) (by omega)
theorem divB_of {i j : Int} (h : j ≠ 0) (hb : j.natAbs < 2 ^ 9000) : CDivB i j := ⟨h, log2_lt hb (by decide)⟩

theorem call_isi : CallR X (.builtin "isinstance") (fun xs H Q => ∃ x n t b, xs = [x, .ty n] ∧ TyOf X.K H x t ∧ PySem.W.kitOne X.K t (.type n) = some b ∧ Q (.bl b) H) := by
 intro pins s σ H xs us Q I r h
 obtain ⟨x, n, t, b, rfl, ty, e, q⟩ := h
 obtain ⟨u, u', rfl, ru, ru'⟩ := vals2 r
 cases ru'
 exact isinst_ok I ru ty e fun tk => ⟨.bl b, H, I.tok tk, rfl, q⟩
/-! ### a range with a step -/
end

/-! ### a def of the top, as a caller wants it -/
structure FnAt (P : Program) (w : World) (K : PySem.W.Frag) (mg : Str → Option Value) (base : Heap) (CX : CXT) (k : Nat) (x : Str) (ps : List Str) (sp : Sp) : Prop where
 ex : ∃ (f : Addr) (fd : FuncData), FnOk P w K mg base CX k f fd ps sp ∧ mg x = some (.ref f) ∧ PySem.W.keepIn K (.ref f) = true ∧ Binds K fd ps []
structure DefAt (K : PySem.W.Frag) (mg : Str → Option Value) (x : Str) (st : Stmt) : Prop where
 ex : ∃ (f : Addr) (fd : FuncData), Fun K x x st f fd ∧ mg x = some (.ref f)
theorem DefAt.mk' {K : PySem.W.Frag} {h : Heap} {mg : Str → Option Value} {x : Str} {st : Stmt} {f : Addr} {oc : Value} {od an : Option Addr} {osl : Array (Option Value)} {kV doc pm cdv ct : Value} (X : K.In h) (G : h.Ns mainGlobals mg)
  (a : PySem.W.nsIn K mainGlobals x = some (some (.ref f))) (l : K.lookup f = some ⟨oc, od, .func (PySem.W.fnOf x x (defArgs st) (defBody st) (defScope st) .none kV doc pm an cdv ct), osl⟩)
  (c : PySem.W.codeIn K cdv x = true) (k : PySem.W.keepIn K (.ref f) = true) : DefAt K mg x st := ⟨f, _, fun_mk (st := st) l c k, PySem.W.mg_of X G a⟩
section
variable {P : Program} {w : World} {K : PySem.W.Frag} {mg : Str → Option Value} {base : Heap}
theorem DefAt.ok {x : Str} {st : Stmt} {N ps : List Str} {k : Nat} {sp : Sp} (D : DefAt K mg x st) (S : FnScope N ps (defScope st)) (len : ∀ vs H Q E, sp vs H Q E → vs.length = ps.length)
  (hb : ∀ (kV doc pm : Value) (an : Option Addr) (cdv ct : Value) (us : List Value), us.length = ps.length → bindArgs (PySem.W.fnOf x x (defArgs st) (defBody st) (defScope st) .none kV doc pm an cdv ct) ⟨us, []⟩ = pure (ps.zip us))
  (hbody : ∀ (f : Addr) (cdv : Value) (A : Around) (outer : List Env) (s : Shared) (H : Hp) (vs : List V) (Q : VK) (E : XK), Room k (A.deeper (envOfC x (defScope st) s.heap.objs.size f cdv)) → sp vs H Q E →
   ∃ t, PSs (cxOf CX0 P w K mg base N x (defScope st) f cdv A outer s H E).nox (defBody st) t ∧ t { nx := fun _ H' => Q .non H', rt := Q } (start N vs) H) : FnAt P w K mg base CX0 (k + 1) x ps sp := by
 obtain ⟨f, fd, F, m⟩ := D.ex
 exact ⟨f, fd, F.ok S len fun cdv A outer s H vs Q E hr h => hbody f cdv A outer s H vs Q E hr h, m, F.kp, F.binds hb⟩
end
section
variable {X : Cx} {CX : CXT} {k j : Nat} {ps : List Str} {sp : Sp} {E : XK} {x : Str} {p pos : Pos} {e : Expr} {es : List Expr} {t : TA}
theorem pe_fn (F : FnAt X.prog X.w X.K X.mg X.base CX j x ps sp) (hr : Room k X.A) (hg : Gl X x) (hx : Passes CX X E) (ha : PA X (e :: es) t) (hj : j ≤ k := by decide)
  (hdb : (x == ("__debug__" : Str)) = false := by decide) (he : starEach (e :: es) X.env = (false, eval e X.env) :: starEach es X.env := by rfl) (hpl : (backTo pos (starEach es X.env)).any (·.1) = false := by rfl) :
  PE X (.Call (.Name x p) (e :: es) [] pos) (tCall sp [] E t) := by
 obtain ⟨f, fd, G, m, kp, b⟩ := F.ex
 exact pe_call G (hr.mono hj) hg m kp b .nil hx ha hdb he hpl
end
end L2
namespace L2
open PySem PySem.Spec PyProof.Rows
/-! ### kinds of values, for isinstance -/
noncomputable def tyH : Option HO → Option String
 | some (.lst _) => some "list"
 | some (.frz _ (.lst _)) => some "list"
 | some (.tup _) => some "tuple"
 | some (.dK _) => some "dict"
 | some (.dT _) => some "dict"
 | _ => none
noncomputable def tyS (H : Hp) : V → Option String
 | .non => some "NoneType"
 | .bl _ => some "bool"
 | .int _ => some "int"
 | .str _ => some "str"
 | .ref a => tyH (H a)
 | _ => none
theorem tyH_cases {o : Option HO} {n : String} (h : tyH o = some n) :
  (n = "list" ∧ ((∃ xs, o = some (.lst xs)) ∨ ∃ ob xs, o = some (.frz ob (.lst xs)))) ∨ (n = "tuple" ∧ ∃ xs, o = some (.tup xs)) ∨ (n = "dict" ∧ ((∃ kvs, o = some (.dK kvs)) ∨ ∃ kvs, o = some (.dT kvs))) := by
 cases o with
 | none => cases h
 | some u =>
  cases u with
  | lst xs => cases h; exact .inl ⟨rfl, .inl ⟨xs, rfl⟩⟩
  | tup xs => cases h; exact .inr (.inl ⟨rfl, xs, rfl⟩)
  | dK kvs => cases h; exact .inr (.inr ⟨rfl, .inl ⟨kvs, rfl⟩⟩)
  | dT kvs => cases h; exact .inr (.inr ⟨rfl, .inr ⟨kvs, rfl⟩⟩)
  | frz ob v =>
   cases v with
   | lst xs => cases h; exact .inl ⟨rfl, .inr ⟨ob, xs, rfl⟩⟩
   | _ => cases h
  | _ => cases h
theorem tyOf_of {K : PySem.W.Frag} {H : Hp} {v : V} {n : String} (h : tyS H v = some n) : TyOf K H v (.type n) := by
 cases v with
 | non => cases h; exact .non
 | bl b => cases h; exact .bl b
 | int i => cases h; exact .int i
 | str x => cases h; exact .str x
 | byt b => cases h
 | flt b => cases h
 | ty b => cases h
 | ref a =>
  rcases tyH_cases (show tyH (H a) = some n from h) with ⟨rfl, ⟨xs, e⟩ | ⟨ob, xs, e⟩⟩ | ⟨rfl, xs, e⟩ | ⟨rfl, ⟨kvs, e⟩ | ⟨kvs, e⟩⟩
  ·exact .lst e
  ·exact .frz e
  ·exact .tup e
  ·exact .dK e
  ·exact .dT e
noncomputable def subS (n m : String) : Bool := n == m || (n == "bool" && m == "int")
theorem kit_tt {K : PySem.W.Frag} {n m : String} (hn : n ∈ ["NoneType", "bool", "int", "str", "list", "tuple", "dict"]) (hm : m ∈ ["int", "bool", "str", "list", "tuple", "dict"]) :
  PySem.W.kitOne K (.type n) (.type m) = some (subS n m) := by
 simp only [List.mem_cons, List.not_mem_nil, or_false] at hn hm
 rcases hn with rfl | rfl | rfl | rfl | rfl | rfl | rfl <;> rcases hm with rfl | rfl | rfl | rfl | rfl | rfl <;> first | rfl | (with_unfolding_all rfl) | decide +kernel
theorem Same.upd {H : Hp} {p : Addr} {o : HO} (h : H p = none) : Same H (upd H p o) := fun b u e => by
 rw [upd_ne (ne_of_none e h)]; exact e
end L2
namespace L2
open PySem PySem.Spec PyProof.Rows
/-! ### exceptions: what lies behind a call that raises -/
section
variable {P : Program} {w : World} {H H' : Hp} {h h' : Heap} {a : Addr} {o : HO}
theorem ObjOk.there (x : ObjOk P w H h a o) : ∃ ob, h.get? a = some ob := by
 cases o with
 | lst xs => obtain ⟨_, _, _, _, e⟩ := x; exact ⟨_, e⟩
 | tup xs => obtain ⟨_, _, _, ob, e, _⟩ := x; exact ⟨ob, e⟩
 | dK kvs => obtain ⟨_, _, _, _, ob, _, _, e, _⟩ := x; exact ⟨ob, e⟩
 | dT kvs => obtain ⟨_, _, _, _, ob, _, _, e, _⟩ := x; exact ⟨ob, e⟩
 | set S n => obtain ⟨ob, _, _, _, e, _⟩ := x; exact ⟨ob, e⟩
 | ins C dx fs => obtain ⟨_, _, _, e, _⟩ := x; exact ⟨_, e⟩
 | own y => obtain ⟨ob, e⟩ := x; exact ⟨ob, e⟩
 | xd fs => obtain ⟨_, ⟨ob, _, _, e, _⟩, _⟩ := x; exact ⟨ob, e⟩
 | rng lo hi => obtain ⟨_, _, _, e⟩ := x; exact ⟨_, e⟩
 | frz ob u => obtain ⟨e, _⟩ := x; exact ⟨_, e⟩
 | tbl ps => exact ⟨_, (show h.get? a = some _ from x)⟩
 | met f y => exact ⟨_, (show h.get? a = some _ from x)⟩
 | ext φ => obtain ⟨_, ⟨ob, e⟩, _⟩ := x; exact ⟨ob, e⟩
theorem HOk.via (x : HOk P w H h) (k : ∀ b u ob, H b = some u → h.get? b = some ob → h'.get? b = some ob) : HOk P w H h' := fun b u e =>
 (x b u e).stay (fun c ob hc q => by
  rcases hc with z | z
  ·subst z; exact k c u ob e q
  ·exact k c _ ob z q) (fun _ q => q) fun _ _ q => q
end
theorem frs_cons {env : Env} {L : Addr} {outer : List Env} (hf : env.frame = some L) : frs (env :: outer) = L :: frs outer := by
 unfold frs; rw [List.filterMap_cons, hf]
structure Kp (P : Program) (w : World) (outer : List Env) (H : Hp) (h : Heap) (H' : Hp) (h' : Heap) (B : Heap) : Prop where
 hok : HOk P w H' h'
 un : Un (frs outer) [] H H' h h'
 old : ∀ b o, h.get? b = some o → H b = none → b ∉ frs outer → B.get? b = some o
 has : ∀ b o, h.get? b = some o → b ∉ frs outer → ∃ o', B.get? b = some o'
 trk : ∀ b u, H' b = some u → ∃ o, h'.get? b = some o ∧ B.get? b = some o
section
variable {X : Cx} {pins : List (Addr × Obj)} {σ : St} {H1 H2 : Hp} {s1 : Shared} {h2 h3 B : Heap} {a : Addr} {C a0 : Value} {vs : List Value}
theorem Kp.raise (I : Inv X pins σ H1 s1) (hx : Heap.MadeExcOf s1.heap h2 a C vs) : Kp X.prog X.w X.stack H1 s1.heap H1 h2 (PySem.W.hideAll s1.heap (frs X.stack)) where
 hok := I.hok.kept hx.keeps
 un := Un.kept hx.keeps
 old := fun b o e _ hb => PySem.W.hideAll_get _ e hb
 has := fun b o e hb => ⟨o, PySem.W.hideAll_get _ e hb⟩
 trk := fun b u e => by
  obtain ⟨o, q⟩ := (I.hok b u e).there
  refine ⟨o, hx.keeps b o q, PySem.W.hideAll_get _ q fun hb => ?_⟩
  rw [I.stkFree b hb] at e; cases e
theorem Kp.slots (I : Inv X pins σ H1 s1) (K : Kp X.prog X.w X.stack H1 s1.heap H2 h2 B) (st : B.StaysIn h3) (sl : h2.UpToSlots h3) : Kp X.prog X.w X.stack H1 s1.heap H2 h3 B := by
 have trk3 : ∀ b u, H2 b = some u → ∃ o, h3.get? b = some o ∧ B.get? b = some o := fun b u e => by
  obtain ⟨o, _, q⟩ := K.trk b u e
  exact ⟨o, st b o q, q⟩
 have fr : ∀ b o, s1.heap.get? b = some o → H1 b = none → b ∈ frs X.stack → ∃ sl, h3.get? b = some { o with slots := sl } := fun b o e n hb => by
  obtain ⟨sl1, e1⟩ := K.un.slot b o e n hb (by simp)
  obtain ⟨_, o', e', d⟩ := I.stack.mem hb
  rw [e] at e'
  cases e'
  obtain ⟨sl2, e2⟩ := sl b _ e1 d
  exact ⟨sl2, e2⟩
 refine ⟨K.hok.via fun b u ob e q => ?_, ⟨fun b o e n hb _ => st b o (K.old b o e n hb), fun b o e n hb _ => fr b o e n hb, K.un.free, fun b o e hx => ?_, K.un.tups, K.un.frzs, K.un.tbls⟩, K.old, K.has, trk3⟩
 ·obtain ⟨o, q1, q2⟩ := K.trk b u e
  rw [q] at q1
  cases q1
  exact st b ob q2
 ·by_cases hb : b ∈ frs X.stack
  ·obtain ⟨sl1, e1⟩ := fr b o e (I.stkFree b hb) hb
   exact ⟨_, e1⟩
  ·obtain ⟨o', e'⟩ := K.has b o e hb
   exact ⟨o', st b o' e'⟩
theorem Kp.leave (I : Inv X pins σ H1 s1) (hex : X.ex = []) (hst : X.stack = X.env :: X.outer) (hf : X.env.frame = some X.env.locals) (K : Kp X.prog X.w X.stack H1 s1.heap H2 h2 B) (st : B.StaysIn h3) (sl : h2.UpToSlots h3) :
  Kp X.prog X.w X.outer X.H₀ X.s₀.heap H2 h3 B := by
 have K3 := K.slots I st sl
 have fe : frs X.stack = X.env.locals :: X.fs := by rw [hst]; exact frs_cons hf
 have nex : ∀ b : Addr, b ∉ X.ex := fun b z => by rw [hex] at z; cases z
 have nin : ∀ b o, X.s₀.heap.get? b = some o → b ∉ X.fs → b ∉ frs X.stack := fun b o e hb z => by
  rw [fe] at z
  rcases List.mem_cons.mp z with z | z
  ·have h1 := Heap.lt_size e
   have h2 := I.ok.above
   rw [z] at h1
   exact absurd (Nat.lt_of_lt_of_le h1 h2) (Nat.lt_irrefl _)
  ·exact hb z
 have old : ∀ b o, X.s₀.heap.get? b = some o → X.H₀ b = none → b ∉ frs X.outer → B.get? b = some o := fun b o e n hb =>
  K.old b o (I.base.keep b o e n hb (nex b)) (I.base.free b o e n (nex b)) (nin b o e hb)
 refine ⟨K3.hok, ⟨fun b o e n hb _ => st b o (old b o e n hb), fun b o e n hb _ => ?_, fun b o e n _ => ?_, fun b o e _ => ?_, fun b xs e => K3.un.tups b xs (I.base.tups b xs e), fun b o u e => K3.un.frzs b o u (I.base.frzs b o u e), fun b ps e => ?_⟩, old, fun b o e hb => ?_, K3.trk⟩
 ·obtain ⟨sl1, e1⟩ := I.base.slot b o e n hb (nex b)
  obtain ⟨sl2, e2⟩ := K3.un.slot b _ e1 (I.base.free b o e n (nex b)) (by rw [fe]; exact List.mem_cons_of_mem _ hb) (by simp)
  exact ⟨sl2, e2⟩
 ·obtain ⟨o1, e1⟩ := I.base.there b o e (nex b)
  exact K3.un.free b o1 e1 (I.base.free b o e n (nex b)) (by simp)
 ·obtain ⟨o1, e1⟩ := I.base.there b o e (nex b)
  exact K3.un.there b o1 e1 (by simp)
 ·obtain ⟨m1, e1⟩ := I.base.tbls b ps e
  obtain ⟨m2, e2⟩ := K3.un.tbls b _ e1
  exact ⟨m1 ++ m2, by rw [e2, Array.append_assoc]⟩
 ·obtain ⟨o1, e1⟩ := I.base.there b o e (nex b)
  exact K.has b o1 e1 (nin b o e hb)
end
noncomputable def CXE (P : Program) (w : World) : CXT := fun outer H s E e s' => ∃ (a : Addr) (C : Value) (H' : Hp) (B : Heap) (a0 : Value),
 e = .ref a ∧ s'.os = s.os ∧ AllBare s'.gens ∧ Kp P w outer H s.heap H' s'.heap B ∧ Heap.FlyingW B outer a C a0 s'.heap ∧ E C none H'
noncomputable def Raises (X : Cx) (E : XK) : Prop := ∀ (C : Value) (pins : List (Addr × Obj)) (σ : St) (H1 : Hp) (s1 : Shared) (h2 : Heap) (a : Addr) (vs : List Value), Inv X pins σ H1 s1 → Heap.MadeExcOf s1.heap h2 a C vs → E C none H1 → X.xe (.ref a) { s1 with heap := h2 }
section
variable {P : Program} {w : World} {K : PySem.W.Frag} {mg : Str → Option Value} {base : Heap} {N : List Str} {qual : Str} {scope : Scope} {f : Addr} {cd : Value} {A : Around} {outer : List Env} {s : Shared} {H : Hp} {E : XK}
theorem raises_cx : Raises (cxOf (CXE P w) P w K mg base N qual scope f cd A outer s H E) E := by
 intro C pins σ H1 s1 h2 a vs I hx q
 have hl := PySem.W.funFrames_hide (as := frs (cxOf (CXE P w) P w K mg base N qual scope f cd A outer s H E).stack) I.stack fun env he b hb => List.mem_filterMap.mpr ⟨env, he, hb⟩
 refine wpAny_leaves_madeW I.ok.frames rfl (fun b o q => PySem.W.of_hideAll _ q) hl hx fun h3 t fl _ _ sl => ?_
 exact ⟨a, C, H1, _, .ref t, rfl, I.os, I.bare, (Kp.raise I hx).leave I rfl rfl rfl fl.1 sl, fl, q⟩
theorem passE : Passes (CXE P w) (cxOf (CXE P w) P w K mg base N qual scope f cd A outer s H E) E := by
 intro pins σ H1 s1 e s2 I hq
 obtain ⟨a, C, H2, B, a0, rfl, os, bare, Kq, fl, q⟩ := hq
 refine wpAny_leaves_onW I.ok.frames rfl fl fun h3 fl3 sl => ?_
 exact ⟨a, C, H2, B, a0, rfl, os.trans I.os, bare, Kq.leave I rfl rfl rfl fl3.1 sl, fl3, q⟩
end
/-! ### raise C(..), C a class of the text under a built-in error, without an __init__ -/
theorem excObj_of {K : PySem.W.Frag} {h : Heap} {C : Addr} {bmB : List Value} {newId : String} (X : K.In h) (q : PySem.W.excIn K C bmB newId = true) :
  ∃ bm N nm qn bs hdct sn sub ab col dd k0 k1 k2 k3 k5 mN, h.get? C = some (excClassObj nm qn C N bs bm hdct sn sub ab col dd k0 k1 k2 k3 k5 newId) ∧ h.Ns N mN ∧ mN "__init__" = none ∧ OwnTail h bmB bm := by
 unfold PySem.W.excIn at q
 split at q
 ·rename_i d1 cd1 sl1 look
  split at q
  ·rename_i C1 bm1 s0 s1 s2 s3 n1 s5 hmro hslots
   simp only [beq_iff_eq, Bool.not_eq_true', Bool.and_eq_true] at q
   obtain ⟨⟨⟨⟨⟨q1, q2⟩, hdel⟩, htl⟩, hns⟩, hini⟩ := q
   subst q1 q2
   obtain ⟨u1, u2, u3, u4, u5, u6, u7, u8, u9, u10, u11⟩ := cd1
   dsimp only at hmro hdel hns hini
   subst hmro hdel
   have es : sl1 = #[s0, s1, s2, s3, some (.builtin n1), s5] := by
    cases sl1 with
    | mk l =>
     have : l = [s0, s1, s2, s3, some (.builtin n1), s5] := hslots
     rw [this]
   subst es
   have at_ := X _ _ look
   refine ⟨bm1, u4, u1, u5, u2, u6, u7, u8, u9, u10, d1, s0, s1, s2, s3, s5, _, at_, .of_isNs (PySem.W.isNs_of_in X hns), ?_, PySem.W.tail_of_in X htl⟩
   exact PySem.W.nsMap_none_of_in X hns hini
  ·cases q
 ·cases q
section
variable {X : Cx} {E : XK} {C : Addr} {B newId initId : String} {bmB : List Value} {x : Str} {np cpos pos : Pos} {e₀ : Expr} {rest : List Expr} {t : TA}
noncomputable def tRaise (C : Addr) (E : XK) (t : TA) : TS := fun _ σ H => t σ H fun vs H1 => vs.length ≤ sizeLine ∧ E (.ref C) none H1
theorem ps_raise (R : Raises X E) (hc : X.calm = true) (hg : Gl X x) (hm : X.mg x = some (.ref C)) (hq : PySem.W.excIn X.K C bmB newId = true) (FB : ExcBaseFacts B newId initId bmB) (ha : PA X (e₀ :: rest) t)
  (he : starEach (e₀ :: rest) X.env = (false, eval e₀ X.env) :: starEach rest X.env := by rfl) (hpl : (backTo cpos (starEach rest X.env)).any (·.1) = false := by rfl) (hd : (x == ("__debug__" : Str)) = false := by decide) :
  PS X (.Raise (some (.Call (.Name x np) (e₀ :: rest) [] cpos)) none pos) (tRaise C E t) := by
 intro pins s σ H D I h
 obtain ⟨tl, N, nm, qn, bs, hdct, sn, sub, ab, col, dd, k0, k1, k2, k3, k5, mN, hC, hN, hni, T⟩ := excObj_of I.mod.kin hq
 refine wpAny_Raise_call_subT (k5 := k5) (k3 := k3) (k2 := k2) (k1 := k1) (k0 := k0) (dd := dd) (col := col) (ab := ab) (sub := sub) (sn := sn) (hdct := hdct) (bm := tl) (bs := bs) (N := N) (q := qn) (nm := nm) (C := C) FB (mN := mN) (T.hasType FB.hasBase) (I.ok.hd hc) ?_ hni (ld_glob I hg hm ⟨rfl, ?_⟩ hd)
 ·rw [he]
  show (false || (backTo cpos (starEach rest X.env)).any (·.1)) = false
  rw [hpl]; rfl
 ·have h1 := ha cpos pins s σ H _ I h
  rw [he] at h1 ⊢
  refine Calls.evalArgs_plain (wpAny_mono h1 (fun us s1 z => ?_) fun _ _ y => y)
  obtain ⟨vs, H1, I1, r, hz, q⟩ := z
  exact ⟨rfl, by rw [← r.length]; exact hz, I1.bk _ _ hC, hN.keeps I1.bk, T.keeps I1.bk, fun h' a hx => R _ pins σ H1 s1 h' a us I1 hx q⟩
end
end L2
namespace L2
open PySem PySem.Spec PyProof.Rows
/-! ### try: .. except C as n: .. -/
section
variable {X : Cx} {pins : List (Addr × Obj)} {σ : St} {H H1 H2 : Hp} {s s1 s2 : Shared} {B : Heap}
theorem Kp.inv (I : Inv X pins σ H1 s1) (K : Kp X.prog X.w X.stack H1 s1.heap H2 s2.heap B) (os : s2.os = s1.os) (bare : AllBare s2.gens) : Inv X pins σ H2 s2 :=
 I.call' os K.un K.hok bare fun b z => absurd z (by simp)
noncomputable abbrev Cx.hand (X : Cx) (a : Addr) : Cx := { X with A := X.A.mark (some (.ref a)), calm := false, xe := fun _ _ => False }
theorem Inv.hand (I : Inv X pins σ H s) (a : Addr) : Inv (X.hand a) pins σ H s :=
 ⟨⟨I.ok.mod, I.ok.kind, I.ok.glob, I.ok.blt, I.ok.above, I.ok.inj, I.ok.has, I.ok.cab, fun z => (Bool.false_ne_true z).elim, I.ok.frames, I.ok.stk, I.ok.exf, I.ok.bs, I.ok.bsz, I.ok.noex, I.ok.exfs, I.ok.funs, I.ok.frf⟩,
  I.os, I.bare, I.base, I.loc, I.cell, I.free, I.freeC, I.pin, I.hok, I.len⟩
theorem Inv.unhand {a : Addr} (ok : X.Ok) (I : Inv (X.hand a) pins σ H s) : Inv X pins σ H s := ⟨ok, I.os, I.bare, I.base, I.loc, I.cell, I.free, I.freeC, I.pin, I.hok, I.len⟩
theorem name_goesI {M : Model} {A : Around} {E : Value → Shared → Prop} {i : Nat} {n : Str} {pos : Pos} {Q : Unit → Shared → Prop} (I : Inv X pins σ H s) (hN : X.N.Nodup) (hi : X.N[i]? = some n) (hk : X.env.scope.names.lookup n = some .local)
  (h : ∀ s', Inv X pins (σ.set i none) H s' → Q () s') : wpAny M A (do bindName X.env n .none; unbindBehindTheSuite X.env n pos) Q E s := by
 obtain ⟨m, hn, hl⟩ := id I.loc
 have hcls : (X.env.scope.kind == .class || (X.env.scope.kind == .module && X.env.locals != X.env.globals)) = false := by rw [I.ok.kind]; rfl
 obtain ⟨oL, _, _, hoL, _⟩ := id hn
 refine wpAny_nameGoes_keeps hk hn hcls fun h' v hn' hs => ?_
 have old : ∀ b o, X.s₀.heap.get? b = some o → b ≠ X.env.locals := fun b o e => Nat.ne_of_lt (Nat.lt_of_lt_of_le (Heap.lt_size e) I.ok.above)
 refine h _ ⟨I.ok, I.os, I.bare, ⟨fun b o e n' hb hx => ?_, fun b o e n' hb hx => ?_, I.base.free, fun b o e hx => ?_, I.base.tups, I.base.frzs, I.base.tbls⟩, ⟨_, hn', fun j y v' e1 e2 e3 => ?_⟩, fun y c e => ?_, I.free, I.freeC, fun p hp => ?_, fun b ob e => ?_, by simpa using I.len⟩
 ·exact (hs.2 b (old b o e)).trans (I.base.keep b o e n' hb hx)
 ·obtain ⟨sl, q⟩ := I.base.slot b o e n' hb hx
  exact ⟨sl, (hs.2 b (old b o e)).trans q⟩
 ·obtain ⟨o', q⟩ := I.base.there b o e hx
  exact ⟨o', (hs.2 b (old b o e)).trans q⟩
 ·have hj : j ≠ i := by
   intro z; subst z
   rw [List.getElem?_set] at e2
   split at e2
   ·split at e2 <;> cases e2
   ·exact absurd rfl (by assumption)
  rw [List.getElem?_set_ne (Ne.symm hj)] at e2
  obtain ⟨u', r', q⟩ := hl j y v' e1 e2 e3
  refine ⟨u', r', ?_⟩
  rcases q with ⟨k, e⟩ | ⟨k, c, e, z⟩
  ·refine .inl ⟨k, ?_⟩
   have hy : y ≠ n := fun e => hj (nodup_ix hN e1 (e ▸ hi))
   simp [hy, e]
  ·exact .inr ⟨k, c, e, z.sameBut hs (I.cne y c e)⟩
 ·obtain ⟨w', z⟩ := I.cell y c e
  exact ⟨w', z.sameBut hs (I.cne y c e)⟩
 ·obtain ⟨e, n', ne, nf, d⟩ := I.pin p hp
  exact ⟨(hs.2 p.1 ne).trans e, n', ne, nf, d⟩
 ·refine (I.hok b ob e).stay (fun c w' hc q => (hs.2 c ?_).trans q) (fun _ q => q) fun _ _ q => q
  rintro rfl
  rcases hc with z | z
  ·rw [← z, I.free] at e; cases e
  ·rw [I.free] at z; cases z
end
noncomputable def excO (a : Addr) (C : Value) : HO := .ext fun h => ∃ oe vs, h.get? a = some oe ∧ oe.cls = C ∧ oe.data = .fields vs
noncomputable def Hd (X : Cx) (hds : List ExceptHandler) (th : Value → TS) : Prop :=
 ∀ (pins : List (Addr × Obj)) (σ : St) (H1 H2 : Hp) (s1 s2 : Shared) (D : Ends) (a : Addr) (C : Value) (B : Heap) (a0 : Value), Inv X pins σ H1 s1 → s2.os = s1.os → AllBare s2.gens → Kp X.prog X.w X.stack H1 s1.heap H2 s2.heap B →
  Heap.FlyingW B X.stack a C a0 s2.heap → th C D σ H2 → wpAny (model X.prog X.w) X.A (handleBy (.ref a) X.env hds) (SP X pins D) X.xe s2
noncomputable def PEX (X : Cx) (e : Expr) (t : St → Hp → VK → XK → Prop) : Prop :=
 ∀ (pins : List (Addr × Obj)) (s : Shared) (σ : St) (H : Hp) (Q : VK) (E : XK), Inv X pins σ H s → t σ H Q E →
  wpAny (model X.prog X.w) X.A (eval e X.env) (EP X pins σ Q) (fun x s' => ∃ s1 H1, Inv X pins σ H1 s1 ∧ CXE X.prog X.w X.stack H1 s1 E x s') s
section
variable {X : Cx} {k j : Nat} {ps : List Str} {sp : Sp} {x : Str} {p pos : Pos} {e : Expr} {es : List Expr} {t : TA}
theorem pex_fn (F : FnAt X.prog X.w X.K X.mg X.base (CXE X.prog X.w) j x ps sp) (hr : Room k X.A) (hg : Gl X x) (ha : PA X.nox (e :: es) t) (hj : j ≤ k := by decide)
  (hdb : (x == ("__debug__" : Str)) = false := by decide) (he : starEach (e :: es) X.env = (false, eval e X.env) :: starEach es X.env := by rfl) (hpl : (backTo pos (starEach es X.env)).any (·.1) = false := by rfl) :
  PEX X (.Call (.Name x p) (e :: es) [] pos) (fun σ H Q E => t σ H fun vs H1 => sp vs H1 Q E) := by
 intro pins s σ H Q E I h
 obtain ⟨f, fd, G, m, kp, b⟩ := F.ex
 refine wpAny_Call_Name_kw (ld_glob I hg m ?_ hdb)
 refine PySem.W.callWith_K (h₀ := X.base) I.ok.mod.kin kp (wpAny_mono (ha pos pins s σ H _ (I.wish _) h) (fun us s1 ⟨vs, H1, I1', r, q⟩ => ⟨I1'.unwish.kIn, ?_⟩) fun _ _ z => z.elim) he hpl
 have I1 := I1'.unwish
 have hl : us.length = ps.length := by rw [← r.length]; exact G.len _ _ _ _ q
 have hb := b s1 us I1.kIn (by rw [List.append_nil]; exact hl)
 rw [List.append_nil] at hb
 refine wpAny_call (codeAny_mono (G.run X.A X.stack s1 H1 ⟨us, []⟩ us vs Q E (hr.mono hj) I1.env0 hb r q) fun r s' hq => ?_)
 cases r with
 | error x => exact ⟨s1, H1, I1, hq⟩
 | ok fl =>
  cases fl with
  | ret u => exact I1.after hq
  | next => exact False.elim hq
  | brk => exact False.elim hq
  | cont => exact False.elim hq
theorem to_hands {hd : ExceptHandler} {hds : List ExceptHandler} {th : Value → TS} {pins : List (Addr × Obj)} {σ : St} {H1 : Hp} {s1 s2 : Shared} {D : Ends} {E : XK} {ex : Value} (hst : X.stack = X.env :: X.outer) (hf : X.env.frame = some X.env.locals)
  (hh : Hd X (hd :: hds) th) (I1 : Inv X pins σ H1 s1) (hx : CXE X.prog X.w X.stack H1 s1 E ex s2) (hE : ∀ C dx H', E C dx H' → th C D σ H') :
  wpAny (model X.prog X.w) X.A (noteFrame ex X.env) (fun _ s₂ => wpAny (model X.prog X.w) X.A (setFlight ex none) (fun _ s₃ => wpAny (model X.prog X.w) X.A (handleBy ex X.env (hd :: hds)) (SP X pins D) X.xe s₃) X.xe s₂) X.xe s2 := by
 obtain ⟨a, C, H2, B, a0, rfl, os, bare, K, fl, q⟩ := hx
 rw [hst] at fl
 refine wpAny_looks_onW (by rw [I1.ok.frames, hst]) hf fl fun h3 held sl3 => ?_
 refine wpAny_landsW held fun h4 fl4 sl4 => ?_
 have st3 : B.StaysIn h3 := held.1
 have K3 := K.slots I1 st3 sl3
 have K4 := K3.slots I1 fl4.1 sl4
 rw [← hst] at fl4
 exact hh pins σ H1 H2 s1 { s2 with heap := h4 } D a C B a0 I1 os bare K4 fl4 (hE _ _ _ q)
end
section
variable {X : Cx} {pins : List (Addr × Obj)} {σ : St} {H : Hp} {s : Shared} {a : Addr} {o : HO}
theorem Inv.track (I : Inv X pins σ H s) (hn : H a = none) (hnew : X.s₀.heap.get? a = none) (hL : a ≠ X.env.locals) (hC : ∀ x c, X.env.cells.lookup x = some c → c ≠ a) (hP : ∀ p ∈ X.pn ++ pins, p.1 ≠ a)
  (ho : ObjOk X.prog X.w (upd H a o) s.heap a o) : Inv X pins σ (upd H a o) s := by
 have ne : ∀ b u, H b = some u → b ≠ a := fun b u e z => by rw [z, hn] at e; cases e
 refine ⟨I.ok, I.os, I.bare, ⟨I.base.keep, I.base.slot, fun b ob e n hx => ?_, I.base.there, fun b xs e => ?_, fun b ob u e => ?_, fun b ps e => ?_⟩, I.loc, I.cell, ?_, fun x c e => ?_, fun p hp => ?_, fun b u e => ?_, I.len⟩
 ·rw [upd_ne (fun z => by rw [z, hnew] at e; cases e)]
  exact I.base.free b ob e n hx
 ·have q := I.base.tups b xs e
  rw [upd_ne (ne b _ q)]; exact q
 ·have q := I.base.frzs b ob u e
  rw [upd_ne (ne b _ q)]; exact q
 ·obtain ⟨m, q⟩ := I.base.tbls b ps e
  exact ⟨m, by rw [upd_ne (ne b _ q)]; exact q⟩
 ·rw [upd_ne (Ne.symm hL)]; exact I.free
 ·rw [upd_ne (hC x c e)]; exact I.freeC x c e
 ·obtain ⟨e1, e2, e3⟩ := I.pin p hp
  exact ⟨e1, by rw [upd_ne (hP p hp)]; exact e2, e3⟩
 ·by_cases z : b = a
  ·subst z; rw [upd_same] at e; cases e; exact ho
  ·rw [upd_ne z] at e
   exact (I.hok b u e).stay (fun _ _ _ q => q) (fun c q => by rw [upd_ne (ne c _ q)]; exact q) fun c xs q => by rw [upd_ne (ne c _ q)]; exact q
end
noncomputable def handEnds (i : Nat) (D : Ends) : Ends where
 nx := fun σ' H' => D.nx (σ'.set i none) H'
 rt := D.rt
 bk := fun σ' H' => D.bk (σ'.set i none) H'
 ct := fun σ' H' => D.ct (σ'.set i none) H'
section
variable {X : Cx} {x n : Str} {C' : Addr} {i : Nat} {np pos : Pos} {b₀ : Stmt} {suite : List Stmt} {rest : List ExceptHandler} {ts : TS} {tr : Value → TS}
noncomputable def hAs (K : PySem.W.Frag) (C' : Addr) (i : Nat) (ts : TS) (tr : Value → TS) : Value → TS := fun C D σ H => ∃ b, PySem.W.exmOne K C (.ref C') = some b ∧
 if b = true then ∀ a, H a = none → ts (handEnds i D) (σ.set i (some (.ref a))) (upd H a (excO a C)) else tr C D σ H
theorem hd_as (hex : X.ex = []) (hN : X.N.Nodup) (hg : Gl X x) (hm : X.mg x = some (.ref C')) (hi : X.N[i]? = some n) (hk : X.env.scope.names.lookup n = some .local) (hs : ∀ a, PSs (X.hand a) (b₀ :: suite) ts) (hr : Hd X rest tr)
  (hd : (x == ("__debug__" : Str)) = false := by decide) : Hd X (.ExceptHandler (some (.Name x np)) (some n) (b₀ :: suite) pos :: rest) (hAs X.K C' i ts tr) := by
 intro pins σ H1 H2 s1 s2 D a C B a0 I1 os bare K fl h
 have I2 := K.inv I1 os bare
 obtain ⟨b, hb, h⟩ := h
 refine wpAny_handleBy_cons (codeAny_handlers_test (ld_glob (X := X.hand a) (I2.hand a) hg hm ?_ hd)) (by intro z; cases z)
 obtain ⟨oe, he, hcls⟩ := fl.there
 have LT : PySem.W.Looks (model X.prog X.w) s2.heap (typeOf (.ref a)) C := hcls ▸ (PySem.W.Looks.ld he).andThen .now
 refine (PySem.W.exm_one I2.kIn LT hb).here ?_
 cases b with
 | false => exact hr pins σ H1 H2 s1 s2 D a C B a0 I1 os bare K fl h
 | true =>
  refine codeAny_handlers_suite_as (lands_againW fl fun h6 fl6 sl6 => ?_)
  have K6 : Kp X.prog X.w X.stack H1 s1.heap H2 ({ s2 with heap := h6 } : Shared).heap B := K.slots I1 fl6.1 sl6
  have I6 := K6.inv I1 os bare
  -- the exception is none of what stood ahead of the call
  have new1 : s1.heap.get? a = none := by
   cases q : s1.heap.get? a with
   | none => rfl
   | some ob =>
    by_cases hb : a ∈ frs X.stack
    ·obtain ⟨_, o', e', d'⟩ := I6.stack.mem hb
     obtain ⟨oe6, vs6, e6, _, d6, _⟩ := fl6.first
     rw [e6] at e'
     cases e'
     exact absurd d6 (d' vs6)
    ·obtain ⟨o', e'⟩ := K.has a ob q hb
     rw [fl.2.1] at e'; cases e'
  have hn : H2 a = none := by
   cases q : H2 a with
   | none => rfl
   | some u =>
    obtain ⟨o', _, e'⟩ := K.trk a u q
    rw [fl.2.1] at e'; cases e'
  have new0 : X.s₀.heap.get? a = none := by
   cases q : X.s₀.heap.get? a with
   | none => rfl
   | some ob =>
    obtain ⟨o', e'⟩ := I1.base.there a ob q (by rw [hex]; simp)
    rw [new1] at e'; cases e'
  have hL : a ≠ X.env.locals := by
   intro z
   obtain ⟨m, ⟨oL, _, _, hoL, _⟩, _⟩ := I1.loc
   rw [← z, new1] at hoL; cases hoL
  have hCe : ∀ y c, X.env.cells.lookup y = some c → c ≠ a := fun y c e z => by
   obtain ⟨v, oc, hoc, _⟩ := I1.cell y c e
   rw [z, new1] at hoc; cases hoc
  have hPe : ∀ p ∈ X.pn ++ pins, p.1 ≠ a := fun p hp z => by
   have q := (I1.pin p hp).1
   rw [z, new1] at q; cases q
  have ho : ObjOk X.prog X.w (upd H2 a (excO a C)) h6 a (excO a C) := by
   obtain ⟨oe6, vs6, e6, c6, d6, _⟩ := fl6.first
   exact ⟨⟨oe6, vs6, e6, c6, d6⟩, ⟨oe6, e6⟩, fun g1 g2 ⟨o1, v1, q1, q2, q3⟩ kk => ⟨o1, v1, kk o1 q1, q2, q3⟩⟩
  have I7 : Inv X pins σ (upd H2 a (excO a C)) { s2 with heap := h6 } := I6.track hn new0 hL hCe hPe ho
  refine store_ok (X := X.hand a) (v := .ref a) (I7.hand a) hN hi (Or.inl hk) rfl (fun s8 I8 => ?_) (Or.inr hk)
  refine wpAny_mono (hs a pins s8 _ _ (handEnds i D) I8 (h a hn)) (fun f s9 q => ?_) fun _ _ z => z.elim
  cases f with
  | next =>
   obtain ⟨σ', H', I', q⟩ := q
   exact name_goesI (I'.unhand I1.ok) hN hi hk fun s10 I10 => ⟨_, _, I10, q⟩
  | brk =>
   obtain ⟨σ', H', I', q⟩ := q
   exact name_goesI (I'.unhand I1.ok) hN hi hk fun s10 I10 => ⟨_, _, I10, q⟩
  | cont =>
   obtain ⟨σ', H', I', q⟩ := q
   exact name_goesI (I'.unhand I1.ok) hN hi hk fun s10 I10 => ⟨_, _, I10, q⟩
  | ret u =>
   obtain ⟨v, σ', H', I', r, q⟩ := q
   exact name_goesI (I'.unhand I1.ok) hN hi hk fun s10 I10 => ⟨v, _, H', I10, r, q⟩
end
end L2
namespace L2
open PySem PySem.Spec PyProof.Rows PySem.W PySem.Builtin PySem.Builtin.ObjectAttr PySem.Builtin.Getset_descriptor
/-! ### isinstance of a caught exception -/
section
variable {prog : Program} {w : World} {A : Around} {E : Value → Shared → Prop}
theorem exc_get {a C : Addr} {tp : Value} {R : Result → Shared → Prop} {hh : Heap} {g : Array GenState} {dr : Drawn} {t : Nat} {os : OsState} (L0 : Looks (model prog w) hh (typeOf (.ref a)) (.ref C)) (L1 : Looks (model prog w) hh (isSubtype (.ref C) (.type "object")) true)
  (h : R (.ok (.ret (.ref C))) ⟨hh, g, dr, t, os⟩) : codeAny (model prog w) A (.call (.builtin "getset_descriptor.__get__") ⟨[.builtin "object.__class__", .ref a, tp], []⟩) R ⟨hh, g, dr, t, os⟩ := by
 have chk := KF.args_gs (.builtin "object.__class__") (.ref a) tp
 refine codeAny_call_builtin KF.slot_gs.plain KF.entry_gs ?_
 refine KF.slot_gs.check _ _ _ _ _ _ _ _ KF.type_class chk ?_
 unfold Builtin.«getset_descriptor.__get__» descrGet
 rw [dga_obj]
 refine wpAny_bind (wpAny_pure ?_)
 unfold descrGetter
 unfold descrCheckInstance descrNameAndClass isInstance
 simp only [KF.owner_class]
 repeat lk
 refine ⟨Code.quiet_builtin _ (by decide +kernel), ?_⟩
 refine codeAny_builtin KF.entry_class ?_
 unfold Builtin.«object.__class__»
 unfold shownTypeOf
 repeat lk
 exact h
theorem exc_ga {a C : Addr} {tk : Tok} {R : Result → Shared → Prop} {hh : Heap} {g : Array GenState} {dr : Drawn} {t : Nat} {os : OsState} {oe : Obj} (he : hh.get? a = some oe) (hc : oe.cls = .ref C) (L0 : Looks (model prog w) hh (typeOf (.ref a)) (.ref C))
  (L3 : Looks (model prog w) hh (typeLookup (.ref C) "__class__") (some (.builtin "object.__class__"))) (LB : Looks (model prog w) hh (isSubtype (.ref C) (.type "BaseException")) true)
  (LO : Looks (model prog w) hh (isSubtype (.ref C) (.type "object")) true) (h : R (.ok (.ret (.ref C))) ⟨hh, g, dr, t, os⟩) :
  codeAny (model prog w) A (.call (.builtin "BaseException.__getattribute__") ⟨[.ref a, .str "__class__" tk], []⟩) R ⟨hh, g, dr, t, os⟩ := by
 refine codeAny_call_builtin PySem.F.attr_ValueError.ga.plain PySem.F.entry_bexc_ga ?_
 have k1 : builtinKind "BaseException.__getattribute__" = some .slot := by decide +kernel
 have k2 : splitId "BaseException.__getattribute__" = some ("BaseException", "__getattribute__") := by decide +kernel
 have ha := PySem.F.args_bexc_ga (.ref a) (.str "__class__" tk)
 have f5 := PySem.F.typeOf_object_class
 have f6 := PySem.F.slot_gs_get.lookup
 have f7 := PySem.F.slot_gs_set.lookup
 simp only [checkBuiltinCall, k1, k2]
 refine wpAny_bind ?_
 unfold isInstance
 repeat (first | (with_reducible refine wpAny_loadPart_at he ?_; rw [hc]) | (with_reducible refine LB.at ?_) | wp_step)
 repeat (any_goals (first | assumption | (with_reducible refine wpAny_loadPart_at he ?_; rw [hc]) | (with_reducible refine L3.at ?_) | wp_step))
 refine exc_get L0 LO ?_
 repeat (any_goals (first | assumption | wp_step))
theorem exc_class {K : Frag} {a C : Addr} {s : Shared} {oe : Obj} {Q : Option Value → Shared → Prop} (X : K.In s.heap) (he : s.heap.get? a = some oe) (hc : oe.cls = .ref C)
  (hga : findIn K (.ref C) "__getattribute__" = some (some (.builtin "BaseException.__getattribute__"))) (hg2 : findIn K (.ref C) "__getattr__" = some none)
  (hcl : findIn K (.ref C) "__class__" = some (some (.builtin "object.__class__"))) (hmB : mroIn K C (.type "BaseException") = some true) (hmO : mroIn K C (.type "object") = some true)
  (h : Q (some (.ref C)) { s with toks := s.toks + 1 }) : wpAny (model prog w) A (getAttr? (.ref a) "__class__") Q E s := by
 obtain ⟨hh, g, d, t, os⟩ := s
 have L0 : Looks (model prog w) hh (typeOf (.ref a)) (.ref C) := hc ▸ (Looks.ld he).andThen .now
 have L1 : Looks (model prog w) hh (typeLookup (.ref C) "__getattribute__") (some (.builtin "BaseException.__getattribute__")) := looks_findIn X hga
 have L2 : Looks (model prog w) hh (typeLookup (.ref C) "__getattr__") none := looks_findIn X hg2
 have L3 : Looks (model prog w) hh (typeLookup (.ref C) "__class__") (some (.builtin "object.__class__")) := looks_findIn X hcl
 have LB : Looks (model prog w) hh (isSubtype (.ref C) (.type "BaseException")) true := looks_mroIn X hmB
 have LO : Looks (model prog w) hh (isSubtype (.ref C) (.type "object")) true := looks_mroIn X hmO
 have f3 := PySem.F.attr_ValueError.ga.bind (.ref a)
 unfold getAttr? getAttrBy? getAttrBy
 refine wpAny_bind (wpAny_mkText (wpAny_bind (wpAny_attempt (wpAny_holding (wpAny_bind (L0.at (wpAny_bind (L1.at ?_))))))))
 have hx2 : (Value.builtin "BaseException.__getattribute__" == Value.builtin "object.__getattribute__") = false := by decide +kernel
 dsimp only
 rw [hx2, Bool.and_false, if_neg Bool.false_ne_true]
 unfold getAttrByItsOwn
 repeat (any_goals (first | assumption | wp_step | (with_reducible refine L2.at ?_) | (with_reducible refine L0.at ?_)))
 refine exc_ga he hc L0 L3 LB LO ?_
 repeat (any_goals (first | assumption | wp_step))
structure ExcK (K : Frag) (C : Addr) : Prop where
 ga : findIn K (.ref C) "__getattribute__" = some (some (.builtin "BaseException.__getattribute__"))
 g2 : findIn K (.ref C) "__getattr__" = some none
 cl : findIn K (.ref C) "__class__" = some (some (.builtin "object.__class__"))
 mB : mroIn K C (.type "BaseException") = some true
 mO : mroIn K C (.type "object") = some true
theorem ExcK.cls {K : Frag} {C : Addr} (k : ExcK K C) : ∃ c d cd sl, K.lookup C = some ⟨c, d, .cls cd, sl⟩ := by
 have h := k.mO
 unfold mroIn clsIn at h
 split at h
 ·rename_i c d cd sl e; exact ⟨c, d, cd, sl, e⟩
 ·cases h
theorem kitx_exc {K : Frag} {a C : Addr} (k : ExcK K C) : KitX K (.ref a) (.ref C) (fun h => ∃ oe vs, h.get? a = some oe ∧ oe.cls = .ref C ∧ oe.data = .fields vs) where
 ty := fun _ _ _ ⟨oe, _, e, c, _⟩ => c ▸ (Looks.ld e).andThen .now
 it := fun _ _ X _ => by
  obtain ⟨c, d, cd, sl, e⟩ := k.cls
  intro A' Q' E' s' kk q
  unfold isType loadHead
  refine wpAny_bind (wpAny_loadPart (kk _ _ (X _ _ e)) ?_)
  exact wpAny_pure q
 ne := fun h tp dd its n sl X htp => by
  obtain ⟨c, d, cd, sl', e⟩ := k.cls
  cases q : (Value.ref C == Value.ref tp) with
  | false => rfl
  | true =>
   have z : C = tp := Value.ref.inj (beq_iff_eq.mp q)
   subst z
   have z2 := (X _ _ e).symm.trans htp
   cases z2
 ca := fun X ⟨oe, vs, e, c, _⟩ q => exc_class X e c k.ga k.g2 k.cl k.mB k.mO q
end
section
variable {X : Cx}
theorem refs_of : ∀ {Ds : List Addr} {its : List Value}, Vals (Ds.map V.ref) its → its = Ds.map Value.ref
 | [], _, .nil => rfl
 | D :: Ds, _, .cons z zs => by cases z; rw [List.map_cons, refs_of zs]
theorem call_isiE : CallR X (.builtin "isinstance") (fun xs H Q => ∃ a C c b, xs = [.ref a, c] ∧ H a = some (excO a (.ref C)) ∧ ExcK X.K C ∧
  ((∃ n, c = .ty n ∧ kitOne X.K (.ref C) (.type n) = some b) ∨ (∃ D, c = .ref D ∧ kitOne X.K (.ref C) (.ref D) = some b) ∨ (∃ (p : Addr) (Ds : List Addr), c = .ref p ∧ H p = some (.tup (Ds.map V.ref)) ∧ kitAny X.K (.ref C) (Ds.map Value.ref) = some b)) ∧ Q (.bl b) H) := by
 intro pins s σ H xs us Q I r h
 obtain ⟨a, C, c, b, rfl, hH, hk, hc, q⟩ := h
 obtain ⟨u, u', rfl, ru, ru'⟩ := vals2 r
 cases ru
 have ho := I.hok a _ hH
 unfold excO at ho
 obtain ⟨hφ, _, _⟩ := ho
 have fin : ∀ tk, EP X pins σ Q (.bool b) { s with toks := tk } := fun tk => ⟨.bl b, H, I.tok tk, rfl, q⟩
 rcases hc with ⟨n, rfl, e⟩ | ⟨D, rfl, e⟩ | ⟨p, Ds, rfl, hp, e⟩
 ·cases ru'
  exact kia_one (kitx_exc hk) I.kIn hφ e (fun z => nomatch z) fin
 ·cases ru'
  exact kia_one (kitx_exc hk) I.kIn hφ e (fun z => nomatch z) fin
 ·cases ru'
  obtain ⟨hz0, its, rv, ob, e1, e2, n, e3⟩ := (show ObjOk X.prog X.w H s.heap p (.tup (Ds.map V.ref)) from I.hok p _ hp)
  have ei : its = Ds.map Value.ref := refs_of rv
  subst ei
  obtain ⟨oc, od, oda, osl⟩ := ob
  dsimp only at e2 e3
  subst e2 e3
  exact kia_tup (kitx_exc hk) I.kIn hφ e1 e (fun z => nomatch z) fin
end
end L2
namespace L2
open PySem PySem.Spec PyProof.Rows
/-! ### a list comprehension of one for, with at most one if: its block is a context of its own within the def's -/
noncomputable def closOf (cells : List (Str × Addr)) : List (Str × NameKind) → List (Str × Addr) → List (Str × Addr)
 | [], cs => cs
 | x :: r, cs => closOf cells r (if x.2 == .free then (match cells.lookup x.1 with | some a => (x.1, a) :: cs | none => cs) else cs)
theorem closureFor_eq {scope : Scope} {env : Env} (h : ∀ x ∈ scope.names, x.2 = .free → ∃ a, env.cells.lookup x.1 = some a) : closureFor scope env = pure (closOf env.cells scope.names []) := by
 have aux : ∀ (names : List (Str × NameKind)) (cs : List (Str × Addr)), (∀ x ∈ names, x.2 = .free → ∃ a, env.cells.lookup x.1 = some a) →
   (forIn (m := Sem) names cs fun x r => do
    if (x.2 == NameKind.free) = true then do
     let a ← cellOf env x.1
     pure (ForInStep.yield ((x.1, a) :: r))
    else pure (ForInStep.yield r)) = pure (closOf env.cells names cs) := by
  intro names
  induction names with
  | nil => intro cs _; rfl
  | cons x r ih =>
   intro cs hx
   rw [List.forIn_cons]
   cases hk : (x.2 == NameKind.free) with
   | false =>
    simp only [Bool.false_eq_true, if_false, pure_bind]
    rw [ih cs fun y hy => hx y (List.mem_cons_of_mem _ hy)]
    show _ = pure (closOf env.cells r (if x.2 == .free then _ else cs))
    rw [hk]; rfl
   | true =>
    obtain ⟨a, ha⟩ := hx x List.mem_cons_self (by simpa using hk)
    have e : cellOf env x.1 = pure a := by unfold cellOf; rw [ha]
    simp only [if_true, e, pure_bind]
    rw [ih _ fun y hy => hx y (List.mem_cons_of_mem _ hy)]
    show _ = pure (closOf env.cells r (if x.2 == .free then (match env.cells.lookup x.1 with | some a => (x.1, a) :: cs | none => cs) else cs))
    rw [hk, ha]; rfl
 have h1 := aux scope.names [] h
 unfold closureFor
 simp only [bind_pure]
 exact h1
theorem closOf_sub {cells : List (Str × Addr)} : ∀ {names : List (Str × NameKind)} {cs : List (Str × Addr)}, (∀ p ∈ cs, cells.lookup p.1 = some p.2) → ∀ p ∈ closOf cells names cs, cells.lookup p.1 = some p.2
 | [], _, h => h
 | x :: r, cs, h => closOf_sub (names := r) fun p hp => by
  split at hp
  ·split at hp
   ·rename_i a ha
    rcases List.mem_cons.mp hp with rfl | hp
    ·exact ha
    ·exact h p hp
   ·exact h p hp
  ·exact h p hp
theorem closOf_mono {cells : List (Str × Addr)} : ∀ {names : List (Str × NameKind)} {cs : List (Str × Addr)} {p : Str × Addr}, p ∈ cs → p ∈ closOf cells names cs
 | [], _, _, h => h
 | x :: r, cs, p, h => closOf_mono (names := r) (by
  split
  ·split
   ·exact List.mem_cons_of_mem _ h
   ·exact h
  ·exact h)
theorem closOf_has {cells : List (Str × Addr)} {x : Str} {a : Addr} (ha : cells.lookup x = some a) : ∀ {names : List (Str × NameKind)} {cs : List (Str × Addr)}, (x, NameKind.free) ∈ names → (x, a) ∈ closOf cells names cs
 | y :: r, cs, h => by
  rcases List.mem_cons.mp h with rfl | h
  ·refine closOf_mono (names := r) ?_
   simp [ha]
  ·exact closOf_has ha (names := r) h
theorem lookup_mem {α : Type} {x : Str} {v : α} : ∀ {l : List (Str × α)}, l.lookup x = some v → (x, v) ∈ l
 | [], h => by simp at h
 | (y, u) :: r, h => by
  rw [List.lookup_cons] at h
  cases e : x == y with
  | true => rw [e] at h; cases h; rw [beq_iff_eq.mp e]; exact List.mem_cons_self
  | false => rw [e] at h; exact List.mem_cons_of_mem _ (lookup_mem h)
theorem mem_lookup {α : Type} {x : Str} {v : α} : ∀ {l : List (Str × α)}, (x, v) ∈ l → ∃ u, l.lookup x = some u
 | (y, u) :: r, h => by
  rw [List.lookup_cons]
  cases e : x == y with
  | true => exact ⟨u, rfl⟩
  | false =>
   rcases List.mem_cons.mp h with z | z
   ·cases z; simp at e
   ·exact mem_lookup z
noncomputable def compOk (osc scope : Scope) (N Tn Fn : List Str) (js : List Nat) : Bool :=
 (scope.kind == .function) && (osc.kind == .function) && (scope.names.all fun y => match y.2 with
  | .cell => false
  | .local => scope.names.lookup y.1 == some .local
  | .free => osc.names.lookup y.1 == some .cell && scope.names.lookup y.1 == some .free
  | _ => true) && (js.map (fun j => N[j]?) == Fn.map some) && (Fn.all fun x => scope.names.lookup x == some .free) && (Tn.all fun x => scope.names.lookup x == some .local) && decide (Tn ++ Fn).Nodup
structure CompScope (osc scope : Scope) (N Tn Fn : List Str) (js : List Nat) : Prop where
 kind : scope.kind = .function
 okind : osc.kind = .function
 nocell : ∀ y ∈ scope.names, y.2 ≠ .cell
 loc : ∀ y ∈ scope.names, y.2 = .local → scope.names.lookup y.1 = some .local
 fre : ∀ y ∈ scope.names, y.2 = .free → osc.names.lookup y.1 = some .cell
 idx : js.map (fun j => N[j]?) = Fn.map some
 fn : ∀ x ∈ Fn, scope.names.lookup x = some .free
 tn : ∀ x ∈ Tn, scope.names.lookup x = some .local
 nd : (Tn ++ Fn).Nodup
theorem CompScope.of {osc scope : Scope} {N Tn Fn : List Str} {js : List Nat} (h : compOk osc scope N Tn Fn js = true) : CompScope osc scope N Tn Fn js := by
 unfold compOk at h
 simp only [Bool.and_eq_true, beq_iff_eq, decide_eq_true_eq, List.all_eq_true] at h
 obtain ⟨⟨⟨⟨⟨⟨h1, h1'⟩, h2⟩, h3⟩, h4⟩, h5⟩, h6⟩ := h
 refine ⟨h1, h1', fun y hy e => ?_, fun y hy e => ?_, fun y hy e => ?_, h3, h4, h5, h6⟩
 ·have := h2 y hy; rw [e] at this; cases this
 ·have := h2 y hy; rw [e] at this; simpa using this
 ·have := h2 y hy; rw [e] at this; simp only [Bool.and_eq_true, beq_iff_eq] at this; exact this.1
noncomputable def cxIn (X : Cx) (N : List Str) (scope : Scope) (cl : List (Str × Addr)) (C : Addr) (s : Shared) (H : Hp) (fp : List Addr) : Cx :=
 { X with N := N, s₀ := s, H₀ := H, env := compEnvC scope cl C X.env, outer := X.stack, ex := fp, fn := fun _ => false, pn := [], xe := fun _ _ => False }
noncomputable def innS (k : Nat) (js : List Nat) (σ : St) : St := List.replicate k none ++ js.map fun j => (σ[j]?).join
theorem lookup_relabel {env : Env} (hk : env.scope.kind = .function) : ∀ {names : List (Str × NameKind)} {x : Str} {k : NameKind}, (∀ y ∈ names, y.2 = .free → env.kindOf y.1 = some .cell) → names.lookup x = some k →
  (names.map fun (n, k) => if (k == NameKind.free && env.scope.kind == .function && env.kindOf n == some .cell) then (n, NameKind.cell) else (n, k)).lookup x = some (if k = .free then .cell else k)
 | [], _, _, _, h => by simp at h
 | (n, k') :: r, x, k, hf, h => by
  have ih := @lookup_relabel env hk r x k fun y hy => hf y (List.mem_cons_of_mem _ hy)
  have h0 := hf (n, k') List.mem_cons_self
  rw [List.map_cons]
  show List.lookup x ((if (k' == NameKind.free && env.scope.kind == .function && env.kindOf n == some .cell) = true then (n, NameKind.cell) else (n, k')) :: _) = _
  rw [List.lookup_cons] at h
  by_cases hk' : k' = .free
  ·subst hk'
   have e : (NameKind.free == NameKind.free && env.scope.kind == .function && env.kindOf n == some .cell) = true := by rw [h0 rfl, hk]; decide
   rw [if_pos e, List.lookup_cons]
   cases hx : x == n with
   | true => rw [hx] at h; cases h; rfl
   | false => rw [hx] at h; exact ih h
  ·have e : ¬ (k' == NameKind.free && env.scope.kind == .function && env.kindOf n == some .cell) = true := by
    intro z; simp only [Bool.and_eq_true, beq_iff_eq] at z; exact hk' z.1.1
   rw [if_neg e, List.lookup_cons]
   cases hx : x == n with
   | true => rw [hx] at h; cases h; simp [hk']
   | false => rw [hx] at h; exact ih h
theorem relabel_of {env : Env} : ∀ {names : List (Str × NameKind)} {x : Str} {k : NameKind}, (names.map fun (n, k) => if (k == NameKind.free && env.scope.kind == .function && env.kindOf n == some .cell) then (n, NameKind.cell) else (n, k)).lookup x = some k →
  ∃ k', (x, k') ∈ names ∧ (k' = k ∨ (k' = .free ∧ k = .cell))
 | [], _, _, h => by simp at h
 | (n, k') :: r, x, k, h => by
  have ih := @relabel_of env r x k
  rw [List.map_cons] at h
  have h : List.lookup x ((if (k' == NameKind.free && env.scope.kind == .function && env.kindOf n == some .cell) = true then (n, NameKind.cell) else (n, k')) :: _) = some k := h
  by_cases e : (k' == NameKind.free && env.scope.kind == .function && env.kindOf n == some .cell) = true
  ·rw [if_pos e, List.lookup_cons] at h
   cases hx : x == n with
   | true =>
    rw [hx] at h; cases h
    simp only [Bool.and_eq_true, beq_iff_eq] at e
    refine ⟨.free, ?_, .inr ⟨rfl, rfl⟩⟩
    rw [beq_iff_eq.mp hx, ← e.1.1]; exact List.mem_cons_self
   | false => rw [hx] at h; obtain ⟨q, m, z⟩ := ih h; exact ⟨q, List.mem_cons_of_mem _ m, z⟩
  ·rw [if_neg e, List.lookup_cons] at h
   cases hx : x == n with
   | true => rw [hx] at h; cases h; refine ⟨k', ?_, .inl rfl⟩; rw [beq_iff_eq.mp hx]; exact List.mem_cons_self
   | false => rw [hx] at h; obtain ⟨q, m, z⟩ := ih h; exact ⟨q, List.mem_cons_of_mem _ m, z⟩
section
variable {X : Cx} {pins : List (Addr × Obj)} {σ : St} {H : Hp} {s : Shared} {scope : Scope} {Tn Fn : List Str} {js : List Nat} {fp : List Addr}
theorem inv_in {C : Addr} {h1 : Heap} {tk : Nat} {mC : Str → Option Value} (cs : CompScope X.env.scope scope X.N Tn Fn js) (I : Inv X pins σ H s) (hC : C = s.heap.objs.size) (hn : h1.Ns C mC) (k1 : ∀ b o, s.heap.get? b = some o → h1.get? b = some o)
  (hf : ∀ b ∈ fp, FpOk X pins H b) (ho : ∀ b ∈ fp, ∃ o, s.heap.get? b = some o) :
  Inv (cxIn X (Tn ++ Fn) scope (closOf X.env.cells scope.names []) C s H fp) (X.pn ++ pins) (innS Tn.length js σ) H { s with heap := h1, toks := tk } := by
 have hcl : ∀ x c, (closOf X.env.cells scope.names []).lookup x = some c → X.env.cells.lookup x = some c := fun x c e => closOf_sub (names := scope.names) (cs := []) (fun _ z => nomatch z) _ (lookup_mem e)
 have hlen : (js.map fun j => X.N[j]?).length = (Fn.map some).length := congrArg List.length cs.idx
 rw [List.length_map, List.length_map] at hlen
 have hfr : ∀ y ∈ scope.names, y.2 = .free → X.env.kindOf y.1 = some .cell := cs.fre
 subst hC
 refine ⟨⟨I.ok.mod, cs.kind, I.ok.glob, I.ok.blt, Nat.le_refl _, fun x y c e1 e2 => I.ok.inj x y c (hcl x c e1) (hcl y c e2), fun x hx => ?_, fun x c z => absurd z Bool.false_ne_true, I.ok.hd, I.ok.frames, .inl rfl, fun b hb => ⟨?_, fun x c e => (hf b hb).2.2.2.2.1 x c (hcl x c e)⟩, I.bs,
  Nat.le_trans I.ok.bsz I.sz, fun b o e hb => ?_, fun b hb z => ?_, I.stack, I.stkFree⟩, rfl, I.bare, Un.kept k1, ⟨mC, hn, fun i x v e1 e2 e3 => ?_⟩, fun x c e => ?_, I.fresh, fun x c e => I.freeC x c (hcl x c e), fun p hp => ?_, I.hok.kept k1, ?_⟩
 ·-- has
  have hx : (relabel scope X.env).names.lookup x = some .cell ∨ (relabel scope X.env).names.lookup x = some .free := hx
  have key : (x, NameKind.free) ∈ scope.names := by
   rcases hx with hx | hx
   ·obtain ⟨k', m, z⟩ := relabel_of hx
    rcases z with z | ⟨z, _⟩
    ·subst z; exact absurd rfl (cs.nocell _ m)
    ·subst z; exact m
   ·obtain ⟨k', m, z⟩ := relabel_of hx
    rcases z with z | ⟨_, z⟩
    ·subst z; exact m
    ·cases z
  obtain ⟨a, ha⟩ := I.ok.has x (.inl (hfr _ key rfl))
  exact mem_lookup (closOf_has ha key)
 ·obtain ⟨o, e⟩ := ho b hb
  exact Nat.ne_of_lt (Heap.lt_size e)
 ·rcases (hf b hb).2.2.2.1 with z | z
  ·exact I.ok.noex b o e z
  ·exact absurd (Nat.lt_of_lt_of_le (Heap.lt_size (I.ok.bs b o e).1) z) (Nat.lt_irrefl _)
 ·rcases List.mem_cons.mp (I.stkSub b z) with q | q
  ·exact (hf b hb).2.1 q
  ·exact (hf b hb).2.2.1 q
 ·-- names
  have e1 : (Tn ++ Fn)[i]? = some x := e1
  have e2 : (List.replicate Tn.length none ++ js.map fun j => (σ[j]?).join)[i]? = some (some v) := e2
  by_cases hi : i < Tn.length
  ·rw [List.getElem?_append_left (by simpa using hi), List.getElem?_replicate] at e2
   split at e2 <;> cases e2
  ·rw [List.getElem?_append_right (by simpa using hi)] at e2
   rw [List.getElem?_append_right (by simpa using hi)] at e1
   rw [List.length_replicate, List.getElem?_map] at e2
   cases ej : js[i - Tn.length]? with
   | none => rw [ej] at e2; cases e2
   | some j =>
    rw [ej] at e2
    have e2 : (σ[j]?).join = some v := by simpa using e2
    have e2' : σ[j]? = some (some v) := by
     cases q : σ[j]? with
     | none => rw [q] at e2; cases e2
     | some o => rw [q] at e2; cases o with
      | none => cases e2
      | some v' => cases e2; rfl
    have ej' : X.N[j]? = some x := by
     have h0 : (js.map fun j => X.N[j]?)[i - Tn.length]? = (Fn.map some)[i - Tn.length]? := by rw [cs.idx]
     rw [List.getElem?_map, ej, List.getElem?_map, e1] at h0
     simpa using h0
    have hx : scope.names.lookup x = some .free := cs.fn x (List.mem_of_getElem? e1)
    have hox : X.env.kindOf x = some .cell := hfr _ (lookup_mem hx) rfl
    obtain ⟨m, hm, hl⟩ := I.loc
    obtain ⟨u, r, l⟩ := hl j x v ej' e2' (.inr (.inl hox))
    refine ⟨u, r, .inr ⟨.inl ?_, ?_⟩⟩
    ·show (relabel scope X.env).names.lookup x = some .cell
     have z := lookup_relabel (env := X.env) cs.okind (names := scope.names) hfr hx
     rw [if_pos rfl] at z
     exact z
    ·rcases l with ⟨k, _⟩ | ⟨_, c, ec, z⟩
     ·rw [hox] at k; cases k
     ·obtain ⟨c', e'⟩ := mem_lookup (closOf_has (cs := []) ec (lookup_mem hx))
      have : c' = c := Option.some.inj ((hcl x c' e').symm.trans ec)
      subst this
      obtain ⟨o, q1, q2⟩ := z
      exact ⟨c', e', o, k1 _ _ q1, q2⟩
 ·obtain ⟨v, o, q1, q2⟩ := I.cell x c (hcl x c e)
  exact ⟨v, o, k1 _ _ q1, q2⟩
 ·have hp : p ∈ ([] : List (Addr × Obj)) ++ (X.pn ++ pins) := hp
  rw [List.nil_append] at hp
  obtain ⟨e, n, ne, nf, d⟩ := I.pin p hp
  refine ⟨k1 _ _ e, n, Nat.ne_of_lt (Heap.lt_size e), fun z => ?_, d⟩
  rcases List.mem_cons.mp (I.stkSub p.1 z) with q | q
  ·exact ne q
  ·exact nf q
 ·show (List.replicate Tn.length none ++ js.map fun j => (σ[j]?).join).length = (Tn ++ Fn).length
  rw [List.length_append, List.length_append, List.length_replicate, List.length_map, hlen]
structure CFree (X : Cx) (pins : List (Addr × Obj)) (C : Addr) : Prop where
 nl : C ≠ X.env.locals
 yg : X.s₀.heap.objs.size ≤ C
 nc : ∀ x c, X.env.cells.lookup x = some c → c ≠ C
 np : ∀ p ∈ X.pn ++ pins, p.1 ≠ C
theorem Inv.letgo {C : Addr} {h2 : Heap} (I : Inv X pins σ H s) (hn : H C = none) (c : CFree X pins C) (sb : Heap.SameBut C s.heap h2) : Inv X pins σ H { s with heap := h2 } :=
 I.turned (t' := s.toks) (it := C) (fun b o hb e => (sb.2 b hb).trans e) hn c.nl (.inr c.yg) c.nc c.np
theorem Inv.cfree {C : Addr} (I : Inv X pins σ H s) (hC : C = s.heap.objs.size) : CFree X pins C := by
 refine ⟨by rw [hC]; exact Nat.ne_of_gt I.lt, by rw [hC]; exact I.sz, fun x c e z => ?_, fun p hp z => ?_⟩
 ·obtain ⟨v, q⟩ := I.cell x c e
  have := q.lt
  rw [z, hC] at this; exact absurd this (Nat.lt_irrefl _)
 ·have := Heap.lt_size (I.pin p hp).1
  rw [z, hC] at this; exact absurd this (Nat.lt_irrefl _)
theorem inv_out {C : Addr} {cl : List (Str × Addr)} {N : List Str} {σ' : St} {H' : Hp} {pins' : List (Addr × Obj)} {s' : Shared} (I : Inv X pins σ H s) (hf : ∀ b ∈ fp, FpOk X pins H b) (J : Inv (cxIn X N scope cl C s H fp) pins' σ' H' s') : Inv X pins σ H' s' :=
 I.call' (ch := fp) J.os J.base J.hok J.bare fun b hb => ⟨(hf b hb).2.2.2.1, (hf b hb).2.1, (hf b hb).2.2.2.2.1, (hf b hb).2.2.2.2.2⟩
end
/-! the loop of the block -/
section
variable {prog : Program} {w : World} {A : Around} {s : Shared}
theorem compLoop_go {elt target iter : Expr} {ifs : List Expr} {scope : Scope} {pos : Pos} {it acc : Value} {env : Env} {R : Result → Shared → Prop} (I : Nat → Shared → Prop)
  (turn : ∀ n s, I n s → wpAny (model prog w) A (pyNext it) (fun r s₁ => match r with
   | none => R (.ok .next) s₁
   | some v => wpAny (model prog w) A (letOwnedTupleGo target it v) (fun _ s₀ => wpAny (model prog w) A (assign target env v) (fun _ s₂ =>
     wpAny (model prog w) A (forIn ifs true fun c r => if r = true then do let ok ← isTrue c env (eval c env); pure (ForInStep.yield ok) else pure (ForInStep.yield r)) (fun ok s₃ =>
      if ok = true then wpAny (model prog w) A (eval elt env) (fun x s₄ =>
       wpAny (model prog w) A (call (.builtin "list.append") [acc, x]) (fun _ s₅ => ∃ m, m < n ∧ I m s₅) (fun _ _ => False) s₄) (fun _ _ => False) s₃
      else ∃ m, m < n ∧ I m s₃) (fun _ _ => False) s₂) (fun _ _ => False) s₀) (fun _ _ => False) s₁) (fun _ _ => False) s)
  (n : Nat) (h : I n s) : codeAny (model prog w) A (.compLoop (.ListComp elt [⟨target, iter, ifs, 0⟩] scope pos) 0 it acc env) R s := by
 refine codeAny_loop rfl I (fun n s hI => ?_) n h
 show wpAny _ A ((compTurn (.ListComp elt [⟨target, iter, ifs, 0⟩] scope pos) 0 it acc env).onRaise (fun x => do noteFrame x env; theTreesLotGoes x)) _ _ s
 refine wpAny_noted ?_
 rw [compTurn_list]
 refine wpAny_bind (wpAny_standAt (wpAny_bind (wpAny_mono (turn n s hI) (fun r s₁ h₁ => ?_) fun _ _ h' => h'.elim)))
 cases r with
 | none => exact wpAny_pure h₁
 | some v =>
  refine wpAny_bind (wpAny_mono h₁ (fun _ s₀ h₀' => ?_) fun _ _ h' => h'.elim)
  refine wpAny_bind (wpAny_mono h₀' (fun _ s₂ h₂ => wpAny_bind (wpAny_mono h₂ (fun ok s₃ h₃ => ?_) fun _ _ h' => h'.elim)) fun _ _ h' => h'.elim)
  cases ok with
  | false => exact wpAny_pure ⟨rfl, h₃⟩
  | true =>
   exact wpAny_bind (wpAny_bind (wpAny_mono h₃ (fun x s₄ h₄ => wpAny_bind (wpAny_mono h₄ (fun _ s₅ h₅ => wpAny_pure (wpAny_pure ⟨rfl, h₅⟩)) fun _ _ h' => h'.elim)) fun _ _ h' => h'.elim))
end
noncomputable def PIfs (X : Cx) (ifs : List Expr) (t : TT) : Prop :=
 ∀ (pins : List (Addr × Obj)) (s : Shared) (σ : St) (H : Hp) (Q : Bool → Hp → Prop), Inv X pins σ H s → t σ H Q →
  wpAny (model X.prog X.w) X.A (forIn ifs true fun c r => if r = true then do let ok ← isTrue c X.env (eval c X.env); pure (ForInStep.yield ok) else pure (ForInStep.yield r)) (TP X pins σ Q) X.xe s
noncomputable abbrev tTrue : TT := fun _ H Q => Q true H
theorem pif_none {X : Cx} : PIfs X [] tTrue := fun _ _ _ H _ I h => wpAny_tests_nil ⟨H, I, h⟩
theorem pif_one {X : Cx} {c : Expr} {t : TT} (h : PT X c t) : PIfs X [c] t := fun pins s σ H Q I hq => wpAny_tests_one (h pins s σ H Q I hq)
noncomputable def tBlock (J : It) (g : TG) (tc : TT) (te : TE) (D : Addr) (Z : Hp → Prop) (σ : St) (H : Hp) : Prop :=
 ∃ W : Nat → Nat → St → Hp → Prop, (∃ m, W 0 m σ H) ∧ ∀ i m σ H, W i m σ H →
  (J.stop i H ∧ Z H) ∨ (J.go i H ∧ ∃ N : St → Hp → Prop, (∀ σ' H', N σ' H' → ∃ m', m' < m ∧ W (i + 1) m' σ' H') ∧
   ∀ x H', J.yld i H x H' → g x σ H' fun σ2 H2 => tc σ2 H2 fun b H3 => if b = true then te σ2 H3 fun y H4 => ∃ ys, H4 D = some (.lst ys) ∧ ys.length < sizeLine ∧ N σ2 (upd H4 D (.lst (ys ++ [y]))) else N σ2 H3)
section
variable {X : Cx} {scope : Scope} {Tn Fn : List Str} {js : List Nat} {tg iter elt : Expr} {ifs : List Expr} {wi : TI} {g : TG} {tc : TT} {te : TE} {pos : Pos}
theorem block_run {pins : List (Addr × Obj)} {σ : St} {H2 : Hp} {s2 : Shared} {it : Addr} {fp : List Addr} {tn : Nat → Heap → Prop} {J : It} {Z : Addr → Hp → Prop} {RR : Value → Addr → Result → Shared → Prop} {E : Value → Shared → Prop} (hc : X.calm = true)
  (cs : CompScope X.env.scope scope X.N Tn Fn js)
  (hg : ∀ C s H fp, PG (cxIn X (Tn ++ Fn) scope (closOf X.env.cells scope.names []) C s H fp) tg g) (ht : ∀ C s H fp, PIfs (cxIn X (Tn ++ Fn) scope (closOf X.env.cells scope.names []) C s H fp) ifs tc)
  (he : ∀ C s H fp, PE (cxIn X (Tn ++ Fn) scope (closOf X.env.cells scope.names []) C s H fp) elt te)
  (I2 : Inv X pins σ H2 s2) (T : Turn X.prog X.w X.K tg J fp it tn) (st2 : tn 0 s2.heap) (f2 : ∀ b ∈ fp, FpOk X pins H2 b)
  (hb : ∀ D, H2 D = none → tBlock J g tc te D (Z D) (innS Tn.length js σ) (upd H2 D (.lst [])))
  (fin : ∀ D C s' H' m, s'.heap.Ns C m → Inv X pins σ H' s' → H' C = none → CFree X pins C → Z D H' → RR (.ref D) C (.ok .next) s') :
  wpAny (model X.prog X.w) X.A (newList []) (fun acc s₃ => wpAny (model X.prog X.w) X.A (newFunctionEnv scope X.env.globals (closOf X.env.cells scope.names []) [] X.env.qual none .none (some X.env)) (fun cenv s₄ =>
   codeAny (model X.prog X.w) X.A (.compStart (.ListComp elt [⟨tg, iter, ifs, 0⟩] scope pos) 0 (.ref it) acc { cenv with scope := relabel scope X.env }) (RR acc cenv.locals) s₄) E s₃) E s2 := by
 refine wpAny_newObj_type (wpAny_newFunctionEnv cs.nocell (by intro y hy; simp at hy) (fun h₁ hns₁ hsb₁ => ?_) cs.kind)
 dsimp only at hns₁ hsb₁ ⊢
 have I3 := I2.lnew (its := []) (ys := []) (t' := s2.toks) .nil (Nat.zero_le _)
 have fD : H2 s2.heap.objs.size = none := I2.fresh
 obtain ⟨W, ⟨m0, w0⟩, turn⟩ := hb _ fD
 generalize hH2 : s2.heap.push { cls := .type "list", dict := none, data := .seq ([] : List Value).toArray } = g2 at hns₁ hsb₁ I3 ⊢
 have up2 : ∀ b o, s2.heap.get? b = some o → g2.get? b = some o := fun b o e => hH2 ▸ Heap.get?_push_of_some _ e
 generalize hD : s2.heap.objs.size = D at *
 have up3 : ∀ b o, g2.get? b = some o → h₁.get? b = some o := fun b o e => hsb₁.extBut b o (Nat.ne_of_lt (Heap.lt_size e)) (Heap.get?_push_of_some _ e)
 have hob : ∀ b ∈ fp, ∃ o, s2.heap.get? b = some o := fun b hb => let ⟨o, e, _⟩ := T.obj 0 _ st2 b hb; ⟨o, e⟩
 have neD : ∀ b ∈ fp, b ≠ D := fun b hb => by
  obtain ⟨o, e⟩ := hob b hb
  rw [← hD]; exact Nat.ne_of_lt (Heap.lt_size e)
 have f3 : ∀ b ∈ fp, FpOk X pins (upd H2 D (.lst [])) b := fun b hb => ⟨by rw [upd_ne (neD b hb)]; exact (f2 b hb).1, (f2 b hb).2⟩
 have J0 := inv_in (fp := fp) (tk := s2.toks + ([] : List (Str × Value)).length) cs I3 rfl hns₁ up3 f3 fun b hb => let ⟨o, e⟩ := hob b hb; ⟨o, up2 b o e⟩
 have tn0 : tn 0 h₁ := T.keep _ _ _ st2 fun b hb o e => up3 b o (up2 b o e)
 have cf : CFree X pins g2.objs.size := I3.cfree rfl
 generalize hX' : cxIn X (Tn ++ Fn) scope (closOf X.env.cells scope.names []) g2.objs.size { s2 with heap := g2, toks := s2.toks } (upd H2 D (.lst [])) fp = X' at J0
 have eP : X'.prog = X.prog := by rw [← hX']; rfl
 have ew : X'.w = X.w := by rw [← hX']; rfl
 have eK : X'.K = X.K := by rw [← hX']; rfl
 have eA : X'.A = X.A := by rw [← hX']; rfl
 have ec : X'.calm = true := by rw [← hX']; exact hc
 have ee : X'.env = compEnvC scope (closOf X.env.cells scope.names []) g2.objs.size X.env := by rw [← hX']; rfl
 have ex : X'.xe = fun _ _ => False := by rw [← hX']; rfl
 have Hg : PG X' tg g := by rw [← hX']; exact hg _ _ _ _
 have Ht : PIfs X' ifs tc := by rw [← hX']; exact ht _ _ _ _
 have He : PE X' elt te := by rw [← hX']; exact he _ _ _ _
 have out : ∀ {pins' σ' H' s'}, Inv X' pins' σ' H' s' → Inv X pins σ H' s' := by
  intro pins' σ' H' s' J
  rw [← hX'] at J
  exact inv_out I3 f3 J
 have fsX : ∀ b ∈ fp, b ∉ X'.fs := by
  intro b hb z
  rw [← hX'] at z
  rcases List.mem_cons.mp (I3.stkSub b z) with q | q
  ·exact (f3 b hb).2.1 q
  ·exact (f3 b hb).2.2.1 q
 have stat : ∀ {H' : Hp}, (∀ b ∈ fp, H' b = none) → ∀ b ∈ fp, FpOk X' (X.pn ++ pins) H' b := fun {H'} hn b hb => by
  refine ⟨hn b hb, ?_, fsX b hb, .inl (by rw [← hX']; exact hb), ?_, ?_⟩
  ·rw [ee]
   obtain ⟨o, e⟩ := hob b hb
   exact Nat.ne_of_lt (Heap.lt_size (up2 b o e))
  ·intro x c e
   rw [ee] at e
   exact (f3 b hb).2.2.2.2.1 x c (closOf_sub (names := scope.names) (cs := []) (fun _ z => nomatch z) _ (lookup_mem e))
  ·intro p hp
   have hp : p ∈ X.pn ++ pins := by rw [← hX'] at hp; simpa [cxIn] using hp
   exact (f3 b hb).2.2.2.2.2 p hp
 have loop : ∀ s4 : Shared, s4 = { s2 with heap := h₁, toks := s2.toks + ([] : List (Str × Value)).length } →
   codeAny (model X.prog X.w) X.A (.compLoop (.ListComp elt [⟨tg, iter, ifs, 0⟩] scope pos) 0 (.ref it) (.ref D) (compEnvC scope (closOf X.env.cells scope.names []) g2.objs.size X.env)) (RR (.ref D) g2.objs.size) s4 := by
  rintro s4 rfl
  refine compLoop_go (fun n s' => ∃ i σ' H', Inv X' (X.pn ++ pins) σ' H' s' ∧ tn i s'.heap ∧ (∀ b ∈ fp, H' b = none) ∧ W i n σ' H') ?_ m0 ⟨0, _, _, J0, tn0, fun b hb => (f3 b hb).1, w0⟩
  rintro n s5 ⟨i, σ5, H5, I5, st5, fr5, w5⟩
  rw [← ee, ← eA, ← eP, ← ew, ← ex]
  rcases turn i n σ5 H5 w5 with ⟨stop, qz⟩ | ⟨go, N, hN, step⟩
  ·have td := T.done X' eP ew eK ec i (X.pn ++ pins) s5 σ5 H5 X'.xe I5 (stat fr5) st5 stop
   rw [← eP, ← ew] at td
   refine thn td fun r s6 ⟨hr, I6⟩ => ?_
   subst hr
   obtain ⟨m, hm, _⟩ := id I6.loc
   rw [ee] at hm
   have hfr := I6.free
   rw [ee] at hfr
   exact fin D _ s6 H5 m hm (out I6) hfr cf qz
  ·have ti := T.item X' eP ew eK ec i (X.pn ++ pins) s5 σ5 H5 X'.xe I5 (stat fr5) st5 go
   rw [← eP, ← ew] at ti
   refine thn ti fun r s6 ⟨u, hr, h6⟩ => ?_
   subst hr
   refine thn h6 fun _ s7 ⟨x, H7, I7, r7, y7, st7, fr7⟩ => ?_
   have I7' := I7.pinned (stat fr7) (T.obj _ _ st7)
   refine thn (Hg _ s7 σ5 H7 x u _ I7' r7 (step x H7 y7)) fun _ s8 ⟨σ8, H8, I8, q8⟩ => ?_
   refine thn (Ht _ s8 σ8 H8 _ I8 q8) fun ok s9 ⟨H9, I9, q9⟩ => ?_
   have again : ∀ {σa : St} {Ha : Hp} {sa : Shared}, Inv X' ((X.pn ++ pins) ++ pinsAt fp s7.heap) σa Ha sa → N σa Ha → ∃ m, m < n ∧ ∃ i σ' H', Inv X' (X.pn ++ pins) σ' H' sa ∧ tn i sa.heap ∧ (∀ b ∈ fp, H' b = none) ∧ W i m σ' H' := fun {σa Ha sa} Ia na => by
    obtain ⟨m', hm, wa⟩ := hN σa Ha na
    refine ⟨m', hm, i + 1, σa, Ha, Ia.unpinned, T.keep _ _ _ st7 fun b hb o e => (Ia.pin (b, o) (List.mem_append_right _ (List.mem_append_right _ (mem_pinsAt hb e)))).1, fun b hb => ?_, wa⟩
    obtain ⟨o, e, d⟩ := T.obj _ _ st7 b hb
    exact (Ia.pin (b, o) (List.mem_append_right _ (List.mem_append_right _ (mem_pinsAt hb e)))).2.1
   cases ok with
   | false => exact again I9 q9
   | true =>
    refine thn (He _ s9 σ8 H9 _ I9 q9) fun y s10 ⟨yv, H10, I10, r10, ys, e10, l10, n10⟩ => ?_
    exact thn (mt_append (X := X') _ s10 σ8 H10 (.ref D) [yv] (.ref D) [y] (fun _ H' => N σ8 H') I10 rfl (.cons r10 .nil) ⟨D, ys, yv, rfl, rfl, e10, l10, n10⟩) fun _ s11 ⟨_, H11, I11, _, n11⟩ => again I11 n11
 exact codeAny_compStart_list (loop _ rfl) (T.self _ 0 _ _ _ tn0 (loop _ rfl))
noncomputable def tComp (wi : TI) (g : TG) (tc : TT) (te : TE) (k : Nat) (js : List Nat) : TE := fun σ H Q => wi σ H fun J H1 => ∀ D, H1 D = none → tBlock J g tc te D (Q (.ref D)) (innS k js σ) (upd H1 D (.lst []))
theorem pe_comp (Tn Fn : List Str) (js : List Nat) (hc : X.calm = true) (h : compOk X.env.scope scope X.N Tn Fn js = true) (hi : PI X tg iter wi)
  (hg : ∀ C s H fp, PG (cxIn X (Tn ++ Fn) scope (closOf X.env.cells scope.names []) C s H fp) tg g) (ht : ∀ C s H fp, PIfs (cxIn X (Tn ++ Fn) scope (closOf X.env.cells scope.names []) C s H fp) ifs tc)
  (he : ∀ C s H fp, PE (cxIn X (Tn ++ Fn) scope (closOf X.env.cells scope.names []) C s H fp) elt te) (hs : ∀ x, foldedSetIterable iter X.env x = pure x := by intro _; rfl) :
  PE X (.ListComp elt [⟨tg, iter, ifs, 0⟩] scope pos) (tComp wi g tc te Tn.length js) := by
 intro pins s σ H Q I hq
 have cs := CompScope.of h
 rw [eval_ListComp]
 refine wpAny_comprehension_free (use := none) rfl hs (closureFor_eq ?_) cs.kind cs.loc (thn (hi pins s σ H _ I hq) fun xv s1 h1 => thn h1 fun itv s2 h2 => ?_)
 ·intro x hx e; exact I.ok.has x.1 (.inl (cs.fre x hx e))
 obtain ⟨it, fp, tn, J, H2, rfl, I2, T, st2, f2, hb⟩ := h2
 refine block_run (Z := fun D H' => Q (.ref D) H') (RR := fun acc C => compPost (model X.prog X.w) X.A X.xe none (EP X pins σ Q) acc C) hc cs hg ht he I2 T st2 f2 hb ?_
 intro D C s' H' m hm I' hn cf z
 exact ⟨m, hm, fun h' sb => ⟨.ref D, H', I'.letgo hn cf sb, rfl, z⟩⟩
theorem ps_setcomp (Tn Fn : List Str) (js : List Nat) {i : Nat} {y : Str} {py spos : Pos} (hN : X.N.Nodup) (hiN : X.N[i]? = some y) (hy : X.env.scope.names.lookup y = some .local) (hc : X.calm = true) (h : compOk X.env.scope scope X.N Tn Fn js = true) (hi : PI X tg iter wi)
  (hg : ∀ C s H fp, PG (cxIn X (Tn ++ Fn) scope (closOf X.env.cells scope.names []) C s H fp) tg g) (ht : ∀ C s H fp, PIfs (cxIn X (Tn ++ Fn) scope (closOf X.env.cells scope.names []) C s H fp) ifs tc)
  (he : ∀ C s H fp, PE (cxIn X (Tn ++ Fn) scope (closOf X.env.cells scope.names []) C s H fp) elt te) (hsw : swapsWith (.ListComp elt [⟨tg, iter, ifs, 0⟩] scope pos) (some (.Name y py)) spos.line X.env = pure true := by rfl)
  (hs : ∀ x, foldedSetIterable iter X.env x = pure x := by intro _; rfl) :
  PS X (.Assign [.Name y py] (.ListComp elt [⟨tg, iter, ifs, 0⟩] scope pos) spos) (tAsg (tComp wi g tc te Tn.length js) (gName i)) := by
 intro pins s σ H D0 I hq
 have cs := CompScope.of h
 rw [exec_Assign_Name_used _ _ _ _ hsw]
 refine wpAny_bind (wpAny_standAt (wpAny_bind ?_))
 show wpAny _ X.A (do let _ ← comprehension (.ListComp elt [⟨tg, iter, ifs, 0⟩] scope pos) scope X.env _ (newList []) false (eval iter X.env) (some (assign (.Name y py) X.env))) _ _ s
 refine wpAny_bind (wpAny_mono (wpAny_comprehension_free (use := some (assign (.Name y py) X.env)) (Q := fun _ s' => SP X pins D0 .next s') rfl hs (closureFor_eq ?_) cs.kind cs.loc
  (thn (hi pins s σ H _ I hq) fun xv s1 h1 => thn h1 fun itv s2 h2 => ?_)) (fun _ s' hq => wpAny_pure (wpAny_pure hq)) fun _ _ e => e)
 ·intro x hx e; exact I.ok.has x.1 (.inl (cs.fre x hx e))
 obtain ⟨it, fp, tn, J, H2, rfl, I2, T, st2, f2, hb⟩ := h2
 refine block_run (Z := fun D H' => D0.nx (σ.set i (some (.ref D))) H') (RR := fun acc C => compPost (model X.prog X.w) X.A X.xe (some (assign (.Name y py) X.env)) (fun _ s' => SP X pins D0 .next s') acc C) hc cs hg ht he I2 T st2 f2 hb ?_
 intro D C s' H' m hm I' hn cf z
 show wpAny _ X.A (assign (.Name y py) X.env (.ref D)) _ _ s'
 refine wpAny_assign_Name (store_ok2 (v := .ref D) I' hN hiN (.inl hy) rfl (fun s'' I'' sb => ?_) (.inr hy))
 obtain ⟨a, sb, ha⟩ := sb
 have hCa : C ≠ a := by
  rcases ha with e | e
  ·rw [e]; exact cf.nl
  ·exact fun z => cf.nc _ _ e z.symm
 exact ⟨m, hm.sameBut sb hCa, fun h' sb' => ⟨_, H', I''.letgo hn cf sb', z⟩⟩
end
/-! the forms one uses -/
theorem block_list {K : PySem.W.Frag} {a : Addr} {xs : List V} {g : TG} {tc : TT} {te : TE} {D : Addr} {Z : Hp → Prop} {σ : St} {H : Hp} (Pv : Nat → St → Hp → Prop) (h0 : Pv 0 σ H) (hl : ∀ i σ H, i ≤ xs.length → Pv i σ H → SqL K H a xs)
  (hs : ∀ i x σ H, xs[i]? = some x → Pv i σ H → g x σ H fun σ2 H2 => tc σ2 H2 fun b H3 => if b = true then te σ2 H3 fun y H4 => ∃ ys, H4 D = some (.lst ys) ∧ ys.length < sizeLine ∧ Pv (i + 1) σ2 (upd H4 D (.lst (ys ++ [y]))) else Pv (i + 1) σ2 H3)
  (hd : ∀ σ H, Pv xs.length σ H → Z H) : tBlock (Itl K a) g tc te D Z σ H := by
 refine ⟨fun i m σ H => m = xs.length - i ∧ i ≤ xs.length ∧ Pv i σ H, ⟨xs.length, by simp, Nat.zero_le _, h0⟩, ?_⟩
 rintro i m σ H ⟨rfl, hi, p⟩
 have q := hl i σ H hi p
 by_cases hlt : i < xs.length
 ·refine .inr ⟨⟨xs, xs[i], q, by simp [hlt]⟩, Pv (i + 1), fun σ' H' p' => ⟨xs.length - (i + 1), by omega, rfl, hlt, p'⟩, fun x H' y => ?_⟩
  obtain ⟨e, y⟩ := y
  subst e
  exact hs i x σ _ (y xs q) p
 ·have e : i = xs.length := by omega
  subst e
  exact .inl ⟨⟨xs, q, Nat.le_refl _⟩, hd σ H p⟩
theorem block_tup {K : PySem.W.Frag} {a : Addr} {xs : List V} {g : TG} {tc : TT} {te : TE} {D : Addr} {Z : Hp → Prop} {σ : St} {H : Hp} (Pv : Nat → St → Hp → Prop) (h0 : Pv 0 σ H) (hl : ∀ i σ H, i ≤ xs.length → Pv i σ H → SqT K H a xs)
  (hs : ∀ i x σ H, xs[i]? = some x → Pv i σ H → g x σ H fun σ2 H2 => tc σ2 H2 fun b H3 => if b = true then te σ2 H3 fun y H4 => ∃ ys, H4 D = some (.lst ys) ∧ ys.length < sizeLine ∧ Pv (i + 1) σ2 (upd H4 D (.lst (ys ++ [y]))) else Pv (i + 1) σ2 H3)
  (hd : ∀ σ H, Pv xs.length σ H → Z H) : tBlock (Itt K a) g tc te D Z σ H := by
 refine ⟨fun i m σ H => m = xs.length - i ∧ i ≤ xs.length ∧ Pv i σ H, ⟨xs.length, by simp, Nat.zero_le _, h0⟩, ?_⟩
 rintro i m σ H ⟨rfl, hi, p⟩
 have q := hl i σ H hi p
 by_cases hlt : i < xs.length
 ·refine .inr ⟨⟨xs, xs[i], q, by simp [hlt]⟩, Pv (i + 1), fun σ' H' p' => ⟨xs.length - (i + 1), by omega, rfl, hlt, p'⟩, fun x H' y => ?_⟩
  obtain ⟨e, y⟩ := y
  subst e
  exact hs i x σ _ (y xs q) p
 ·have e : i = xs.length := by omega
  subst e
  exact .inl ⟨⟨xs, q, Nat.le_refl _⟩, hd σ H p⟩
theorem block_range {lo : Int} {n : Nat} {g : TG} {tc : TT} {te : TE} {D : Addr} {Z : Hp → Prop} {σ : St} {H : Hp} (Pv : Nat → St → Hp → Prop) (h0 : Pv 0 σ H)
  (hs : ∀ i σ H, i < n → Pv i σ H → g (.int (lo + i)) σ H fun σ2 H2 => tc σ2 H2 fun b H3 => if b = true then te σ2 H3 fun y H4 => ∃ ys, H4 D = some (.lst ys) ∧ ys.length < sizeLine ∧ Pv (i + 1) σ2 (upd H4 D (.lst (ys ++ [y]))) else Pv (i + 1) σ2 H3)
  (hd : ∀ σ H, Pv n σ H → Z H) : tBlock (Itr lo n) g tc te D Z σ H := by
 refine ⟨fun i m σ H => m = n - i ∧ i ≤ n ∧ Pv i σ H, ⟨n, by simp, Nat.zero_le _, h0⟩, ?_⟩
 rintro i m σ H ⟨rfl, hi, p⟩
 by_cases hlt : i < n
 ·refine .inr ⟨hlt, Pv (i + 1), fun σ' H' p' => ⟨n - (i + 1), by omega, rfl, hlt, p'⟩, fun x H' y => ?_⟩
  obtain ⟨e, y⟩ := y
  subst e y
  exact hs i σ _ hlt p
 ·have e : i = n := by omega
  subst e
  exact .inl ⟨Nat.le_refl _, hd σ H p⟩
end L2
namespace L2
open PySem PySem.Spec PyProof.Rows
/-! ### ==, != of texts, numbers, truths, the gap, and of tuples and lists of these, as deep as they are -/
mutual
noncomputable def RepD (K : PySem.W.Frag) (H : Hp) : PyData → V → Prop
 | .none, v => v = .non
 | .bool b, v => v = .bl b
 | .int i, v => v = .int i
 | .str x, v => v = .str x ∧ (PyData.str x).canLay0 = true
 | .tuple xs, v => ∃ a vs, v = .ref a ∧ SqT K H a vs ∧ RepDs K H xs vs
 | .list xs, v => ∃ a vs, v = .ref a ∧ SqL K H a vs ∧ RepDs K H xs vs
 | .dict _, _ => False
noncomputable def RepDs (K : PySem.W.Frag) (H : Hp) : List PyData → List V → Prop
 | [], vs => vs = []
 | d :: ds, vs => ∃ v r, vs = v :: r ∧ RepD K H d v ∧ RepDs K H ds r
end
section
variable {X : Cx} {pins : List (Addr × Obj)} {σ : St} {H : Hp} {s : Shared}
mutual
theorem RepD.reads (I : Inv X pins σ H s) : ∀ {d : PyData} {v : V} {u : Value}, RepD X.K H d v → RelV v u → ∃ as, Reads s.heap u d as
 | .none, v, u, h, r => by
  have h : v = .non := by simpa [RepD] using h
  subst h; cases r; exact ⟨_, .none⟩
 | .bool b, v, u, h, r => by
  have h : v = .bl b := by simpa [RepD] using h
  subst h; cases r; exact ⟨_, .bool b⟩
 | .int i, v, u, h, r => by
  have h : v = .int i := by simpa [RepD] using h
  subst h; obtain ⟨t, rfl⟩ := r; exact ⟨_, .int i t⟩
 | .str x, v, u, h, r => by
  simp only [RepD] at h
  obtain ⟨rfl, _⟩ := h
  obtain ⟨t, rfl⟩ := r; exact ⟨_, .str x t⟩
 | .tuple xs, v, u, h, r => by
  have h : ∃ a vs, v = .ref a ∧ SqT X.K H a vs ∧ RepDs X.K H xs vs := by simpa [RepD] using h
  obtain ⟨a, vs, rfl, q, rs⟩ := h
  cases r
  obtain ⟨its, rv, p, _⟩ := I.tuple q
  obtain ⟨o, e, c, n, d⟩ := (show s.heap.IsTuple a its.toArray from p)
  obtain ⟨as, ra⟩ := RepDs.reads I rs rv
  exact ⟨_, .tuple e c d (by simpa using ra)⟩
 | .list xs, v, u, h, r => by
  have h : ∃ a vs, v = .ref a ∧ SqL X.K H a vs ∧ RepDs X.K H xs vs := by simpa [RepD] using h
  obtain ⟨a, vs, rfl, q, rs⟩ := h
  cases r
  obtain ⟨its, rv, p, _⟩ := I.list q
  obtain ⟨o, e, c, n, d⟩ := p.isList
  obtain ⟨as, ra⟩ := RepDs.reads I rs rv
  exact ⟨_, .list e c d (by simpa using ra)⟩
 | .dict _, v, u, h, r => by
  have h : False := by simpa [RepD] using h
  exact h.elim
theorem RepDs.reads (I : Inv X pins σ H s) : ∀ {ds : List PyData} {vs : List V} {us : List Value}, RepDs X.K H ds vs → Vals vs us → ∃ as, ReadsAll s.heap us ds as
 | [], vs, us, h, r => by
  have h : vs = [] := by simpa [RepDs] using h
  subst h; cases r; exact ⟨_, .nil⟩
 | d :: ds, vs, us, h, r => by
  have h : ∃ v r, vs = v :: r ∧ RepD X.K H d v ∧ RepDs X.K H ds r := by simpa [RepDs] using h
  obtain ⟨v, rs, rfl, h1, h2⟩ := h
  cases r with
  | cons a b =>
   obtain ⟨as, r1⟩ := RepD.reads I h1 a
   obtain ⟨bs, r2⟩ := RepDs.reads I h2 b
   exact ⟨_, .cons r1 r2⟩
end
mutual
theorem RepD.lay {K : PySem.W.Frag} : ∀ {d : PyData} {v : V}, RepD K H d v → d.canLay0 = true
 | .none, _, _ => rfl
 | .bool _, _, _ => rfl
 | .int _, _, _ => rfl
 | .str x, v, h => by
  simp only [RepD] at h
  exact h.2
 | .tuple xs, v, h => by
  have h : ∃ a vs, v = .ref a ∧ SqT K H a vs ∧ RepDs K H xs vs := by simpa [RepD] using h
  obtain ⟨a, vs, rfl, q, rs⟩ := h
  have := RepDs.lay rs
  simpa [PyData.canLay0] using this
 | .list xs, v, h => by
  have h : ∃ a vs, v = .ref a ∧ SqL K H a vs ∧ RepDs K H xs vs := by simpa [RepD] using h
  obtain ⟨a, vs, rfl, q, rs⟩ := h
  have := RepDs.lay rs
  simpa [PyData.canLay0] using this
 | .dict _, v, h => by
  have h : False := by simpa [RepD] using h
  exact h.elim
theorem RepDs.lay {K : PySem.W.Frag} : ∀ {ds : List PyData} {vs : List V}, RepDs K H ds vs → PyData.canLayAll0 ds = true
 | [], _, _ => rfl
 | d :: ds, vs, h => by
  have h : ∃ v r, vs = v :: r ∧ RepD K H d v ∧ RepDs K H ds r := by simpa [RepDs] using h
  obtain ⟨v, rs, rfl, h1, h2⟩ := h
  have a := RepD.lay h1
  have b := RepDs.lay h2
  simp [PyData.canLayAll0, a, b]
end
end
section
variable {X : Cx} {k : Nat}
noncomputable def rEqD (K : PySem.W.Frag) : R2 := fun x y H Q => ∃ d d', RepD K H d x ∧ RepD K H d' y ∧ d.depth ≤ 64 ∧ Q (.bl (PyData.eqv d d')) H
noncomputable def rNeD (K : PySem.W.Frag) : R2 := fun x y H Q => ∃ d d', RepD K H d x ∧ RepD K H d' y ∧ d.depth ≤ 64 ∧ Q (.bl (!PyData.eqv d d')) H
theorem op_eqD (hr : Room k X.A) : OpR X (compareOp .Eq) (rEqD X.K) := by
 intro pins s σ H x y v u Q I rx ry h
 obtain ⟨d, d', h1, h2, hd, q⟩ := h
 obtain ⟨as, r1⟩ := h1.reads I rx
 obtain ⟨bs, r2⟩ := h2.reads I ry
 exact SeqAt.compareEq_reads r1 r2 h1.lay h2.lay (by have := hr.units; have : min d.depth d'.depth ≤ d.depth := Nat.min_le_left _ _; omega) ⟨.bl _, H, I, rfl, q⟩
theorem op_neD (hr : Room k X.A) : OpR X (compareOp .NotEq) (rNeD X.K) := by
 intro pins s σ H x y v u Q I rx ry h
 obtain ⟨d, d', h1, h2, hd, q⟩ := h
 obtain ⟨as, r1⟩ := h1.reads I rx
 obtain ⟨bs, r2⟩ := h2.reads I ry
 exact SeqAt.compareNe_reads r1 r2 h1.lay h2.lay (by have := hr.units; have : min d.depth d'.depth ≤ d.depth := Nat.min_le_left _ _; omega) ⟨.bl _, H, I, rfl, q⟩
end
/-! ### defs that may raise -/
section
variable {P : Program} {w : World} {K : PySem.W.Frag} {mg : Str → Option Value} {base : Heap}
theorem DefAt.okE {x : Str} {st : Stmt} {N ps : List Str} {k : Nat} {sp : Sp} (D : DefAt K mg x st) (S : FnScope N ps (defScope st)) (len : ∀ vs H Q E, sp vs H Q E → vs.length = ps.length)
  (hb : ∀ (kV doc pm : Value) (an : Option Addr) (cdv ct : Value) (us : List Value), us.length = ps.length → bindArgs (PySem.W.fnOf x x (defArgs st) (defBody st) (defScope st) .none kV doc pm an cdv ct) ⟨us, []⟩ = pure (ps.zip us))
  (hbody : ∀ (f : Addr) (cdv : Value) (A : Around) (outer : List Env) (s : Shared) (H : Hp) (vs : List V) (Q : VK) (E : XK), Room k (A.deeper (envOfC x (defScope st) s.heap.objs.size f cdv)) → sp vs H Q E →
   ∃ t, PSs (cxOf (CXE P w) P w K mg base N x (defScope st) f cdv A outer s H E) (defBody st) t ∧ t { nx := fun _ H' => Q .non H', rt := Q } (start N vs) H) : FnAt P w K mg base (CXE P w) (k + 1) x ps sp := by
 obtain ⟨f, fd, F, m⟩ := D.ex
 have hF := F
 obtain ⟨oc, od, kV, doc, pm, an, cdv, ct, osl, rfl, lk, hcd⟩ := F.ex
 exact ⟨f, _, fn_of lk hcd S len fun A outer s H vs Q E hr hsp => hbody f cdv A outer s H vs Q E hr hsp, m, hF.kp, hF.binds hb⟩
end
theorem hd_none {X : Cx} : Hd X [] (fun _ => tNever) := fun _ _ _ _ _ _ _ _ _ _ _ _ _ _ _ _ h => h.elim
end L2
namespace Tc
open PySem L2
/-! ### promises of the defs that many laws share -/
theorem paired_get {α β : Type} {F : α → β → Prop} : ∀ {xs : List α} {ys : List β} {i : Nat} {x : α}, Paired F xs ys → xs[i]? = some x → ∃ y, ys[i]? = some y ∧ F x y
 | _, _, _, _, .nil, e => by simp at e
 | _, _, 0, _, .cons r _, e => by simp at e; subst e; exact ⟨_, rfl, r⟩
 | _, _, i + 1, x, .cons _ t, e => by
  obtain ⟨u, h1, h2⟩ := paired_get (i := i) (x := x) t (by simpa using e)
  exact ⟨u, by simpa using h1, h2⟩
/-! promises -/
noncomputable def spCell (K : PySem.W.Frag) : Sp := fun vs H Q _ => ∃ (a : Addr) (ns : List Int) (k : Int), vs = [.ref a, .int k] ∧ SqL K H a (ns.map V.int) ∧ 0 ≤ k ∧ ∀ c : Int, Q (.int c) H
noncomputable def spLaw (K : PySem.W.Frag) : Sp := fun vs H Q _ => ∃ (a : Addr) (ns : List Int), vs = [.ref a] ∧ SqL K H a (ns.map V.int) ∧ ns.length ≤ 63 ∧ ∀ H', Q (.bl true) H'
/-! small lemmas -/
theorem sz {n : Nat} (h : n ≤ 1000) : n ≤ sizeLine := Nat.le_of_lt (small1000 h)
theorem map_at {ns : List Int} {k : Int} (h0 : 0 ≤ k) (h1 : k < (ns.map V.int).length) : ∃ c : Int, atI (ns.map V.int) k = some (V.int c) := by
 obtain ⟨j, rfl⟩ := Int.eq_ofNat_of_zero_le h0
 have hj : j < ns.length := by rw [List.length_map] at h1; omega
 refine ⟨ns[j], atI_nat ?_⟩
 rw [List.getElem?_map, List.getElem?_eq_getElem hj]
 rfl
theorem fmod_lt {c m : Int} (h : 0 < m) : 0 ≤ c.fmod m ∧ c.fmod m < m := fmod_pos h
theorem atI_in {xs : List V} {j : Int} (h0 : 0 ≤ j) (h1 : j < xs.length) : ∃ v, v ∈ xs ∧ atI xs j = some v := by
 obtain ⟨k, rfl⟩ := Int.eq_ofNat_of_zero_le h0
 have hk : k < xs.length := by omega
 exact ⟨xs[k], List.getElem_mem hk, atI_nat (List.getElem?_eq_getElem hk)⟩
theorem dec_true {p : Prop} [Decidable p] {A B : Prop} (hp : p) (h : A) : if decide p = true then A else B := by
 rw [decide_eq_true hp]; exact iteT h
theorem dec_false {p : Prop} [Decidable p] {A B : Prop} (hp : ¬ p) (h : B) : if decide p = true then A else B := by
 rw [decide_eq_false hp]; exact iteF h
theorem paired_mem {α β : Type} {F : α → β → Prop} {xs : List α} {ys : List β} (h : Paired F xs ys) {x : α} (hx : x ∈ xs) : ∃ y, y ∈ ys ∧ F x y := by
 obtain ⟨i, hi, e⟩ := List.getElem_of_mem hx
 obtain ⟨y, hy, f⟩ := paired_get h (i := i) (x := x) (by rw [List.getElem?_eq_getElem hi, e])
 exact ⟨y, List.mem_of_getElem? hy, f⟩
end Tc
namespace L2
open PySem PySem.Spec PyProof.Rows
theorem bt_all : bootBuiltins "all" = some (.builtin "all") := by decide +kernel
theorem bools_of_vals : ∀ {bs : List Bool} {vs : List Value}, Vals (bs.map V.bl) vs → LSm.BoolsAre vs bs
 | [], _, .nil => .nil
 | b :: bs, _, .cons r t => by cases r; exact .cons b (bools_of_vals t)
section
variable {X : Cx}
theorem Inv.newsAll {pins : List (Addr × Obj)} {σ : St} {H : Hp} {s : Shared} {h' : Heap} {tk : Nat} {m : Str → Option Value} (I : Inv X pins σ H s) (hm : s.heap.Ns X.env.locals m) (F : Fr X.base X.env.locals h' m)
  (N : News X.base X.env.locals h' (allNews X.base s.heap X.env.locals)) : Inv X pins σ H { s with heap := h', toks := tk } := by
 have kk : ∀ b o, b ≠ X.env.locals → s.heap.get? b = some o → h'.get? b = some o := fun b o hb e => by
  cases q : X.base.get? b with
  | none => exact (N (b, o) (mem_allNews hb q e)).1
  | some u =>
   have z := I.bk b u q
   rw [e] at z; cases z
   exact F.keep b _ q
 have hL : ∃ o', h'.get? X.env.locals = some o' := let ⟨o, _, _, e, _⟩ := F.ns; ⟨o, e⟩
 refine I.step (g' := s.gens) (d' := s.drawn) (ch := []) (fun _ z => nomatch z) (fun b o hb _ _ e _ => kk b o hb e) (fun b o hb _ _ e _ => ⟨o.slots, kk b o hb e⟩) (fun _ _ _ _ n => n) (fun b o _ e => ?_)
  (fun _ _ e => e) (fun _ _ _ e => e) (fun b ps e => ⟨#[], by rw [e]; simp⟩) (fun m' hm' => ?_) (fun b u e => ?_) I.bare
 ·by_cases hb : b = X.env.locals
  ·rw [hb]; exact hL
  ·exact ⟨o, kk b o hb e⟩
 ·have em : m' = m := by
   obtain ⟨o1, es1, ep1, g1, d1, _, f1⟩ := hm
   obtain ⟨o2, es2, ep2, g2, d2, _, f2⟩ := hm'
   rw [g1] at g2; cases g2
   rw [d1] at d2; cases d2
   funext z
   exact (f2 z).symm.trans (f1 z)
  rw [em]; exact F.ns
 ·refine (I.hok b u e).stay (fun c v hc q => kk c v ?_ q) (fun _ q => q) fun _ _ q => q
  intro z
  subst z
  rcases hc with z | z
  ·rw [← z, I.free] at e; cases e
  ·rw [I.free] at z; cases z
theorem call_all (hc : X.calm = true) : CallR X (.builtin "all") (fun xs H Q => ∃ (a : Addr) (bs : List Bool), xs = [V.ref a] ∧ SqL X.K H a (bs.map V.bl) ∧ Q (.bl (bs.all id)) H) := by
 intro pins s σ H xs us Q I r h
 obtain ⟨l, bs, rfl, hq, q⟩ := h
 obtain ⟨u, rfl, ru⟩ := vals1 r
 cases ru
 obtain ⟨vs, rv, p, _⟩ := I.list hq
 obtain ⟨m, hm, _⟩ := id I.loc
 have F0 : Fr X.base X.env.locals s.heap m := ⟨hm, I.bk, Nat.le_trans I.ok.bsz I.ok.above⟩
 exact LSm.all_bools F0 news_all (I.ok.hd hc) p.isList (bools_of_vals rv) fun h' tk F' N' => ⟨.bl _, H, I.newsAll hm F' N', rfl, q⟩
end
/-! ### the rules that name the module's part, for a part that is named -/
section
variable {X : Cx} {K : PySem.W.Frag}
theorem ix_tup' (h : X.K = K) : IxR X (rIxT K) := by subst h; exact ix_tup
theorem ix_list' (h : X.K = K) : IxR X (rIxL K) := by subst h; exact ix_list
theorem sl_tup' (h : X.K = K) : SlR X (rSlT K) := by subst h; exact sl_tup
theorem sl_list' (h : X.K = K) : SlR X (rSlL K) := by subst h; exact sl_list
theorem op_in_seq' (h : X.K = K) : OpR X (compareOp .In) (rIn K false) := by subst h; exact op_in_seq
theorem op_notIn_seq' (h : X.K = K) : OpR X (compareOp .NotIn) (rIn K true) := by subst h; exact op_notIn_seq
theorem op_catT' (h : X.K = K) : OpR X (binaryOp .Add) (rCatT K) := by subst h; exact op_catT
theorem op_eqD' {k : Nat} (h : X.K = K) (hr : Room k X.A) : OpR X (compareOp .Eq) (rEqD K) := by subst h; exact op_eqD hr
theorem op_neD' {k : Nat} (h : X.K = K) (hr : Room k X.A) : OpR X (compareOp .NotEq) (rNeD K) := by subst h; exact op_neD hr
theorem call_len' (h : X.K = K) : CallR X (.builtin "len") (fun xs H Q => ∃ x n, xs = [x] ∧ LenV K x H n ∧ Q (.int n) H) := by subst h; exact call_len
theorem call_isi' (h : X.K = K) : CallR X (.builtin "isinstance") (fun xs H Q => ∃ x n t b, xs = [x, .ty n] ∧ TyOf K H x t ∧ PySem.W.kitOne K t (.type n) = some b ∧ Q (.bl b) H) := by subst h; exact call_isi
theorem call_isiE' (h : X.K = K) : CallR X (.builtin "isinstance") (fun xs H Q => ∃ a C c b, xs = [.ref a, c] ∧ H a = some (excO a (.ref C)) ∧ ExcK K C ∧
  ((∃ n, c = .ty n ∧ PySem.W.kitOne K (.ref C) (.type n) = some b) ∨ (∃ D, c = .ref D ∧ PySem.W.kitOne K (.ref C) (.ref D) = some b) ∨
   (∃ (p : Addr) (Ds : List Addr), c = .ref p ∧ H p = some (.tup (Ds.map V.ref)) ∧ PySem.W.kitAny K (.ref C) (Ds.map Value.ref) = some b)) ∧ Q (.bl b) H) := by subst h; exact call_isiE
theorem call_list_of' (h : X.K = K) : CallR X (.type "list") (fun xs H Q => ∃ p ys, xs = [.ref p] ∧ (SqL K H p ys ∨ SqT K H p ys) ∧ ∀ l, H l = none → Q (.ref l) (upd H l (.lst ys))) := by subst h; exact call_list_of
theorem call_tuple_of' (h : X.K = K) : CallR X (.type "tuple") (fun xs H Q => ∃ p ys, xs = [.ref p] ∧ ((SqL K H p ys ∧ ∀ l, H l = none → Q (.ref l) (upd H l (.tup ys))) ∨ (SqT K H p ys ∧ Q (.ref p) H))) := by subst h; exact call_tuple_of
theorem call_all' (h : X.K = K) (hc : X.calm = true) : CallR X (.builtin "all") (fun xs H Q => ∃ (a : Addr) (bs : List Bool), xs = [V.ref a] ∧ SqL K H a (bs.map V.bl) ∧ Q (.bl (bs.all id)) H) := by subst h; exact call_all hc
theorem pi_list' {tg l : Expr} {tl : TE} (h : X.K = K) (hl : PE X l tl) : PI X tg l (iList K tl) := by subst h; exact pi_list hl
theorem pi_tup' {tg l : Expr} {tl : TE} (h : X.K = K) (hl : PE X l tl) : PI X tg l (iTup K tl) := by subst h; exact pi_tup hl
end
theorem pe_gint {X : Cx} {x : Str} {i : Int} {pos : Pos} (hg : Gl X x) (h : ∃ t, X.mg x = some (.int i t)) (hd : (x == ("__debug__" : Str)) = false := by decide) : PE X (.Name x pos) (tC (.int i)) := by
 obtain ⟨t, h⟩ := h
 exact pe_glob hg h ⟨t, rfl⟩ hd
theorem Same.updD {H H' : Hp} {D : Addr} {o : HO} (s : Same H H') (h : H D = none) : Same H (L2.upd H' D o) := fun b u e => by
 rw [L2.upd_ne (ne_of_none e h)]; exact s b u e
end L2
namespace L2
open PySem PySem.Spec PyProof.Rows
/-! ### texts -/
theorem strs_of_vals : ∀ {ys : List Str} {vs : List Value}, Vals (ys.map V.str) vs → StrsAre vs ys
 | [], _, .nil => .nil
 | y :: ys, _, .cons r t => by obtain ⟨tk, rfl⟩ := r; exact .cons y tk (strs_of_vals t)
section
variable {X : Cx} {K : PySem.W.Frag}
noncomputable def rJoin (K : PySem.W.Frag) : V → List V → Hp → VK → Prop := fun x vs H Q => ∃ (z : Str) (a : Addr) (ys : List Str), x = .str z ∧ vs = [.ref a] ∧ SqL K H a (ys.map V.str) ∧ (ys.map (·.length)).sum + ys.length * z.length ≤ 16777216 ∧ Q (.str (Txt.join z ys)) H
theorem mt_join' (h : X.K = K) : MtR X "str.join" (rJoin K) := by
 subst h
 intro pins s σ H x xs v us Q I rx rv h
 obtain ⟨z, a, ys, rfl, rfl, hq, hz, q⟩ := h
 obtain ⟨t, rfl⟩ := rx
 obtain ⟨u, rfl, ru⟩ := Vals.one rv
 cases ru
 obtain ⟨its, r, p, _⟩ := I.list hq
 exact join_list p.isList (by simpa using strs_of_vals r) hz fun t' k => ⟨.str _, H, I.tok k, ⟨t', rfl⟩, q⟩
theorem pe_bm' {o e : Expr} {es : List Expr} {to : TE} {t : TA} {name : Str} {apos cpos : Pos} {T id : String} {r : V → List V → Hp → VK → Prop} (h : X.K = K) (pa : PlainAttrs T) (slot : Slot T name id) (hty : typeOf (.builtin id) = pure (.type "method_descriptor"))
  (hm : MtR X id r) (ho : PE X o to) (ha : PA X (e :: es) t) (hbase : attributeBase o name X.env (eval o X.env) = eval o X.env := by rfl)
  (hfew : ((backTo cpos (starEach (e :: es) X.env)).all (fun x => !x.1) && (backToKw cpos (keywordEach [] X.env)).all (fun x => x.1.isSome) && decide ((e :: es).length + ([] : List Keyword).length + (if ([] : List Keyword).isEmpty then 0 else 1) < 30)) = true := by rfl)
  (hline : (apos.endLine == cpos.line) = true := by rfl) (hs : starEach (e :: es) X.env = (false, eval e X.env) :: starEach es X.env := by rfl) (hplain : (backTo cpos (starEach es X.env)).any (·.1) = false := by rfl) :
  PE X (.Call (.Attribute o name apos) (e :: es) [] cpos) (tBM K T r to t) := by subst h; exact pe_bm pa slot hty hm ho ha hbase hfew hline hs hplain
theorem pg_tup' {es : List Expr} {k : Nat} {t : TGs} {n : Nat} {pos : Pos} (h : X.K = K) (hc : X.calm = true) (hp : PGs X es t) (hn : (assignEach es X.env).length = n := by rfl) (hst : (assignEach es X.env).findIdx? (·.1) = none := by rfl) :
  PG X (.Tuple es k pos) (gTup K n t) := by subst h; exact pg_tup hc hp hn hst
end
end L2
namespace L2
open PySem PySem.Spec PyProof.Rows
section
variable {X : Cx} {K : PySem.W.Frag} {k : Nat}
noncomputable def rEqE (K : PySem.W.Frag) : R2 := fun x y H Q => ∃ a b xs, x = .ref a ∧ y = .ref b ∧ SqL K H a xs ∧ SqL K H b [] ∧ Q (.bl xs.isEmpty) H
theorem op_eqE' (h : X.K = K) (hr : Room k X.A) : OpR X (compareOp .Eq) (rEqE K) := by
 subst h
 intro pins s σ H x y v u Q I rx ry h
 obtain ⟨a, b, xs, rfl, rfl, ha, hb, q⟩ := h
 cases rx; cases ry
 obtain ⟨its, r, p, _⟩ := I.list ha
 obtain ⟨its2, r2, p2, _⟩ := I.list hb
 cases r2
 cases r with
 | nil => exact PySem.SeqAt.eq_listAt (e := fun _ => true) p.isList p2.isList rfl hr.units0 (fun j h1 => absurd h1 (by simp)) ⟨.bl true, H, I, rfl, q⟩
 | cons _ _ => exact PySem.SeqAt.eq_list_lengthsAt p.isList p2.isList (by simp) hr.units0 ⟨.bl false, H, I, rfl, q⟩
end
end L2
namespace Tc
open PySem L2
end Tc
namespace L2
open PySem PySem.Spec PyProof.Rows
/-! ### a dict as it lies in the heap: its entries, whatever its keys are -/
section
variable {prog : Program} {w : World} {A : Around} {E : Value → Shared → Prop} {s : Shared} {it d vw : Addr} {i ep : Nat} {es : Array DictEntry} {ok ov : Value}
end
end L2
namespace L2
open PySem PySem.Spec PyProof.Rows
/-! ### a dict that is walked stands still -/
section
variable {X : Cx} {pins : List (Addr × Obj)} {σ : St} {H : Hp} {s : Shared} {d : Addr} {u : HO} {o : Obj}
/-! ### its entries -/
theorem pair_at {α β : Type} {F : α → β → Prop} : ∀ {xs : List α} {ys : List β} {i : Nat} {x : α}, Paired F xs ys → xs[i]? = some x → ∃ y, ys[i]? = some y ∧ F x y
 | _, _, _, _, .nil, e => by simp at e
 | _, _, 0, _, .cons r _, e => by simp at e; subst e; exact ⟨_, rfl, r⟩
 | _, _, i + 1, x, .cons _ t, e => by
  obtain ⟨u, h1, h2⟩ := pair_at (i := i) (x := x) t (by simpa using e)
  exact ⟨u, by simpa using h1, h2⟩
end
end L2
namespace L2
open PySem PySem.Spec PyProof.Rows
/-! ### d.values(), whatever the keys are -/
section
variable {prog : Program} {w : World} {A : Around} {E : Value → Shared → Prop} {s : Shared} {it d vw : Addr} {i ep : Nat} {es : Array DictEntry}
end
section
variable {X : Cx} {K : PySem.W.Frag}
end
end L2
namespace L2
open PySem PySem.Spec PyProof.Rows
/-! ### d.clear(), dict(d), for k in d -/
section
variable {prog : Program} {w : World} {A : Around} {E : Value → Shared → Prop} {s : Shared} {it d vw : Addr} {i ep : Nat} {es : Array DictEntry}
end
section
variable {X : Cx}
end
theorem pe_bm0' {X : Cx} {K : PySem.W.Frag} {o : Expr} {to : TE} {name : Str} {apos cpos : Pos} {T id : String} {r : V → List V → Hp → VK → Prop} (h : X.K = K) (pa : PlainAttrs T) (slot : Slot T name id) (hty : typeOf (.builtin id) = pure (.type "method_descriptor")) (hm : MtR X id r) (ho : PE X o to)
  (hbase : attributeBase o name X.env (eval o X.env) = eval o X.env := by rfl) (hline : (apos.endLine == cpos.line) = true := by rfl) : PE X (.Call (.Attribute o name apos) [] [] cpos) (tBM0 K T r to) := by subst h; exact pe_bm0 pa slot hty hm ho hbase hline
/-! the forms one uses -/
end L2
namespace Tc
/-! tables as functions from places to shares -/
section
variable {α : Type} [DecidableEq α]
end
end Tc
namespace L2
open PySem PySem.Spec PyProof.Rows
section
variable {X : Cx} {K : PySem.W.Frag}
end
end L2
namespace L2
open PySem PySem.Spec PyProof.Rows
theorem Paired.app {α β : Type} {F : α → β → Prop} {xs xs' : List α} {ys ys' : List β} (h : Paired F xs ys) (g : Paired F xs' ys') : Paired F (xs ++ xs') (ys ++ ys') := by
 induction h with
 | nil => exact g
 | cons r t ih => exact .cons r ih
section
variable {X : Cx} {K : PySem.W.Frag} {pos : Pos}
noncomputable def gLst (K : PySem.W.Frag) (n : Nat) (t : TGs) : TG := fun v σ H Q => ∃ a xs, v = .ref a ∧ SqL K H a xs ∧ xs.length = n ∧ t xs σ H Q
theorem pg_lst {es : List Expr} {k : Nat} {t : TGs} {n : Nat} (hK : X.K = K) (hc : X.calm = true) (h : PGs X es t)
  (hn : (assignEach es X.env).length = n := by rfl) (hst : (assignEach es X.env).findIdx? (·.1) = none := by rfl) : PG X (.Tuple es k pos) (gLst K n t) := by
 subst hK
 intro pins s σ H v u Q I r hw
 obtain ⟨a, xs, e1, hq, hl, hw⟩ := hw
 subst e1
 cases r
 obtain ⟨its, rv, p, hz⟩ := I.list hq
 rw [assign_Tuple]
 refine wpAny_bind (wpAny_standAt ?_)
 unfold unpack
 have e : (assignEach es X.env).length = its.toArray.size := by simp [hn, ← hl, rv.length]
 rw [e, hst]
 refine wpAny_bind (wpAny_holding (PySem.W.kun_itemsOf (I.ok.hd hc) p.isList fun h' hx => ?_))
 have I1 : Inv X pins σ H { s with heap := h' } := I.kept (t' := s.toks) fun b o e => hx b o (Nat.ne_of_lt (Heap.lt_size e)) e
 exact h pins _ σ H xs _ Q I1 (by simpa using rv) hw
end
end L2
namespace L2
open PySem PySem.Spec PyProof.Rows
end L2
namespace L2
open PySem PySem.Spec PyProof.Rows
theorem bt_enumerate : bootBuiltins "enumerate" = some (.type "enumerate") := by decide +kernel
section
variable {X : Cx} {pins : List (Addr × Obj)} {σ : St} {H : Hp} {s : Shared} {h' : Heap}
theorem Inv.turns {t' : Nat} {ch : List Addr} (I : Inv X pins σ H s) (k : ∀ b o, b ∉ ch → s.heap.get? b = some o → h'.get? b = some o) (hf : ∀ b ∈ ch, FpOk X pins H b) : Inv X pins σ H { s with heap := h', toks := t' } := by
 have nit : ∀ b u, H b = some u → b ∉ ch := fun b u e z => by rw [(hf b z).1] at e; cases e
 refine I.step (g' := s.gens) (d' := s.drawn) (ch := ch) (fun b hb => ?_) (fun b o _ _ hc e _ => k b o hc e) (fun b o _ _ hc e _ => ⟨o.slots, k b o hc e⟩) (fun _ _ _ _ n => n) (fun b o hc e => ⟨o, k b o hc e⟩) (fun _ _ e => e) (fun _ _ _ e => e) (fun b ps e => ⟨#[], by rw [e]; simp⟩) (fun m hm => ?_) (fun b u e => ?_) I.bare
 ·obtain ⟨f0, f1, f2, f3, f4, f5⟩ := hf b hb
  exact ⟨f3, f1, f4, f5⟩
 ·obtain ⟨o, es, ep, ho, r⟩ := hm
  exact ⟨o, es, ep, k _ o (fun z => (hf _ z).2.1 rfl) ho, r⟩
 ·refine (I.hok b u e).stay (fun c v hc q => k c v ?_ q) (fun _ q => q) fun _ _ q => q
  rcases hc with z | z
  ·rw [z]; exact nit b u e
  ·exact nit c _ z
end
noncomputable def ItE (K : PySem.W.Frag) (a : Addr) (xs : List V) : It :=
 ⟨fun i H => i < xs.length ∧ SqL K H a xs, fun i H x H' => ∃ v T, xs[i]? = some v ∧ x = .ref T ∧ H T = none ∧ H' = upd H T (.tup [.int (i : Nat), v]), fun i H => i = xs.length ∧ SqL K H a xs⟩
theorem turn_enum {P : Program} {w : World} {K : PySem.W.Frag} {elts : List Expr} {kk : Nat} {pos : Pos} (a e li : Addr) (xs : List V) (hne : e ≠ li) :
  Turn P w K (.Tuple elts kk pos) (ItE K a xs) [e, li] e (fun i h => ∃ old, IsEnum h e li ((i : Nat) : Int) old ∧ h.IsListIter li a i) where
 mem := by simp
 obj := fun i h st b hb => by
  obtain ⟨old, s1, o, e2, c, d⟩ := st
  simp only [List.mem_cons, List.not_mem_nil, or_false] at hb
  rcases hb with rfl | rfl
  ·exact ⟨_, s1, fun v z => by cases z⟩
  ·exact ⟨o, e2, fun v z => by rw [d] at z; cases z⟩
 keep := fun i h h' st k => let ⟨old, s1, s2⟩ := st; ⟨old, k e (by simp) _ s1, s2.at fun o eo => k li (by simp) o eo⟩
 item := by
  intro X hP hw hK hc i pins s σ H E I hf st hg
  subst hP hw hK
  obtain ⟨old, st1, st2⟩ := st
  obtain ⟨hi, hq⟩ := hg
  obtain ⟨its, rv, p, hz⟩ := I.list hq
  have hx : xs[i]? = some xs[i] := by simp [hi]
  obtain ⟨u, hu, ru⟩ := rv.get hx
  refine wpAny_pyNext_enum_item st1 st2 p.isList (x := u) (by simpa using hu) hne fun h' jo jl ht hz' kp => ?_
  refine ⟨_, rfl, wpAny_letOwnedTupleGo_enum jo fun h2 he2 sb => ?_⟩
  have sb : Heap.SameBut e h' h2 := sb
  have nTe : s.heap.objs.size ≠ e := Nat.ne_of_gt (Heap.lt_size st1)
  have nTl : s.heap.objs.size ≠ li := by
   obtain ⟨o, e2, _⟩ := id st2
   exact Nat.ne_of_gt (Heap.lt_size e2)
  have I1 : Inv X pins σ H { s with heap := h2, toks := s.toks + 1 } := I.turns (ch := [e, li]) (fun b o hb eo => sb.extBut b o (fun z => hb (by simp [z])) (kp b o (fun z => hb (by simp [z])) (fun z => hb (by simp [z])) eo)) hf
  have hT2 : h2.get? s.heap.objs.size = some { cls := .type "tuple", data := .seq #[.int i s.toks, u] } := sb.extBut _ _ nTe ht
  obtain ⟨g0, g1, _, _, g4, g5⟩ := I.fpOk (Nat.le_refl _) I.fresh
  have I2 := I1.track (a := s.heap.objs.size) (o := .tup [.int (i : Nat), xs[i]]) g0 (by
   cases q : X.s₀.heap.get? s.heap.objs.size with
   | none => rfl
   | some ob => exact absurd (Nat.lt_of_lt_of_le (Heap.lt_size q) I.sz) (Nat.lt_irrefl _)) g1 g4 g5 ⟨small1000 (by simp) |> Nat.le_of_lt, [.int i s.toks, u], .cons ⟨_, rfl⟩ (.cons ru .nil), ⟨_, hT2, rfl, _, rfl⟩⟩
  refine ⟨.ref _, _, I2, rfl, ⟨xs[i], _, hx, rfl, g0, rfl⟩, ⟨_, he2, jl.extBut sb.extBut hne.symm⟩, fun b hb => ?_⟩
  have nb : b ≠ s.heap.objs.size := by
   simp only [List.mem_cons, List.not_mem_nil, or_false] at hb
   rcases hb with rfl | rfl
   ·exact nTe.symm
   ·exact nTl.symm
  rw [upd_ne nb]; exact (hf b hb).1
 done := by
  intro X hP hw hK hc i pins s σ H E I hf st hg
  subst hP hw hK
  obtain ⟨old, st1, st2⟩ := st
  obtain ⟨hi, hq⟩ := hg
  obtain ⟨its, rv, p, hz⟩ := I.list hq
  have hl := rv.length
  exact wpAny_pyNext_enum_end (I.ok.hd hc) st1 st2 p.isList (by simp; omega) fun h' eb => ⟨rfl, I.turns (t' := s.toks) (ch := [e, li]) (fun b o hb eo => eb b o (fun z => hb (by simp [z])) eo) hf⟩
 self := fun A i s Q E st h => let ⟨_, st1, _⟩ := st; wpAny_pyIter_enum st1 h
section
variable {X : Cx} {K : PySem.W.Frag}
noncomputable def iEnum (K : PySem.W.Frag) (ta : TA) : TI := fun σ H R => ta σ H fun vs H1 => ∃ a xs, vs = [V.ref a] ∧ SqL K H1 a xs ∧ R (ItE K a xs) H1
theorem pi_enum {elts : List Expr} {kk : Nat} {tpos : Pos} {a : Expr} {ta : TA} {p pos : Pos} (hK : X.K = K) (hg : Gl X "enumerate") (hm : X.mg "enumerate" = none) (ha : PA X [a] ta) (hs : starEach [a] X.env = [(false, eval a X.env)] := by rfl) : PI X (.Tuple elts kk tpos) (.Call (.Name "enumerate" p) [a] [] pos) (iEnum K ta) := by
 subst hK
 intro pins s σ H R I h
 refine Call_ (ld_blt I hg hm bt_enumerate (PyProof.Rows.callWith_type1 (thn (ha pos pins s σ H _ I h) fun us s1 ⟨vs, H1, I1, r1, q1⟩ => ?_) hs rfl))
 obtain ⟨b, xs, rfl, hq, q⟩ := q1
 obtain ⟨u, rfl, ru⟩ := vals1 r1
 cases ru
 obtain ⟨its, rv, p, hz⟩ := I1.list hq
 refine call_enumerate_list p.isList fun h' he hl hz kk => wpAny_pyIter_enum he ?_
 refine ⟨s1.heap.objs.size + 1, [s1.heap.objs.size + 1, s1.heap.objs.size], _, _, H1, rfl, I1.kept (t' := s1.toks) kk, turn_enum b (s1.heap.objs.size + 1) s1.heap.objs.size xs (Nat.succ_ne_self _), ⟨_, he, hl⟩, fun c hc => ?_, q⟩
 simp only [List.mem_cons, List.not_mem_nil, or_false] at hc
 rcases hc with rfl | rfl
 ·exact I1.fpOk (by omega) (I1.hok.fresh (by omega))
 ·exact I1.fpOk (Nat.le_refl _) (I1.hok.fresh (Nat.le_refl _))
end
/-! the forms one uses -/
theorem for_enum {K : PySem.W.Frag} {a : Addr} {xs : List V} {g : TG} {tb : TS} {D : Ends} {σ : St} {H : Hp} (Pv : Nat → St → Hp → Prop) (h0 : Pv 0 σ H) (hl : ∀ i σ H, i ≤ xs.length → Pv i σ H → SqL K H a xs)
  (hs : ∀ i v T σ H, xs[i]? = some v → Pv i σ H → H T = none → g (.ref T) σ (upd H T (.tup [.int (i : Nat), v])) fun σ2 H2 => tb { D with nx := Pv (i + 1), ct := Pv (i + 1), bk := D.nx } σ2 H2) (hd : ∀ σ H, Pv xs.length σ H → D.nx σ H) :
  ∃ W : Nat → Nat → St → Hp → Prop, (∃ m, W 0 m σ H) ∧ ∀ i m σ H, W i m σ H → ((ItE K a xs).stop i H ∧ D.nx σ H) ∨ ((ItE K a xs).go i H ∧ ∃ N : St → Hp → Prop, (∀ σ' H', N σ' H' → ∃ m', m' < m ∧ W (i + 1) m' σ' H') ∧
   ∀ x H', (ItE K a xs).yld i H x H' → g x σ H' fun σ2 H2 => tb { D with nx := N, ct := N, bk := D.nx } σ2 H2) := by
 refine ⟨fun i m σ H => m = xs.length - i ∧ i ≤ xs.length ∧ Pv i σ H, ⟨_, rfl, Nat.zero_le _, h0⟩, ?_⟩
 rintro i m σ H ⟨rfl, hi, p⟩
 have q := hl i σ H hi p
 by_cases hlt : i < xs.length
 ·refine .inr ⟨⟨hlt, q⟩, Pv (i + 1), fun σ' H' p' => ⟨xs.length - (i + 1), by omega, rfl, hlt, p'⟩, fun x H' y => ?_⟩
  obtain ⟨v, T, hv, e1, hT, e2⟩ := y
  subst e1 e2
  exact hs i v T σ H hv p hT
 ·have e : i = xs.length := by omega
  subst e
  exact .inl ⟨⟨rfl, q⟩, hd σ H p⟩
end L2
namespace L2
open PySem PySem.Spec PyProof.Rows
section
variable {X : Cx}
end
end L2
namespace L2
open PySem PySem.Spec PyProof.Rows
theorem bt_zip : bootBuiltins "zip" = some (.type "zip") := by decide +kernel
section
variable {X : Cx} {K : PySem.W.Frag}
end
end L2
namespace L2
open PySem PySem.Spec PyProof.Rows
section
variable {X : Cx} {K : PySem.W.Frag}
end
end L2
namespace L2
open PySem PySem.Spec PyProof.Rows
end L2
namespace L2
open PySem PySem.Spec PyProof.Rows
section
variable {X : Cx}
end
end L2
namespace L2
open PySem PySem.Spec PyProof.Rows
noncomputable def EqW (prog : Program) (w : World) (A : Around) (s : Shared) (v y : Value) : Prop := ∀ (E : Value → Shared → Prop) (Q : Bool → Shared → Prop), Q true s → wpAny (model prog w) A (eqBool v y) Q E s
section
variable {prog : Program} {w : World} {A : Around} {E : Value → Shared → Prop} {s : Shared}
theorem EqW.of {v y : Value} (h : SeqAt.EqAt A s v y true) : EqW prog w A s v y := fun E Q q => h prog w E Q q
variable {Kt : Type} [DecidableEq Kt] {knd : KeyKind prog w Kt}
open SeqAt in
open SeqAt in
theorem loopN (l b : Addr) (xs ys : Array Value) (n n2 : Nat) (dd dd2 : Option Addr) (sl sl2 : Array (Option Value)) (sz : xs.size = ys.size) (k : Nat) :
  ∀ i : Nat, xs.size - i = k → MeetsIn prog w (Builtin.«list.__eq__.loop» ⟨[.ref l, .ref b, rawInt i, rawInt 3], []⟩) (fun A R s => s.heap.get? l = some { cls := .type "list", dict := dd, data := .seq xs n, slots := sl } ∧ s.heap.get? b = some { cls := .type "list", dict := dd2, data := .seq ys n2, slots := sl2 } ∧
    (∀ j (h1 : j < xs.size) (h2 : j < ys.size), EqW prog w A.in1 s xs[j] ys[j]) ∧ R (.ok (.ret (.bool false))) s) := by
 induction k with
 | zero =>
  intro i hk A R s h
  obtain ⟨hp, g, d, tk, os⟩ := s
  obtain ⟨hl, hb, he, h⟩ := h
  have i1 : xs[((i : Nat) : Int).toNat]? = none := by simp; omega
  have i2 : ys[((i : Nat) : Int).toNat]? = none := by simp; omega
  wp_walk using AutoSeq1.wpAny_loadPart' hl, AutoSeq1.wpAny_loadPart' hb
  rw [i1, i2]
  wp_walk using AutoSeq1.wpAny_loadPart' hl, AutoSeq1.wpAny_loadPart' hb
  show R (.ok (.ret (.bool (xs.size != ys.size)))) _
  rw [sz]
  simpa using h
 | succ k ih =>
  intro i hk A R s h
  obtain ⟨hp, g, d, tk, os⟩ := s
  obtain ⟨hl, hb, he, h⟩ := h
  have l1 : i < xs.size := by omega
  have l2 : i < ys.size := by omega
  have i1 : xs[((i : Nat) : Int).toNat]? = some xs[i] := by simp [l1]
  have i2 : ys[((i : Nat) : Int).toNat]? = some ys[i] := by simp [l2]
  have hc : ((i : Int) + 1) = ((i + 1 : Nat) : Int) := by push_cast; rfl
  wp_walk using AutoSeq1.wpAny_loadPart' hl, AutoSeq1.wpAny_loadPart' hb
  rw [i1, i2]
  refine wpAny_bind (he i l1 l2 _ _ ?_)
  wp_walk
  rw [hc]
  exact ⟨plainId_quiet MeetsSeq3.plain_eq_loop _, codeAny_builtin MeetsSeq3.entry_eq_loop (by
   rw [Around.under_plainId MeetsSeq3.plain_eq_loop _]
   exact ih (i + 1) (by omega) A R _ ⟨hl, hb, he, h⟩)⟩
theorem listN (l b : Addr) (xs ys : Array Value) (n n2 : Nat) (dd dd2 : Option Addr) (sl sl2 : Array (Option Value)) (sz : xs.size = ys.size) :
  MeetsIn prog w (Builtin.«list.__ne__» ⟨[.ref l, .ref b], []⟩) (fun A R s => s.heap.get? l = some { cls := .type "list", dict := dd, data := .seq xs n, slots := sl } ∧ s.heap.get? b = some { cls := .type "list", dict := dd2, data := .seq ys n2, slots := sl2 } ∧
    (∀ j (h1 : j < xs.size) (h2 : j < ys.size), EqW prog w A.in1 s xs[j] ys[j]) ∧ R (.ok (.ret (.bool false))) s) := by
 intro A R s h
 obtain ⟨hp, g, d, tk, os⟩ := s
 obtain ⟨hl, hb, he, h⟩ := h
 have f3 := AutoSeq1.sub_list_list
 have hne : ¬ (xs.size != ys.size) = true := by simp [sz]
 wp_walk using AutoSeq1.wpAny_loadPart' hl, AutoSeq1.wpAny_loadPart' hb
 exact ⟨plainId_quiet MeetsSeq3.plain_eq_loop _, codeAny_builtin MeetsSeq3.entry_eq_loop (by
  rw [Around.under_plainId MeetsSeq3.plain_eq_loop _]
  exact loopN l b xs ys n n2 dd dd2 sl sl2 sz _ 0 rfl A R _ ⟨hl, hb, he, h⟩)⟩
theorem richN {l b : Addr} {xs ys : Array Value} {Q : Value → Shared → Prop} (hl : s.heap.IsList l xs) (hb : s.heap.IsList b ys) (sz : xs.size = ys.size) (hu : A.units < cLine) (he : ∀ j (h1 : j < xs.size) (h2 : j < ys.size), EqW prog w A.in1 s xs[j] ys[j]) (q : Q (.bool false) s) :
  wpAny (model prog w) A (richCompare .NotEq (.ref l) (.ref b)) Q E s := by
 obtain ⟨⟨cls, dd, data, sl⟩, ho, hc, n, hd⟩ := id hl
 obtain ⟨⟨cls2, dd2, data2, sl2⟩, ho2, hc2, n2, hd2⟩ := id hb
 simp only at hc hd hc2 hd2
 subst hc hd hc2 hd2
 exact wpAny_richCompare_same_room (op := .NotEq) ⟨_, ho, rfl⟩ ⟨_, ho2, rfl⟩ F.slot_list_ne (call_meetsIn F.slot_list_ne ⟨_, ho, rfl⟩ F.entry_list_ne (F.args_list_ne_2 _ _) (listN l b xs ys n n2 dd dd2 sl sl2 sz) ⟨ho, ho2, he, show Value.bool false ≠ Value.notImplemented ∧ Q (.bool false) s from ⟨(fun x => nomatch x), q⟩⟩) hu
end
end L2
namespace L2
open PySem PySem.Spec PyProof.Rows
section
variable {X : Cx} {K : PySem.W.Frag}
end
end L2
namespace L2
open PySem PySem.Spec PyProof.Rows
section
variable {prog : Program} {w : World} {A : Around} {E : Value → Shared → Prop} {s : Shared} {d : Addr} {es : Array DictEntry} {ep : Nat}
end
section
variable {X : Cx} {K : PySem.W.Frag}
end
end L2
namespace L2
open PySem PySem.Spec PyProof.Rows
section
variable {X : Cx}
end
end L2
namespace L2
open PySem PySem.Spec PyProof.Rows
noncomputable def AlS (K : PySem.W.Frag) (H : Hp) : Nat → V → V → Prop
 | 0, x, y => ∃ a, x = .ref a ∧ y = .ref a
 | n + 1, x, y => (∃ a, x = .ref a ∧ y = .ref a) ∨ ∃ a b xs ys, x = .ref a ∧ y = .ref b ∧ ((SqL K H a xs ∧ SqL K H b ys) ∨ (SqT K H a xs ∧ SqT K H b ys)) ∧ Paired (AlS K H n) xs ys
theorem AlS.refl {K : PySem.W.Frag} {H : Hp} {a : Addr} : ∀ n : Nat, AlS K H n (.ref a) (.ref a)
 | 0 => ⟨a, rfl, rfl⟩
 | _ + 1 => Or.inl ⟨a, rfl, rfl⟩
theorem AlS.refls {K : PySem.W.Frag} {H : Hp} (n : Nat) : ∀ {xs : List V}, (∀ x ∈ xs, ∃ a, x = .ref a) → Paired (AlS K H n) xs xs
 | [], _ => .nil
 | x :: xs, h => by
  obtain ⟨a, rfl⟩ := h x List.mem_cons_self
  exact .cons (AlS.refl n) (AlS.refls n fun y hy => h y (List.mem_cons_of_mem _ hy))
section
variable {X : Cx} {K : PySem.W.Frag}
theorem eqS {pins : List (Addr × Obj)} {σ : St} {H : Hp} {s : Shared} (I : Inv X pins σ H s) : ∀ (n : Nat) {A : Around} {x y : V} {v u : Value}, AlS X.K H n x y → RelV x v → RelV y u → A.units + n < cLine → SeqAt.EqAt A s v u true
 | 0, A, x, y, v, u, h, rx, ry, hu => by
  obtain ⟨a, rfl, rfl⟩ := h
  cases rx; cases ry
  exact SeqAt.EqAt.same _
 | n + 1, A, x, y, v, u, h, rx, ry, hu => by
  rcases h with ⟨a, rfl, rfl⟩ | ⟨a, b, xs, ys, rfl, rfl, h, hp⟩
  ·cases rx; cases ry
   exact SeqAt.EqAt.same _
  ·cases rx; cases ry
   by_cases e : a = b
   ·subst e; exact SeqAt.EqAt.same _
   have hl := hp.length
   have key : ∀ {us ws : List Value}, Vals xs us → Vals ys ws → ∀ j (h1 : j < us.toArray.size) (h2 : j < ws.toArray.size), SeqAt.EqAt A.in1 s us.toArray[j] ws.toArray[j] ((fun _ => true) j) := by
    intro us ws r r' j h1 h2
    have e1 := r.length
    have e2 := r'.length
    have j1 : j < us.length := by simpa using h1
    have j2 : j < xs.length := by omega
    have j3 : j < ws.length := by simpa using h2
    obtain ⟨u1, hu1, ru⟩ := r.get (List.getElem?_eq_getElem j2)
    obtain ⟨y1, hy, al⟩ := pair_at hp (List.getElem?_eq_getElem j2)
    obtain ⟨u2, hu2, ru'⟩ := r'.get hy
    have e4 : us.toArray[j] = u1 := by
     have : us[j]? = some us[j] := List.getElem?_eq_getElem j1
     rw [hu1] at this
     simpa using (Option.some.inj this).symm
    have e5 : ws.toArray[j] = u2 := by
     have : ws[j]? = some ws[j] := List.getElem?_eq_getElem j3
     rw [hu2] at this
     simpa using (Option.some.inj this).symm
    rw [e4, e5]
    exact eqS I n al ru ru' (by show A.units + 1 + n < cLine; omega)
   rcases h with ⟨ha, hb⟩ | ⟨ha, hb⟩
   ·obtain ⟨us, r1, p1, _⟩ := I.list ha
    obtain ⟨ws, r2, p2, _⟩ := I.list hb
    have sz : us.toArray.size = ws.toArray.size := by
     have e1 := r1.length
     have e2 := r2.length
     simp; omega
    have h := SeqAt.RcAt.lists (A := A) (e := fun _ => true) p1.isList p2.isList sz (by omega) (key r1 r2)
    have et : ((List.range us.toArray.size).all fun _ => true) = true := by simp
    rw [et] at h
    exact SeqAt.EqAt.of_refs e h
   ·obtain ⟨us, r1, p1, _⟩ := I.tuple ha
    obtain ⟨ws, r2, p2, _⟩ := I.tuple hb
    have sz : us.toArray.size = ws.toArray.size := by
     have e1 := r1.length
     have e2 := r2.length
     simp; omega
    have h := SeqAt.RcAt.tuples (A := A) (e := fun _ => true) p1 p2 (by omega) (key r1 r2)
    have et : ((List.range (min us.toArray.size ws.toArray.size)).all (fun _ => true) && us.toArray.size == ws.toArray.size) = true := by simp [sz]
    rw [et] at h
    exact SeqAt.EqAt.of_refs e h
theorem op_neS {k : Nat} (hK : X.K = K) (hr : Room k X.A) : OpR X (compareOp .NotEq) (fun x y H Q => (∃ a b xs ys, x = .ref a ∧ y = .ref b ∧ SqL K H a xs ∧ SqL K H b ys ∧ Paired (AlS K H 3) xs ys) ∧ Q (.bl false) H) := by
 subst hK
 intro pins s σ H x y v u Q I rx ry h
 obtain ⟨⟨a, b, xs, ys, rfl, rfl, ha, hb, hp⟩, q⟩ := h
 cases rx; cases ry
 obtain ⟨us, r1, p1, _⟩ := I.list ha
 obtain ⟨ws, r2, p2, _⟩ := I.list hb
 have hu := hr.un
 have hl := hp.length
 have sz : us.toArray.size = ws.toArray.size := by
  have e1 := r1.length
  have e2 := r2.length
  simp; omega
 refine richN p1.isList p2.isList sz (by omega) (fun j h1 h2 => ?_) ⟨.bl false, H, I, rfl, q⟩
 have e1 := r1.length
 have e2 := r2.length
 have j1 : j < us.length := by simpa using h1
 have j2 : j < xs.length := by omega
 have j3 : j < ws.length := by simpa using h2
 obtain ⟨u1, hu1, ru⟩ := r1.get (List.getElem?_eq_getElem j2)
 obtain ⟨y1, hy, al⟩ := pair_at hp (List.getElem?_eq_getElem j2)
 obtain ⟨u2, hu2, ru'⟩ := r2.get hy
 have e4 : us.toArray[j] = u1 := by
  have : us[j]? = some us[j] := List.getElem?_eq_getElem j1
  rw [hu1] at this
  simpa using (Option.some.inj this).symm
 have e5 : ws.toArray[j] = u2 := by
  have : ws[j]? = some ws[j] := List.getElem?_eq_getElem j3
  rw [hu2] at this
  simpa using (Option.some.inj this).symm
 rw [e4, e5]
 exact EqW.of (eqS I 3 al ru ru' (by show X.A.units + 1 + 3 < cLine; omega))
end
end L2
namespace L2
theorem by_key1 {α : Type} {P C : α → Prop} {G : Prop} (go : (∀ x, C x → P x) → G) (body : ∀ x, C x → P x) : G := go body
theorem by_key2 {α β : Type} {P C : α → β → Prop} {G : Prop} (go : (∀ x y, C x y → P x y) → G) (body : ∀ x y, C x y → P x y) : G := go body
end L2
namespace L2
open PySem PySem.Spec PyProof.Rows
section
variable {X : Cx}
noncomputable def tJs : List TE → Str → TE
 | [], acc => fun _ H Q => acc.length ≤ 16777216 ∧ Q (.str acc) H
 | t :: ts, acc => fun σ H Q => t σ H fun x H1 => ∃ y, x = .str y ∧ (acc ++ y).length ≤ 16777216 ∧ tJs ts (acc ++ y) σ H1 Q
theorem joins_of {pins : List (Addr × Obj)} {σ : St} {Q : VK} : ∀ (es : List Expr) (ts : List TE) (acc : Str) (s : Shared) (H : Hp), Paired (PE X) es ts → Inv X pins σ H s → tJs ts acc σ H Q →
  Joins (model X.prog X.w) X.A X.xe (evalEach es X.env) acc (fun out s₁ => out.length ≤ sizeLine ∧ EP X pins σ Q (.str out s₁.toks) { s₁ with toks := s₁.toks + 1 }) s
 | _, _, acc, s, H, .nil, I, h => ⟨by rw [sizeLine_eq]; exact h.1, .str acc, H, I.tok _, ⟨_, rfl⟩, h.2⟩
 | _, _, acc, s, H, .cons r t, I, h => thn (r pins s σ H _ I h) fun v s1 ⟨x, H1, I1, r1, q1⟩ => by
  obtain ⟨y, rfl, hz, q⟩ := q1
  obtain ⟨t', rfl⟩ := r1
  exact ⟨y, t', rfl, by rw [sizeLine_eq]; exact hz, joins_of _ _ _ _ _ t I1 q⟩
theorem pe_js {a b : Expr} {es : List Expr} {ts : List TE} {pos : Pos} (h : Paired (PE X) (a :: b :: es) ts) : PE X (.JoinedStr (a :: b :: es) pos) (tJs ts Str.empty) :=
 fun _ _ _ _ _ I q => wpAny_JoinedStr (joins_of _ _ _ _ _ h I q)
end
/-! what is joined by a sign that no part has is split into the parts -/
end L2
namespace L2
open PySem PySem.Spec PyProof.Rows
/-! set(t) of a tuple of texts that are all different -/
section
variable {prog : Program} {w : World} {A : Around} {R : Result → Shared → Prop} {I : Addr} {fp wr : List Addr} {G : Array GenState → Array GenState → Prop} {P : Nat → Value → Prop} {St : Nat → Shared → Prop}
end
section
variable {prog : Program} {w : World} {A : Around} {E : Value → Shared → Prop} {s : Shared}
end
section
variable {X : Cx}
end
end L2
namespace L2
open PySem PySem.Spec PyProof.Rows
/-! zip of two tuples -/
structure Hands (P : Program) (w : World) (m l : Addr) (I J : Heap → Prop) (x : Value) : Prop where
 keepI : ∀ {g g' : Heap}, (∀ o, g.get? m = some o → g'.get? m = some o) → (∀ o, g.get? l = some o → g'.get? l = some o) → I g → I g'
 keepJ : ∀ {g g' : Heap}, (∀ o, g.get? m = some o → g'.get? m = some o) → J g → J g'
 give : ∀ {A : Around} {E : Value → Shared → Prop} {s : Shared} {Q : Value → Shared → Prop}, I s.heap → (∀ g, J g → Heap.SameBut m s.heap g → Q x { s with heap := g }) → wpAny (model P w) A (Builtin.SmallTypes.nextOf (.ref m)) Q E s
section
variable {P : Program} {w : World} {A : Around} {E : Value → Shared → Prop} {s : Shared}
theorem hands_tup {m t : Addr} {k : Nat} {xs : Array Value} {x : Value} (hx : xs[k]? = some x) : Hands P w m t (fun g => g.IsTupleIter m t k ∧ g.IsTuple t xs) (fun g => g.IsTupleIter m t (k + 1)) x where
 keepI := fun a b ⟨⟨o, h, r⟩, ⟨o2, h2, r2⟩⟩ => ⟨⟨o, a o h, r⟩, ⟨o2, b o2 h2, r2⟩⟩
 keepJ := fun a ⟨o, h, r⟩ => ⟨o, a o h, r⟩
 give := fun {A E s Q} ⟨hit, ht⟩ fin => by
  obtain ⟨oi, gi, ci, di⟩ := id hit
  obtain ⟨ot, gt, _, nt, dt⟩ := ht
  unfold Builtin.SmallTypes.nextOf
  refine wpAny_bind (wpAny_callSpecial?_slot (name := Str.ofString "__next__") hit.typeIs F.slot_tuple_iterator_next (wpAny_call_entry F.slot_tuple_iterator_next hit.typeIs F.entry_tuple_iterator_next ?_ (F.args_tuple_iterator_next_1 _)))
  show wpAny (model P w) _ (field (.ref m) 0 >>= _) _ _ s
  refine wpAny_bind (wpAny_field gi di (x := .ref t) rfl ?_)
  show wpAny (model P w) _ (if (Value.ref t == Value.none) = true then _ else _) _ _ s
  rw [if_neg (by exact Bool.false_ne_true)]
  show wpAny (model P w) _ (field (.ref m) 1 >>= _) _ _ s
  refine wpAny_bind (wpAny_field gi di (x := .int k 0) rfl ?_)
  show wpAny (model P w) _ (seqItems? (.ref t) >>= _) _ _ s
  refine wpAny_bind (wpAny_seqItems gt dt ?_)
  simp only [Int.toNat_natCast, hx]
  refine wpAny_bind (wpAny_setField gi di (by simp) (wpAny_pure ⟨x, rfl, wpAny_pure (fin _ ⟨_, Heap.get?_update_self _ gi (Obj.isFreed_of_fields (Obj.data_mapFields di _)), (Obj.cls_mapFields ..).trans ci, ?_⟩ (Heap.SameBut.update ..))⟩))
  rw [Obj.data_mapFields di]
  simp [rawInt]
theorem ends_tup {m t : Addr} {k : Nat} {xs : Array Value} {Q : Value → Shared → Prop} (hh : A.handled = none) (hit : s.heap.IsTupleIter m t k) (ht : s.heap.IsTuple t xs) (hx : xs[k]? = none)
  (fin : ∀ g e, Heap.ExtBut m s.heap g → (∃ o, g.get? e = some o ∧ o.cls = .type "StopIteration") → E (.ref e) { s with heap := g }) : wpAny (model P w) A (Builtin.SmallTypes.nextOf (.ref m)) Q E s := by
 obtain ⟨oi, gi, ci, di⟩ := id hit
 obtain ⟨ot, gt, _, nt, dt⟩ := ht
 unfold Builtin.SmallTypes.nextOf
 refine wpAny_bind (wpAny_callSpecial?_slot (name := Str.ofString "__next__") hit.typeIs F.slot_tuple_iterator_next (wpAny_call_entry F.slot_tuple_iterator_next hit.typeIs F.entry_tuple_iterator_next ?_ (F.args_tuple_iterator_next_1 _)))
 show wpAny (model P w) _ (field (.ref m) 0 >>= _) _ _ s
 refine wpAny_bind (wpAny_field gi di (x := .ref t) rfl ?_)
 show wpAny (model P w) _ (if (Value.ref t == Value.none) = true then _ else _) _ _ s
 rw [if_neg (by exact Bool.false_ne_true)]
 show wpAny (model P w) _ (field (.ref m) 1 >>= _) _ _ s
 refine wpAny_bind (wpAny_field gi di (x := .int k 0) rfl ?_)
 show wpAny (model P w) _ (seqItems? (.ref t) >>= _) _ _ s
 refine wpAny_bind (wpAny_seqItems gt dt ?_)
 simp only [Int.toNat_natCast, hx]
 refine wpAny_bind (wpAny_rule (wpAny_bind (wpAny_setField gi di (by simp) ?_)))
 show wpAny (model P w) _ (newExc (.type "StopIteration") [] >>= _) _ _ _
 refine wpAny_bind ?_
 simp only [newExc, newTuple]
 refine wpAny_bind (wpAny_newObj_type ?_ (by size_fits))
 refine wpAny_bind (m := firstArgMember _ _) (wpAny_of_eq (a := Value.none) (by first | rfl | (simp only [firstArgMember] <;> rfl)) (wpAny_newObj_type ?_ (by size_fits)))
 simp only [raiseNew]
 refine wpAny_bind (wpAny_handled ?_)
 first | rw [show A.in1.handled = none from hh] | (rw [hh])
 exact wpAny_bind (wpAny_pure (wpAny_throw (fin _ _ (((Heap.SameBut.update ..).extBut.push _).push _) ⟨_, Heap.get?_push_size _ rfl, rfl⟩)))
theorem zip_gives {z ti to' m n l l' : Addr} {I J I' J' : Heap → Prop} {x y u v : Value} {Q : Value → Shared → Prop} (D : ZipApart z ti to' m n l l') (X : Hands P w m l I J x) (Y : Hands P w n l' I' J' y)
  (zz : IsZip s.heap z ti to' .none) (pi : IsPair s.heap ti (.ref m) (.ref n)) (po : IsPair s.heap to' u v) (hI : I s.heap) (hI' : I' s.heap) (gm : ∃ o, s.heap.get? m = some o) (gn : ∃ o, s.heap.get? n = some o)
  (fin : ∀ g, IsZip g z ti to' (rawInt s.heap.objs.size) → IsPair g to' x y → J g → J' g → IsPair g s.heap.objs.size x y → (∀ c o, c ≠ z → c ≠ to' → c ≠ m → c ≠ n → s.heap.get? c = some o → g.get? c = some o) → Q (.ref s.heap.objs.size) { s with heap := g }) :
  wpAny (model P w) A (Builtin.«zip.__next__» ⟨[.ref z], []⟩) (fun r s' => ∃ q, r = .done (.ret q) ∧ Q q s') E s := by
 show wpAny (model P w) _ (field (.ref z) 2 >>= _) _ _ _
 refine wpAny_bind (wpAny_field zz rfl (x := .bool false) rfl ?_)
 show wpAny (model P w) _ (field (.ref z) 3 >>= _) _ _ _
 refine wpAny_bind (wpAny_field zz rfl (x := .ref ti) rfl (wpAny_bind (wpAny_seqItems pi rfl ?_)))
 show wpAny (model P w) _ (Builtin.SmallTypes.ownedTupleIsFree (.ref z) >>= _) _ _ _
 refine wpAny_bind ?_
 unfold Builtin.SmallTypes.ownedTupleIsFree
 refine wpAny_bind (wpAny_field zz rfl (x := .none) rfl (wpAny_pure ?_))
 simp only [if_true]
 refine wpAny_bind (wpAny_rule (wpAny_bind (wpAny_field zz rfl (x := .ref to') rfl (wpAny_bind (wpAny_setField_rec zz (by simp) fun g1 z1 b1 => ?_)))))
 replace z1 : IsZip g1 z ti to' .ellipsis := z1
 refine wpAny_bind ?_
 simp only [List.zipIdx_cons, List.zipIdx_nil, List.forIn_cons, List.forIn_nil]
 refine wpAny_bind (wpAny_bind (wpAny_onRaise ?_))
 show wpAny (model P w) _ (Builtin.SmallTypes.nextOf (.ref m) >>= _) _ _ _
 refine wpAny_bind (X.give (X.keepI (fun o e => b1.extBut _ _ D.i1z e) (fun o e => b1.extBut _ _ D.l1z e) hI) fun g2 j2 b2 => wpAny_pure ?_)
 have po2 : IsPair g2 to' u v := b2.extBut _ _ D.TOi1 (b1.extBut _ _ D.TOz po)
 refine wpAny_bind (wpAny_seqItems po2 rfl (wpAny_bind (wpAny_updateSeq_pair po2 fun g3 po3 b3 => ?_)))
 replace po3 : IsPair g3 to' x v := po3
 refine wpAny_bind (wpAny_letGo (wpAny_pure (wpAny_bind (wpAny_bind (wpAny_onRaise ?_)))))
 show wpAny (model P w) _ (Builtin.SmallTypes.nextOf (.ref n) >>= _) _ _ _
 refine wpAny_bind (Y.give (Y.keepI (fun o e => b3.extBut _ _ D.TOi2.symm (b2.extBut _ _ D.i12.symm (b1.extBut _ _ D.i2z e))) (fun o e => b3.extBut _ _ D.l2TO (b2.extBut _ _ D.l2i1 (b1.extBut _ _ D.l2z e))) hI') fun g4 j4 b4 => wpAny_pure ?_)
 have po4 : IsPair g4 to' x v := b4.extBut _ _ D.TOi2 po3
 refine wpAny_bind (wpAny_seqItems po4 rfl (wpAny_bind (wpAny_updateSeq_pair po4 fun g5 po5 b5 => ?_)))
 replace po5 : IsPair g5 to' x y := po5
 refine wpAny_bind (wpAny_letGo (wpAny_pure (wpAny_pure ?_)))
 refine wpAny_bind (wpAny_seqItems po5 rfl (wpAny_bind (wpAny_newTuple ?_)))
 have es : g5.objs.size = s.heap.objs.size := by rw [b5.1, b4.1, b3.1, b2.1, b1.1]
 have z5 : IsZip g5 z ti to' .ellipsis := b5.extBut _ _ D.TOz.symm (b4.extBut _ _ D.i2z.symm (b3.extBut _ _ D.TOz.symm (b2.extBut _ _ D.i1z.symm z1)))
 have k5 : ∀ c o, c ≠ z → c ≠ to' → c ≠ m → c ≠ n → s.heap.get? c = some o → g5.get? c = some o := fun c o c1 c2 c3 c4 e => b5.extBut _ _ c2 (b4.extBut _ _ c4 (b3.extBut _ _ c2 (b2.extBut _ _ c3 (b1.extBut _ _ c1 e))))
 have J5 : J g5 := X.keepJ (fun o e => b5.extBut _ _ D.TOi1.symm (b4.extBut _ _ D.i12 (b3.extBut _ _ D.TOi1.symm e))) j2
 have J5' : J' g5 := Y.keepJ (fun o e => b5.extBut _ _ D.TOi2.symm e) j4
 have zlt : z < g5.objs.size := Heap.lt_size z5
 show wpAny (model P w) _ (Builtin.SmallTypes.ownedTupleHandOut (.ref z) (.ref g5.objs.size) >>= _) _ _ _
 refine wpAny_bind ?_
 unfold Builtin.SmallTypes.ownedTupleHandOut
 have z6 : IsZip (g5.push { cls := .type "tuple", data := .seq #[x, y] }) z ti to' .ellipsis := Heap.get?_push_of_some _ z5
 refine wpAny_bind (wpAny_setField_rec z6 (by simp) fun g7 z7 b7 => ?_)
 replace z7 : IsZip g7 z ti to' (rawInt g5.objs.size) := z7
 refine wpAny_setField_rec z7 (by simp) fun g8 z8 b8 => ?_
 replace z8 : IsZip g8 z ti to' (rawInt g5.objs.size) := z8
 have up : ∀ c o, c ≠ z → g5.get? c = some o → g8.get? c = some o := fun c o c1 e => b8.extBut _ _ c1 (b7.extBut _ _ c1 (Heap.get?_push_of_some _ e))
 have T8 : IsPair g8 g5.objs.size x y := b8.extBut _ _ (Nat.ne_of_gt zlt) (b7.extBut _ _ (Nat.ne_of_gt zlt) (Heap.get?_push_size _ rfl))
 rw [es] at z8 T8
 refine wpAny_pure ⟨_, rfl, ?_⟩
 show Q (.ref g5.objs.size) _
 rw [es]
 exact fin g8 z8 (up _ _ D.TOz po5) (X.keepJ (fun o e => up _ o D.i1z e) J5) (Y.keepJ (fun o e => up _ o D.i2z e) J5') T8 fun c o c1 c2 c3 c4 e => up c o c1 (k5 c o c1 c2 c3 c4 e)
theorem zip_stops {z ti to' m n l l' : Addr} {k : Nat} {xs : Array Value} {Q : Fin → Shared → Prop} (hh : A.handled = none) (D : ZipApart z ti to' m n l l') (zz : IsZip s.heap z ti to' .none) (pi : IsPair s.heap ti (.ref m) (.ref n))
  (hm : s.heap.IsTupleIter m l k) (hl : s.heap.IsTuple l xs) (hx : xs[k]? = none)
  (fin : ∀ g e, (∀ c o, c ≠ z → c ≠ m → s.heap.get? c = some o → g.get? c = some o) → (∃ o, g.get? e = some o ∧ o.cls = .type "StopIteration") → E (.ref e) { s with heap := g }) : wpAny (model P w) A (Builtin.«zip.__next__» ⟨[.ref z], []⟩) Q E s := by
 show wpAny (model P w) _ (field (.ref z) 2 >>= _) _ _ _
 refine wpAny_bind (wpAny_field zz rfl (x := .bool false) rfl ?_)
 show wpAny (model P w) _ (field (.ref z) 3 >>= _) _ _ _
 refine wpAny_bind (wpAny_field zz rfl (x := .ref ti) rfl (wpAny_bind (wpAny_seqItems pi rfl ?_)))
 show wpAny (model P w) _ (Builtin.SmallTypes.ownedTupleIsFree (.ref z) >>= _) _ _ _
 refine wpAny_bind ?_
 unfold Builtin.SmallTypes.ownedTupleIsFree
 refine wpAny_bind (wpAny_field zz rfl (x := .none) rfl (wpAny_pure ?_))
 simp only [if_true]
 refine wpAny_bind (wpAny_rule (wpAny_bind (wpAny_field zz rfl (x := .ref to') rfl (wpAny_bind (wpAny_setField_rec zz (by simp) fun g1 z1 b1 => ?_)))))
 replace z1 : IsZip g1 z ti to' .ellipsis := z1
 refine wpAny_bind ?_
 simp only [List.zipIdx_cons, List.zipIdx_nil, List.forIn_cons, List.forIn_nil]
 refine wpAny_bind (wpAny_bind (wpAny_onRaise ?_))
 show wpAny (model P w) _ (Builtin.SmallTypes.nextOf (.ref m) >>= _) _ _ _
 refine wpAny_bind (ends_tup hh (hm.extBut b1.extBut D.i1z) (hl.extBut b1.extBut D.l1z) hx fun g2 e b2 he => ?_)
 obtain ⟨oe, ge, ce⟩ := he
 have z2 : IsZip g2 z ti to' .ellipsis := b2 _ _ D.i1z.symm z1
 have ez : e ≠ z := fun q => by subst q; rw [z2] at ge; cases ge; simp at ce
 exact wpAny_setField_rec z2 (by simp) fun g3 _ b3 => fin g3 e (fun c o c1 c3 q => b3.extBut _ _ c1 (b2 _ _ c3 (b1.extBut _ _ c1 q))) ⟨oe, b3.extBut _ _ ez ge, ce⟩
theorem next_zip {z ti to' m n l l' : Addr} {I J I' J' : Heap → Prop} {x y u v : Value} {Q : Option Value → Shared → Prop} (D : ZipApart z ti to' m n l l') (X : Hands P w m l I J x) (Y : Hands P w n l' I' J' y)
  (zz : IsZip s.heap z ti to' .none) (pi : IsPair s.heap ti (.ref m) (.ref n)) (po : IsPair s.heap to' u v) (hI : I s.heap) (hI' : I' s.heap) (gm : ∃ o, s.heap.get? m = some o) (gn : ∃ o, s.heap.get? n = some o)
  (fin : ∀ g, IsZip g z ti to' (rawInt s.heap.objs.size) → IsPair g to' x y → J g → J' g → IsPair g s.heap.objs.size x y → (∀ c o, c ≠ z → c ≠ to' → c ≠ m → c ≠ n → s.heap.get? c = some o → g.get? c = some o) → Q (some (.ref s.heap.objs.size)) { s with heap := g }) :
  wpAny (model P w) A (pyNext (.ref z)) Q E s := by
 have ty : s.TypeIs (.ref z) "zip" := ⟨_, zz, rfl⟩
 unfold pyNext
 exact wpAny_bind (wpAny_attempt (wpAny_callSpecial?_slot (name := Str.ofString "__next__") ty F.slot_zip_next (wpAny_call_entry F.slot_zip_next ty F.entry_zip_next (zip_gives D X Y zz pi po hI hI' gm gn fun g a b c d e f => wpAny_pure (fin g a b c d e f)) (F.args_zip_next_1 _))))
theorem stop_zip {z ti to' m n l l' : Addr} {k : Nat} {xs : Array Value} {Q : Option Value → Shared → Prop} (hh : A.handled = none) (D : ZipApart z ti to' m n l l') (zz : IsZip s.heap z ti to' .none) (pi : IsPair s.heap ti (.ref m) (.ref n))
  (hm : s.heap.IsTupleIter m l k) (hl : s.heap.IsTuple l xs) (hx : xs[k]? = none) (fin : ∀ g, (∀ c o, c ≠ z → c ≠ m → s.heap.get? c = some o → g.get? c = some o) → Q none { s with heap := g }) : wpAny (model P w) A (pyNext (.ref z)) Q E s := by
 have ty : s.TypeIs (.ref z) "zip" := ⟨_, zz, rfl⟩
 unfold pyNext
 refine wpAny_bind (wpAny_attempt (wpAny_callSpecial?_slot (name := Str.ofString "__next__") ty F.slot_zip_next (wpAny_call_entry F.slot_zip_next ty F.entry_zip_next (zip_stops hh D zz pi hm hl hx fun g e kp he => ?_) (F.args_zip_next_1 _))))
 obtain ⟨o, ho, hc⟩ := he
 exact wpAny_bind (wpAny_isInstance (T := "StopIteration") (b := true) ⟨o, ho, hc⟩ isSubtype_stop (wpAny_pure (fin _ kp)))
noncomputable abbrev zt1 (h : Heap) (a : Addr) : Heap := h.push { cls := .type "tuple_iterator", data := .fields #[.ref a, .int 0 0] }
noncomputable abbrev zt3 (h : Heap) (a b : Addr) : Heap := (zt1 (zt1 h a) b).push { cls := .type "tuple", data := .seq #[.ref h.objs.size, .ref (zt1 h a).objs.size] }
noncomputable abbrev zt4 (h : Heap) (a b : Addr) : Heap := (zt3 h a b).push { cls := .type "tuple", data := .seq #[.none, .none] }
noncomputable abbrev zt5 (h : Heap) (a b : Addr) : Heap := (zt4 h a b).push { cls := .type "zip", data := .fields #[.none, .bool false, .bool false, .ref (zt1 (zt1 h a) b).objs.size, .ref (zt3 h a b).objs.size] }
theorem zip_new (a b : Addr) (xs ys : Array Value) : Meets (Builtin.«zip.__new__» ⟨[.type "zip", .ref a, .ref b], []⟩) (fun _ R s => s.heap.IsTuple a xs ∧ s.heap.IsTuple b ys ∧ R (.ok (.ret (.ref (zt4 s.heap a b).objs.size))) { s with heap := zt5 s.heap a b }) :=
 .of_wp fun prog w A R s q => by
  obtain ⟨hp, g, d, tk, os⟩ := s
  obtain ⟨ha, hb, q⟩ := q
  have sub := sub_zip
  have hA : Heap.IsTuple (Shared.heap ⟨hp, g, d, tk, os⟩) a xs := ha
  have hB : Heap.IsTuple (Shared.heap ⟨hp.push { cls := .type "tuple_iterator", data := .fields #[.ref a, .int 0 0] }, g, d, tk, os⟩) b ys := Heap.IsTuple.push hb _
  wp_walk using wpAny_pyIter_tuple hA, wpAny_pyIter_tuple hB
  exact ⟨_, rfl, q⟩
theorem call_zipT {a b : Addr} {xs ys : Array Value} {Q : Value → Shared → Prop} (ha : s.heap.IsTuple a xs) (hb : s.heap.IsTuple b ys)
  (fin : ∀ g, IsZip g (s.heap.objs.size + 4) (s.heap.objs.size + 2) (s.heap.objs.size + 3) .none → IsPair g (s.heap.objs.size + 2) (.ref s.heap.objs.size) (.ref (s.heap.objs.size + 1)) → IsPair g (s.heap.objs.size + 3) .none .none →
   g.IsTupleIter s.heap.objs.size a 0 → g.IsTupleIter (s.heap.objs.size + 1) b 0 → (∀ c o, s.heap.get? c = some o → g.get? c = some o) → Q (.ref (s.heap.objs.size + 4)) { s with heap := g }) :
  wpAny (model P w) A (call (.type "zip") [.ref a, .ref b]) Q E s := by
 refine callType_new F.called_zip (by decide) (F.typeCall_zip_2 _ _) (F.newCall_zip_2 _ _) (fun obj => F.args_object_init_3 obj _ _) F.entry_zip_new (zip_new a b xs ys) ⟨ha, hb, ?_⟩
 have z1 : (zt1 s.heap a).objs.size = s.heap.objs.size + 1 := Heap.size_push ..
 have z2 : (zt1 (zt1 s.heap a) b).objs.size = s.heap.objs.size + 2 := by rw [Heap.size_push, z1]
 have z3 : (zt3 s.heap a b).objs.size = s.heap.objs.size + 3 := by rw [Heap.size_push, z2]
 have z4 : (zt4 s.heap a b).objs.size = s.heap.objs.size + 4 := by rw [Heap.size_push, z3]
 have p4 : ∀ {c o}, (zt4 s.heap a b).get? c = some o → (zt5 s.heap a b).get? c = some o := fun e => Heap.get?_push_of_some _ e
 have p3 : ∀ {c o}, (zt3 s.heap a b).get? c = some o → (zt5 s.heap a b).get? c = some o := fun e => p4 (Heap.get?_push_of_some _ e)
 have p2 : ∀ {c o}, (zt1 (zt1 s.heap a) b).get? c = some o → (zt5 s.heap a b).get? c = some o := fun e => p3 (Heap.get?_push_of_some _ e)
 have p1 : ∀ {c o}, (zt1 s.heap a).get? c = some o → (zt5 s.heap a b).get? c = some o := fun e => p2 (Heap.get?_push_of_some _ e)
 have g5 : (zt5 s.heap a b).get? (zt4 s.heap a b).objs.size = some _ := Heap.get?_push_size _ rfl
 have g4 : (zt5 s.heap a b).get? (zt3 s.heap a b).objs.size = some _ := p4 (Heap.get?_push_size _ rfl)
 have g3 : (zt5 s.heap a b).get? (zt1 (zt1 s.heap a) b).objs.size = some _ := p3 (Heap.get?_push_size _ rfl)
 have g2 : (zt5 s.heap a b).get? (zt1 s.heap a).objs.size = some _ := p2 (Heap.get?_push_size _ rfl)
 have g1 : (zt5 s.heap a b).get? s.heap.objs.size = some _ := p1 (Heap.get?_push_size _ rfl)
 show _ ∧ _
 rw [z2, z3, z4] at g5
 rw [z1, z2] at g3
 rw [z3] at g4
 rw [z1] at g2
 rw [z4]
 exact ⟨⟨_, g5, rfl⟩, fin _ g5 g3 g4 ⟨_, g1, rfl, rfl⟩ ⟨_, g2, rfl, rfl⟩ fun c o e => p1 (Heap.get?_push_of_some _ e)⟩
end
noncomputable def ItY (K : PySem.W.Frag) (a b : Addr) (xs ys : List V) : It :=
 ⟨fun i H => i < xs.length ∧ i < ys.length ∧ SqT K H a xs ∧ SqT K H b ys, fun i H x H' => ∃ v u T, xs[i]? = some v ∧ ys[i]? = some u ∧ x = .ref T ∧ H T = none ∧ H' = upd H T (.tup [v, u]), fun i H => i = xs.length ∧ SqT K H a xs⟩
theorem turn_zipT {P : Program} {w : World} {K : PySem.W.Frag} {elts : List Expr} {kk : Nat} {pos : Pos} (a b : Addr) (n : Nat) (xs ys : List V) (ha : (a : Nat) < n) (hb : (b : Nat) < n) :
  Turn P w K (.Tuple elts kk pos) (ItY K a b xs ys) [n + 4, n + 2, n + 3, n, n + 1] (n + 4) (fun i h => IsZip h (n + 4) (n + 2) (n + 3) .none ∧ IsPair h (n + 2) (.ref n) (.ref (n + 1)) ∧ (∃ u v, IsPair h (n + 3) u v) ∧ h.IsTupleIter n a i ∧ h.IsTupleIter (n + 1) b i) where
 mem := by simp
 obj := fun i h st c hb => by
  obtain ⟨hz, hTI, ⟨u, v, hTO⟩, ⟨o1, e1, _, d1⟩, ⟨o2, e2, _, d2⟩⟩ := st
  simp only [List.mem_cons, List.not_mem_nil, or_false] at hb
  rcases hb with rfl | rfl | rfl | rfl | rfl
  ·exact ⟨_, hz, fun v z => by cases z⟩
  ·exact ⟨_, hTI, fun v z => by cases z⟩
  ·exact ⟨_, hTO, fun v z => by cases z⟩
  ·exact ⟨_, e1, fun v z => by rw [d1] at z; cases z⟩
  ·exact ⟨_, e2, fun v z => by rw [d2] at z; cases z⟩
 keep := fun i h h' st k => by
  obtain ⟨hz, hTI, ⟨u, v, hTO⟩, ⟨o1, e1, r1⟩, ⟨o2, e2, r2⟩⟩ := st
  exact ⟨k _ (by simp) _ hz, k _ (by simp) _ hTI, ⟨u, v, k _ (by simp) _ hTO⟩, ⟨o1, k _ (by simp) _ e1, r1⟩, ⟨o2, k _ (by simp) _ e2, r2⟩⟩
 item := by
  intro X hP hw hK hc i pins s σ H E I hf st hg
  subst hP hw hK
  obtain ⟨hz, hTI, ⟨u0, v0, hTO⟩, h1, h2⟩ := st
  obtain ⟨hi, hj, hq1, hq2⟩ := hg
  obtain ⟨its1, rv1, p1, _⟩ := I.tuple hq1
  obtain ⟨its2, rv2, p2, _⟩ := I.tuple hq2
  obtain ⟨u, hu, ru⟩ := rv1.get (show xs[i]? = some xs[i] by simp [hi])
  obtain ⟨u', hu', ru'⟩ := rv2.get (show ys[i]? = some ys[i] by simp [hj])
  obtain ⟨o1, e1, c1, d1⟩ := id h1
  obtain ⟨o2, e2, c2, d2⟩ := id h2
  have D : ZipApart (n + 4) (n + 2) (n + 3) n (n + 1) a b := zipApart_new ha hb
  refine next_zip D (hands_tup (xs := its1.toArray) (x := u) (k := i) (by simpa using hu)) (hands_tup (xs := its2.toArray) (x := u') (k := i) (by simpa using hu')) hz hTI hTO ⟨h1, p1⟩ ⟨h2, p2⟩ ⟨_, e1⟩ ⟨_, e2⟩ fun h' jz jo j1 j2 ht kp => ?_
  refine ⟨_, rfl, wpAny_letOwnedTupleGo_zip jz fun h2' he2 sb => ?_⟩
  have sb : Heap.SameBut (n + 4) h' h2' := sb
  have lt : ∀ {c o}, s.heap.get? c = some o → s.heap.objs.size ≠ c := fun e => Nat.ne_of_gt (Heap.lt_size e)
  have I1 : Inv X pins σ H { s with heap := h2', toks := s.toks } := I.turns (ch := [n + 4, n + 2, n + 3, n, n + 1]) (fun c o hb eo => sb.extBut c o (fun z => hb (by simp [z])) (kp c o (fun z => hb (by simp [z])) (fun z => hb (by simp [z])) (fun z => hb (by simp [z])) (fun z => hb (by simp [z])) eo)) hf
  have hT2 : h2'.get? s.heap.objs.size = some { cls := .type "tuple", data := .seq #[u, u'] } := sb.extBut _ _ (lt hz) ht
  obtain ⟨g0, g1, _, _, g4, g5⟩ := I.fpOk (Nat.le_refl _) I.fresh
  have I2 := I1.track (a := s.heap.objs.size) (o := .tup [xs[i], ys[i]]) g0 (by
   cases q : X.s₀.heap.get? s.heap.objs.size with
   | none => rfl
   | some ob => exact absurd (Nat.lt_of_lt_of_le (Heap.lt_size q) I.sz) (Nat.lt_irrefl _)) g1 g4 g5 ⟨small1000 (by simp) |> Nat.le_of_lt, [u, u'], .cons ru (.cons ru' .nil), ⟨_, hT2, rfl, _, rfl⟩⟩
  refine ⟨.ref _, _, I2, rfl, ⟨xs[i], ys[i], _, (by simp [hi]), (by simp [hj]), rfl, g0, rfl⟩, ⟨he2, sb.extBut _ _ D.TIz (kp _ _ D.TIz D.TITO D.TIi1 D.TIi2 hTI), ⟨_, _, sb.extBut _ _ D.TOz jo⟩, j1.extBut sb.extBut D.i1z, j2.extBut sb.extBut D.i2z⟩, fun c hb => ?_⟩
  have nb : c ≠ s.heap.objs.size := by
   simp only [List.mem_cons, List.not_mem_nil, or_false] at hb
   rcases hb with rfl | rfl | rfl | rfl | rfl
   ·exact (lt hz).symm
   ·exact (lt hTI).symm
   ·exact (lt hTO).symm
   ·exact (lt e1).symm
   ·exact (lt e2).symm
  rw [upd_ne nb]; exact (hf c hb).1
 done := by
  intro X hP hw hK hc i pins s σ H E I hf st hg
  subst hP hw hK
  obtain ⟨hz, hTI, ⟨u0, v0, hTO⟩, h1, h2⟩ := st
  obtain ⟨hi, hq1⟩ := hg
  obtain ⟨its1, rv1, p1, _⟩ := I.tuple hq1
  have D : ZipApart (n + 4) (n + 2) (n + 3) n (n + 1) a b := zipApart_new ha hb
  have l1 := rv1.length
  exact stop_zip (I.ok.hd hc) D hz hTI h1 p1 (by simp; omega) fun h' kp => ⟨rfl, I.turns (t' := s.toks) (ch := [n + 4, n + 2, n + 3, n, n + 1]) (fun c o hb eo => kp c o (fun z => hb (by simp [z])) (fun z => hb (by simp [z])) eo) hf⟩
 self := fun A i s Q E st h => wpAny_pyIter_zip st.1 h
section
variable {X : Cx} {K : PySem.W.Frag}
noncomputable def iZipT (K : PySem.W.Frag) (ta : TA) : TI := fun σ H R => ta σ H fun vs H1 => ∃ a b xs ys, vs = [V.ref a, V.ref b] ∧ SqT K H1 a xs ∧ SqT K H1 b ys ∧ R (ItY K a b xs ys) H1
theorem pi_zipT {elts : List Expr} {kk : Nat} {tpos : Pos} {a b : Expr} {ta : TA} {p pos : Pos} (hK : X.K = K) (hg : Gl X "zip") (hm : X.mg "zip" = none) (ha : PA X [a, b] ta) (hs : starEach [a, b] X.env = (false, eval a X.env) :: starEach [b] X.env := by rfl) (hs2 : starEach [b] X.env = [(false, eval b X.env)] := by rfl) : PI X (.Tuple elts kk tpos) (.Call (.Name "zip" p) [a, b] [] pos) (iZipT K ta) := by
 subst hK
 intro pins s σ H R I h
 refine Call_ (ld_blt I hg hm bt_zip (PyProof.Rows.callWith_type1 (thn (ha pos pins s σ H _ I h) fun us s1 ⟨vs, H1, I1, r1, q1⟩ => ?_) hs (by rw [hs2]; rfl)))
 obtain ⟨b1, b2, xs, ys, rfl, hq1, hq2, q⟩ := q1
 obtain ⟨u, u', rfl, ru, ru'⟩ := vals2 r1
 cases ru
 cases ru'
 obtain ⟨its1, rv1, p1, hz1⟩ := I1.tuple hq1
 obtain ⟨its2, rv2, p2, hz2⟩ := I1.tuple hq2
 refine call_zipT (xs := its1.toArray) (ys := its2.toArray) p1 p2 fun h' jz jt jo j1 j2 kp => wpAny_pyIter_zip jz ?_
 refine ⟨s1.heap.objs.size + 4, [s1.heap.objs.size + 4, s1.heap.objs.size + 2, s1.heap.objs.size + 3, s1.heap.objs.size, s1.heap.objs.size + 1], _, _, H1, rfl, I1.kept (t' := s1.toks) kp, turn_zipT b1 b2 s1.heap.objs.size xs ys p1.lt p2.lt, ⟨jz, jt, ⟨_, _, jo⟩, j1, j2⟩, fun c hc => ?_, q⟩
 simp only [List.mem_cons, List.not_mem_nil, or_false] at hc
 rcases hc with rfl | rfl | rfl | rfl | rfl <;> exact I1.fpOk (by omega) (I1.hok.fresh (by omega))
end
theorem block_zipT {K : PySem.W.Frag} {a b : Addr} {xs ys : List V} {g : TG} {tc : TT} {te : TE} {D : Addr} {Z : Hp → Prop} {σ : St} {H : Hp} (Pv : Nat → St → Hp → Prop) (hlen : xs.length = ys.length) (h0 : Pv 0 σ H) (hl : ∀ i σ H, i ≤ xs.length → Pv i σ H → SqT K H a xs ∧ SqT K H b ys)
  (hs : ∀ i v u T σ H, xs[i]? = some v → ys[i]? = some u → Pv i σ H → H T = none → g (.ref T) σ (upd H T (.tup [v, u])) fun σ2 H2 => tc σ2 H2 fun b H3 => if b = true then te σ2 H3 fun y H4 => ∃ ys, H4 D = some (.lst ys) ∧ ys.length < sizeLine ∧ Pv (i + 1) σ2 (upd H4 D (.lst (ys ++ [y]))) else Pv (i + 1) σ2 H3)
  (hd : ∀ σ H, Pv xs.length σ H → Z H) : tBlock (ItY K a b xs ys) g tc te D Z σ H := by
 refine ⟨fun i m σ H => m = xs.length - i ∧ i ≤ xs.length ∧ Pv i σ H, ⟨xs.length, by simp, Nat.zero_le _, h0⟩, ?_⟩
 rintro i m σ H ⟨rfl, hi, p⟩
 obtain ⟨q1, q2⟩ := hl i σ H hi p
 by_cases hlt : i < xs.length
 ·refine .inr ⟨⟨hlt, by omega, q1, q2⟩, Pv (i + 1), fun σ' H' p' => ⟨xs.length - (i + 1), by omega, rfl, hlt, p'⟩, fun x H' y => ?_⟩
  obtain ⟨v, u, T, hv, hu, e1, hT, e2⟩ := y
  subst e1 e2
  exact hs i v u T σ H hv hu p hT
 ·have e : i = xs.length := by omega
  subst e
  exact .inl ⟨⟨rfl, q1⟩, hd σ H p⟩
end L2
namespace L2
open PySem PySem.Spec PyProof.Rows
/-! dict(enumerate(l)) -/
theorem lk_enum_keys : typeLookup (.type "enumerate") "keys" = pure none := by rw [typeLookup_type, builtinLookup_eq_fast]; kernel_rfl
theorem enum_getattr_none : typeLookup (.type "enumerate") "__getattr__" = pure none := by rw [typeLookup_type, builtinLookup_eq_fast]; kernel_rfl
theorem entry_enum_ga : entryFor table "enumerate.__getattribute__" = some Builtin.«object.__getattribute__» :=
 entryFor_alias (id' := "object.__getattribute__") (by kernel_rfl) (by first | rfl | decide +kernel) (by decide +kernel) (by kernel_rfl)
section
variable {prog : Program} {w : World} {A : Around} {E : Value → Shared → Prop} {h : Heap} {g : Array GenState} {d : Drawn} {t : Nat} {os : OsState} {a : Addr} {fs : Array Value}
noncomputable abbrev EnO (fs : Array Value) : Obj := { cls := .type "enumerate", dict := none, data := .fields fs, slots := #[] }
theorem keys_entry {tk : Tok} {Q : PySem.Fin → Shared → Prop} (hh : A.handled = none) (hx : h.get? a = some (EnO fs)) (hE : ∀ h' tk' e, Heap.NewAttrErr h h' e (.ref a) "keys" → E (.ref e) ⟨h', g, d, tk', os⟩) :
  wpAny (model prog w) A (Builtin.«object.__getattribute__» ⟨[.ref a, .str "keys" tk], []⟩) Q E ⟨h, g, d, t, os⟩ := by
 have hT : (⟨h, g, d, t, os⟩ : Shared).TypeIs (.ref a) "enumerate" := ⟨_, hx, rfl⟩
 have f4 := lk_enum_keys
 repeat (any_goals (first | assumption | wp_step))
 exact wpAny_raiseAttrError hh hE (attrMsg_fits (by decide +kernel) (by size_fits))
theorem no_keys {Q : Option Value → Shared → Prop} (hh : A.handled = none) (hx : h.get? a = some (EnO fs)) (fin : ∀ h' tk, (∀ b o, h.get? b = some o → h'.get? b = some o) → Q none ⟨h', g, d, tk, os⟩) :
  wpAny (model prog w) A (getAttr? (.ref a) "keys") Q E ⟨h, g, d, t, os⟩ := by
 have hT : ∀ t', (⟨h, g, d, t', os⟩ : Shared).TypeIs (.ref a) "enumerate" := fun _ => ⟨_, hx, rfl⟩
 have hT0 := hT t
 have hT1 := hT (t + 1)
 have f1 := sub_AttributeError
 have f3 := F.slot_enumerate_getattribute.lookup
 have f4 := F.slot_enumerate_getattribute.bind (.ref a)
 have f5 := enum_getattr_none
 unfold getAttr? getAttrBy? getAttrBy
 repeat (any_goals (first | assumption | wp_step))
 refine codeAny_call_builtin F.slot_enumerate_getattribute.plain entry_enum_ga (F.slot_enumerate_getattribute.check _ _ _ _ _ _ _ _ (hT _) (F.args_enumerate_getattribute_2 _ _) (keys_entry (by first | exact hh | simp [hh]) hx fun h' tk' e hx' => ?_))
 obtain ⟨t', u', he⟩ := hx'.there
 have hk := hx'.keeps
 show wpAny _ _ (getattributeRaised _ _ _ _ _ _ _) _ _ _
 unfold getattributeRaised
 repeat (any_goals (first | assumption | wp_step))
 exact fin _ _ hk
end
section
variable {P : Program} {w : World} {A : Around} {E : Value → Shared → Prop} {s : Shared}
theorem alive_is {a : Addr} {o : Obj} {Q : Option Obj → Shared → Prop} (ho : s.heap.get? a = some o) (q : Q (some o) s) : wpAny (model P w) A (loadIfAlive a) Q E s := by
 rw [← ho] at q
 exact fun _ _ _ => q
noncomputable abbrev EnB (h : Heap) (e it : Addr) (i : Int) (a : Addr) (b : Bool) (old : Value) : Prop := h.get? e = some { cls := .type "enumerate", dict := none, data := .fields #[rawInt a, .bool b, .ref it, rawInt i, .none, old], slots := #[] }
theorem enum_more {e it l a : Addr} {i : Nat} {items : Array Value} {x old : Value} {b : Bool} {Q : Value → Shared → Prop} (he : EnB s.heap e it i a b old) (ha : ∃ o, s.heap.get? a = some o) (hit : s.heap.IsListIter it l i) (hl : s.heap.IsList l items) (hx : items[i]? = some x) (hne : e ≠ it) (hae : a ≠ e) (hai : a ≠ it)
  (fin : ∀ g, EnB g e it ((i : Int) + 1) a true old → g.IsListIter it l (i + 1) → g.get? s.heap.objs.size = some { cls := .type "tuple", data := .seq #[.int i s.toks, x] } → (∀ c o, c ≠ e → c ≠ it → s.heap.get? c = some o → g.get? c = some o) → Q (.ref s.heap.objs.size) { s with heap := g, toks := s.toks + 1 }) :
  wpAny (model P w) A (Builtin.«enumerate.__next__» ⟨[.ref e], []⟩) (fun r s' => ∃ v, r = .done (.ret v) ∧ Q v s') E s := by
 obtain ⟨hp, gg, dr, tk, os⟩ := s
 show wpAny (model P w) _ (field (.ref e) 2 >>= _) _ _ _
 refine wpAny_bind (wpAny_field he rfl (x := .ref it) rfl (wpAny_bind (wpAny_nextOf_list_item hit hl hx fun h1 it1 s1 => ?_)))
 replace s1 : Heap.SameBut it hp h1 := s1
 have e1 : EnB h1 e it i a b old := (s1.2 e hne).trans he
 show wpAny (model P w) _ (field (.ref e) 3 >>= _) _ _ ⟨h1, gg, dr, tk, os⟩
 refine wpAny_bind (wpAny_field e1 rfl (x := rawInt i) rfl ?_)
 show wpAny (model P w) _ (field (.ref e) 4 >>= _) _ _ ⟨h1, gg, dr, tk, os⟩
 refine wpAny_bind (wpAny_field e1 rfl (x := .none) rfl ?_)
 show wpAny (model P w) _ (mkInt i >>= _) _ _ ⟨h1, gg, dr, tk, os⟩
 refine wpAny_bind (wpAny_mkInt ?_)
 show wpAny (model P w) _ (setField (.ref e) 3 (rawInt ((i : Int) + 1)) >>= _) _ _ ⟨h1, gg, dr, tk + 1, os⟩
 refine wpAny_bind (wpAny_setField_rec e1 (by simp) fun h2 e2 s2 => ?_)
 replace s2 : Heap.SameBut e h1 h2 := s2
 replace e2 : EnB h2 e it ((i : Int) + 1) a b old := e2
 show wpAny (model P w) _ (setField (.ref e) 4 .none >>= _) _ _ ⟨h2, gg, dr, tk + 1, os⟩
 refine wpAny_bind (wpAny_setField_rec e2 (by simp) fun h3 e3 s3 => ?_)
 replace s3 : Heap.SameBut e h2 h3 := s3
 replace e3 : EnB h3 e it ((i : Int) + 1) a b old := e3
 show wpAny (model P w) _ (newTuple [.int i tk, x] >>= _) _ _ ⟨h3, gg, dr, tk + 1, os⟩
 refine wpAny_bind (wpAny_newTuple ?_)
 have hz : h3.objs.size = hp.objs.size := by rw [s3.1, s2.1, s1.1]
 have elt : e < hp.objs.size := Heap.lt_size he
 have k3 : ∀ c o, c ≠ e → c ≠ it → hp.get? c = some o → h3.get? c = some o := fun c o c1 c2 q => s3.extBut c o c1 (s2.extBut c o c1 (s1.extBut c o c2 q))
 obtain ⟨oa, ga⟩ := ha
 have i3 := (it1.extBut s2.extBut (Ne.symm hne)).extBut s3.extBut (Ne.symm hne)
 have e4 : EnB (h3.push { cls := .type "tuple", data := .seq #[.int i tk, x] }) e it ((i : Int) + 1) a b old := Heap.get?_push_of_some _ e3
 have a4 : (h3.push { cls := .type "tuple", data := .seq #[.int i tk, x] }).get? a = some oa := Heap.get?_push_of_some _ (k3 a oa hae hai ga)
 have t4 : (h3.push { cls := .type "tuple", data := .seq #[.int i tk, x] }).get? hp.objs.size = some { cls := .type "tuple", data := .seq #[.int i tk, x] } := by rw [← hz]; exact Heap.get?_push_size _ rfl
 have k4 : ∀ c o, c ≠ e → c ≠ it → hp.get? c = some o → (h3.push { cls := .type "tuple", data := .seq #[.int i tk, x] }).get? c = some o := fun c o c1 c2 q => Heap.get?_push_of_some _ (k3 c o c1 c2 q)
 have i4 : (h3.push { cls := .type "tuple", data := .seq #[.int i tk, x] }).IsListIter it l (i + 1) := i3.at fun o q => Heap.get?_push_of_some _ q
 rw [hz]
 generalize h3.push { cls := .type "tuple", data := .seq #[.int i tk, x] } = h4 at e4 a4 t4 k4 i4 ⊢
 show wpAny (model P w) _ (Builtin.SmallTypes.ownedTupleIsFree (.ref e) >>= _) _ _ ⟨h4, gg, dr, tk + 1, os⟩
 refine wpAny_bind ?_
 unfold Builtin.SmallTypes.ownedTupleIsFree
 refine wpAny_bind (wpAny_field e4 rfl (x := rawInt a) rfl ?_)
 show wpAny (model P w) _ (loadIfAlive a >>= _) _ _ _
 refine wpAny_bind (alive_is a4 ?_)
 simp only [Option.isNone_some, Bool.false_eq_true, if_false]
 refine wpAny_bind (wpAny_field e4 rfl (x := .bool b) rfl ?_)
 have done : ∀ h5 : Heap, EnB h5 e it ((i : Int) + 1) a true old → Heap.SameBut e h4 h5 → Q (.ref hp.objs.size) ⟨h5, gg, dr, tk + 1, os⟩ := fun h5 e5 s5 =>
  fin h5 e5 (i4.extBut s5.extBut (Ne.symm hne)) (s5.extBut _ _ (Nat.ne_of_gt elt) t4) fun c o c1 c2 q => s5.extBut c o c1 (k4 c o c1 c2 q)
 cases b with
 | true => exact wpAny_pure (wpAny_pure ⟨_, rfl, done h4 e4 ⟨rfl, fun _ _ => rfl⟩⟩)
 | false =>
  refine wpAny_bind (wpAny_setField_rec e4 (by simp) fun h5 e5 s5 => ?_)
  replace e5 : EnB h5 e it ((i : Int) + 1) a true old := e5
  exact wpAny_pure (wpAny_pure ⟨_, rfl, done h5 e5 s5⟩)
noncomputable def EnG (h : Heap) (e it d : Addr) (i : Int) : Prop := (∃ old, IsEnum h e it i old) ∨ ∃ a b old, EnB h e it i a b old ∧ (∃ o, h.get? a = some o) ∧ a ≠ e ∧ a ≠ it ∧ a ≠ d
theorem next_enumG {e it l d : Addr} {i : Nat} {items : Array Value} {x : Value} {Q : Option Value → Shared → Prop} (he : EnG s.heap e it d i) (hit : s.heap.IsListIter it l i) (hl : s.heap.IsList l items) (hx : items[i]? = some x) (hne : e ≠ it) (dlt : d < s.heap.objs.size)
  (fin : ∀ g, EnG g e it d ((i + 1 : Nat) : Int) → g.IsListIter it l (i + 1) → g.get? s.heap.objs.size = some { cls := .type "tuple", data := .seq #[.int i s.toks, x] } → (∀ c o, c ≠ e → c ≠ it → s.heap.get? c = some o → g.get? c = some o) → Q (some (.ref s.heap.objs.size)) { s with heap := g, toks := s.toks + 1 }) :
  wpAny (model P w) A (pyNext (.ref e)) Q E s := by
 have ilt : it < s.heap.objs.size := by obtain ⟨_, q, _⟩ := hit; exact Heap.lt_size q
 rcases he with ⟨old, he⟩ | ⟨a, b, old, he, ha, hae, hai, had⟩
 ·have elt : e < s.heap.objs.size := Heap.lt_size he
  exact wpAny_pyNext_enum_item he hit hl hx hne fun g a1 a2 a3 _ a5 => fin g (.inr ⟨_, _, _, a1, ⟨_, a3⟩, Nat.ne_of_gt elt, Nat.ne_of_gt ilt, Nat.ne_of_gt dlt⟩) a2 a3 a5
 ·have ty : s.TypeIs (.ref e) "enumerate" := ⟨_, he, rfl⟩
  unfold pyNext
  exact wpAny_bind (wpAny_attempt (wpAny_callSpecial?_slot (name := Str.ofString "__next__") ty F.slot_enumerate_next (wpAny_call_entry F.slot_enumerate_next ty F.entry_enumerate_next
   (enum_more he ha hit hl hx hne hae hai fun g a1 a2 a3 a4 => wpAny_pure (fin g (.inr ⟨a, true, old, a1, ha.imp fun o q => a4 a o hae hai q, hae, hai, had⟩) a2 a3 a4)) (F.args_enumerate_next_1 _))))
theorem end_enumG {e it l d : Addr} {i : Nat} {items : Array Value} {Q : Option Value → Shared → Prop} (hh : A.handled = none) (he : EnG s.heap e it d i) (hit : s.heap.IsListIter it l i) (hl : s.heap.IsList l items) (hx : items[i]? = none)
  (fin : ∀ g, Heap.ExtBut it s.heap g → Q none { s with heap := g }) : wpAny (model P w) A (pyNext (.ref e)) Q E s := by
 rcases he with ⟨old, he⟩ | ⟨a, b, old, he, _⟩
 ·exact wpAny_pyNext_enum_end hh he hit hl hx fin
 ·have ty : s.TypeIs (.ref e) "enumerate" := ⟨_, he, rfl⟩
  unfold pyNext
  refine wpAny_bind (wpAny_attempt (wpAny_callSpecial?_slot (name := Str.ofString "__next__") ty F.slot_enumerate_next (wpAny_call_entry F.slot_enumerate_next ty F.entry_enumerate_next ?_ (F.args_enumerate_next_1 _))))
  show wpAny (model P w) _ (field (.ref e) 2 >>= _) _ _ _
  refine wpAny_bind (wpAny_field he rfl (x := .ref it) rfl (wpAny_bind (wpAny_nextOf_list_end hh hit hl hx fun g q1 b1 hq => ?_)))
  obtain ⟨o, ho, hc⟩ := hq
  exact wpAny_bind (wpAny_isInstance (T := "StopIteration") (b := true) ⟨o, ho, hc⟩ isSubtype_stop (wpAny_pure (fin _ b1)))
theorem pair_items {a : Addr} {x y : Value} {Q : List Value → Shared → Prop} (ha : s.heap.get? a = some { cls := .type "tuple", data := .seq #[x, y] }) (q : Q [x, y] s) : wpAny (model P w) A (Builtin.Dict.pairItems (.ref a)) Q E s := by
 have ty : s.TypeIs (.ref a) "tuple" := ⟨_, ha, rfl⟩
 unfold Builtin.Dict.pairItems
 refine wpAny_bind (wpAny_typeOf ty ?_)
 rw [if_pos (by decide)]
 exact wpAny_bind (wpAny_seqItems ha rfl (wpAny_pure q))
theorem entry_dul : entryFor table "dict.update.loop" = some Builtin.«dict.update.loop» := entryFor_of_tree (by kernel_rfl)
theorem plain_dul : plainId "dict.update.loop" = true := by decide +kernel
noncomputable def numbered (us : List Value) (i : Nat) : List (Key × Value) := (us.take i).mapIdx fun j v => (.inl (j : Int), v)
theorem numbered_next {us : List Value} {i : Nat} {x : Value} (h : us[i]? = some x) : stored (numbered us i) (.inl (i : Int)) x = numbered us (i + 1) := by
 have hi : i < us.length := (List.getElem?_eq_some_iff.mp h).1
 have hl : (us.take i).length = i := by rw [List.length_take]; omega
 unfold numbered stored
 rw [if_neg, List.take_add_one, h]
 ·show _ = List.mapIdx _ (us.take i ++ [x])
  rw [List.mapIdx_append]
  simp [hl]
 ·intro z
  rw [List.any_eq_true] at z
  obtain ⟨kv, hm, e⟩ := z
  rw [List.mem_mapIdx] at hm
  obtain ⟨j, hj, rfl⟩ := hm
  have e : (Sum.inl (j : Int) : Key) = .inl (i : Int) := of_decide_eq_true e
  have := Sum.inl.inj e
  omega
theorem dict_turns {R : Result → Shared → Prop} {e it l d : Addr} {items : Array Value} (hh : A.handled = none) (hne : e ≠ it) (nle : l ≠ e) (nli : l ≠ it) (nde : d ≠ e) (ndi : d ≠ it) (ndl : d ≠ l) (hz : items.size < 4000) :
  ∀ (k i : Nat) (s : Shared), i + k = items.size → EnG s.heap e it d i → s.heap.IsListIter it l i → s.heap.IsList l items → s.heap.DictOf (mixKind P w) d (numbered items.toList i) →
   (∀ g tk, g.DictOf (mixKind P w) d (numbered items.toList items.size) → (∀ c o, c ≠ e → c ≠ it → c ≠ d → s.heap.get? c = some o → g.get? c = some o) → R (.ok (.ret .none)) { s with heap := g, toks := tk }) →
   codeAny (model P w) A (.builtin "dict.update.loop" ⟨[.ref d, .ref e, rawInt i, .none], []⟩) R s := by
 intro k
 induction k with
 | zero =>
  intro i s hk he hit hl hd fin
  have : i = items.size := by omega
  subst this
  refine codeAny_builtin entry_dul ?_
  rw [Around.under_plainId plain_dul _]
  show wpAny (model P w) A.in1 (pyNext (.ref e) >>= _) _ _ s
  refine wpAny_bind (end_enumG (by first | exact hh | simp [hh]) he hit hl (by simp) fun g b1 => ?_)
  show wpAny (model P w) A.in1 (Builtin.Dict.addKeywords d [] >>= _) _ _ _
  exact wpAny_bind (wpAny_pure (wpAny_pure (fin g s.toks (hd.extBut b1 ndi) fun c o _ c2 _ q => b1 c o c2 q)))
 | succ k ih =>
  intro i s hk he hit hl hd fin
  refine codeAny_builtin entry_dul ?_
  rw [Around.under_plainId plain_dul _]
  show wpAny (model P w) A.in1 (pyNext (.ref e) >>= _) _ _ s
  obtain ⟨x, hx⟩ : ∃ x, items[i]? = some x := ⟨_, Array.getElem?_eq_getElem (by omega)⟩
  refine wpAny_bind (next_enumG he hit hl hx hne (by obtain ⟨_, _, _, ho, _⟩ := hd; exact Heap.lt_size ho) fun g a1 a2 a3 a4 => ?_)
  obtain ⟨hp, gg, dr, tk, os⟩ := s
  have ty : (⟨g, gg, dr, tk + 1, os⟩ : Shared).TypeIs (.ref hp.objs.size) "tuple" := ⟨_, a3, rfl⟩
  have hd1 : g.DictOf (mixKind P w) d (numbered items.toList i) := by
   obtain ⟨o, es, ep, ho, r⟩ := hd
   exact ⟨o, es, ep, a4 d o nde ndi ho, r⟩
  have a3 : g.get? hp.objs.size = some { cls := .type "tuple", data := .seq #[.int i tk, x] } := a3
  show wpAny (model P w) A.in1 (holding [.ref hp.objs.size] _ >>= _) _ _ ⟨g, gg, dr, tk + 1, os⟩
  refine wpAny_bind (wpAny_holding (wpAny_bind (wpAny_tryCatch (pair_items a3 ?_))))
  show wpAny (model P w) A.in1 (holding [.int i tk, x] (dictSet d (.int i tk) x)) _ _ _
  have nl : (numbered items.toList i).length ≤ sizeLine := by
   unfold numbered
   rw [List.length_mapIdx, List.length_take]
   exact Nat.le_trans (m := 4000) (by omega) (by decide)
  refine wpAny_holding (wpAny_dictSet_pairs (mixKind_int P w i tk) hd1 (fun h2 hd2 s2 => ?_) nl)
  rw [numbered_next (by simpa using hx)] at hd2
  replace s2 : Heap.SameBut d g h2 := s2
  have ei : rawInt ((i : Int) + 1) = rawInt ((i + 1 : Nat) : Int) := rfl
  refine wpAny_pure ⟨plainId_quiet plain_dul _, ?_⟩
  refine ih (i + 1) ⟨h2, gg, dr, _, os⟩ (by omega) ?_ ?_ ?_ hd2 fun g3 tk3 hd3 k3 => fin g3 tk3 hd3 fun c o c1 c2 c3 q => k3 c o c1 c2 c3 (s2.extBut c o c3 (a4 c o c1 c2 q))
  ·rcases a1 with ⟨old, q⟩ | ⟨a, b, old, q, ⟨o, qo⟩, q2, q3, q4⟩
   ·exact .inl ⟨old, s2.extBut _ _ (Ne.symm nde) q⟩
   ·exact .inr ⟨a, b, old, s2.extBut _ _ (Ne.symm nde) q, ⟨o, s2.extBut _ _ q4 qo⟩, q2, q3, q4⟩
  ·exact a2.extBut s2.extBut (Ne.symm ndi)
  ·exact (hl.at fun o q => a4 l o nle nli q).extBut s2.extBut (Ne.symm ndl)
end
section
variable {P : Program} {w : World} {A : Around} {E : Value → Shared → Prop} {s : Shared}
theorem call_dict_enum {e it l : Addr} {items : Array Value} {Q : Value → Shared → Prop} (hh : A.handled = none) (he : IsEnum s.heap e it 0 .none) (hit : s.heap.IsListIter it l 0) (hl : s.heap.IsList l items) (hne : e ≠ it) (nle : l ≠ e) (nli : l ≠ it) (hz : items.size < 4000)
  (fin : ∀ g tk, g.DictOf (mixKind P w) s.heap.objs.size (numbered items.toList items.size) → (∀ c o, c ≠ e → c ≠ it → s.heap.get? c = some o → g.get? c = some o) → Q (.ref s.heap.objs.size) { s with heap := g, toks := tk }) :
  wpAny (model P w) A (call (.type "dict") [.ref e]) Q E s := by
 refine callType_codes (Q₁ := fun obj s₁ => obj = .ref s.heap.objs.size ∧ s₁ = { s with heap := s.heap.push { cls := .type "dict", data := .dict #[] } }) F.kt_called_dict (F.kt_typeCall_dict_1 _) F.entry_dict_init (kt_code_dict_new _ ⟨rfl, rfl⟩) ?_
 rintro obj s₁ ⟨rfl, rfl⟩
 obtain ⟨hp, gg, dr, tk, os⟩ := s
 have hnew : (hp.push { cls := .type "dict", data := .dict #[] }).DictOf (mixKind P w) hp.objs.size [] := Heap.DictOf.new hp
 have he1 : IsEnum (hp.push { cls := .type "dict", data := .dict #[] }) e it 0 .none := Heap.get?_push_of_some _ he
 have ty1 : (⟨hp.push { cls := .type "dict", data := .dict #[] }, gg, dr, tk, os⟩ : Shared).TypeIs (.ref e) "enumerate" := ⟨_, he1, rfl⟩
 have elt : e < hp.objs.size := Heap.lt_size he
 have ilt : it < hp.objs.size := by obtain ⟨_, q, _⟩ := hit; exact Heap.lt_size q
 have llt : l < hp.objs.size := by obtain ⟨_, q, _⟩ := hl; exact Heap.lt_size q
 have k1 : ∀ c o, hp.get? c = some o → (hp.push { cls := .type "dict", data := .dict #[] }).get? c = some o := fun c o q => Heap.get?_push_of_some _ q
 refine ⟨hnew.typeIs, F.args_dict_init_2 _ _, ?_⟩
 unfold Builtin.«dict.__init__»
 refine wpAny_bind ?_
 unfold Builtin.Dict.selfAndRest
 refine wpAny_bind (wpAny_notOrdered_dict hnew.typeIs (wpAny_pure ?_))
 show wpAny (model P w) _ (Builtin.Dict.updateFrom "dict.__init__" hp.objs.size (.ref e) [] .none) _ _ ⟨hp.push { cls := .type "dict", data := .dict #[] }, gg, dr, tk, os⟩
 generalize hp.push { cls := .type "dict", data := .dict #[] } = h1 at hnew he1 ty1 k1 ⊢
 unfold Builtin.Dict.updateFrom
 refine wpAny_bind (wpAny_typeOf ty1 ?_)
 rw [if_pos (by decide)]
 refine wpAny_bind (no_keys (by first | exact hh | simp [hh]) he1 fun h2 t2 k2 => ?_)
 rw [if_pos (show (none : Option Value).isNone = true from rfl)]
 have he2 : IsEnum h2 e it 0 .none := k2 _ _ he1
 refine wpAny_bind (wpAny_rule (wpAny_bind (wpAny_pyIter_enum he2 (wpAny_pure ⟨plainId_quiet plain_dul _, ?_⟩))))
 refine dict_turns (l := l) (items := items) (by first | exact hh | simp [hh]) hne nle nli (Nat.ne_of_gt elt) (Nat.ne_of_gt ilt) (Nat.ne_of_gt llt) hz items.size 0 ⟨h2, gg, dr, t2, os⟩ (Nat.zero_add _) (.inl ⟨_, he2⟩) ?_ ?_ ?_ fun g tk3 hd kp => ?_
 ·obtain ⟨o, q, r⟩ := hit; exact ⟨o, k2 _ _ (k1 _ _ q), r⟩
 ·obtain ⟨o, q, r⟩ := hl; exact ⟨o, k2 _ _ (k1 _ _ q), r⟩
 ·obtain ⟨o, es, ep, q, r⟩ := hnew; exact ⟨o, es, ep, k2 _ _ q, r⟩
 ·exact ⟨rfl, fin g tk3 hd fun c o c1 c2 q => kp c o c1 c2 (Nat.ne_of_lt (Heap.lt_size q)) (k2 _ _ (k1 _ _ q))⟩
end
noncomputable def numV (xs : List V) : List (Key × V) := xs.mapIdx fun j v => (.inl (j : Int), v)
theorem numV_rel {xs : List V} {us : List Value} (r : Vals xs us) : KV (numV xs) (numbered us us.length) := by
 have key : ∀ {xs : List V} {us : List Value}, Vals xs us → ∀ n : Nat, KV (xs.mapIdx fun j v => ((.inl ((j + n : Nat) : Int), v) : Key × V)) (us.mapIdx fun j v => ((.inl ((j + n : Nat) : Int), v) : Key × Value)) := by
  intro xs us r
  induction r with
  | nil => intro n; exact .nil
  | cons a _ ih =>
   intro n
   rw [List.mapIdx_cons, List.mapIdx_cons]
   refine .cons ⟨rfl, a⟩ ?_
   have := ih (n + 1)
   have e : ∀ j : Nat, j + 1 + n = j + (n + 1) := fun j => by omega
   show KV _ _
   simpa only [e] using this
 have := key r 0
 unfold numV numbered
 rw [List.take_length]
 exact this
noncomputable def tDictEnum (K : PySem.W.Frag) (ta : TA) : TE := fun σ H Q => ta σ H fun vs H1 => ∃ l xs, vs = [V.ref l] ∧ SqL K H1 l xs ∧ xs.length < 4000 ∧ ∀ p, H1 p = none → Q (.ref p) (upd H1 p (.dK (numV xs)))
theorem pe_dictEnum {X : Cx} {K : PySem.W.Frag} {a : Expr} {ta : TA} {p p2 pos pos2 : Pos} (hK : X.K = K) (hc : X.calm = true) (hg : Gl X "dict") (hm : X.mg "dict" = none) (hg2 : Gl X "enumerate") (hm2 : X.mg "enumerate" = none) (ha : PA X [a] ta)
  (hs : starEach [a] X.env = [(false, eval a X.env)] := by rfl) (hs2 : starEach [.Call (.Name "enumerate" p2) [a] [] pos2] X.env = [(false, eval (.Call (.Name "enumerate" p2) [a] [] pos2) X.env)] := by rfl) :
  PE X (.Call (.Name "dict" p) [.Call (.Name "enumerate" p2) [a] [] pos2] [] pos) (tDictEnum K ta) := by
 subst hK
 intro pins s σ H Q I h
 refine Call_ (ld_blt I hg hm bt_dict (PyProof.Rows.callWith_type1 ?_ hs2 rfl))
 rw [hs2]
 show wpAny _ _ (spliced ((false, eval (.Call (.Name "enumerate" p2) [a] [] pos2) X.env) :: [])) _ _ s
 refine Calls.spliced_cons (Call_ (ld_blt I hg2 hm2 bt_enumerate (PyProof.Rows.callWith_type1 (thn (ha pos2 pins s σ H _ I h) fun us s1 ⟨vs, H1, I1, r1, q1⟩ => ?_) hs rfl)))
 obtain ⟨l, xs, rfl, hq, hlen, q⟩ := q1
 obtain ⟨u, rfl, ru⟩ := vals1 r1
 cases ru
 obtain ⟨its, rv, pl, hz⟩ := I1.list hq
 have hlen2 : its.length = xs.length := rv.length.symm
 have llt : l < s1.heap.objs.size := by obtain ⟨_, q, _⟩ := pl.isList; exact Heap.lt_size q
 refine call_enumerate_list pl.isList fun h' he hl hz' kk => Calls.spliced_nil ?_
 refine call_dict_enum (items := its.toArray) (I1.ok.hd hc) he hl ?_ (Nat.succ_ne_self _) (Nat.ne_of_lt (Nat.lt_succ_of_lt llt)) (Nat.ne_of_lt llt) (by rw [List.size_toArray]; omega) fun g tk hd kp => ?_
 ·obtain ⟨o, q, r⟩ := pl.isList; exact ⟨o, kk _ _ q, r⟩
 have ea : h'.objs.size = s1.heap.objs.size + 2 := hz'
 refine ⟨.ref _, _, I1.laid (a := h'.objs.size) (o := .dK (numV xs)) (t' := tk) (fun b ob e => kp b ob ?_ ?_ (kk b ob e)) (by rw [ea]; exact Nat.le_add_right _ _) ⟨?_, ?_, numbered its its.length, numV_rel rv, ?_⟩, rfl, q _ (I1.hok.fresh (by rw [ea]; exact Nat.le_add_right _ _))⟩
 ·exact Nat.ne_of_lt (Nat.lt_succ_of_lt (Heap.lt_size e))
 ·exact Nat.ne_of_lt (Heap.lt_size e)
 ·unfold numV
  rw [List.length_mapIdx]
  exact Nat.le_trans (m := 4000) (by omega) (by decide)
 ·refine beq_eq_false_iff_ne.mpr (Nat.ne_of_gt ?_)
  rw [ea]
  exact Nat.lt_of_lt_of_le I1.big (Nat.le_add_right _ _)
 ·have : g.DictOf (mixKind X.prog X.w) h'.objs.size (numbered its.toArray.toList its.toArray.size) := hd
  simpa using this
section
variable {X : Cx} {e : Expr}
noncomputable def tTryS (i : Nat) (tx : St → Hp → VK → XK → Prop) (th : Value → TS) : TS := fun D σ H => tx σ H (fun v H1 => D.nx (σ.set i (some v)) H1) (fun C _ H' => th C D σ H')
theorem ps_tryS {hd : ExceptHandler} {hds : List ExceptHandler} {th : Value → TS} {p1 p2 pos : Pos} {tx : St → Hp → VK → XK → Prop} {i : Nat} {x : Str} (hst : X.stack = X.env :: X.outer) (hf : X.env.frame = some X.env.locals) (hN : X.N.Nodup) (hi : X.N[i]? = some x) (hl : Loc X.env.scope x)
  (hx : PEX X e tx) (hh : Hd X (hd :: hds) th) (hs : swapsWith e (some (.Name x p2)) p1.line X.env = pure false := by rfl) (hfn : X.fn x = true ∨ X.env.scope.names.lookup x = some .local := by first | exact .inl rfl | exact .inr rfl) :
  PS X (.Try [.Assign [.Name x p2] e p1] (hd :: hds) [] [] pos) (tTryS i tx th) := by
 intro pins s σ H D I h
 refine wpAny_Try_except ?_
 refine wpAny_execs_cons (wpAny_Assign_Name (wpAny_mono (hx pins s σ H _ _ I h) (fun v s1 ⟨y, H1, I1, r1, q⟩ => ?_) fun ex s2 ⟨s1, H1, I1, z⟩ => ?_) hs)
 ·exact store_ok I1 hN hi hl r1 (fun s2 I2 => wpAny_execs_nil (wpAny_execs_nil ⟨_, H1, I2, q⟩)) hfn
 ·exact to_hands hst hf hh I1 z fun C _ H' q => q
end
end L2
namespace L2
open PySem PySem.Spec PyProof.Rows
/-! t * n of a tuple -/
section
variable {X : Cx} {K : PySem.W.Frag}
end
end L2
namespace L2
open PySem PySem.Spec PyProof.Rows
open AutoSeq1 (wpAny_loadPart')
/-! enumerate of a tuple -/
noncomputable abbrev et1 (h : Heap) (a : Addr) : Heap := (zt1 h a).push { cls := .type "enumerate", data := .fields #[.none, .bool false, .ref h.objs.size, rawInt 0, .none, .none] }
theorem enum_new (a : Addr) (xs : Array Value) (n : Nat) (dc : Option Addr) (sl : Array (Option Value)) : Meets (Builtin.«enumerate.__new__» ⟨[.type "enumerate", .ref a], []⟩) (fun _ R s => s.heap.get? a = some { cls := .type "tuple", dict := dc, data := .seq xs n, slots := sl } ∧ R (.ok (.ret (.ref (zt1 s.heap a).objs.size))) { s with heap := et1 s.heap a }) :=
 .of_wp fun prog w A R s q => by
  obtain ⟨hp, g, d, tk, os⟩ := s
  obtain ⟨ha, q⟩ := q
  have sub := sub_enumerate
  have hA : Heap.IsTuple (Shared.heap ⟨hp, g, d, tk, os⟩) a xs := ⟨_, ha, rfl, n, rfl⟩
  wp_walk using wpAny_loadPart' ha
  refine wpAny_stack_any fun st => wpAny_pure ?_
  split
  ·rename_i c _ _ _ _ _
   cases (c == Value.type "enumerate") <;> wp_walk using wpAny_loadPart' ha, wpAny_pyIter_tuple hA <;> exact ⟨_, rfl, q⟩
  ·wp_walk using wpAny_loadPart' ha, wpAny_pyIter_tuple hA
   exact ⟨_, rfl, q⟩
section
variable {P : Program} {w : World} {A : Around} {E : Value → Shared → Prop} {s : Shared}
theorem call_enumT {a : Addr} {xs : Array Value} {Q : Value → Shared → Prop} (ha : s.heap.IsTuple a xs)
  (fin : ∀ g, IsEnum g (s.heap.objs.size + 1) s.heap.objs.size 0 .none → g.IsTupleIter s.heap.objs.size a 0 → (∀ c o, s.heap.get? c = some o → g.get? c = some o) → Q (.ref (s.heap.objs.size + 1)) { s with heap := g }) :
  wpAny (model P w) A (call (.type "enumerate") [.ref a]) Q E s := by
 obtain ⟨⟨c, dc, dt, sl⟩, ho, hc, n, hd⟩ := ha
 replace hc : c = .type "tuple" := hc
 replace hd : dt = .seq xs n := hd
 subst hc hd
 refine callType_new F.called_enumerate (by decide) (F.typeCall_enumerate_1 _) (F.newCall_enumerate_1 _) (fun obj => F.args_object_init_2 obj _) F.entry_enumerate_new (enum_new a xs n dc sl) ⟨ho, ?_⟩
 have z1 : (zt1 s.heap a).objs.size = s.heap.objs.size + 1 := Heap.size_push ..
 have g2 : (et1 s.heap a).get? (zt1 s.heap a).objs.size = some _ := Heap.get?_push_size _ rfl
 have g1 : (et1 s.heap a).get? s.heap.objs.size = some _ := Heap.get?_push_of_some _ (Heap.get?_push_size _ rfl)
 show _ ∧ _
 rw [z1] at g2 ⊢
 exact ⟨⟨_, g2, rfl⟩, fin _ g2 ⟨_, g1, rfl, rfl⟩ fun c o q => Heap.get?_push_of_some _ (Heap.get?_push_of_some _ q)⟩
theorem enum_gives {e m l : Addr} {i : Nat} {I J : Heap → Prop} {x old : Value} {Q : Value → Shared → Prop} (X : Hands P w m l I J x) (he : IsEnum s.heap e m i old) (hI : I s.heap) (hne : e ≠ m)
  (fin : ∀ g, IsEnumOut g e m ((i : Int) + 1) x s.heap.objs.size → J g → g.get? s.heap.objs.size = some { cls := .type "tuple", data := .seq #[.int i s.toks, x] } → (∀ c o, c ≠ e → c ≠ m → s.heap.get? c = some o → g.get? c = some o) → Q (.ref s.heap.objs.size) { s with heap := g, toks := s.toks + 1 }) :
  wpAny (model P w) A (Builtin.«enumerate.__next__» ⟨[.ref e], []⟩) (fun r s' => ∃ v, r = .done (.ret v) ∧ Q v s') E s := by
 obtain ⟨hp, gg, dr, tk, os⟩ := s
 show wpAny (model P w) _ (field (.ref e) 2 >>= _) _ _ _
 refine wpAny_bind (wpAny_field he rfl (x := .ref m) rfl (wpAny_bind (X.give hI fun h1 j1 s1 => ?_)))
 replace s1 : Heap.SameBut m hp h1 := s1
 have e1 : IsEnum h1 e m i old := (s1.2 e hne).trans he
 show wpAny (model P w) _ (field (.ref e) 3 >>= _) _ _ ⟨h1, gg, dr, tk, os⟩
 refine wpAny_bind (wpAny_field e1 rfl (x := rawInt i) rfl ?_)
 show wpAny (model P w) _ (field (.ref e) 4 >>= _) _ _ ⟨h1, gg, dr, tk, os⟩
 refine wpAny_bind (wpAny_field e1 rfl (x := .none) rfl ?_)
 show wpAny (model P w) _ (mkInt i >>= _) _ _ ⟨h1, gg, dr, tk, os⟩
 refine wpAny_bind (wpAny_mkInt ?_)
 show wpAny (model P w) _ (setField (.ref e) 3 (rawInt ((i : Int) + 1)) >>= _) _ _ ⟨h1, gg, dr, tk + 1, os⟩
 refine wpAny_bind (wpAny_setField_rec e1 (by simp) fun h2 e2 s2 => ?_)
 replace s2 : Heap.SameBut e h1 h2 := s2
 replace e2 : IsEnum h2 e m ((i : Int) + 1) old := e2
 show wpAny (model P w) _ (setField (.ref e) 4 .none >>= _) _ _ ⟨h2, gg, dr, tk + 1, os⟩
 refine wpAny_bind (wpAny_setField_rec e2 (by simp) fun h3 e3 s3 => ?_)
 replace s3 : Heap.SameBut e h2 h3 := s3
 replace e3 : IsEnum h3 e m ((i : Int) + 1) old := e3
 show wpAny (model P w) _ (newTuple [.int i tk, x] >>= _) _ _ ⟨h3, gg, dr, tk + 1, os⟩
 refine wpAny_bind (wpAny_newTuple ?_)
 have hz : h3.objs.size = hp.objs.size := by rw [s3.1, s2.1, s1.1]
 have elt : e < hp.objs.size := Heap.lt_size he
 have e4 : IsEnum (h3.push { cls := .type "tuple", data := .seq #[.int i tk, x] }) e m ((i : Int) + 1) old := Heap.get?_push_of_some _ e3
 have t4 : (h3.push { cls := .type "tuple", data := .seq #[.int i tk, x] }).get? hp.objs.size = some { cls := .type "tuple", data := .seq #[.int i tk, x] } := by rw [← hz]; exact Heap.get?_push_size _ rfl
 have k4 : ∀ c o, c ≠ e → c ≠ m → hp.get? c = some o → (h3.push { cls := .type "tuple", data := .seq #[.int i tk, x] }).get? c = some o := fun c o c1 c2 q => Heap.get?_push_of_some _ (s3.extBut c o c1 (s2.extBut c o c1 (s1.extBut c o c2 q)))
 have j4 : J (h3.push { cls := .type "tuple", data := .seq #[.int i tk, x] }) := X.keepJ (fun o q => Heap.get?_push_of_some _ (s3.extBut m o (Ne.symm hne) (s2.extBut m o (Ne.symm hne) q))) j1
 rw [hz]
 generalize h3.push { cls := .type "tuple", data := .seq #[.int i tk, x] } = h4 at e4 t4 k4 j4 ⊢
 show wpAny (model P w) _ (Builtin.SmallTypes.ownedTupleIsFree (.ref e) >>= _) _ _ ⟨h4, gg, dr, tk + 1, os⟩
 refine wpAny_bind ?_
 unfold Builtin.SmallTypes.ownedTupleIsFree
 refine wpAny_bind (wpAny_field e4 rfl (x := .none) rfl (wpAny_pure ?_))
 simp only [if_true]
 refine wpAny_bind (wpAny_rule (wpAny_bind (wpAny_field e4 rfl (x := old) rfl (wpAny_bind (wpAny_setField_rec e4 (by simp) fun h5 e5 s5 => ?_)))))
 replace s5 : Heap.SameBut e h4 h5 := s5
 replace e5 : IsEnum h5 e m ((i : Int) + 1) x := e5
 show wpAny (model P w) _ (Builtin.SmallTypes.ownedTupleHandOut (.ref e) (.ref hp.objs.size) >>= _) _ _ ⟨h5, gg, dr, tk + 1, os⟩
 refine wpAny_bind ?_
 unfold Builtin.SmallTypes.ownedTupleHandOut
 refine wpAny_bind (wpAny_setField_rec e5 (by simp) fun h6 e6 s6 => ?_)
 replace s6 : Heap.SameBut e h5 h6 := s6
 replace e6 : IsEnumOut h6 e m ((i : Int) + 1) x hp.objs.size := e6
 refine wpAny_setField_rec e6 (by simp) fun h7 e7 s7 => ?_
 replace s7 : Heap.SameBut e h6 h7 := s7
 replace e7 : IsEnumOut h7 e m ((i : Int) + 1) x hp.objs.size := e7
 have up : ∀ c o, c ≠ e → h4.get? c = some o → h7.get? c = some o := fun c o c1 q => s7.extBut c o c1 (s6.extBut c o c1 (s5.extBut c o c1 q))
 exact wpAny_bind (wpAny_letGo (wpAny_pure ⟨_, rfl, fin h7 e7 (X.keepJ (fun o q => up m o (Ne.symm hne) q) j4) (up _ _ (Nat.ne_of_gt elt) t4) fun c o c1 c2 q => up c o c1 (k4 c o c1 c2 q)⟩))
end
noncomputable def ItN (K : PySem.W.Frag) (a : Addr) (xs : List V) : It :=
 ⟨fun i H => i < xs.length ∧ SqT K H a xs, fun i H x H' => ∃ v T, xs[i]? = some v ∧ x = .ref T ∧ H T = none ∧ H' = upd H T (.tup [.int (i : Nat), v]), fun i H => i = xs.length ∧ SqT K H a xs⟩
theorem turn_enumT {P : Program} {w : World} {K : PySem.W.Frag} {elts : List Expr} {kk : Nat} {pos : Pos} (a e m : Addr) (xs : List V) (hne : e ≠ m) :
  Turn P w K (.Tuple elts kk pos) (ItN K a xs) [e, m] e (fun i h => ∃ old, IsEnum h e m ((i : Nat) : Int) old ∧ h.IsTupleIter m a i) where
 mem := by simp
 obj := fun i h st b hb => by
  obtain ⟨old, s1, o, e2, c, d⟩ := st
  simp only [List.mem_cons, List.not_mem_nil, or_false] at hb
  rcases hb with rfl | rfl
  ·exact ⟨_, s1, fun v z => by cases z⟩
  ·exact ⟨o, e2, fun v z => by rw [d] at z; cases z⟩
 keep := fun i h h' st k => let ⟨old, s1, ⟨o, e2, r⟩⟩ := st; ⟨old, k e (by simp) _ s1, ⟨o, k m (by simp) _ e2, r⟩⟩
 item := by
  intro X hP hw hK hc i pins s σ H E I hf st hg
  subst hP hw hK
  obtain ⟨old, st1, st2⟩ := st
  obtain ⟨hi, hq⟩ := hg
  obtain ⟨its, rv, p, hz⟩ := I.tuple hq
  have hx : xs[i]? = some xs[i] := by simp [hi]
  obtain ⟨u, hu, ru⟩ := rv.get hx
  have ty : s.TypeIs (.ref e) "enumerate" := ⟨_, st1, rfl⟩
  unfold pyNext
  refine wpAny_bind (wpAny_attempt (wpAny_callSpecial?_slot (name := Str.ofString "__next__") ty F.slot_enumerate_next (wpAny_call_entry F.slot_enumerate_next ty F.entry_enumerate_next
   (enum_gives (hands_tup (xs := its.toArray) (x := u) (k := i) (by simpa using hu)) st1 ⟨st2, p⟩ hne fun h' jo jl ht kp => wpAny_pure ?_) (F.args_enumerate_next_1 _))))
  refine ⟨_, rfl, wpAny_letOwnedTupleGo_enum jo fun h2 he2 sb => ?_⟩
  have sb : Heap.SameBut e h' h2 := sb
  have nTe : s.heap.objs.size ≠ e := Nat.ne_of_gt (Heap.lt_size st1)
  have nTl : s.heap.objs.size ≠ m := by
   obtain ⟨o, e2, _⟩ := id st2
   exact Nat.ne_of_gt (Heap.lt_size e2)
  have I1 : Inv X pins σ H { s with heap := h2, toks := s.toks + 1 } := I.turns (ch := [e, m]) (fun b o hb eo => sb.extBut b o (fun z => hb (by simp [z])) (kp b o (fun z => hb (by simp [z])) (fun z => hb (by simp [z])) eo)) hf
  have hT2 : h2.get? s.heap.objs.size = some { cls := .type "tuple", data := .seq #[.int i s.toks, u] } := sb.extBut _ _ nTe ht
  obtain ⟨g0, g1, _, _, g4, g5⟩ := I.fpOk (Nat.le_refl _) I.fresh
  have I2 := I1.track (a := s.heap.objs.size) (o := .tup [.int (i : Nat), xs[i]]) g0 (by
   cases q : X.s₀.heap.get? s.heap.objs.size with
   | none => rfl
   | some ob => exact absurd (Nat.lt_of_lt_of_le (Heap.lt_size q) I.sz) (Nat.lt_irrefl _)) g1 g4 g5 ⟨small1000 (by simp) |> Nat.le_of_lt, [.int i s.toks, u], .cons ⟨_, rfl⟩ (.cons ru .nil), ⟨_, hT2, rfl, _, rfl⟩⟩
  refine ⟨.ref _, _, I2, rfl, ⟨xs[i], _, hx, rfl, g0, rfl⟩, ⟨_, he2, jl.extBut sb.extBut hne.symm⟩, fun b hb => ?_⟩
  have nb : b ≠ s.heap.objs.size := by
   simp only [List.mem_cons, List.not_mem_nil, or_false] at hb
   rcases hb with rfl | rfl
   ·exact nTe.symm
   ·exact nTl.symm
  rw [upd_ne nb]; exact (hf b hb).1
 done := by
  intro X hP hw hK hc i pins s σ H E I hf st hg
  subst hP hw hK
  obtain ⟨old, st1, st2⟩ := st
  obtain ⟨hi, hq⟩ := hg
  obtain ⟨its, rv, p, hz⟩ := I.tuple hq
  have l1 := rv.length
  have ty : s.TypeIs (.ref e) "enumerate" := ⟨_, st1, rfl⟩
  unfold pyNext
  refine wpAny_bind (wpAny_attempt (wpAny_callSpecial?_slot (name := Str.ofString "__next__") ty F.slot_enumerate_next (wpAny_call_entry F.slot_enumerate_next ty F.entry_enumerate_next ?_ (F.args_enumerate_next_1 _))))
  show wpAny (model X.prog X.w) _ (field (.ref e) 2 >>= _) _ _ _
  refine wpAny_bind (wpAny_field st1 rfl (x := .ref m) rfl (wpAny_bind (ends_tup (xs := its.toArray) (by first | exact I.ok.hd hc | simp [I.ok.hd hc]) st2 p (by simp; omega) fun g q1 b1 hq => ?_)))
  obtain ⟨o, ho, hcl⟩ := hq
  refine wpAny_bind (wpAny_isInstance (T := "StopIteration") (b := true) ⟨o, ho, hcl⟩ isSubtype_stop (wpAny_pure ?_))
  exact ⟨rfl, I.turns (t' := s.toks) (ch := [e, m]) (fun b o hb eo => b1 b o (fun z => hb (by simp [z])) eo) hf⟩
 self := fun A i s Q E st h => let ⟨_, st1, _⟩ := st; wpAny_pyIter_enum st1 h
section
variable {X : Cx} {K : PySem.W.Frag}
noncomputable def iEnumT (K : PySem.W.Frag) (ta : TA) : TI := fun σ H R => ta σ H fun vs H1 => ∃ a xs, vs = [V.ref a] ∧ SqT K H1 a xs ∧ R (ItN K a xs) H1
theorem pi_enumT {elts : List Expr} {kk : Nat} {tpos : Pos} {a : Expr} {ta : TA} {p pos : Pos} (hK : X.K = K) (hg : Gl X "enumerate") (hm : X.mg "enumerate" = none) (ha : PA X [a] ta) (hs : starEach [a] X.env = [(false, eval a X.env)] := by rfl) : PI X (.Tuple elts kk tpos) (.Call (.Name "enumerate" p) [a] [] pos) (iEnumT K ta) := by
 subst hK
 intro pins s σ H R I h
 refine Call_ (ld_blt I hg hm bt_enumerate (PyProof.Rows.callWith_type1 (thn (ha pos pins s σ H _ I h) fun us s1 ⟨vs, H1, I1, r1, q1⟩ => ?_) hs rfl))
 obtain ⟨b, xs, rfl, hq, q⟩ := q1
 obtain ⟨u, rfl, ru⟩ := vals1 r1
 cases ru
 obtain ⟨its, rv, p, hz⟩ := I1.tuple hq
 refine call_enumT (xs := its.toArray) p fun h' he hl kk => wpAny_pyIter_enum he ?_
 refine ⟨s1.heap.objs.size + 1, [s1.heap.objs.size + 1, s1.heap.objs.size], _, _, H1, rfl, I1.kept (t' := s1.toks) kk, turn_enumT b (s1.heap.objs.size + 1) s1.heap.objs.size xs (Nat.succ_ne_self _), ⟨_, he, hl⟩, fun c hc => ?_, q⟩
 simp only [List.mem_cons, List.not_mem_nil, or_false] at hc
 rcases hc with rfl | rfl
 ·exact I1.fpOk (by omega) (I1.hok.fresh (by omega))
 ·exact I1.fpOk (Nat.le_refl _) (I1.hok.fresh (Nat.le_refl _))
end
theorem for_enumT {K : PySem.W.Frag} {a : Addr} {xs : List V} {g : TG} {tb : TS} {D : Ends} {σ : St} {H : Hp} (Pv : Nat → St → Hp → Prop) (h0 : Pv 0 σ H) (hl : ∀ i σ H, i ≤ xs.length → Pv i σ H → SqT K H a xs)
  (hs : ∀ i v T σ H, xs[i]? = some v → Pv i σ H → H T = none → g (.ref T) σ (upd H T (.tup [.int (i : Nat), v])) fun σ2 H2 => tb { D with nx := Pv (i + 1), ct := Pv (i + 1), bk := D.nx } σ2 H2) (hd : ∀ σ H, Pv xs.length σ H → D.nx σ H) :
  ∃ W : Nat → Nat → St → Hp → Prop, (∃ m, W 0 m σ H) ∧ ∀ i m σ H, W i m σ H → ((ItN K a xs).stop i H ∧ D.nx σ H) ∨ ((ItN K a xs).go i H ∧ ∃ N : St → Hp → Prop, (∀ σ' H', N σ' H' → ∃ m', m' < m ∧ W (i + 1) m' σ' H') ∧
   ∀ x H', (ItN K a xs).yld i H x H' → g x σ H' fun σ2 H2 => tb { D with nx := N, ct := N, bk := D.nx } σ2 H2) := by
 refine ⟨fun i m σ H => m = xs.length - i ∧ i ≤ xs.length ∧ Pv i σ H, ⟨_, rfl, Nat.zero_le _, h0⟩, ?_⟩
 rintro i m σ H ⟨rfl, hi, p⟩
 have q := hl i σ H hi p
 by_cases hlt : i < xs.length
 ·refine .inr ⟨⟨hlt, q⟩, Pv (i + 1), fun σ' H' p' => ⟨xs.length - (i + 1), by omega, rfl, hlt, p'⟩, fun x H' y => ?_⟩
  obtain ⟨v, T, hv, e1, hT, e2⟩ := y
  subst e1 e2
  exact hs i v T σ H hv p hT
 ·have e : i = xs.length := by omega
  subst e
  exact .inl ⟨⟨rfl, q⟩, hd σ H p⟩
end L2
namespace L2
open PySem PySem.Spec PyProof.Rows
theorem ps_nox {X : Cx} {st : Stmt} {t : TS} (h : PS X.nox st t) : PS X st t := fun pins s σ H D I hw =>
 wpAny_mono (h pins s σ H D (I.wish _) hw) (fun f s' q => by
  cases f with
  | next => obtain ⟨σ', H', I', q'⟩ := q; exact ⟨σ', H', I'.unwish, q'⟩
  | cont => obtain ⟨σ', H', I', q'⟩ := q; exact ⟨σ', H', I'.unwish, q'⟩
  | brk => obtain ⟨σ', H', I', q'⟩ := q; exact ⟨σ', H', I'.unwish, q'⟩
  | ret v => obtain ⟨x, σ', H', I', r', q'⟩ := q; exact ⟨x, σ', H', I'.unwish, r', q'⟩) fun _ _ z => z.elim
end L2
namespace L2
open PySem PySem.Spec PyProof.Rows
section
variable {X : Cx}
noncomputable def tFmtS (te : TE) : TE := fun σ H Q => te σ H fun x H1 => ∃ z : Str, x = .str z ∧ z.length ≤ 16777216 ∧ Q (.str z) H1
theorem pe_fmtS {e : Expr} {te : TE} {pos : Pos} (he : PE X e te) : PE X (.FormattedValue e (-1) none pos) (tFmtS te) := by
 intro pins s σ H Q I h
 refine wpAny_FormattedValue_plain (thn (he pins s σ H _ I h) fun v s1 ⟨x, H1, I1, r1, q1⟩ => ?_)
 obtain ⟨z, rfl, hz, q⟩ := q1
 obtain ⟨t, rfl⟩ := r1
 exact wpAny_formatField_str ⟨.str z, H1, I1, ⟨_, rfl⟩, q⟩ ⟨.str z, H1, I1.tok _, ⟨_, rfl⟩, q⟩ (by rw [sizeLine_eq]; exact hz)
end
end L2
namespace L2
open PySem PySem.Spec PyProof.Rows
section
variable {X : Cx} {K : PySem.W.Frag}
end
end L2
namespace L2
open PySem PySem.Spec PyProof.Rows
/-! t * 1 of a tuple is the tuple -/
section
variable {X : Cx} {K : PySem.W.Frag}
end
end L2
namespace L2
open PySem PySem.Spec PyProof.Rows
section
variable {X : Cx} {K : PySem.W.Frag}
noncomputable def rCatW (K : PySem.W.Frag) : R2 := fun x y H Q => ∃ a b xs ys, x = .ref a ∧ y = .ref b ∧ H a = some (.tup xs) ∧ H b = some (.tup ys) ∧ xs.length + ys.length ≤ sizeLine ∧ ∀ p H', Same H H' → H' p = some (.tup (xs ++ ys)) → Q (.ref p) H'
theorem op_catW (hK : X.K = K) : OpR X (binaryOp .Add) (rCatW K) := by
 intro pins s σ H x y v u Q I rx ry h
 obtain ⟨a, b, xs, ys, rfl, rfl, ha, hb, hz, q⟩ := h
 by_cases e : xs = []
 ·subst hK
  subst e
  cases rx; cases ry
  obtain ⟨its, r1, p1, _⟩ := I.tuple (SqT.of ha)
  obtain ⟨its2, r2, p2, _⟩ := I.tuple (SqT.of hb)
  obtain ⟨⟨cls, dd, data, sl⟩, ho, hc, n, hd⟩ := id p1
  obtain ⟨⟨cls2, dd2, data2, sl2⟩, ho2, hc2, n2, hd2⟩ := id p2
  simp only at hc hd hc2 hd2
  subst hc hd hc2 hd2
  have hi : its = [] := r1.nil_iff.mpr rfl
  exact concat_meets ⟨_, ho, rfl⟩ ⟨_, ho2, rfl⟩ noFill_tuple_add seq_tuple_add PySem.F.slot_tuple_add PySem.F.entry_tuple_add (PySem.F.args_tuple_add_2 _ _)
   (tuple_addW0 a b its.toArray its2.toArray n n2 dd dd2 sl sl2 (by simp [hi])) ⟨ho, ho2, ⟨.ref b, H, I, rfl, q b H (Same.refl _) hb⟩⟩
 ·refine op_catT' hK pins s σ H (.ref a) (.ref b) v u Q I rx ry ⟨a, b, xs, ys, rfl, rfl, SqT.of ha, SqT.of hb, e, hz, fun z => q a H (Same.refl _) ?_, fun _ p hp => q p _ (Same.upd hp) upd_same⟩
  rw [z, List.append_nil]
  exact ha
end
end L2
namespace L2
open PySem PySem.Spec PyProof.Rows
section
variable {X : Cx} {K : PySem.W.Frag}
theorem op_eqEN {k : Nat} (hK : X.K = K) (hr : Room k X.A) : OpR X (compareOp .Eq) (fun x y H Q => ∃ b, y = .ref b ∧ SqL K H b [] ∧ ((x = .non ∧ Q (.bl false) H) ∨ ∃ a xs, x = .ref a ∧ SqL K H a xs ∧ Q (.bl xs.isEmpty) H)) := by
 intro pins s σ H x y v u Q I rx ry h
 obtain ⟨b, rfl, hb, h⟩ := h
 rcases h with ⟨rfl, q⟩ | ⟨a, xs, rfl, ha, q⟩
 ·refine op_eqD' hK hr pins s σ H .non (.ref b) v u Q I rx ry ⟨.none, .list [], by rw [RepD], by simp only [RepD]; exact ⟨b, [], rfl, hb, by simp [RepDs]⟩, by decide, ?_⟩
  exact q
 ·exact op_eqE' hK hr pins s σ H (.ref a) (.ref b) v u Q I rx ry ⟨a, b, xs, rfl, rfl, ha, hb, q⟩
end
end L2
namespace L2
open PySem PySem.Spec PyProof.Rows
section
variable {X : Cx} {K : PySem.W.Frag}
end
end L2
namespace T09
open PySem L2 Tc
noncomputable def top (i : Nat) : Stmt := PySem.Challenge.pw_tiercask_k09_opened.main.body.getD i (.Pass ⟨0, 0, 0, 0⟩)
set_option genInjectivity false in
structure Ca where
 Full : Addr
 Lacking : Addr
 NoCask : Addr
 NoChange : Addr
 NoDeed : Addr
 NoName : Addr
 NoNumber : Addr
 NoPlace : Addr
 NoRow : Addr
 NoRule : Addr
 NoText : Addr
 NotSteady : Addr
 Tied : Addr
 TierError : Addr
 TooMany : Addr
structure Txt (K : PySem.W.Frag) (mg : Str → Option Value) (ca : Ca) : Prop where
 z_ValueError : mg "ValueError" = none
 z_all : mg "all" = none
 z_bool : mg "bool" = none
 z_dict : mg "dict" = none
 z_enumerate : mg "enumerate" = none
 z_int : mg "int" = none
 z_isinstance : mg "isinstance" = none
 z_len : mg "len" = none
 z_list : mg "list" = none
 z_range : mg "range" = none
 z_str : mg "str" = none
 z_tuple : mg "tuple" = none
 z_zip : mg "zip" = none
 c_Full : mg "Full" = some (.ref ca.Full)
 c_Lacking : mg "Lacking" = some (.ref ca.Lacking)
 c_NoCask : mg "NoCask" = some (.ref ca.NoCask)
 c_NoChange : mg "NoChange" = some (.ref ca.NoChange)
 c_NoDeed : mg "NoDeed" = some (.ref ca.NoDeed)
 c_NoName : mg "NoName" = some (.ref ca.NoName)
 c_NoNumber : mg "NoNumber" = some (.ref ca.NoNumber)
 c_NoPlace : mg "NoPlace" = some (.ref ca.NoPlace)
 c_NoRow : mg "NoRow" = some (.ref ca.NoRow)
 c_NoRule : mg "NoRule" = some (.ref ca.NoRule)
 c_NoText : mg "NoText" = some (.ref ca.NoText)
 c_NotSteady : mg "NotSteady" = some (.ref ca.NotSteady)
 c_Tied : mg "Tied" = some (.ref ca.Tied)
 c_TierError : mg "TierError" = some (.ref ca.TierError)
 c_TooMany : mg "TooMany" = some (.ref ca.TooMany)
 g_MOST_DEEDS : ∃ t, mg "MOST_DEEDS" = some (.int 200 t)
 e_NoCask : PySem.W.excIn K ca.NoCask [.type "ValueError", .type "Exception", .type "BaseException", .type "object"] "ValueError.__new__" = true
 x_NoCask : ExcK K ca.NoCask
 i_NoCask_Full : PySem.W.kitOne K (.ref ca.NoCask) (.ref ca.Full) = some false
 m_NoCask_Full : PySem.W.exmOne K (.ref ca.NoCask) (.ref ca.Full) = some false
 i_NoCask_Lacking : PySem.W.kitOne K (.ref ca.NoCask) (.ref ca.Lacking) = some false
 m_NoCask_Lacking : PySem.W.exmOne K (.ref ca.NoCask) (.ref ca.Lacking) = some false
 i_NoCask_NoCask : PySem.W.kitOne K (.ref ca.NoCask) (.ref ca.NoCask) = some true
 m_NoCask_NoCask : PySem.W.exmOne K (.ref ca.NoCask) (.ref ca.NoCask) = some true
 i_NoCask_NoChange : PySem.W.kitOne K (.ref ca.NoCask) (.ref ca.NoChange) = some false
 m_NoCask_NoChange : PySem.W.exmOne K (.ref ca.NoCask) (.ref ca.NoChange) = some false
 i_NoCask_NoDeed : PySem.W.kitOne K (.ref ca.NoCask) (.ref ca.NoDeed) = some false
 m_NoCask_NoDeed : PySem.W.exmOne K (.ref ca.NoCask) (.ref ca.NoDeed) = some false
 i_NoCask_NoName : PySem.W.kitOne K (.ref ca.NoCask) (.ref ca.NoName) = some false
 m_NoCask_NoName : PySem.W.exmOne K (.ref ca.NoCask) (.ref ca.NoName) = some false
 i_NoCask_NoNumber : PySem.W.kitOne K (.ref ca.NoCask) (.ref ca.NoNumber) = some false
 m_NoCask_NoNumber : PySem.W.exmOne K (.ref ca.NoCask) (.ref ca.NoNumber) = some false
 i_NoCask_NoPlace : PySem.W.kitOne K (.ref ca.NoCask) (.ref ca.NoPlace) = some false
 m_NoCask_NoPlace : PySem.W.exmOne K (.ref ca.NoCask) (.ref ca.NoPlace) = some false
 i_NoCask_NoRow : PySem.W.kitOne K (.ref ca.NoCask) (.ref ca.NoRow) = some false
 m_NoCask_NoRow : PySem.W.exmOne K (.ref ca.NoCask) (.ref ca.NoRow) = some false
 i_NoCask_NoRule : PySem.W.kitOne K (.ref ca.NoCask) (.ref ca.NoRule) = some false
 m_NoCask_NoRule : PySem.W.exmOne K (.ref ca.NoCask) (.ref ca.NoRule) = some false
 i_NoCask_NoText : PySem.W.kitOne K (.ref ca.NoCask) (.ref ca.NoText) = some false
 m_NoCask_NoText : PySem.W.exmOne K (.ref ca.NoCask) (.ref ca.NoText) = some false
 i_NoCask_NotSteady : PySem.W.kitOne K (.ref ca.NoCask) (.ref ca.NotSteady) = some false
 m_NoCask_NotSteady : PySem.W.exmOne K (.ref ca.NoCask) (.ref ca.NotSteady) = some false
 i_NoCask_Tied : PySem.W.kitOne K (.ref ca.NoCask) (.ref ca.Tied) = some false
 m_NoCask_Tied : PySem.W.exmOne K (.ref ca.NoCask) (.ref ca.Tied) = some false
 i_NoCask_TierError : PySem.W.kitOne K (.ref ca.NoCask) (.ref ca.TierError) = some true
 m_NoCask_TierError : PySem.W.exmOne K (.ref ca.NoCask) (.ref ca.TierError) = some true
 i_NoCask_TooMany : PySem.W.kitOne K (.ref ca.NoCask) (.ref ca.TooMany) = some false
 m_NoCask_TooMany : PySem.W.exmOne K (.ref ca.NoCask) (.ref ca.TooMany) = some false
 v_NoCask : PySem.W.kitOne K (.ref ca.NoCask) (.type "ValueError") = some true
 e_NoPlace : PySem.W.excIn K ca.NoPlace [.type "ValueError", .type "Exception", .type "BaseException", .type "object"] "ValueError.__new__" = true
 x_NoPlace : ExcK K ca.NoPlace
 i_NoPlace_Full : PySem.W.kitOne K (.ref ca.NoPlace) (.ref ca.Full) = some false
 m_NoPlace_Full : PySem.W.exmOne K (.ref ca.NoPlace) (.ref ca.Full) = some false
 i_NoPlace_Lacking : PySem.W.kitOne K (.ref ca.NoPlace) (.ref ca.Lacking) = some false
 m_NoPlace_Lacking : PySem.W.exmOne K (.ref ca.NoPlace) (.ref ca.Lacking) = some false
 i_NoPlace_NoCask : PySem.W.kitOne K (.ref ca.NoPlace) (.ref ca.NoCask) = some false
 m_NoPlace_NoCask : PySem.W.exmOne K (.ref ca.NoPlace) (.ref ca.NoCask) = some false
 i_NoPlace_NoChange : PySem.W.kitOne K (.ref ca.NoPlace) (.ref ca.NoChange) = some false
 m_NoPlace_NoChange : PySem.W.exmOne K (.ref ca.NoPlace) (.ref ca.NoChange) = some false
 i_NoPlace_NoDeed : PySem.W.kitOne K (.ref ca.NoPlace) (.ref ca.NoDeed) = some false
 m_NoPlace_NoDeed : PySem.W.exmOne K (.ref ca.NoPlace) (.ref ca.NoDeed) = some false
 i_NoPlace_NoName : PySem.W.kitOne K (.ref ca.NoPlace) (.ref ca.NoName) = some false
 m_NoPlace_NoName : PySem.W.exmOne K (.ref ca.NoPlace) (.ref ca.NoName) = some false
 i_NoPlace_NoNumber : PySem.W.kitOne K (.ref ca.NoPlace) (.ref ca.NoNumber) = some false
 m_NoPlace_NoNumber : PySem.W.exmOne K (.ref ca.NoPlace) (.ref ca.NoNumber) = some false
 i_NoPlace_NoPlace : PySem.W.kitOne K (.ref ca.NoPlace) (.ref ca.NoPlace) = some true
 m_NoPlace_NoPlace : PySem.W.exmOne K (.ref ca.NoPlace) (.ref ca.NoPlace) = some true
 i_NoPlace_NoRow : PySem.W.kitOne K (.ref ca.NoPlace) (.ref ca.NoRow) = some false
 m_NoPlace_NoRow : PySem.W.exmOne K (.ref ca.NoPlace) (.ref ca.NoRow) = some false
 i_NoPlace_NoRule : PySem.W.kitOne K (.ref ca.NoPlace) (.ref ca.NoRule) = some false
 m_NoPlace_NoRule : PySem.W.exmOne K (.ref ca.NoPlace) (.ref ca.NoRule) = some false
 i_NoPlace_NoText : PySem.W.kitOne K (.ref ca.NoPlace) (.ref ca.NoText) = some false
 m_NoPlace_NoText : PySem.W.exmOne K (.ref ca.NoPlace) (.ref ca.NoText) = some false
 i_NoPlace_NotSteady : PySem.W.kitOne K (.ref ca.NoPlace) (.ref ca.NotSteady) = some false
 m_NoPlace_NotSteady : PySem.W.exmOne K (.ref ca.NoPlace) (.ref ca.NotSteady) = some false
 i_NoPlace_Tied : PySem.W.kitOne K (.ref ca.NoPlace) (.ref ca.Tied) = some false
 m_NoPlace_Tied : PySem.W.exmOne K (.ref ca.NoPlace) (.ref ca.Tied) = some false
 i_NoPlace_TierError : PySem.W.kitOne K (.ref ca.NoPlace) (.ref ca.TierError) = some true
 m_NoPlace_TierError : PySem.W.exmOne K (.ref ca.NoPlace) (.ref ca.TierError) = some true
 i_NoPlace_TooMany : PySem.W.kitOne K (.ref ca.NoPlace) (.ref ca.TooMany) = some false
 m_NoPlace_TooMany : PySem.W.exmOne K (.ref ca.NoPlace) (.ref ca.TooMany) = some false
 v_NoPlace : PySem.W.kitOne K (.ref ca.NoPlace) (.type "ValueError") = some true
 e_TooMany : PySem.W.excIn K ca.TooMany [.type "ValueError", .type "Exception", .type "BaseException", .type "object"] "ValueError.__new__" = true
 x_TooMany : ExcK K ca.TooMany
 i_TooMany_Full : PySem.W.kitOne K (.ref ca.TooMany) (.ref ca.Full) = some false
 m_TooMany_Full : PySem.W.exmOne K (.ref ca.TooMany) (.ref ca.Full) = some false
 i_TooMany_Lacking : PySem.W.kitOne K (.ref ca.TooMany) (.ref ca.Lacking) = some false
 m_TooMany_Lacking : PySem.W.exmOne K (.ref ca.TooMany) (.ref ca.Lacking) = some false
 i_TooMany_NoCask : PySem.W.kitOne K (.ref ca.TooMany) (.ref ca.NoCask) = some false
 m_TooMany_NoCask : PySem.W.exmOne K (.ref ca.TooMany) (.ref ca.NoCask) = some false
 i_TooMany_NoChange : PySem.W.kitOne K (.ref ca.TooMany) (.ref ca.NoChange) = some false
 m_TooMany_NoChange : PySem.W.exmOne K (.ref ca.TooMany) (.ref ca.NoChange) = some false
 i_TooMany_NoDeed : PySem.W.kitOne K (.ref ca.TooMany) (.ref ca.NoDeed) = some false
 m_TooMany_NoDeed : PySem.W.exmOne K (.ref ca.TooMany) (.ref ca.NoDeed) = some false
 i_TooMany_NoName : PySem.W.kitOne K (.ref ca.TooMany) (.ref ca.NoName) = some false
 m_TooMany_NoName : PySem.W.exmOne K (.ref ca.TooMany) (.ref ca.NoName) = some false
 i_TooMany_NoNumber : PySem.W.kitOne K (.ref ca.TooMany) (.ref ca.NoNumber) = some false
 m_TooMany_NoNumber : PySem.W.exmOne K (.ref ca.TooMany) (.ref ca.NoNumber) = some false
 i_TooMany_NoPlace : PySem.W.kitOne K (.ref ca.TooMany) (.ref ca.NoPlace) = some false
 m_TooMany_NoPlace : PySem.W.exmOne K (.ref ca.TooMany) (.ref ca.NoPlace) = some false
 i_TooMany_NoRow : PySem.W.kitOne K (.ref ca.TooMany) (.ref ca.NoRow) = some false
 m_TooMany_NoRow : PySem.W.exmOne K (.ref ca.TooMany) (.ref ca.NoRow) = some false
 i_TooMany_NoRule : PySem.W.kitOne K (.ref ca.TooMany) (.ref ca.NoRule) = some false
 m_TooMany_NoRule : PySem.W.exmOne K (.ref ca.TooMany) (.ref ca.NoRule) = some false
 i_TooMany_NoText : PySem.W.kitOne K (.ref ca.TooMany) (.ref ca.NoText) = some false
 m_TooMany_NoText : PySem.W.exmOne K (.ref ca.TooMany) (.ref ca.NoText) = some false
 i_TooMany_NotSteady : PySem.W.kitOne K (.ref ca.TooMany) (.ref ca.NotSteady) = some false
 m_TooMany_NotSteady : PySem.W.exmOne K (.ref ca.TooMany) (.ref ca.NotSteady) = some false
 i_TooMany_Tied : PySem.W.kitOne K (.ref ca.TooMany) (.ref ca.Tied) = some false
 m_TooMany_Tied : PySem.W.exmOne K (.ref ca.TooMany) (.ref ca.Tied) = some false
 i_TooMany_TierError : PySem.W.kitOne K (.ref ca.TooMany) (.ref ca.TierError) = some true
 m_TooMany_TierError : PySem.W.exmOne K (.ref ca.TooMany) (.ref ca.TierError) = some true
 i_TooMany_TooMany : PySem.W.kitOne K (.ref ca.TooMany) (.ref ca.TooMany) = some true
 m_TooMany_TooMany : PySem.W.exmOne K (.ref ca.TooMany) (.ref ca.TooMany) = some true
 v_TooMany : PySem.W.kitOne K (.ref ca.TooMany) (.type "ValueError") = some true
noncomputable abbrev LT : Str := "abcdefghijklmnopqrstuvwxyz"
noncomputable def spDigits : Sp := fun vs H Q _ => ∃ n m : Int, vs = [.int n, .int m, .int 26] ∧ 0 ≤ m ∧ m ≤ 10 ∧ ∀ (a : Addr) H' (ds : List Int), Same H H' → H' a = some (.lst (ds.map V.int)) → (ds.length : Int) = m → (∀ d ∈ ds, 0 ≤ d ∧ d < 26) → Q (.ref a) H'
noncomputable abbrev one1 (c : Nat) : Str := ⟨#[c]⟩
theorem join_cs : ∀ cs : List Nat, Txt.join "" (cs.map one1) = ⟨cs.toArray⟩ := by
 intro cs
 rw [eq_of_beq (PyProof.Rows.join_plain_closes _ _)]
 have e : (Str.ofString "") = ⟨#[]⟩ := by decide +kernel
 show Str.join (Str.ofString "") _ = _
 rw [e]
 induction cs with
 | nil => rfl
 | cons c cs ih =>
  rw [List.map_cons, PyProof.Rows.join_nil_cons, ih]
  show (⟨#[c] ++ cs.toArray⟩ : Str) = _
  simp
theorem sum_ones (cs : List Nat) : ((cs.map one1).map (·.length)).sum = cs.length := by
 induction cs with
 | nil => rfl
 | cons c cs ih =>
  rw [List.map_cons, List.map_cons, List.sum_cons, ih, List.length_cons]
  show 1 + _ = _
  omega
theorem ty_of {H : Hp} {p : Addr} {o : HO} {m : String} (h : H p = some o) (e : tyH (some o) = some m) : tyS H (.ref p) = some m := by
 show tyH (H p) = _
 rw [h]; exact e
theorem pow10_30 : (10 : Int) ^ (30 : Int).toNat = 1000000000000000000000000000000 := by decide
noncomputable def figs (n : Int) : Str := Str.ofString (toString n)
noncomputable def numTxt (x y : Int) : Str := if y = 1 then figs x else figs x ++ "/" ++ figs y
theorem log_small {n : Int} (h0 : 0 ≤ n) (h1 : n < 10 ^ 12) : n.natAbs.log2 < 1920 := by
 have h : n.natAbs < 2 ^ 1920 := Nat.lt_of_lt_of_le (show n.natAbs < 10 ^ 12 by omega) (by decide)
 by_cases z : n.natAbs = 0
 ·rw [z]; decide
 ·exact (Nat.log2_lt z).mpr h
theorem slash_len : (Str.ofString "/").length = 1 := by decide
theorem figs_len {n : Int} (h0 : 0 ≤ n) (h1 : n < 10 ^ 12) : (figs n).length ≤ 12 := PyProof.Rows.toString_length_le h0 (by decide) h1
theorem num_len {x y : Int} (hx0 : 0 ≤ x) (hx : x < 10 ^ 12) (hy0 : 0 < y) (hy : y < 10 ^ 12) : (numTxt x y).length ≤ 25 := by
 have l1 := figs_len hx0 hx
 have l2 := figs_len (by omega) hy
 have ld := slash_len
 unfold numTxt
 split
 ·omega
 ·rw [strLen_append, strLen_append]; omega
inductive Pd where
 | year | dor (x : Str) (ps : List Str) | two (u x y : Str) | mea (u x y : Str) (n d : Int)
theorem join_room {ws : List Str} (h : ∀ w ∈ ws, w.length ≤ 25) (hl : ws.length ≤ 10) : (ws.map (·.length)).sum + ws.length * (Str.ofString " ").length ≤ 16777216 := by
 have e : (Str.ofString " ").length = 1 := by decide
 have : ∀ ws : List Str, (∀ w ∈ ws, w.length ≤ 25) → (ws.map (·.length)).sum ≤ 25 * ws.length := by
  intro ws
  induction ws with
  | nil => intro _; exact Nat.le_refl _
  | cons a r ih =>
   intro h
   have h1 := h a (.head _)
   have h2 := ih fun w hw => h w (.tail _ hw)
   rw [List.map_cons, List.sum_cons, List.length_cons]
   omega
 have := this ws h
 rw [e]
 omega
theorem join_len {c m : Nat} : ∀ {ws : List Str}, (∀ w ∈ ws, w.length ≤ m) → (Str.join ⟨#[c]⟩ ws).length ≤ (m + 1) * ws.length
 | [], _ => Nat.zero_le _
 | [w], h => by
  have h : w.length ≤ m := h w (.head _)
  show w.length ≤ (m + 1) * 1
  omega
 | w :: w2 :: r, h => by
  have ih := join_len (c := c) (m := m) (ws := w2 :: r) fun u hu => h u (.tail _ hu)
  have h : w.length ≤ m := h w (.head _)
  show (w ++ ⟨#[c]⟩ ++ Str.join ⟨#[c]⟩ (w2 :: r)).length ≤ _
  rw [strLen_append, strLen_append, List.length_cons, Nat.mul_succ]
  have e : (⟨#[c]⟩ : Str).length = 1 := rfl
  omega
theorem sum_len {m : Nat} : ∀ {ws : List Str}, (∀ w ∈ ws, w.length ≤ m) → (ws.map (·.length)).sum ≤ m * ws.length
 | [], _ => Nat.zero_le _
 | w :: r, h => by
  have ih := sum_len (m := m) (ws := r) fun u hu => h u (.tail _ hu)
  have h : w.length ≤ m := h w (.head _)
  rw [List.map_cons, List.sum_cons, List.length_cons, Nat.mul_succ]
  omega
theorem tj (z : Str) (ys : List Str) : Txt.join z ys = Str.join z ys := eq_of_beq (PyProof.Rows.join_plain_closes _ _)
noncomputable def TSame (H H' : Hp) : Prop := ∀ a xs, H a = some (.tup xs) → H' a = some (.tup xs)
theorem _root_.L2.Same.ts {H H' : Hp} (s : Same H H') : TSame H H' := fun a _ h => s a _ h
theorem TSame.updL {H : Hp} {L : Addr} {vs : List V} {o : HO} (h : H L = some (.lst vs)) : TSame H (upd H L o) := fun a xs e => by
 have ne : a ≠ L := by rintro rfl; rw [h] at e; cases e
 rw [upd_ne ne]; exact e
theorem cut_upto (L : List Str) {a : Nat} (h : a ≤ L.length) : cutV (L.map V.str) none (some (a : Int)) = (L.take a).map V.str := by
 unfold cutV
 rw [HT.sIx_nat, HT.sIx_none, List.length_map, Nat.min_eq_left h, List.drop_zero, Nat.sub_zero, List.map_take]
theorem at_0 {α : Type} (x : α) (r : List α) : atI (x :: r) 0 = some x := atI_nat (j := 0) rfl
theorem at_1 {α : Type} (x y : α) (r : List α) : atI (x :: y :: r) 1 = some y := atI_nat (j := 1) rfl
theorem inV_str (x : Str) : ∀ L : List Str, inV (.str x) (L.map V.str) = decide (x ∈ L)
 | [] => by simp [inV]
 | y :: L => by
  have ih := inV_str x L
  unfold inV at ih ⊢
  rw [List.map_cons, List.any_cons, ih]
  by_cases h : y = x
  ·subst h; simp [eqV]
  ·have h2 : ¬ x = y := fun e => h e.symm
   simp [eqV, h, h2]
noncomputable def BG : Int := 10000000000000000000000000000000000000000
noncomputable def spMix : Sp := fun vs H Q _ => ∃ c : Int, vs = [.int c] ∧ ∀ m : Int, 0 ≤ m → m < BG → Q (.int m) H
theorem fdv {n d : Int} (h : 0 ≤ n) (hd : 0 < d) : 0 ≤ n.fdiv d ∧ n.fdiv d ≤ n := by
 rw [Int.fdiv_eq_ediv_of_nonneg _ (by omega)]
 exact ⟨Int.ediv_nonneg h (by omega), Int.ediv_le_self _ h⟩
theorem dd {i d : Int} (h1 : 0 < d) (h2 : d ≤ 1000000) : CDivB i d := divB_of (by omega) (Nat.lt_of_le_of_lt (m := 1000000) (by omega) (by decide))
theorem big_bits {n : Int} (h : 0 ≤ n) (h2 : n < BG) : n.natAbs < 2 ^ 256 := Nat.lt_trans (show n.natAbs < 10000000000000000000000000000000000000000 by unfold BG at h2; omega) (by decide)
theorem lt_all : ∀ k, k < 26 → LT.cps.toList[k]? = some (97 + k) := by decide +kernel
theorem lt_at {x : Int} (h : 0 ≤ x ∧ x < 26) : atI LT.cps.toList x = some (97 + x.toNat) := by
 obtain ⟨k, rfl⟩ := Int.eq_ofNat_of_zero_le h.1
 exact atI_nat (lt_all k (by omega))
noncomputable def lr (bs : List Int) (at' : Int) (j k : Nat) : Nat := 97 + ((bs.getD k 0 + (j : Int) * (if decide (V.int (k : Nat) = V.int at') = true then 1 else 0)).fmod 26).toNat
noncomputable def lrs (bs : List Int) (at' : Int) (n j : Nat) : List Nat := (List.range n).map (lr bs at' j)
noncomputable def nam (bs : List Int) (at' : Int) (n j : Nat) : Str := ⟨(lrs bs at' n j).toArray⟩
noncomputable def WN : List Str := [Str.ofString "end", Str.ofString "rule", Str.ofString "times", Str.ofString "year", Str.ofString "do", Str.ofString "bring", Str.ofString "move", Str.ofString "part", Str.ofString "all", Str.ofString "fill"]
theorem wn_nd : WN.Nodup := by decide +kernel
theorem getD_at' {bs : List Int} {j : Nat} (hj : j < bs.length) : atI (bs.map V.int) (0 + (j : Int)) = some (V.int (bs.getD j 0)) := by
 rw [Int.zero_add]
 refine atI_nat ?_
 rw [List.getElem?_map, List.getElem?_eq_getElem hj, List.getD_eq_getElem?_getD, List.getElem?_eq_getElem hj]
 rfl
noncomputable def spLow : Sp := fun vs H Q _ => ∃ t b : Int, vs = [.int t, .int b] ∧ 0 ≤ t ∧ t < 10 ^ 12 ∧ 0 < b ∧ b < 10 ^ 12 ∧ ∀ (p : Addr) (x y : Int) (H' : Hp), Same H H' → H' p = some (.tup [.int x, .int y]) → 0 ≤ x → x < 10 ^ 12 → 0 < y → y < 10 ^ 12 → Int.gcd x y = 1 → (0 < t → 0 < x) → (t ≤ b → x ≤ y) → Q (.ref p) H'
noncomputable def spAmt : Sp := fun vs H Q _ => ∃ n : Int, vs = [.int n] ∧ 0 ≤ n ∧ n < BG ∧ ∀ (p : Addr) (x y : Int) (H' : Hp), Same H H' → H' p = some (.tup [.int x, .int y]) → 0 < x → x < 10 ^ 12 → 0 < y → y < 10 ^ 12 → Int.gcd x y = 1 → Q (.ref p) H'
noncomputable def spShr : Sp := fun vs H Q _ => ∃ n : Int, vs = [.int n] ∧ 0 ≤ n ∧ n < BG ∧ ∀ (p : Addr) (x y : Int) (H' : Hp), Same H H' → H' p = some (.tup [.int x, .int y]) → 0 ≤ x → x ≤ y → 0 < y → y < 10 ^ 12 → Int.gcd x y = 1 → Q (.ref p) H'
noncomputable def spNT (K : PySem.W.Frag) : Sp := fun vs H Q _ => ∃ (a : Addr) (x y : Int), vs = [.ref a] ∧ SqT K H a [.int x, .int y] ∧ 0 ≤ x ∧ x < 10 ^ 12 ∧ 0 < y ∧ y < 10 ^ 12 ∧ Q (.str (numTxt x y)) H
theorem low_facts {t b g : Int} (ht : 0 ≤ t) (ht2 : t < 10 ^ 12) (hb : 0 < b) (hb2 : b < 10 ^ 12) (hg : g = ((Int.gcd t b : Nat) : Int)) : 0 < g ∧ 0 ≤ t.fdiv g ∧ t.fdiv g < 10 ^ 12 ∧ 0 < b.fdiv g ∧ b.fdiv g < 10 ^ 12 ∧ Int.gcd (t.fdiv g) (b.fdiv g) = 1 ∧ (0 < t → 0 < t.fdiv g) ∧ (t ≤ b → t.fdiv g ≤ b.fdiv g) := by
 have h0 : 0 < Int.gcd t b := Int.gcd_pos_of_ne_zero_right _ (by omega)
 have g0 : 0 < g := by omega
 have e1 : t.fdiv g = t / g := Int.fdiv_eq_ediv_of_nonneg _ (by omega)
 have e2 : b.fdiv g = b / g := Int.fdiv_eq_ediv_of_nonneg _ (by omega)
 have d1 : g ∣ t := hg ▸ Int.gcd_dvd_left ..
 have d2 : g ∣ b := hg ▸ Int.gcd_dvd_right ..
 obtain ⟨x, hx⟩ := d1
 obtain ⟨y, hy⟩ := d2
 have q1 : t / g = x := by rw [hx]; exact Int.mul_ediv_cancel_left _ (by omega)
 have q2 : b / g = y := by rw [hy]; exact Int.mul_ediv_cancel_left _ (by omega)
 have f1 := fdv ht g0
 have f2 := fdv (show 0 ≤ b by omega) g0
 rw [e1] at f1 ⊢
 rw [e2] at f2 ⊢
 have y0 : 0 < b / g := by
  rcases Int.lt_or_le 0 (b / g) with h | h
  ·exact h
  ·have : b / g = 0 := by omega
   rw [q2] at this
   rw [this, Int.mul_zero] at hy
   omega
 have x0 : 0 < t → 0 < t / g := fun h => by
  rcases Int.lt_or_le 0 (t / g) with h2 | h2
  ·exact h2
  ·have : t / g = 0 := by omega
   rw [q1] at this
   rw [this, Int.mul_zero] at hx
   omega
 refine ⟨g0, f1.1, by omega, y0, by omega, ?_, x0, fun h => Int.ediv_le_ediv g0 h⟩
 rw [hg]
 exact Int.gcd_ediv_gcd_ediv_gcd h0
inductive Kd where
 | np | nc | nr
noncomputable def Kd.ix : Kd → Int
 | .np => 0
 | .nc => 1
 | .nr => 2
noncomputable def cl3 (a b c : Addr) : Kd → Addr
 | .np => a
 | .nc => b
 | .nr => c
noncomputable def jP (kd : Str → Option Str) (p : Str × Bool) : Option Kd := match kd p.1 with
 | none => some .np
 | some k => if p.2 = true ∧ k = Str.ofString "sink" then some .nc else none
inductive Un where
 | pl (ps : List (Str × Bool)) | dd (r : Str) (ps : List Str)
noncomputable def twin : List (Str × Bool) → Bool
 | [a, b] => decide (a.1 = b.1)
 | _ => false
noncomputable def jU (kd : Str → Option Str) (ah : Str → Option Nat) : Un → Option Kd
 | .pl ps => match ps.findSome? (jP kd) with
  | some k => some k
  | none => if twin ps = true then some .nc else none
 | .dd r ps => match ah r with
  | none => some .nr
  | some n => if ps.length = n then ps.findSome? (fun p => jP kd (p, false)) else some .nr
noncomputable def KdV (kv : List (Key × V)) (kd : Str → Option Str) : Prop := ∀ x, valV kv (.inr x) = (kd x).map V.str
theorem jP_none {kd : Str → Option Str} {z : Str} {c : Bool} (e : kd z = none) : jP kd (z, c) = some .np := by
 show (match kd z with | none => some Kd.np | some k => if c = true ∧ k = Str.ofString "sink" then some Kd.nc else none) = _
 rw [e]
theorem jP_some {kd : Str → Option Str} {z k : Str} {c : Bool} (e : kd z = some k) : jP kd (z, c) = if c = true ∧ k = Str.ofString "sink" then some Kd.nc else none := by
 show (match kd z with | none => some Kd.np | some k => if c = true ∧ k = Str.ofString "sink" then some Kd.nc else none) = _
 rw [e]
theorem jl {acc y : Str} {m n : Nat} (h1 : acc.length ≤ m) (h2 : y.length ≤ n) : (acc ++ y).length ≤ m + n := by rw [strLen_append]; omega
theorem je : Str.empty.length ≤ 0 := by decide
theorem twin_ne : ∀ {ps : List (Str × Bool)}, ps.length ≠ 2 → twin ps = false
 | [], _ => rfl
 | [_], _ => rfl
 | [_, _], h => absurd rfl h
 | _ :: _ :: _ :: _, _ => rfl
noncomputable def spCp (C : Kd → Addr) : Sp := fun vs H Q E => ∃ (z : Str) (kk : Addr) (c : Bool) (kv : List (Key × V)) (kd : Str → Option Str), vs = [.str z, .ref kk, .bl c] ∧ H kk = some (.dK kv) ∧ KdV kv kd ∧ z.length ≤ 100 ∧ (jP kd (z, c) = none → Q .non H) ∧ ∀ k, jP kd (z, c) = some k → E (.ref (C k)) none H
theorem at_2' (a b c : V) (r : List V) : atI (a :: b :: c :: r) 2 = some c := atI_nat (j := 2) rfl
noncomputable def WtV (H : Hp) (t : V) (p : Str × Bool) : Prop := ∃ a, t = V.ref a ∧ H a = some (.tup [.str p.1, .bl p.2])
noncomputable def Pl8 (H : Hp) (v : V) (ps : List (Str × Bool)) : Prop := ∃ a, v = V.ref a ∧ ((H a = some (.tup [.str (Str.ofString "year")]) ∧ ps = []) ∨ (∃ n x q, H a = some (.tup [.str (Str.ofString "bring"), n, .str x, q]) ∧ ps = [(x, true)]) ∨
 ∃ w x y r, H a = some (.tup (.str w :: .str x :: .str y :: r)) ∧ w ≠ Str.ofString "year" ∧ w ≠ Str.ofString "bring" ∧ w ≠ Str.ofString "times" ∧ w ≠ Str.ofString "do" ∧ ps = [(x, true), (y, decide (w = Str.ofString "fill"))])
noncomputable def spW8 : Sp := fun vs H Q _ => ∃ (v : V) (ps : List (Str × Bool)), vs = [v] ∧ Pl8 H v ps ∧ ∀ l ts H', Same H H' → H' l = some (.lst ts) → Paired (WtV H') ts ps → Q (.ref l) H'
noncomputable def sh (ps : List (Str × Bool)) : Prop := ∀ p ∈ ps, p.1.length ≤ 100
noncomputable def spCl (C : Kd → Addr) : Sp := fun vs H Q E => ∃ (v : V) (kk : Addr) (ps : List (Str × Bool)) (kv : List (Key × V)) (kd : Str → Option Str), vs = [v, .ref kk] ∧ Pl8 H v ps ∧ sh ps ∧ H kk = some (.dK kv) ∧ KdV kv kd ∧ (jU kd (fun _ => none) (.pl ps) = none → ∀ H', Same H H' → Q .non H') ∧ ∀ k, jU kd (fun _ => none) (.pl ps) = some k → ∀ H', Same H H' → E (.ref (C k)) none H'
noncomputable def Do8 (H : Hp) (v : V) (r : Str) (ps : List Str) : Prop := ∃ a q, v = V.ref a ∧ H a = some (.tup [.str (Str.ofString "do"), .str r, .ref q]) ∧ H q = some (.tup (ps.map V.str))
theorem Do8.ts {H H' : Hp} {v : V} {r : Str} {ps : List Str} (s : TSame H H') : Do8 H v r ps → Do8 H' v r ps := fun ⟨a, q, e, h1, h2⟩ => ⟨a, q, e, s _ _ h1, s _ _ h2⟩
noncomputable def PcV (H : Hp) (v : V) (p : Str × Str) : Prop := ∃ a r, v = V.ref a ∧ H a = some (.tup (.str p.2 :: .str p.1 :: r))
theorem PcV.ts {H H' : Hp} {v : V} {p : Str × Str} (s : TSame H H') : PcV H v p → PcV H' v p := fun ⟨a, r, e, h⟩ => ⟨a, r, e, s _ _ h⟩
noncomputable def lk {α : Type} : List (Str × α) → Str → Option α
 | [], _ => none
 | p :: ps, z => match lk ps z with
  | some k => some k
  | none => if z = p.1 then some p.2 else none
theorem lk_snoc {α : Type} (ps : List (Str × α)) (p : Str × α) (z : Str) : lk (ps ++ [p]) z = if z = p.1 then some p.2 else lk ps z := by
 induction ps with
 | nil =>
  show (match lk [] z with | some k => some k | none => if z = p.1 then some p.2 else none) = _
  rfl
 | cons q ps ih =>
  show (match lk (ps ++ [p]) z with | some k => some k | none => if z = q.1 then some q.2 else none) = if z = p.1 then some p.2 else (match lk ps z with | some k => some k | none => if z = q.1 then some q.2 else none)
  rw [ih]
  by_cases e : z = p.1
  ·rw [if_pos e, if_pos e]
  ·rw [if_neg e, if_neg e]
noncomputable def spK8 (K : PySem.W.Frag) : Sp := fun vs H Q _ => ∃ (a : Addr) (xs : List V) (ps : List (Str × Str)), vs = [.ref a] ∧ H a = some (.lst xs) ∧ Paired (PcV H) xs ps ∧ ps.length ≤ 100 ∧ ∀ p kv H', Same H H' → H p = none → H' p = some (.dK kv) → kv.length ≤ ps.length → KdV kv (lk ps) → Q (.ref p) H'
noncomputable def wok (w : Str) : Prop := w ≠ Str.ofString "year" ∧ w ≠ Str.ofString "bring" ∧ w ≠ Str.ofString "times" ∧ w ≠ Str.ofString "do"
inductive P9 where
 | yr | br (n : Str) (x : Key) (a b : Int) | tw (w : Str) (x y : Key) | tq (w : Str) (x y : Key) (a b : Int)
noncomputable def P9.ok : P9 → Prop
 | .tw w _ _ => wok w
 | .tq w _ _ _ _ => wok w
 | _ => True
noncomputable def P9V (H : Hp) (v : V) : P9 → Prop
 | .yr => ∃ p, v = V.ref p ∧ H p = some (.tup [.str (Str.ofString "year")])
 | .br n x a b => ∃ p q, v = V.ref p ∧ H p = some (.tup [.str (Str.ofString "bring"), .str n, kV x, .ref q]) ∧ H q = some (.tup [.int a, .int b])
 | .tw w x y => ∃ p, v = V.ref p ∧ H p = some (.tup [.str w, kV x, kV y])
 | .tq w x y a b => ∃ p q, v = V.ref p ∧ H p = some (.tup [.str w, kV x, kV y, .ref q]) ∧ H q = some (.tup [.int a, .int b])
theorem P9V.ts {H H' : Hp} {v : V} (s : TSame H H') : ∀ {d : P9}, P9V H v d → P9V H' v d
 | .yr, ⟨p, e, h⟩ => ⟨p, e, s _ _ h⟩
 | .br _ _ _ _, ⟨p, q, e, h1, h2⟩ => ⟨p, q, e, s _ _ h1, s _ _ h2⟩
 | .tw _ _ _, ⟨p, e, h⟩ => ⟨p, e, s _ _ h⟩
 | .tq _ _ _ _ _, ⟨p, q, e, h1, h2⟩ => ⟨p, q, e, s _ _ h1, s _ _ h2⟩
noncomputable def P9.sub (f : Key → Key) : P9 → P9
 | .yr => .yr
 | .br n x a b => .br n (f x) a b
 | .tw w x y => .tw w (f x) (f y)
 | .tq w x y a b => .tq w (f x) (f y) a b
theorem P9.sub_ok {f : Key → Key} : ∀ {d : P9}, d.ok → (d.sub f).ok
 | .yr, h => h
 | .br _ _ _ _, h => h
 | .tw _ _ _, h => h
 | .tq _ _ _ _ _, h => h
theorem P9V.head {H : Hp} {v : V} : ∀ {d : P9}, P9V H v d → d.ok → ∃ a w r, v = V.ref a ∧ H a = some (.tup (.str w :: r)) ∧ w ≠ Str.ofString "times" ∧ w ≠ Str.ofString "do"
 | .yr, ⟨p, e, h⟩, _ => ⟨p, _, _, e, h, by decide +kernel, by decide +kernel⟩
 | .br _ _ _ _, ⟨p, q, e, h, _⟩, _ => ⟨p, _, _, e, h, by decide +kernel, by decide +kernel⟩
 | .tw w _ _, ⟨p, e, h⟩, k => ⟨p, w, _, e, h, k.2.2.1, k.2.2.2⟩
 | .tq w _ _ _ _, ⟨p, q, e, h, _⟩, k => ⟨p, w, _, e, h, k.2.2.1, k.2.2.2⟩
inductive Ts where
 | nil | pl (d : P9) (r : Ts) | dd (n : Str) (ps : List Str) (r : Ts) | tm (n : Nat) (b r : Ts)
noncomputable def TsV (H : Hp) : Ts → List V → Prop
 | .nil, us => us = []
 | .pl d r, us => ∃ v vs, us = v :: vs ∧ P9V H v d ∧ d.ok ∧ TsV H r vs
 | .dd n ps r, us => ∃ v vs, us = v :: vs ∧ Do8 H v n ps ∧ ps.length ≤ 60 ∧ TsV H r vs
 | .tm n b r, us => ∃ a t us1 vs, us = V.ref a :: vs ∧ H a = some (.tup [.str (Str.ofString "times"), .int (n : Nat), .ref t]) ∧ H t = some (.tup us1) ∧ n ≤ 60 ∧ TsV H b us1 ∧ TsV H r vs
theorem TsV.ts {H H' : Hp} (s : TSame H H') : ∀ {T : Ts} {us : List V}, TsV H T us → TsV H' T us
 | .nil, _, h => h
 | .pl _ _, _, ⟨v, vs, e, h1, h2, h3⟩ => ⟨v, vs, e, h1.ts s, h2, h3.ts s⟩
 | .dd _ _ _, _, ⟨v, vs, e, h1, h2, h3⟩ => ⟨v, vs, e, h1.ts s, h2, h3.ts s⟩
 | .tm _ _ _, _, ⟨a, t, us1, vs, e, h1, h2, h5, h3, h4⟩ => ⟨a, t, us1, vs, e, s _ _ h1, s _ _ h2, h5, h3.ts s, h4.ts s⟩
noncomputable def Ts.dep : Ts → Nat
 | .nil => 0
 | .pl _ r => r.dep
 | .dd _ _ r => r.dep
 | .tm _ b r => max (b.dep + 1) r.dep
noncomputable def Ts.cnt (cc : Str → Int) : Ts → Int
 | .nil => 0
 | .pl _ r => 1 + r.cnt cc
 | .dd n _ r => cc n + r.cnt cc
 | .tm n b r => (n : Int) * b.cnt cc + r.cnt cc
noncomputable def Ts.mok (cc : Str → Int) : Ts → Prop
 | .nil => True
 | .pl _ r => r.mok cc
 | .dd _ _ r => r.mok cc
 | .tm n b r => IntMulOk (n : Int) (b.cnt cc) ∧ b.mok cc ∧ r.mok cc
noncomputable def Ts.has (p : Str → Prop) : Ts → Prop
 | .nil => True
 | .pl _ r => r.has p
 | .dd n _ r => p n ∧ r.has p
 | .tm _ b r => b.has p ∧ r.has p
noncomputable def spM9 (K : PySem.W.Frag) (d : Nat) : Sp := fun vs H Q _ => ∃ (a ac : Addr) (us : List V) (T : Ts) (cv : List (Key × V)) (cc : Str → Int) (e : Nat), vs = [.ref a, .ref ac] ∧ H a = some (.tup us) ∧ TsV H T us ∧ e + 1 = d ∧ T.dep ≤ e ∧ H ac = some (.dK cv) ∧ T.has (fun r => valV cv (.inr r) = some (.int (cc r))) ∧ T.mok cc ∧ Q (.int (T.cnt cc)) H
noncomputable def SvV (sv : List (Key × V)) (f : Key → Key) : Prop := ∀ x : Key, (valV sv x).getD (kV x) = kV (f x)
noncomputable def spWi9 (K : PySem.W.Frag) : Sp := fun vs H Q _ => ∃ (v : V) (st : Addr) (d : P9) (f : Key → Key) (sv : List (Key × V)), vs = [v, .ref st] ∧ P9V H v d ∧ d.ok ∧ H st = some (.dK sv) ∧ SvV sv f ∧ ∀ v' H', Same H H' → P9V H' v' (d.sub f) → Q v' H'
noncomputable def keyOf : V → Key
 | .int i => .inl i
 | .str s => .inr s
 | _ => .inl 0
theorem kV_keyOf (x : Key) : kV (keyOf (kV x)) = kV x := by cases x <;> rfl
noncomputable def stF (sv : List (Key × V)) : Key → Key := fun x => keyOf ((valV sv x).getD (kV x))
theorem stF_ok {sv : List (Key × V)} (h : ∀ q ∈ sv, ∃ x : Key, q.2 = kV x) : SvV sv (stF sv) := by
 intro x
 unfold stF
 cases e : valV sv x with
 | none => exact (kV_keyOf x).symm
 | some v =>
  obtain ⟨q, hq, e2⟩ : ∃ q ∈ sv, q.2 = v := by
   unfold valV at e
   obtain ⟨q, h1, h2⟩ := Option.map_eq_some_iff.mp e
   exact ⟨q, List.mem_of_find?_eq_some h1, h2⟩
  obtain ⟨y, ey⟩ := h q hq
  show v = kV (keyOf v)
  rw [← e2, ey, kV_keyOf]
theorem numV_keys {zs : List Key} : ∀ q ∈ numV (zs.map kV), ∃ x : Key, q.2 = kV x := by
 intro q hq
 unfold numV at hq
 obtain ⟨i, h, e⟩ := List.mem_mapIdx.mp hq
 rw [← e]
 simp
 exact ⟨_, rfl⟩
noncomputable def numF (zs : List Key) : Key → Key := stF (numV (zs.map kV))
noncomputable def unr (f : Key → Key) (bod : Str → List P9) : Ts → List P9
 | .nil => []
 | .pl d r => d.sub f :: unr f bod r
 | .dd n ps r => (bod n).map (P9.sub (numF (ps.map fun p => f (.inr p)))) ++ unr f bod r
 | .tm n b r => (List.replicate n (unr f bod b)).flatten ++ unr f bod r
noncomputable def Ts.use (p : Str → Prop) : Ts → Prop
 | .nil => True
 | .pl _ r => r.use p
 | .dd n _ r => p n ∧ r.use p
 | .tm n b r => (0 < n → b.use p) ∧ r.use p
noncomputable def bod9 (H : Hp) (bv : List (Key × V)) (bod : Str → List P9) (r : Str) : Prop := ∃ lr bs, valV bv (.inr r) = some (.ref lr) ∧ H lr = some (.lst bs) ∧ Paired (P9V H) bs (bod r) ∧ ∀ d ∈ bod r, d.ok
theorem Ts.use_imp {p q : Str → Prop} (h : ∀ r, p r → q r) : ∀ {T : Ts}, T.use p → T.use q
 | .nil, _ => trivial
 | .pl _ r, k => Ts.use_imp h (T := r) k
 | .dd n _ r, k => ⟨h n k.1, Ts.use_imp h (T := r) k.2⟩
 | .tm _ b r, k => ⟨fun z => Ts.use_imp h (T := b) (k.1 z), Ts.use_imp h (T := r) k.2⟩
theorem bod9.same {H H' : Hp} {bv : List (Key × V)} {bod : Str → List P9} {r : Str} (s : Same H H') : bod9 H bv bod r → bod9 H' bv bod r := fun ⟨lr, bs, h1, h2, h3, h4⟩ => ⟨lr, bs, h1, s _ _ h2, Paired.mapP h3 fun _ _ h => h.ts s.ts, h4⟩
theorem paired_rep {α β : Type} {F : α → β → Prop} {xs : List α} {ys : List β} (h : Paired F xs ys) : ∀ k : Nat, Paired F (List.replicate k xs).flatten (List.replicate k ys).flatten
 | 0 => by simp only [List.replicate_zero, List.flatten_nil]; exact .nil
 | k + 1 => by
  rw [List.replicate_succ, List.replicate_succ, List.flatten_cons, List.flatten_cons]
  exact Paired.app h (paired_rep h k)
noncomputable def spU9 (K : PySem.W.Frag) (d : Nat) : Sp := fun vs H Q _ => ∃ (a st bd : Addr) (us : List V) (T : Ts) (sv bv : List (Key × V)) (f : Key → Key) (bod : Str → List P9) (e : Nat), vs = [.ref a, .ref st, .ref bd] ∧ H a = some (.tup us) ∧ TsV H T us ∧ e + 1 = d ∧ T.dep ≤ e ∧ H st = some (.dK sv) ∧ SvV sv f ∧ H bd = some (.dK bv) ∧ T.use (bod9 H bv bod) ∧ (unr f bod T).length ≤ 200 ∧
 ∀ l rs H', Same H H' → H l = none → H' l = some (.lst rs) → Paired (P9V H') rs (unr f bod T) → Q (.ref l) H'
theorem paired_mem' {α β : Type} {F : α → β → Prop} {xs : List α} {ys : List β} (h : Paired F xs ys) {y : β} (hy : y ∈ ys) : ∃ x, x ∈ xs ∧ F x y := by
 induction h with
 | nil => cases hy
 | cons a _ ih =>
  rcases List.mem_cons.mp hy with rfl | hy
  ·exact ⟨_, .head _, a⟩
  ·obtain ⟨x, hx, hf⟩ := ih hy
   exact ⟨x, .tail _ hx, hf⟩
noncomputable abbrev R9 := Str × List Str × Ts
noncomputable def R9V (H : Hp) (v : V) (r : R9) : Prop := ∃ (a b c : Addr) (us : List V), v = .ref a ∧ H a = some (.tup [.str r.1, .ref b, .ref c]) ∧ H b = some (.tup (r.2.1.map V.str)) ∧ H c = some (.tup us) ∧ TsV H r.2.2 us
theorem R9V.ts {H H' : Hp} {v : V} {r : R9} (s : TSame H H') (h : R9V H v r) : R9V H' v r := by
 obtain ⟨a, b, c, us, e, h1, h2, h3, h4⟩ := h
 exact ⟨a, b, c, us, e, s _ _ h1, s _ _ h2, s _ _ h3, h4.ts s⟩
noncomputable def parG (ps : List Str) (kv : List (Key × V)) (i : Nat) : List (Key × V) := putK kv (.inr (ps.getD i (Str.ofString ""))) (.int (i : Nat))
noncomputable def parD (ps : List Str) (j : Nat) : List (Key × V) := (List.range j).foldl (parG ps) []
theorem parD_succ (ps : List Str) (j : Nat) : parD ps (j + 1) = parG ps (parD ps j) j := by
 unfold parD
 rw [List.range_succ, List.foldl_append]; rfl
theorem mem_put {kv : List (Key × V)} {k : Key} {v : V} {q : Key × V} (h : q ∈ putK kv k v) : q.2 = v ∨ q ∈ kv := by
 unfold putK at h
 split at h
 ·obtain ⟨p, hp, e⟩ := List.mem_map.mp h
  by_cases z : p.1 = k
  ·rw [if_pos z] at e
   exact .inl (by rw [← e])
  ·rw [if_neg z] at e
   exact .inr (e ▸ hp)
 ·rcases List.mem_append.mp h with h | h
  ·exact .inr h
  ·exact .inl (by rw [List.mem_singleton.mp h])
theorem parD_keys (ps : List Str) : ∀ j, ∀ q ∈ parD ps j, ∃ x : Key, q.2 = kV x
 | 0 => fun q hq => by cases hq
 | j + 1 => fun q hq => by
  rw [parD_succ] at hq
  rcases mem_put hq with e | h
  ·exact ⟨.inl (j : Nat), e⟩
  ·exact parD_keys ps j q h
theorem parD_len (ps : List Str) : ∀ j, (parD ps j).length ≤ j
 | 0 => Nat.le_refl _
 | j + 1 => by
  rw [parD_succ]
  exact Nat.le_trans (length_putK _ _ _) (by have := parD_len ps j; omega)
noncomputable def parF (ps : List Str) : Key → Key := stF (parD ps ps.length)
noncomputable def bodR : List R9 → Str → List P9
 | [], _ => []
 | r :: rs, z => if z = r.1 then unr (parF r.2.1) (bodR rs) r.2.2 else bodR rs z
noncomputable def cntR : List R9 → Str → Int
 | [], _ => 0
 | r :: rs, z => if z = r.1 then r.2.2.cnt (cntR rs) else cntR rs z
theorem cntR_top (r : R9) (rs : List R9) : cntR (r :: rs) r.1 = r.2.2.cnt (cntR rs) := by
 unfold cntR
 rw [if_pos rfl]
theorem bodR_top (r : R9) (rs : List R9) : bodR (r :: rs) r.1 = unr (parF r.2.1) (bodR rs) r.2.2 := by
 unfold bodR
 rw [if_pos rfl]
theorem Ts.nn {cc : Str → Int} (h : ∀ z, 0 ≤ cc z) : ∀ T : Ts, 0 ≤ T.cnt cc
 | .nil => Int.le_refl _
 | .pl _ r => by have := Ts.nn h r; show 0 ≤ 1 + r.cnt cc; omega
 | .dd n _ r => by have := Ts.nn h r; have := h n; show 0 ≤ cc n + r.cnt cc; omega
 | .tm n b r => by
  have h1 := Ts.nn h r
  have h2 := Int.mul_nonneg (Int.natCast_nonneg n) (Ts.nn h b)
  show 0 ≤ (n : Int) * b.cnt cc + r.cnt cc
  omega
theorem unr_len {cc : Str → Int} {f : Key → Key} {bod : Str → List P9} (h : ∀ z, (((bod z).length : Nat) : Int) = cc z) : ∀ T : Ts, (((unr f bod T).length : Nat) : Int) = T.cnt cc
 | .nil => rfl
 | .pl d r => by
  have := unr_len (f := f) h r
  show (((d.sub f :: unr f bod r).length : Nat) : Int) = 1 + r.cnt cc
  rw [List.length_cons]; omega
 | .dd n ps r => by
  have h1 := unr_len (f := f) h r
  have h2 := h n
  show ((((bod n).map _ ++ unr f bod r).length : Nat) : Int) = cc n + r.cnt cc
  rw [List.length_append, List.length_map]; omega
 | .tm n b r => by
  have h1 := unr_len (f := f) h r
  have h2 := unr_len (f := f) h b
  show ((((List.replicate n (unr f bod b)).flatten ++ unr f bod r).length : Nat) : Int) = (n : Int) * b.cnt cc + r.cnt cc
  rw [List.length_append, len_rep, Int.natCast_add, Int.natCast_mul, h1, h2]
theorem bodR_len : ∀ (rs : List R9) (z : Str), (((bodR rs z).length : Nat) : Int) = cntR rs z
 | [], _ => rfl
 | r :: rs, z => by
  unfold bodR cntR
  by_cases e : z = r.1
  ·rw [if_pos e, if_pos e]; exact unr_len (bodR_len rs) _
  ·rw [if_neg e, if_neg e]; exact bodR_len rs z
theorem cntR_nn : ∀ (rs : List R9) (z : Str), 0 ≤ cntR rs z
 | [], _ => Int.le_refl _
 | r :: rs, z => by
  unfold cntR
  by_cases e : z = r.1
  ·rw [if_pos e]; exact Ts.nn (cntR_nn rs) _
  ·rw [if_neg e]; exact cntR_nn rs z
theorem Ts.use_of {cc : Str → Int} (h : ∀ z, 0 ≤ cc z) {p q : Str → Prop} (hq : ∀ z, p z → cc z ≤ 200 → q z) : ∀ {T : Ts}, T.has p → T.cnt cc ≤ 200 → T.use q
 | .nil, _, _ => trivial
 | .pl _ r, k, l => Ts.use_of h hq (T := r) k (by have l : 1 + r.cnt cc ≤ 200 := l; omega)
 | .dd n _ r, k, l => by
  have l : cc n + r.cnt cc ≤ 200 := l
  have h1 := h n
  have h2 := Ts.nn h r
  exact ⟨hq n k.1 (by omega), Ts.use_of h hq (T := r) k.2 (by omega)⟩
 | .tm n b r, k, l => by
  have l : (n : Int) * b.cnt cc + r.cnt cc ≤ 200 := l
  have h1 := Ts.nn h b
  have h2 := Ts.nn h r
  have h3 := Int.mul_nonneg (Int.natCast_nonneg n) h1
  refine ⟨fun z => Ts.use_of h hq (T := b) k.1 ?_, Ts.use_of h hq (T := r) k.2 (by omega)⟩
  have : 1 * b.cnt cc ≤ (n : Int) * b.cnt cc := Int.mul_le_mul_of_nonneg_right (by omega) h1
  omega
theorem Ts.has_imp {p q : Str → Prop} (h : ∀ r, p r → q r) : ∀ {T : Ts}, T.has p → T.has q
 | .nil, _ => trivial
 | .pl _ r, k => Ts.has_imp h (T := r) k
 | .dd n _ r, k => ⟨h n k.1, Ts.has_imp h (T := r) k.2⟩
 | .tm _ b r, k => ⟨Ts.has_imp h (T := b) k.1, Ts.has_imp h (T := r) k.2⟩
noncomputable def Ts.ok : Ts → Prop
 | .nil => True
 | .pl d r => d.ok ∧ r.ok
 | .dd _ _ r => r.ok
 | .tm _ b r => b.ok ∧ r.ok
theorem TsV.ok {H : Hp} : ∀ {T : Ts} {us : List V}, TsV H T us → T.ok
 | .nil, _, _ => trivial
 | .pl _ _, _, ⟨_, _, _, _, h2, h3⟩ => ⟨h2, h3.ok⟩
 | .dd _ _ r, _, ⟨_, _, _, _, _, h3⟩ => (TsV.ok h3 : r.ok)
 | .tm _ _ _, _, ⟨_, _, _, _, _, _, _, _, h3, h4⟩ => ⟨h3.ok, h4.ok⟩
theorem unr_ok {f : Key → Key} {bod : Str → List P9} (hb : ∀ z, ∀ d ∈ bod z, d.ok) : ∀ {T : Ts}, T.ok → ∀ d ∈ unr f bod T, d.ok
 | .nil, _ => fun d hd => by cases hd
 | .pl d r, k => fun x hx => by
  rcases List.mem_cons.mp hx with rfl | hx
  ·exact P9.sub_ok k.1
  ·exact unr_ok hb k.2 x hx
 | .dd n ps r, k => fun x hx => by
  rcases List.mem_append.mp hx with hx | hx
  ·obtain ⟨d, hd, rfl⟩ := List.mem_map.mp hx
   exact P9.sub_ok (hb n d hd)
  ·exact unr_ok hb (T := r) k x hx
 | .tm n b r, k => fun x hx => by
  rcases List.mem_append.mp hx with hx | hx
  ·obtain ⟨l, hl, hx⟩ := List.mem_flatten.mp hx
   rw [(List.mem_replicate.mp hl).2] at hx
   exact unr_ok hb k.1 x hx
  ·exact unr_ok hb k.2 x hx
theorem bodR_ok : ∀ {rs : List R9}, (∀ r ∈ rs, r.2.2.ok) → ∀ z, ∀ d ∈ bodR rs z, d.ok
 | [], _ => fun _ d hd => by cases hd
 | r :: rs, h => fun z d hd => by
  unfold bodR at hd
  by_cases e : z = r.1
  ·rw [if_pos e] at hd
   exact unr_ok (bodR_ok fun q hq => h q (.tail _ hq)) (h r (.head _)) d hd
  ·rw [if_neg e] at hd
   exact bodR_ok (fun q hq => h q (.tail _ hq)) z d hd
noncomputable def Ah9 (rs : List R9) : Prop := (rs.map (·.1)).Nodup ∧ (∀ (i : Nat) (r : R9), rs[i]? = some r → r.2.2.has (· ∈ (rs.take i).map (·.1))) ∧ ∀ r ∈ rs, r.2.1.Nodup ∧ r.2.1.length ≤ 30 ∧ r.2.2.dep ≤ 8
noncomputable def spB9 (K : PySem.W.Frag) : Sp := fun vs H Q _ => ∃ (a ac : Addr) (rv : List V) (rs : List R9) (cv : List (Key × V)), vs = [.ref a, .ref ac] ∧ H a = some (.tup rv) ∧ Paired (R9V H) rv rs ∧ rs.length ≤ 60 ∧ Ah9 rs ∧ H ac = some (.dK cv) ∧ (∀ r ∈ rs, valV cv (.inr r.1) = some (.int (cntR rs.reverse r.1))) ∧
 ∀ p bv H', Same H H' → H' p = some (.dK bv) → (∀ z ∈ rs.map (·.1), cntR rs.reverse z ≤ 200 → bod9 H' bv (bodR rs.reverse) z) → Q (.ref p) H'
theorem cntR_pre {rs : List R9} (nd : (rs.map (·.1)).Nodup) (i : Nat) {z : Str} (h : z ∈ (rs.take i).map (·.1)) : cntR (rs.take i).reverse z = cntR rs.reverse z ∧ bodR (rs.take i).reverse z = bodR rs.reverse z := by
 have key : ∀ (A B : List R9), ((B ++ A).map (·.1)).Nodup → z ∈ B.map (·.1) → cntR (A.reverse ++ B.reverse) z = cntR B.reverse z ∧ bodR (A.reverse ++ B.reverse) z = bodR B.reverse z := by
  intro A B nd hz
  have hz' : ∀ q ∈ A.reverse, z ≠ q.1 := fun q hq e => by
   rw [List.map_append] at nd
   exact (List.nodup_append.mp nd).2.2 z hz q.1 (List.mem_map.mpr ⟨q, List.mem_reverse.mp hq, rfl⟩) e
  generalize A.reverse = C at hz' ⊢
  induction C with
  | nil => exact ⟨rfl, rfl⟩
  | cons q C ih =>
   have ne := hz' q (.head _)
   have ih := ih fun p hp => hz' p (.tail _ hp)
   refine ⟨?_, ?_⟩
   ·show (if z = q.1 then _ else cntR (C ++ B.reverse) z) = _
    rw [if_neg ne, ih.1]
   ·show (if z = q.1 then _ else bodR (C ++ B.reverse) z) = _
    rw [if_neg ne, ih.2]
 have := key (rs.drop i) (rs.take i) (by rw [List.take_append_drop]; exact nd) h
 rw [← List.reverse_append, List.take_append_drop] at this
 exact ⟨this.1.symm, this.2.symm⟩
noncomputable def ks : Key → Str
 | .inr s => s
 | .inl _ => Str.ofString ""
noncomputable def isT (x : Key) : Prop := ∃ s : Str, x = .inr s ∧ s.length ≤ 100
noncomputable def P9.txt : P9 → Prop
 | .yr => True
 | .br _ x _ _ => isT x
 | .tw _ x y => isT x ∧ isT y
 | .tq _ x y _ _ => isT x ∧ isT y
noncomputable def P9.want : P9 → List (Str × Bool)
 | .yr => []
 | .br _ x _ _ => [(ks x, true)]
 | .tw w x y => [(ks x, true), (ks y, decide (w = Str.ofString "fill"))]
 | .tq w x y _ _ => [(ks x, true), (ks y, decide (w = Str.ofString "fill"))]
theorem P9V.pl8 {H : Hp} {v : V} {d : P9} (h : P9V H v d) (k : d.ok) (x : d.txt) : Pl8 H v d.want ∧ sh d.want := by
 cases d with
 | yr =>
  obtain ⟨p, e, h⟩ := h
  exact ⟨⟨p, e, .inl ⟨h, rfl⟩⟩, fun _ z => nomatch z⟩
 | br n y a b =>
  obtain ⟨p, q, e, h, _⟩ := h
  obtain ⟨s, rfl, l⟩ := x
  exact ⟨⟨p, e, .inr (.inl ⟨_, s, _, h, rfl⟩)⟩, fun x hx => by rw [List.mem_singleton.mp hx]; exact l⟩
 | tw w y z =>
  obtain ⟨p, e, h⟩ := h
  obtain ⟨⟨s, rfl, l⟩, ⟨s', rfl, l'⟩⟩ := x
  refine ⟨⟨p, e, .inr (.inr ⟨w, s, s', _, h, k.1, k.2.1, k.2.2.1, k.2.2.2, rfl⟩)⟩, fun x hx => ?_⟩
  rcases List.mem_cons.mp hx with rfl | hx
  ·exact l
  ·rw [List.mem_singleton.mp hx]; exact l'
 | tq w y z a b =>
  obtain ⟨p, q, e, h, _⟩ := h
  obtain ⟨⟨s, rfl, l⟩, ⟨s', rfl, l'⟩⟩ := x
  refine ⟨⟨p, e, .inr (.inr ⟨w, s, s', _, h, k.1, k.2.1, k.2.2.1, k.2.2.2, rfl⟩)⟩, fun x hx => ?_⟩
  rcases List.mem_cons.mp hx with rfl | hx
  ·exact l
  ·rw [List.mem_singleton.mp hx]; exact l'
noncomputable def jOut (hp : List (Str × Str)) (out : List P9) : Option Kd := out.findSome? fun d => jU (lk hp) (fun _ => none) (.pl d.want)
noncomputable def S9V (H : Hp) (v : V) (rs : List R9) (T : Ts) : Prop := ∃ (p a b : Addr) (rv us : List V), v = .ref p ∧ H p = some (.tup [.ref a, .ref b]) ∧ H a = some (.tup rv) ∧ Paired (R9V H) rv rs ∧ H b = some (.tup us) ∧ TsV H T us
theorem S9V.ts {H H' : Hp} {v : V} {rs : List R9} {T : Ts} (s : TSame H H') (h : S9V H v rs T) : S9V H' v rs T := by
 obtain ⟨p, a, b, rv, us, e, h1, h2, h3, h4, h5⟩ := h
 exact ⟨p, a, b, rv, us, e, s _ _ h1, s _ _ h2, Paired.mapP h3 fun _ _ h => h.ts s, s _ _ h4, h5.ts s⟩
noncomputable def So9 (rs : List R9) (T : Ts) : Prop := Ah9 rs ∧ rs.length ≤ 60 ∧ T.has (· ∈ rs.map (·.1)) ∧ T.dep ≤ 8 ∧ (∀ (i : Nat) (r : R9), rs[i]? = some r → r.2.2.mok (cntR (rs.take i).reverse)) ∧ T.mok (cntR rs.reverse) ∧ (T.cnt (cntR rs.reverse) ≤ 200 → ∀ d ∈ unr (fun x => x) (bodR rs.reverse) T, d.txt)
noncomputable def spOp9 (K : PySem.W.Frag) (C : Kd → Addr) (D : Addr) : Sp := fun vs H Q E => ∃ (a : Addr) (v : V) (xs : List V) (hp : List (Str × Str)) (rs : List R9) (T : Ts), vs = [.ref a, v] ∧ H a = some (.lst xs) ∧ Paired (PcV H) xs hp ∧ hp.length ≤ 30 ∧ S9V H v rs T ∧ So9 rs T ∧
 (¬ T.cnt (cntR rs.reverse) ≤ 200 → ∀ H', Same H H' → E (.ref D) none H') ∧
 (T.cnt (cntR rs.reverse) ≤ 200 → (∀ k, jOut hp (unr (fun x => x) (bodR rs.reverse) T) = some k → ∀ H', Same H H' → E (.ref (C k)) none H') ∧
  (jOut hp (unr (fun x => x) (bodR rs.reverse) T) = none → ∀ l vs H', Same H H' → H l = none → H' l = some (.lst vs) → Paired (P9V H') vs (unr (fun x => x) (bodR rs.reverse) T) → Q (.ref l) H'))
theorem by_key0 {P G : Prop} (go : P → G) (body : P) : G := go body
theorem keepL {H : Hp} {a c : Addr} {o o' : HO} (n : c ≠ a) (h : H c = some o) : upd H a o' c = some o := by rw [upd_ne n]; exact h
theorem ne_none {H : Hp} {a c : Addr} {o : HO} (h1 : H a = none) (h2 : H c = some o) : a ≠ c := by rintro rfl; rw [h1] at h2; cases h2
theorem sealH {P F : Hp → Prop} {Hb : Hp} (s : F Hb) (body : ∀ Hn, F Hn → P Hn) : P Hb := body Hb s
noncomputable def ZZ : Str := Str.ofString "zzzzzzzz"
theorem nam_inj2 {bs : List Int} {a n : Nat} (ha : a < n) {k k' : Nat} (hk : k < 26) (hk' : k' < 26) (e : nam bs (a : Nat) n k = nam bs (a : Nat) n k') : k = k' := by
 have e1 : lrs bs (a : Nat) n k = lrs bs (a : Nat) n k' := by
  have := congrArg (fun z : Str => z.cps.toList) e
  simpa [nam] using this
 have e2 : lr bs (a : Nat) k a = lr bs (a : Nat) k' a := by
  have h1 := congrArg (fun l : List Nat => l[a]?) e1
  simpa [lrs, ha] using h1
 unfold lr at e2
 rw [decide_eq_true rfl, if_pos rfl, Int.mul_one, Int.mul_one] at e2
 have q1 := fmod_lt (c := bs.getD a 0 + (k : Int)) (m := 26) (by decide)
 have q2 := fmod_lt (c := bs.getD a 0 + (k' : Int)) (m := 26) (by decide)
 rw [Int.fmod_eq_emod_of_nonneg _ (by decide)] at q1 q2
 rw [Int.fmod_eq_emod_of_nonneg _ (by decide), Int.fmod_eq_emod_of_nonneg _ (by decide)] at e2
 omega
theorem nam_nodup2 {bs : List Int} {a n : Nat} (ha : a < n) {m : Nat} (hm : m ≤ 26) : ((List.range m).map (nam bs (a : Nat) n)).Nodup := by
 unfold List.Nodup
 rw [List.pairwise_map]
 refine List.Pairwise.imp_of_mem (fun {x y} hx hy hxy e => hxy ?_) (List.nodup_range (n := m))
 exact nam_inj2 ha (by have := List.mem_range.mp hx; omega) (by have := List.mem_range.mp hy; omega) e
theorem nam_len (bs : List Int) (at' : Int) (n j : Nat) : (nam bs at' n j).length = n := by
 show ((lrs bs at' n j).toArray).size = n
 simp [lrs]
theorem nam_zz {bs : List Int} {at' : Int} {n j : Nat} (h : n ≤ 7) : nam bs at' n j ≠ ZZ := fun e => by
 have h1 := congrArg Str.length e
 rw [nam_len] at h1
 have h2 : ZZ.length = 8 := by decide +kernel
 omega
theorem wn_len : ∀ z ∈ WN, z.length ≤ 8 ∧ z ≠ ZZ := by decide +kernel
noncomputable def spNam3 : Sp := fun vs H Q _ => ∃ c m : Int, vs = [.int c, .int m] ∧ 0 ≤ m ∧ m ≤ 26 ∧ ∀ (p : Addr) (H' : Hp) (zs : List Str), Same H H' → H p = none → H' p = some (.lst (zs.map V.str)) → (zs.length : Int) = m → zs.Nodup → (∀ z ∈ zs, z.length ≤ 8 ∧ z ≠ ZZ) → Q (.ref p) H'
theorem cuts {α : Type} (f : α → V) (zs : List α) {k : Nat} (h : k ≤ zs.length) : cutV (zs.map f) none (some (k : Int)) = (zs.take k).map f := by
 have e1 : HT.sIx (zs.map f).length (zs.map f).length (some (k : Int)) = min k (zs.map f).length := HT.sIx_nat _ _ k
 have e2 : HT.sIx (zs.map f).length 0 none = 0 := rfl
 unfold cutV
 rw [e1, e2, List.length_map, Nat.min_eq_left h, List.drop_zero, Nat.sub_zero, List.map_take]
theorem cuts2 {α : Type} (f : α → V) (zs : List α) {k : Nat} (h : k ≤ zs.length) : cutV (zs.map f) (some (k : Int)) none = (zs.drop k).map f := by
 have e1 : HT.sIx (zs.map f).length 0 (some (k : Int)) = min k (zs.map f).length := HT.sIx_nat _ _ k
 have e2 : HT.sIx (zs.map f).length (zs.map f).length none = (zs.map f).length := rfl
 unfold cutV
 rw [e1, e2, List.length_map, Nat.min_eq_left h, List.map_drop]
 exact List.take_of_length_le (by rw [List.length_drop, List.length_map]; exact Nat.le_refl _)
theorem ts_updL {H : Hp} {a : Addr} {xs : List V} {o : HO} (h : H a = some (.lst xs)) : TSame H (upd H a o) := fun c ys hc => by
 rw [upd_ne (by rintro rfl; rw [h] at hc; cases hc)]; exact hc
theorem cutv_u (xs : List V) {k : Nat} (h : k ≤ xs.length) : cutV xs none (some (k : Int)) = xs.take k := by
 have := cuts (fun x => x) xs h
 simpa using this
theorem cutv_d (xs : List V) {k : Nat} (h : k ≤ xs.length) : cutV xs (some (k : Int)) none = xs.drop k := by
 have := cuts2 (fun x => x) xs h
 simpa using this
noncomputable def Hok (hp : List (Str × Str)) : Prop := hp.length ≤ 20 ∧ (hp.map (·.1)).Nodup ∧ (∀ q ∈ hp, q.1.length ≤ 8 ∧ q.1 ≠ ZZ ∧ (q.2 = Str.ofString "cask" ∨ q.2 = Str.ofString "sink")) ∧ ∃ q ∈ hp, q.2 = Str.ofString "cask"
noncomputable def spHs8 (K : PySem.W.Frag) : Sp := fun vs H Q _ => ∃ (a : Addr) (ns : List Int), vs = [.ref a] ∧ SqL K H a (ns.map V.int) ∧ ∀ p xs hp H', Same H H' → H p = none → H' p = some (.lst xs) → Paired (PcV H') xs hp → Hok hp → Q (.ref p) H'
theorem Hok.turn {hp : List (Str × Str)} (h : Hok hp) (k : Nat) : Hok (hp.drop k ++ hp.take k) := by
 have pm : (hp.drop k ++ hp.take k).Perm hp := List.perm_append_comm.trans (by rw [List.take_append_drop])
 obtain ⟨h1, h2, h3, q, hq, h4⟩ := h
 refine ⟨by rw [pm.length_eq]; exact h1, (pm.map _).nodup_iff.mpr h2, fun q hq => h3 q (pm.mem_iff.mp hq), q, pm.mem_iff.mpr hq, h4⟩
theorem Paired.turn {α β : Type} {F : α → β → Prop} {xs : List α} {ys : List β} (h : Paired F xs ys) (k : Nat) : Paired F (xs.drop k) (ys.drop k) ∧ Paired F (xs.take k) (ys.take k) := by
 induction h generalizing k with
 | nil => rw [List.drop_nil, List.drop_nil, List.take_nil, List.take_nil]; exact ⟨.nil, .nil⟩
 | cons a t ih =>
  cases k with
  | zero => exact ⟨.cons a t, .nil⟩
  | succ k => exact ⟨(ih k).1, .cons a (ih k).2⟩
noncomputable def ixs : List Str → Str → Nat
 | [], _ => 0
 | z :: zs, s => if s = z then 0 else ixs zs s + 1
theorem ixs_at : ∀ {zs : List Str}, zs.Nodup → ∀ {k : Nat} {z : Str}, zs[k]? = some z → ixs zs z = k
 | [], _, _, _, h => by cases h
 | w :: zs, nd, 0, z, h => by
  obtain rfl : w = z := Option.some.inj h
  unfold ixs
  rw [if_pos rfl]
 | w :: zs, nd, k + 1, z, h => by
  have h : zs[k]? = some z := h
  have nd := List.nodup_cons.mp nd
  unfold ixs
  have ne : z ≠ w := fun e => nd.1 (by rw [← e]; exact List.mem_of_getElem? h)
  rw [if_neg ne, ixs_at nd.2 h]
noncomputable def NmF (f : Key → Key) (H : Hp) (v : V) (z : Str) : Prop := ∃ a, v = V.ref a ∧ H a = some (.tup [.str z, kV (f (.inr z))])
theorem NmF.ts {f : Key → Key} {H H' : Hp} {v : V} {z : Str} (s : TSame H H') : NmF f H v z → NmF f H' v z := fun ⟨a, e, h⟩ => ⟨a, e, s _ _ h⟩
theorem parD_no (ps : List Str) {z : Str} : ∀ {j : Nat}, j ≤ ps.length → z ∉ ps.take j → valV (parD ps j) (.inr z) = none
 | 0, _, _ => rfl
 | j + 1, hj, h => by
  have ht : ps.take (j + 1) = ps.take j ++ [ps.getD j (Str.ofString "")] := by
   rw [List.take_add_one, List.getD_eq_getElem?_getD, List.getElem?_eq_getElem (show j < ps.length by omega)]; rfl
  rw [ht] at h
  rw [parD_succ]
  unfold parG
  rw [valV_put, if_neg (fun e => h (List.mem_append_right _ (by rw [Sum.inr.inj e]; exact .head _)))]
  exact parD_no ps (by omega) fun q => h (List.mem_append_left _ q)
theorem parD_at {ps : List Str} (nd : ps.Nodup) {z : Str} {i : Nat} (hz : ps[i]? = some z) : ∀ {j : Nat}, j ≤ ps.length → i < j → valV (parD ps j) (.inr z) = some (.int (i : Nat))
 | 0, _, h => by omega
 | j + 1, hj, h => by
  rw [parD_succ]
  unfold parG
  have ej : ps[j]? = some (ps.getD j (Str.ofString "")) := by rw [List.getD_eq_getElem?_getD, List.getElem?_eq_getElem (show j < ps.length by omega)]; rfl
  by_cases e : i = j
  ·subst e
   rw [ej] at hz
   rw [Option.some.inj hz, valV_put, if_pos rfl]
  ·have nz : z ≠ ps.getD j (Str.ofString "") := fun q => by
    rw [← q] at ej
    exact e ((ixs_at nd hz).symm.trans (ixs_at nd ej))
   rw [valV_put, if_neg (fun q => nz (Sum.inr.inj q))]
   exact parD_at nd hz (by omega) (by omega)
theorem parF_in {ps : List Str} (nd : ps.Nodup) {z : Str} {i : Nat} (hz : ps[i]? = some z) : parF ps (.inr z) = .inl (i : Nat) := by
 unfold parF stF
 rw [parD_at nd hz (Nat.le_refl _) (List.getElem?_eq_some_iff.mp hz).1]; rfl
theorem parF_out {ps : List Str} {z : Str} (h : z ∉ ps) : parF ps (.inr z) = .inr z := by
 unfold parF stF
 rw [parD_no ps (Nat.le_refl _) (by rw [List.take_length]; exact h)]; rfl
noncomputable def isK (w : Str) (ps : List Str) (q : Str × Str) : Bool := decide (q.2 = w) && !decide (q.1 ∈ ps)
theorem mem_isK {w : Str} {ps : List Str} {q : Str × Str} (h : isK w ps q = true) : q.2 = w ∧ q.1 ∉ ps := by
 unfold isK at h
 rw [Bool.and_eq_true] at h
 refine ⟨of_decide_eq_true h.1, fun z => ?_⟩
 have := h.2
 rw [decide_eq_true z] at this
 cases this
noncomputable def isC := isK (Str.ofString "cask")
noncomputable def isS := isK (Str.ofString "sink")
theorem flat_strs : ∀ ps : List Str, (ps.map V.str).all flatV = true
 | [] => rfl
 | _ :: ps => by rw [List.map_cons, List.all_cons, flat_strs ps]; rfl
noncomputable def wC (hp : List (Str × Str)) (ps : List Str) : List Str := ps ++ (hp.filter (isC ps)).map (·.1)
noncomputable def wS (hp : List (Str × Str)) (ps : List Str) : List Str := (hp.filter (isS ps)).map (·.1)
noncomputable def WfV (f : Key → Key) (H : Hp) (w : Addr) (A S : List Str) : Prop := ∃ (w0 w1 : Addr) (ta tc ts : List V), H w = some (.lst [.ref w0, .ref w1]) ∧ H w0 = some (.lst (ta ++ tc)) ∧ Paired (NmF f H) (ta ++ tc) A ∧ H w1 = some (.lst (ta ++ tc ++ ts)) ∧ Paired (NmF f H) ts S
noncomputable def spWd9 (K : PySem.W.Frag) : Sp := fun vs H Q _ => ∃ (a b : Addr) (xs : List V) (hp : List (Str × Str)) (ps : List Str), vs = [.ref a, .ref b] ∧ H a = some (.lst xs) ∧ Paired (PcV H) xs hp ∧ hp.length ≤ 30 ∧ H b = some (.lst (ps.map V.str)) ∧ ps.length ≤ 30 ∧ ps.Nodup ∧ ∀ w H', Same H H' → WfV (parF ps) H' w (wC hp ps) (wS hp ps) → Q (.ref w) H'
noncomputable abbrev W6 : List V := [.str (Str.ofString "bring"), .str (Str.ofString "move"), .str (Str.ofString "part"), .str (Str.ofString "all"), .str (Str.ofString "fill"), .str (Str.ofString "year")]
theorem w6 {r : Int} (h : 0 ≤ r ∧ r < 6) : ∃ u : Str, atI W6 r = some (V.str u) ∧ u.length ≤ 5 ∧ u ≠ Str.ofString "times" ∧ u ≠ Str.ofString "do" := by
 have h : r = 0 ∨ r = 1 ∨ r = 2 ∨ r = 3 ∨ r = 4 ∨ r = 5 := by omega
 rcases h with rfl | rfl | rfl | rfl | rfl | rfl <;> exact ⟨_, rfl, by decide +kernel, by decide +kernel, by decide +kernel⟩
theorem sp_len : (Str.ofString " ").length = 1 := by decide
noncomputable def gd9 (A S : List Str) : P9 → Prop
 | .yr => True
 | .br _ x _ _ => ∃ z ∈ A, x = .inr z
 | .tw w x y => ∃ z ∈ A, ∃ z' ∈ A ++ S, x = .inr z ∧ y = .inr z' ∧ z ≠ z' ∧ (w = Str.ofString "fill" → z' ∈ A)
 | .tq w x y _ _ => ∃ z ∈ A, ∃ z' ∈ A ++ S, x = .inr z ∧ y = .inr z' ∧ z ≠ z' ∧ (w = Str.ofString "fill" → z' ∈ A)
theorem sp32 : Str.ofString " " = ⟨#[32]⟩ := by decide +kernel
noncomputable def spPl9 (K : PySem.W.Frag) : Sp := fun vs H Q _ => ∃ (n : Int) (w : Addr) (f : Key → Key) (A S : List Str), vs = [.int n, .ref w] ∧ 0 ≤ n ∧ n < BG ∧ WfV f H w A S ∧ A ≠ [] ∧ A.length ≤ 60 ∧ S.length ≤ 60 ∧ (∀ z ∈ A ++ S, z.length ≤ 8) ∧
 ∀ (p : Addr) (d m : V) (rw : Str) (e : P9) (H' : Hp), Same H H' → H' p = some (.tup [d, m, .str rw]) → P9V H' d e → P9V H' m (e.sub f) → e.ok → gd9 A S e → rw.length ≤ 300 → Q (.ref p) H'
theorem one_of {zs : List Str} (h : (zs.length : Int) = 1) : ∃ x, zs = [x] := by
 match zs, h with
 | [x], _ => exact ⟨x, rfl⟩
 | [], h => simp at h
 | _ :: _ :: _, h => simp at h; omega
theorem pickY {f : Key → Key} {H : Hp} {vs : List V} {Z : List Str} {zx : Str} (ne : vs ≠ []) (h : ∀ y ∈ vs, ∃ a z, y = V.ref a ∧ H a = some (.tup [.str z, kV (f (.inr z))]) ∧ z ∈ Z ∧ z ≠ zx) (n : Int) : ((vs.length : Nat) : Int) ≠ 0 ∧ ∃ (a : Addr) (z : Str), atI vs (n.fmod ((vs.length : Nat) : Int)) = some (.ref a) ∧ H a = some (.tup [.str z, kV (f (.inr z))]) ∧ z ∈ Z ∧ z ≠ zx := by
 have h0 : 0 < vs.length := List.length_pos_iff.mpr ne
 have q := fmod_lt (c := n) (m := ((vs.length : Nat) : Int)) (by omega)
 obtain ⟨v, hv, hat⟩ := atI_in (xs := vs) q.1 q.2
 obtain ⟨a, z, rfl, ha, hz, hne⟩ := h v hv
 exact ⟨by omega, a, z, hat, ha, hz, hne⟩
theorem pickN {f : Key → Key} {H : Hp} {us : List V} {A : List Str} (h : Paired (NmF f H) us A) (ne : A ≠ []) (n : Int) : ((us.length : Nat) : Int) ≠ 0 ∧ ∃ (a : Addr) (z : Str), atI us (n.fmod ((us.length : Nat) : Int)) = some (.ref a) ∧ z ∈ A ∧ H a = some (.tup [.str z, kV (f (.inr z))]) := by
 have hl := h.length
 have h0 : 0 < A.length := List.length_pos_iff.mpr ne
 have q := fmod_lt (c := n) (m := ((us.length : Nat) : Int)) (by omega)
 obtain ⟨v, hv, hat⟩ := atI_in (xs := us) q.1 q.2
 obtain ⟨z, hz, a, rfl, ha⟩ := paired_mem h hv
 exact ⟨by omega, a, z, hat, hz, ha⟩
noncomputable def lim (L : List P9) : Option (List P9) := if L.length ≤ 200 then some L else none
noncomputable def SoV (H : Hp) (v : V) : Option (List P9) → Prop
 | none => v = .non
 | some L => ∃ a vs, v = V.ref a ∧ H a = some (.lst vs) ∧ Paired (P9V H) vs L
theorem SoV.same {H H' : Hp} {v : V} (s : Same H H') : ∀ {o : Option (List P9)}, SoV H v o → SoV H' v o
 | none, h => h
 | some _, ⟨a, vs, e, h1, h2⟩ => ⟨a, vs, e, s _ _ h1, Paired.mapP h2 fun _ _ h => h.ts s.ts⟩
theorem lim_le {L : List P9} (h : L.length ≤ 200) : lim L = some L := if_pos h
theorem lim_gt {L : List P9} (h : ¬ L.length ≤ 200) : lim L = none := if_neg h
noncomputable def spSo9 (K : PySem.W.Frag) : Sp := fun vs H Q _ => ∃ (v : V) (n : Nat) (L : List P9), vs = [v, .int (n : Nat)] ∧ n ≤ 60 ∧ ((SoV H v (some L) ∧ L.length ≤ 1000) ∨ (v = .non ∧ ¬ L.length ≤ 200)) ∧ ∀ v' H', Same H H' → SoV H' v' (lim (List.replicate n L).flatten) → (∀ a, v' = V.ref a → H a = none) → Q v' H'
noncomputable def KL (H H' : Hp) (fr L : Addr) : Prop := ∀ c o, c ≠ fr → c ≠ L → H c = some o → H' c = some o
noncomputable def spAd9 (K : PySem.W.Frag) : Sp := fun vs H Q _ => ∃ (fr L : Addr) (d v s : V) (n : Int) (ds : List V) (A B : List P9), vs = [.ref fr, d, v] ∧ H fr = some (.lst [.int n, .ref L, s]) ∧ H L = some (.lst ds) ∧ ds.length ≤ 300 ∧ fr ≠ L ∧ SoV H s (lim A) ∧ SoV H v (lim B) ∧ (∀ a, s = V.ref a → a ≠ L ∧ a ≠ fr) ∧ (∀ a, v = V.ref a → a ≠ L ∧ a ≠ fr) ∧
 ∀ s' H', KL H H' fr L → H' fr = some (.lst [.int n, .ref L, s']) → H' L = some (.lst (ds ++ [d])) → SoV H' s' (lim (A ++ B)) → (∀ a, s' = V.ref a → H a = none) → Q .non H'
theorem SoV.keep {H H' : Hp} {v : V} (t : TSame H H') (hk : ∀ a xs, v = V.ref a → H a = some (.lst xs) → H' a = some (.lst xs)) : ∀ {o : Option (List P9)}, SoV H v o → SoV H' v o
 | none, h => h
 | some _, ⟨a, vs, e, h1, h2⟩ => ⟨a, vs, e, hk a vs e h1, Paired.mapP h2 fun _ _ h => h.ts t⟩
theorem numV_gen (xs : List V) : ∀ (n i : Nat) (v : V), xs[i]? = some v → valV (xs.mapIdx fun j v => ((.inl ((j + n : Nat) : Int), v) : Key × V)) (.inl ((i + n : Nat) : Int)) = some v := by
 induction xs with
 | nil => intro n i v h; cases h
 | cons a l ih =>
  intro n i v h
  rw [List.mapIdx_cons]
  cases i with
  | zero =>
   obtain rfl : a = v := Option.some.inj h
   rw [valV_pos rfl]
  | succ i =>
   have h : l[i]? = some v := h
   have := ih (n + 1) i v h
   rw [valV_neg (fun e => by have := Sum.inl.inj e; omega)]
   have e1 : (fun (j : Nat) (v : V) => ((.inl ((j + 1 + n : Nat) : Int), v) : Key × V)) = fun j v => (.inl ((j + (n + 1) : Nat) : Int), v) := by
    funext j v
    rw [show j + 1 + n = j + (n + 1) by omega]
   rw [e1, show i + 1 + n = i + (n + 1) by omega]
   exact this
theorem numV_at {xs : List V} {i : Nat} {v : V} (h : xs[i]? = some v) : valV (numV xs) (.inl ((i : Nat) : Int)) = some v := by
 have := numV_gen xs 0 i v h
 unfold numV
 exact this
theorem numV_str (xs : List V) (s : Str) : valV (numV xs) (.inr s) = none := by
 have key : ∀ (xs : List V) (n : Nat), valV (xs.mapIdx fun j v => ((.inl ((j + n : Nat) : Int), v) : Key × V)) (.inr s) = none := by
  intro xs
  induction xs with
  | nil => intro n; rfl
  | cons a l ih =>
   intro n
   rw [List.mapIdx_cons, valV_neg (fun e => by cases e)]
   have e1 : (fun (j : Nat) (v : V) => ((.inl ((j + 1 + n : Nat) : Int), v) : Key × V)) = fun j v => (.inl ((j + (n + 1) : Nat) : Int), v) := by
    funext j v
    rw [show j + 1 + n = j + (n + 1) by omega]
   rw [e1]
   exact ih (n + 1)
 have := key xs 0
 unfold numV
 exact this
theorem numF_at {gs : List Key} {i : Nat} {g : Key} (h : gs[i]? = some g) : kV (numF gs (.inl ((i : Nat) : Int))) = kV g := by
 unfold numF stF
 rw [numV_at (v := kV g) (by rw [List.getElem?_map, h]; rfl)]
 exact kV_keyOf g
theorem numF_str (gs : List Key) (s : Str) : numF gs (.inr s) = .inr s := by
 unfold numF stF
 rw [numV_str]; rfl
noncomputable def inK (n : Nat) : Key → Prop
 | .inl i => ∃ j : Nat, i = (j : Int) ∧ j < n
 | .inr _ => True
noncomputable def P9.inN (n : Nat) : P9 → Prop
 | .yr => True
 | .br _ x _ _ => inK n x
 | .tw _ x y => inK n x ∧ inK n y
 | .tq _ x y _ _ => inK n x ∧ inK n y
noncomputable def spPi9 (K : PySem.W.Frag) : Sp := fun vs H Q _ => ∃ (v : V) (g : Addr) (d : P9) (gs : List Key), vs = [v, .ref g] ∧ P9V H v d ∧ d.ok ∧ H g = some (.lst (gs.map kV)) ∧ d.inN gs.length ∧ ∀ v' H', Same H H' → P9V H' v' (d.sub (numF gs)) → Q v' H'
theorem put_mark {gs : List Key} {x : Key} (h : inK gs.length x) : (∃ s, x = .inr s ∧ numF gs x = x) ∨ ∃ (i : Nat) (g : Key), x = .inl ((i : Nat) : Int) ∧ atI (gs.map kV) ((i : Nat) : Int) = some (kV g) ∧ kV (numF gs x) = kV g := by
 cases x with
 | inr s => exact .inl ⟨s, rfl, numF_str gs s⟩
 | inl i =>
  obtain ⟨j, rfl, hj⟩ := h
  have hg : gs[j]? = some gs[j] := List.getElem?_eq_getElem hj
  exact .inr ⟨j, gs[j], rfl, atI_nat (by rw [List.getElem?_map, hg]; rfl), numF_at hg⟩
theorem put_shape {H : Hp} {v : V} {d : P9} {gs : List Key} (hv : P9V H v d) (hok : d.ok) (hin : d.inN gs.length) (hy : d ≠ .yr) : ∃ (a : Addr) (w : Str) (p1 pre : List V) (ms : List Key) (post : List V), v = V.ref a ∧ H a = some (.tup (pre ++ ms.map kV ++ post)) ∧ pre = V.str w :: p1 ∧ w ≠ Str.ofString "year" ∧ (1 + (if decide (V.str w = V.str (Str.ofString "bring")) = true then 1 else 0) : Int) = ((pre.length : Nat) : Int) ∧ pre.length + ms.length = 3 ∧ post.length ≤ 1 ∧ (∀ m ∈ ms, inK gs.length m) ∧ ∀ r H', Same H H' → H' r = some (.tup (pre ++ (ms.map (numF gs)).map kV ++ post)) → P9V H' (.ref r) (d.sub (numF gs)) := by
 cases d with
 | yr => exact absurd rfl hy
 | br n x p q =>
  obtain ⟨a, b, rfl, ha, hb⟩ := hv
  exact ⟨a, Str.ofString "bring", [.str n], [.str (Str.ofString "bring"), .str n], [x], [.ref b], rfl, ha, rfl, by decide +kernel, by rw [decide_eq_true rfl]; rfl, rfl, Nat.le_refl _, fun m hm => by rw [List.mem_singleton.mp hm]; exact hin, fun r H' s h => ⟨r, b, rfl, h, s _ _ hb⟩⟩
 | tw w x y =>
  obtain ⟨a, rfl, ha⟩ := hv
  exact ⟨a, w, [], [.str w], [x, y], [], rfl, ha, rfl, hok.1, by rw [decide_eq_false (fun e => hok.2.1 (V.str.inj e))]; rfl, rfl, by simp, fun m hm => by
   rcases List.mem_cons.mp hm with rfl | hm
   ·exact hin.1
   ·rw [List.mem_singleton.mp hm]; exact hin.2, fun r H' s h => ⟨r, rfl, h⟩⟩
 | tq w x y p q =>
  obtain ⟨a, b, rfl, ha, hb⟩ := hv
  exact ⟨a, w, [], [.str w], [x, y], [.ref b], rfl, ha, rfl, hok.1, by rw [decide_eq_false (fun e => hok.2.1 (V.str.inj e))]; rfl, rfl, by simp, fun m hm => by
   rcases List.mem_cons.mp hm with rfl | hm
   ·exact hin.1
   ·rw [List.mem_singleton.mp hm]; exact hin.2, fun r H' s h => ⟨r, b, rfl, h, s _ _ hb⟩⟩
theorem not1 {L : List V} {k : Nat} {p : Prop} (h : k ≤ L.length) (hk : 0 < k) : ¬ (HT.sIx L.length 0 (some (k : Int)) = 0 ∧ p) := fun z => by
 have := z.1
 rw [HT.sIx_nat] at this
 omega
theorem cut_mid (pre ms post : List V) (h : pre.length + ms.length = 3) : cutV (pre ++ ms ++ post) (some ((pre.length : Nat) : Int)) (some 3) = ms := by
 have e1 : HT.sIx (pre ++ ms ++ post).length 0 (some ((pre.length : Nat) : Int)) = min pre.length (pre ++ ms ++ post).length := HT.sIx_nat _ _ _
 have e2 : HT.sIx (pre ++ ms ++ post).length (pre ++ ms ++ post).length (some 3) = min 3 (pre ++ ms ++ post).length := HT.sIx_nat _ _ 3
 have l : (pre ++ ms ++ post).length = pre.length + ms.length + post.length := by rw [List.length_append, List.length_append]
 unfold cutV
 rw [e1, e2, l, Nat.min_eq_left (by omega), Nat.min_eq_left (by omega), List.append_assoc, List.drop_left, show 3 - pre.length = ms.length by omega, List.take_left]
theorem cut_pre (pre ms post : List V) (h : pre.length + ms.length = 3) : cutV (pre ++ ms ++ post) none (some ((pre.length : Nat) : Int)) = pre := by
 have e1 : HT.sIx (pre ++ ms ++ post).length (pre ++ ms ++ post).length (some ((pre.length : Nat) : Int)) = min pre.length (pre ++ ms ++ post).length := HT.sIx_nat _ _ _
 have e2 : HT.sIx (pre ++ ms ++ post).length 0 none = 0 := rfl
 have l : (pre ++ ms ++ post).length = pre.length + ms.length + post.length := by rw [List.length_append, List.length_append]
 unfold cutV
 rw [e1, e2, l, Nat.min_eq_left (by omega), List.drop_zero, Nat.sub_zero, List.append_assoc, List.take_left]
theorem cut_post (pre ms post : List V) (h : pre.length + ms.length = 3) : cutV (pre ++ ms ++ post) (some 3) none = post := by
 have e1 : HT.sIx (pre ++ ms ++ post).length 0 (some 3) = min 3 (pre ++ ms ++ post).length := HT.sIx_nat _ _ 3
 have e2 : HT.sIx (pre ++ ms ++ post).length (pre ++ ms ++ post).length none = (pre ++ ms ++ post).length := rfl
 have l : (pre ++ ms).length = 3 := by rw [List.length_append]; exact h
 have l2 : (pre ++ ms ++ post).length = 3 + post.length := by rw [List.length_append, l]
 unfold cutV
 rw [e1, e2, l2, Nat.min_eq_left (by omega), ← l, List.drop_left]
 exact List.take_of_length_le (by omega)
theorem by_key3 {α β γ : Type} {P C : α → β → γ → Prop} {G : Prop} (go : (∀ a b c, C a b c → P a b c) → G) (body : ∀ a b c, C a b c → P a b c) : G := go body
noncomputable def Rg9 (H : Hp) (v : V) (r : R9) (L : List P9) : Prop := ∃ (a b c : Addr) (s : V) (us : List V), v = V.ref a ∧ H a = some (.tup [.str r.1, .ref b, .ref c, s]) ∧ H b = some (.tup (r.2.1.map V.str)) ∧ H c = some (.tup us) ∧ TsV H r.2.2 us ∧ SoV H s (lim L) ∧ (∀ d ∈ L, d.ok ∧ d.inN r.2.1.length)
noncomputable def spDo9 (K : PySem.W.Frag) : Sp := fun vs H Q _ => ∃ (n : Int) (R w : Addr) (rv : List V) (rs : List R9) (bod : Str → List P9) (f : Key → Key) (A S : List Str), vs = [.int n, .ref R, .ref w] ∧ H R = some (.lst rv) ∧ Paired (fun v r => Rg9 H v r (bod r.1)) rv rs ∧ rs ≠ [] ∧ (∀ r ∈ rs, r.1.length ≤ 8 ∧ r.2.1.length ≤ 3) ∧ WfV f H w A S ∧ A ≠ [] ∧ A.length ≤ 60 ∧ S.length ≤ 60 ∧ (∀ z ∈ A ++ S, z.length ≤ 8) ∧
 ∀ (p : Addr) (d s : V) (rw : Str) (r : R9) (zs : List Str) (H' : Hp), Same H H' → H' p = some (.tup [d, s, .str rw]) → r ∈ rs → Do8 H' d r.1 zs → zs.length = r.2.1.length → (∀ z ∈ zs, z ∈ A ++ S) → SoV H' s (lim ((bod r.1).map (P9.sub (numF (zs.map fun z => f (.inr z)))))) → (∀ a, s = V.ref a → H a = none) → rw.length ≤ 300 → Q (.ref p) H'
noncomputable def spNn9 (K : PySem.W.Frag) : Sp := fun vs H Q _ => ∃ (fr L W : Addr) (s : V) (n : Int) (ds rows : List V) (A : List P9), vs = [.ref fr, .ref W] ∧ H fr = some (.lst [.int n, .ref L, s]) ∧ H L = some (.lst ds) ∧ ds.length ≤ 300 ∧ fr ≠ L ∧ SoV H s (lim A) ∧ (∀ a, s = V.ref a → a ≠ L ∧ a ≠ fr ∧ a ≠ W) ∧ H W = some (.lst rows) ∧ rows.length ≤ 600 ∧ W ≠ fr ∧ W ≠ L ∧
 (A ≠ [] → ∀ H', Same H H' → Q .non H') ∧
 (A = [] → ∀ (d s' : V) (H' : Hp), (∀ c o, c ≠ fr → c ≠ L → c ≠ W → H c = some o → H' c = some o) → H' fr = some (.lst [.int n, .ref L, s']) → H' L = some (.lst (ds ++ [d])) → P9V H' d .yr → SoV H' s' (lim [.yr]) → (∀ a, s' = V.ref a → H a = none) → H' W = some (.lst (rows ++ [.str (Str.ofString "year")])) → Q .non H')
noncomputable abbrev FB : Nat := 9
noncomputable def KX (H H' : Hp) (X : Addr) : Prop := ∀ c o, c ≠ X → H c = some o → H' c = some o
theorem KX.of {H H' : Hp} {X : Addr} (s : Same H H') : KX H H' X := fun c o _ h => s c o h
theorem KX.trans {H H1 H2 : Hp} {X : Addr} (a : KX H H1 X) (b : KX H1 H2 X) : KX H H2 X := fun c o n h => b c o n (a c o n h)
theorem KX.free {H H1 : Hp} {X c : Addr} (a : KX H H1 X) (n : c ≠ X) (h : H1 c = none) : H c = none := by
 cases e : H c with
 | none => rfl
 | some o => rw [a c o n e] at h; cases h
theorem KX.tup {H H1 : Hp} {X : Addr} {xs : List V} (a : KX H H1 X) (hX : H X = some (.lst xs)) : TSame H H1 := fun c ys h => a c _ (by rintro rfl; rw [hX] at h; cases h) h
theorem KX.updX {H : Hp} {X : Addr} {o : HO} : KX H (upd H X o) X := fun c o n h => by rw [upd_ne n]; exact h
theorem KX.updN {H H1 : Hp} {X c : Addr} {o : HO} (a : KX H H1 X) (f : H c = none) : KX H (upd H1 c o) X := fun b o n h => by
 rw [upd_ne (by rintro rfl; rw [f] at h; cases h)]; exact a b o n h
noncomputable def Ts.app : Ts → Ts → Ts
 | .nil, U => U
 | .pl d r, U => .pl d (Ts.app r U)
 | .dd n ps r, U => .dd n ps (Ts.app r U)
 | .tm n b r, U => .tm n b (Ts.app r U)
theorem TsV.app {H : Hp} {U : Ts} {vs : List V} (g : TsV H U vs) : ∀ {T : Ts} {us : List V}, TsV H T us → TsV H (T.app U) (us ++ vs)
 | .nil, us, h => by
  have h : us = [] := h
  subst h; exact g
 | .pl _ _, _, ⟨v, ws, e, h1, h2, h3⟩ => by
  subst e; exact ⟨v, _, rfl, h1, h2, TsV.app g h3⟩
 | .dd _ _ _, _, ⟨v, ws, e, h1, h2, h3⟩ => by
  subst e; exact ⟨v, _, rfl, h1, h2, TsV.app g h3⟩
 | .tm _ _ _, _, ⟨a, t, us1, ws, e, h1, h2, h5, h3, h4⟩ => by
  subst e; exact ⟨a, t, us1, _, rfl, h1, h2, h5, h3, TsV.app g h4⟩
theorem Ts.dep_app (U : Ts) : ∀ T : Ts, (T.app U).dep = max T.dep U.dep
 | .nil => by show U.dep = max 0 U.dep; omega
 | .pl _ r => Ts.dep_app U r
 | .dd _ _ r => Ts.dep_app U r
 | .tm _ b r => by
  show max (b.dep + 1) (r.app U).dep = max (max (b.dep + 1) r.dep) U.dep
  rw [Ts.dep_app U r]; omega
theorem unr_app (f : Key → Key) (bod : Str → List P9) (U : Ts) : ∀ T : Ts, unr f bod (T.app U) = unr f bod T ++ unr f bod U
 | .nil => rfl
 | .pl d r => by
  show d.sub f :: unr f bod (r.app U) = (d.sub f :: unr f bod r) ++ unr f bod U
  rw [unr_app f bod U r]; rfl
 | .dd n ps r => by
  show (bod n).map (P9.sub (numF (ps.map fun p => f (.inr p)))) ++ unr f bod (r.app U) = ((bod n).map (P9.sub (numF (ps.map fun p => f (.inr p)))) ++ unr f bod r) ++ unr f bod U
  rw [unr_app f bod U r, List.append_assoc]
 | .tm n b r => by
  show (List.replicate n (unr f bod b)).flatten ++ unr f bod (r.app U) = ((List.replicate n (unr f bod b)).flatten ++ unr f bod r) ++ unr f bod U
  rw [unr_app f bod U r, List.append_assoc]
noncomputable def Ts.gd (A S : List Str) (rs : List R9) : Ts → Prop
 | .nil => True
 | .pl d r => gd9 A S d ∧ Ts.gd A S rs r
 | .dd n ps r => (∃ q ∈ rs, q.1 = n ∧ ps.length = q.2.1.length) ∧ (∀ p ∈ ps, p ∈ A ++ S) ∧ Ts.gd A S rs r
 | .tm _ b r => Ts.gd A S rs b ∧ Ts.gd A S rs r
theorem Ts.gd_app {A S : List Str} {rs : List R9} {U : Ts} (g : U.gd A S rs) : ∀ {T : Ts}, T.gd A S rs → (T.app U).gd A S rs
 | .nil, _ => g
 | .pl _ r, h => ⟨h.1, Ts.gd_app g (T := r) h.2⟩
 | .dd _ _ r, h => ⟨h.1, h.2.1, Ts.gd_app g (T := r) h.2.2⟩
 | .tm _ _ r, h => ⟨h.1, Ts.gd_app g (T := r) h.2⟩
set_option genInjectivity false in
structure C9 where
 f : Key → Key
 bod : Str → List P9
 A : List Str
 S : List Str
 rs : List R9
set_option genInjectivity false in
structure Fe where
 fr : Addr
 L : Addr
 s : V
 n : Nat
 T : Ts
noncomputable def FeV (c : C9) (H : Hp) (N : Nat) (e : Fe) : Prop := H e.fr = some (.lst [.int (e.n : Nat), .ref e.L, e.s]) ∧ (∃ ds, H e.L = some (.lst ds) ∧ ds.length ≤ N ∧ TsV H e.T ds) ∧ SoV H e.s (lim (unr c.f c.bod e.T)) ∧ e.n ≤ 60
noncomputable def mutA : List Fe → List Addr
 | [] => []
 | e :: es => e.fr :: e.L :: mutA es
noncomputable def St9 (c : C9) (H : Hp) (N : Nat) : List Fe → Prop
 | [] => True
 | e :: es => FeV c H N e ∧ e.T.gd c.A c.S c.rs ∧ e.T.dep + es.length + 1 ≤ FB ∧ St9 c H N es
noncomputable def Kp (H H' : Hp) (M : List Addr) : Prop := ∀ a o, a ∉ M → H a = some o → H' a = some o
theorem Kp.ts {H H' : Hp} {M : List Addr} (k : Kp H H' M) (hM : ∀ a ∈ M, ∃ xs, H a = some (.lst xs)) : TSame H H' := fun c ys h => k c _ (fun z => by
 obtain ⟨xs, e⟩ := hM c z
 rw [e] at h; cases h) h
theorem FeV.keep {c : C9} {H H' : Hp} {N N' : Nat} {M : List Addr} {e : Fe} (hN : N ≤ N') (t : TSame H H') (k : Kp H H' M) (h1 : e.fr ∉ M) (h2 : e.L ∉ M) (h3 : ∀ a, e.s = V.ref a → a ∉ M) (h : FeV c H N e) : FeV c H' N' e := by
 obtain ⟨q1, ⟨ds, q2, q3, q4⟩, q5, q6⟩ := h
 exact ⟨k _ _ h1 q1, ⟨ds, k _ _ h2 q2, Nat.le_trans q3 hN, q4.ts t⟩, q5.keep t (fun a xs e h => k a _ (h3 a e) h), q6⟩
theorem St9.keep {c : C9} {H H' : Hp} {N N' : Nat} {M : List Addr} (hN : N ≤ N') (t : TSame H H') (k : Kp H H' M) : ∀ {es : List Fe}, (∀ a ∈ mutA es, a ∉ M) → (∀ e ∈ es, ∀ a, e.s = V.ref a → a ∉ M) → St9 c H N es → St9 c H' N' es
 | [], _, _, h => h
 | e :: es, h1, h2, ⟨q1, q2, q3, q4⟩ => ⟨q1.keep hN t k (h1 _ (.head _)) (h1 _ (.tail _ (.head _))) (h2 e (.head _)), q2, q3, St9.keep hN t k (fun a ha => h1 a (.tail _ (.tail _ ha))) (fun x hx => h2 x (.tail _ hx)) q4⟩
theorem St9.occ {c : C9} {H : Hp} {N : Nat} : ∀ {es : List Fe}, St9 c H N es → ∀ a ∈ mutA es, ∃ xs, H a = some (.lst xs)
 | [], _ => fun a ha => by cases ha
 | e :: es, ⟨⟨q1, ⟨ds, q2, _⟩, _⟩, _, _, q4⟩ => fun a ha => by
  rcases List.mem_cons.mp ha with z | ha
  ·rw [z]; exact ⟨_, q1⟩
  rcases List.mem_cons.mp ha with z | ha
  ·rw [z]; exact ⟨_, q2⟩
  exact q4.occ a ha
noncomputable def Fm9 (c : C9) (H0 H : Hp) (N : Nat) (F W : Addr) (es : List Fe) : Prop := H F = some (.lst ((es.map fun e => V.ref e.fr).reverse)) ∧ St9 c H N es ∧ (F :: W :: mutA es).Nodup ∧ (∀ e ∈ es, ∀ a, e.s = V.ref a → a ∉ F :: W :: mutA es) ∧ (∀ a ∈ F :: mutA es, H0 a = none) ∧ (∀ e ∈ es, ∀ a, e.s = V.ref a → H0 a = none)
theorem Fm9.same {c : C9} {H0 H H' : Hp} {N N' : Nat} {F W : Addr} {es : List Fe} (h : Fm9 c H0 H N F W es) (hN : N ≤ N') (s : Same H H') : Fm9 c H0 H' N' F W es :=
 ⟨s _ _ h.1, h.2.1.keep (M := []) hN s.ts (fun a o _ h => s a o h) (fun _ _ z => nomatch z) (fun _ _ _ _ z => nomatch z), h.2.2.1, h.2.2.2.1, h.2.2.2.2⟩
theorem Fm9.kw {c : C9} {H0 H H' : Hp} {N N' : Nat} {F W : Addr} {es : List Fe} (h : Fm9 c H0 H N F W es) (hN : N ≤ N') (k : KX H H' W) (t : TSame H H') : Fm9 c H0 H' N' F W es := by
 obtain ⟨h1, h2, h3, h4, h5⟩ := h
 have nd := h3
 simp only [List.nodup_cons, List.mem_cons, not_or] at nd
 obtain ⟨⟨nFW, nFm⟩, nWm, ndm⟩ := nd
 have kp : Kp H H' [W] := fun a o n h => k a o (fun z => n (by rw [z]; exact .head _)) h
 refine ⟨k _ _ nFW h1, h2.keep hN t kp (fun a ha z => ?_) (fun e he a ea z => ?_), h3, h4, h5⟩
 ·rw [List.mem_singleton.mp z] at ha; exact nWm ha
 ·rw [List.mem_singleton.mp z] at ea; exact h4 e he W ea (.tail _ (.head _))
theorem Fm9.added {c : C9} {H0 H H' : Hp} {N : Nat} {F W : Addr} {e : Fe} {es : List Fe} {U : Ts} {d s' : V} {ds rows : List V} (h : Fm9 c H0 H N F W (e :: es)) (kx : KX H0 H W) (hW : H W = some (.lst rows)) (hds : H e.L = some (.lst ds)) (k : Kp H H' [e.fr, e.L, W]) (h1 : H' e.fr = some (.lst [.int (e.n : Nat), .ref e.L, s'])) (h2 : H' e.L = some (.lst (ds ++ [d]))) (hU : TsV H' U [d]) (gU : U.gd c.A c.S c.rs) (dU : U.dep + es.length + 1 ≤ FB) (hs : SoV H' s' (lim (unr c.f c.bod e.T ++ unr c.f c.bod U))) (hf : ∀ a, s' = V.ref a → H a = none) : Fm9 c H0 H' (N + 1) F W (⟨e.fr, e.L, s', e.n, e.T.app U⟩ :: es) := by
 obtain ⟨hF, ⟨⟨e1, ⟨ds', e2, e3, e4⟩, e5, e6⟩, g1, d1, hS⟩, nd0, hs0, h0, h6⟩ := h
 rw [hds] at e2
 obtain rfl : ds = ds' := HO.lst.inj (Option.some.inj e2)
 have nd : (F :: W :: e.fr :: e.L :: mutA es).Nodup := nd0
 simp only [List.nodup_cons, List.mem_cons, not_or] at nd
 obtain ⟨⟨nFW, nFf, nFL, nFm⟩, ⟨nWf, nWL, nWm⟩, ⟨nfL, nfm⟩, nLm, ndm⟩ := nd
 have hM : ∀ a ∈ [e.fr, e.L, W], ∃ xs, H a = some (.lst xs) := fun a ha => by
  simp only [List.mem_cons, List.mem_nil_iff, or_false] at ha
  rcases ha with z | z | z <;> rw [z]
  ·exact ⟨_, e1⟩
  ·exact ⟨_, hds⟩
  ·exact ⟨_, hW⟩
 have t := k.ts hM
 refine ⟨k _ _ (by simp [nFW, nFf, nFL]) hF, ⟨⟨h1, ⟨ds ++ [d], h2, ?_, (e4.ts t |> TsV.app hU)⟩, ?_, e6⟩, Ts.gd_app gU g1, ?_, ?_⟩, nd0, ?_, h0, ?_⟩
 ·rw [List.length_append, List.length_singleton]; omega
 ·show SoV H' s' (lim (unr c.f c.bod (e.T.app U)))
  rw [unr_app]; exact hs
 ·show (e.T.app U).dep + es.length + 1 ≤ FB
  rw [Ts.dep_app]; omega
 ·refine hS.keep (Nat.le_succ _) t k (fun a ha z => ?_) (fun x hx a ea z => ?_)
  ·simp only [List.mem_cons, List.mem_nil_iff, or_false] at z
   rcases z with z | z | z <;> rw [z] at ha
   ·exact nfm ha
   ·exact nLm ha
   ·exact nWm ha
  ·refine hs0 x (.tail _ hx) a ea ?_
   show a ∈ F :: W :: e.fr :: e.L :: mutA es
   simp only [List.mem_cons, List.mem_nil_iff, or_false] at z ⊢
   rcases z with z | z | z
   ·exact .inr (.inr (.inl z))
   ·exact .inr (.inr (.inr (.inl z)))
   ·exact .inr (.inl z)
 ·intro x hx a ea z
  rcases List.mem_cons.mp hx with q | hx
  ·rw [q] at ea
   have hn := hf a ea
   have z : a ∈ F :: W :: e.fr :: e.L :: mutA es := z
   simp only [List.mem_cons] at z
   rcases z with z | z | z | z | z
   ·rw [z, hF] at hn; cases hn
   ·rw [z, hW] at hn; cases hn
   ·rw [z, e1] at hn; cases hn
   ·rw [z, hds] at hn; cases hn
   ·obtain ⟨xs, hx⟩ := hS.occ a z
    rw [hx] at hn; cases hn
  ·exact hs0 x (.tail _ hx) a ea z
 ·intro x hx a ea
  rcases List.mem_cons.mp hx with q | hx
  ·rw [q] at ea
   have hn := hf a ea
   exact kx.free (fun z => by rw [z, hW] at hn; cases hn) hn
  ·exact h6 x (.tail _ hx) a ea
theorem Fm9.kx {c : C9} {H0 H H' : Hp} {N : Nat} {F W : Addr} {e : Fe} {es : List Fe} (h : Fm9 c H0 H N F W (e :: es)) (kx : KX H0 H W) (k : Kp H H' [e.fr, e.L, W]) : KX H0 H' W := fun a o n ha => by
 refine k a o (fun z => ?_) (kx a o n ha)
 simp only [List.mem_cons, List.mem_nil_iff, or_false] at z
 rcases z with z | z | z
 ·have := h.2.2.2.2.1 e.fr (.tail _ (.head _))
  rw [← z, ha] at this; cases this
 ·have := h.2.2.2.2.1 e.L (.tail _ (.tail _ (.head _)))
  rw [← z, ha] at this; cases this
 ·exact n z
theorem Fm9.pop {c : C9} {H0 H : Hp} {N : Nat} {F W : Addr} {e : Fe} {es : List Fe} (h : Fm9 c H0 H N F W (e :: es)) : Fm9 c H0 (upd H F (.lst ((es.map fun e => V.ref e.fr).reverse))) N F W es ∧ FeV c (upd H F (.lst ((es.map fun e => V.ref e.fr).reverse))) N e ∧ e.T.gd c.A c.S c.rs ∧ e.T.dep + es.length + 1 ≤ FB ∧ (∀ a, e.s = V.ref a → a ≠ W) ∧ e.L ≠ W ∧ e.L ≠ F := by
 obtain ⟨hF, ⟨q1, q2, q3, q4⟩, nd0, hs0, h0, h6⟩ := h
 have nd : (F :: W :: e.fr :: e.L :: mutA es).Nodup := nd0
 simp only [List.nodup_cons, List.mem_cons, not_or] at nd
 obtain ⟨⟨nFW, nFf, nFL, nFm⟩, ⟨nWf, nWL, nWm⟩, ⟨nfL, nfm⟩, nLm, ndm⟩ := nd
 have t := ts_updL (o := .lst ((es.map fun e => V.ref e.fr).reverse)) hF
 have kp : Kp H (upd H F (.lst ((es.map fun e => V.ref e.fr).reverse))) [F] := fun a o n h => keepL (fun z => n (by rw [z]; exact .head _)) h
 have sub : ∀ a, a ∈ F :: W :: mutA es → a ∈ F :: W :: e.fr :: e.L :: mutA es := fun a ha => by
  simp only [List.mem_cons] at ha ⊢
  rcases ha with z | z | z
  ·exact .inl z
  ·exact .inr (.inl z)
  ·exact .inr (.inr (.inr (.inr z)))
 have ns : ∀ x ∈ e :: es, ∀ a, x.s = V.ref a → a ∉ [F] := fun x hx a ea z => hs0 x hx a ea (by rw [List.mem_singleton.mp z]; exact .head _)
 refine ⟨⟨upd_same, q4.keep (Nat.le_refl _) t kp (fun a ha z => ?_) (fun x hx => ns x (.tail _ hx)), ?_, fun x hx a ea z => hs0 x (.tail _ hx) a ea (sub a z), fun a ha => ?_, fun x hx => h6 x (.tail _ hx)⟩, q1.keep (Nat.le_refl _) t kp (by simp [Ne.symm nFf]) (by simp [Ne.symm nFL]) (ns e (.head _)), q2, q3, fun a ea z => hs0 e (.head _) a ea (by rw [z]; exact .tail _ (.head _)), Ne.symm nWL, Ne.symm nFL⟩
 ·rw [List.mem_singleton.mp z] at ha; exact nFm ha
 ·simp only [List.nodup_cons, List.mem_cons, not_or]
  exact ⟨⟨nFW, nFm⟩, nWm, ndm⟩
 ·rcases List.mem_cons.mp ha with z | ha
  ·rw [z]; exact h0 F (.head _)
  ·exact h0 a (.tail _ (.tail _ (.tail _ ha)))
theorem SoV.occ {H : Hp} {a : Addr} : ∀ {o : Option (List P9)}, SoV H (.ref a) o → ∃ xs, H a = some (.lst xs)
 | none, h => by cases h
 | some _, ⟨b, vs, e, h1, _⟩ => by
  rw [V.ref.inj e]; exact ⟨vs, h1⟩
theorem St9.soc {c : C9} {H : Hp} {N : Nat} : ∀ {es : List Fe}, St9 c H N es → ∀ e ∈ es, ∀ a, e.s = V.ref a → ∃ xs, H a = some (.lst xs)
 | [], _ => fun e he => by cases he
 | e :: es, ⟨⟨_, _, q5, _⟩, _, _, q4⟩ => fun x hx a ea => by
  rcases List.mem_cons.mp hx with z | hx
  ·rw [z] at ea
   rw [ea] at q5
   exact q5.occ
  ·exact q4.soc x hx a ea
theorem Fm9.push {c : C9} {H0 Hb H : Hp} {N : Nat} {F W k L s : Addr} {es : List Fe} {n : Nat} {rows : List V} (h : Fm9 c H0 Hb N F W es) (kx : KX H0 Hb W) (hW : Hb W = some (.lst rows)) (sm : Same Hb H) (hk : ∀ a ∈ [k, L, s], Hb a = none) (nd2 : [k, L, s].Nodup) (h1 : H k = some (.lst [.int (n : Nat), .ref L, .ref s])) (h2 : H L = some (.lst [])) (h3 : H s = some (.lst [])) (hn : n ≤ 60) (hl : es.length + 1 ≤ FB) : Fm9 c H0 (upd H F (.lst ((es.map fun e => V.ref e.fr).reverse ++ [.ref k]))) N F W (⟨k, L, .ref s, n, .nil⟩ :: es) := by
 have soc := h.2.1.soc
 have occ := h.2.1.occ
 have hFb := h.1
 obtain ⟨hF, hS, nd0, hs0, h0, h6⟩ := h.same (Nat.le_refl _) sm
 have nd := nd0
 simp only [List.nodup_cons, List.mem_cons, not_or] at nd
 obtain ⟨⟨nFW, nFm⟩, nWm, ndm⟩ := nd
 have t := ts_updL (o := .lst ((es.map fun e => V.ref e.fr).reverse ++ [.ref k])) hF
 have kp : Kp H (upd H F (.lst ((es.map fun e => V.ref e.fr).reverse ++ [.ref k]))) [F] := fun a o n h => keepL (fun z => n (by rw [z]; exact .head _)) h
 have new : ∀ a ∈ [k, L, s], a ≠ F ∧ a ≠ W ∧ a ∉ mutA es ∧ H0 a = none := fun a ha => by
  have hn := hk a ha
  have nW : a ≠ W := fun z => by rw [z, hW] at hn; cases hn
  refine ⟨fun z => (by rw [z, hFb] at hn; cases hn), nW, fun z => ?_, kx.free nW hn⟩
  obtain ⟨xs, q⟩ := occ a z
  rw [q] at hn; cases hn
 obtain ⟨kF, kW, km, k0⟩ := new k (.head _)
 obtain ⟨LF, LW, Lm, L0⟩ := new L (.tail _ (.head _))
 obtain ⟨sF, sW, sm', s0⟩ := new s (.tail _ (.tail _ (.head _)))
 simp only [List.nodup_cons, List.mem_cons, not_or, List.mem_nil_iff, or_false] at nd2
 refine ⟨by rw [upd_same, List.map_cons, List.reverse_cons], ⟨⟨keepL kF h1, ⟨[], keepL LF h2, Nat.zero_le _, rfl⟩, ?_, hn⟩, trivial, ?_, ?_⟩, ?_, fun x hx a ea z => ?_, fun a ha => ?_, fun x hx a ea => ?_⟩
 ·show SoV _ (.ref s) (lim [])
  rw [lim_le (Nat.zero_le _)]
  exact ⟨s, [], rfl, keepL sF h3, .nil⟩
 ·show 0 + es.length + 1 ≤ FB
  omega
 ·refine hS.keep (Nat.le_refl _) t kp (fun a ha z => ?_) (fun x hx a ea z => hs0 x hx a ea (by rw [List.mem_singleton.mp z]; exact .head _))
  rw [List.mem_singleton.mp z] at ha; exact nFm ha
 ·show (F :: W :: k :: L :: mutA es).Nodup
  simp only [List.nodup_cons, List.mem_cons, not_or]
  exact ⟨⟨nFW, Ne.symm kF, Ne.symm LF, nFm⟩, ⟨Ne.symm kW, Ne.symm LW, nWm⟩, ⟨nd2.1.1, km⟩, Lm, ndm⟩
 ·have z : a ∈ F :: W :: k :: L :: mutA es := z
  simp only [List.mem_cons] at z
  rcases List.mem_cons.mp hx with q | hx
  ·rw [q] at ea
   obtain rfl : s = a := V.ref.inj ea
   rcases z with z | z | z | z | z
   ·exact sF z
   ·exact sW z
   ·exact nd2.1.2 z.symm
   ·exact nd2.2.1 z.symm
   ·exact sm' z
  ·obtain ⟨xs, q⟩ := soc x hx a ea
   rcases z with z | z | z | z | z
   ·exact hs0 x hx a ea (by rw [z]; exact .head _)
   ·exact hs0 x hx a ea (by rw [z]; exact .tail _ (.head _))
   ·rw [z, hk k (.head _)] at q; cases q
   ·rw [z, hk L (.tail _ (.head _))] at q; cases q
   ·exact hs0 x hx a ea (.tail _ (.tail _ z))
 ·rcases List.mem_cons.mp ha with z | ha
  ·rw [z]; exact h0 F (.head _)
  rcases List.mem_cons.mp ha with z | ha
  ·rw [z]; exact k0
  rcases List.mem_cons.mp ha with z | ha
  ·rw [z]; exact L0
  ·exact h0 a (.tail _ ha)
 ·rcases List.mem_cons.mp hx with q | hx
  ·rw [q] at ea
   rw [← V.ref.inj ea]; exact s0
  ·exact h6 x hx a ea
theorem so_in {H : Hp} {v : V} {L : List P9} (h : SoV H v (lim L)) : (SoV H v (some L) ∧ L.length ≤ 1000) ∨ (v = .non ∧ ¬ L.length ≤ 200) := by
 by_cases z : L.length ≤ 200
 ·rw [lim_le z] at h
  exact .inl ⟨h, by omega⟩
 ·rw [lim_gt z] at h
  exact .inr ⟨h, z⟩
noncomputable def Rw9 (H : Hp) (W : Addr) (rows : List Str) : Prop := H W = some (.lst (rows.map V.str)) ∧ ∀ z ∈ rows, z.length ≤ 300
theorem Rw9.add {H : Hp} {W : Addr} {rows : List Str} {z : Str} (h : Rw9 H W rows) (hz : z.length ≤ 300) : Rw9 (upd H W (.lst (rows.map V.str ++ [.str z]))) W (rows ++ [z]) := ⟨by rw [upd_same, List.map_append]; rfl, fun w hw => by
 rcases List.mem_append.mp hw with hw | hw
 ·exact h.2 w hw
 ·rw [List.mem_singleton.mp hw]; exact hz⟩
theorem end_len : (Str.ofString "end").length ≤ 300 := by decide +kernel
theorem year_len : (Str.ofString "year").length ≤ 300 := by decide +kernel
noncomputable def spSh9 (K : PySem.W.Frag) : Sp := fun vs H Q _ => ∃ (c : C9) (H0 : Hp) (N : Nat) (F W : Addr) (e1 e2 : Fe) (es : List Fe) (rows : List Str), vs = [.ref F, .ref W] ∧ Fm9 c H0 H N F W (e1 :: e2 :: es) ∧ KX H0 H W ∧ Rw9 H W rows ∧ rows.length ≤ 598 ∧ N ≤ 250 ∧
 ∀ (e' : Fe) (rows' : List Str) (H' : Hp), Fm9 c H0 H' (N + 2) F W (e' :: es) → KX H0 H' W → Rw9 H' W rows' → rows'.length ≤ rows.length + 2 → Q .non H'
noncomputable def Nn9 (c : C9) (H0 : Hp) (N : Nat) (F W : Addr) (es : List Fe) (m : Nat) (Hx : Hp) : Prop := ∃ (e : Fe) (rows : List Str), Fm9 c H0 Hx (N + 1) F W (e :: es) ∧ unr c.f c.bod e.T ≠ [] ∧ KX H0 Hx W ∧ Rw9 Hx W rows ∧ rows.length ≤ m + 1
theorem Fm9.top {c : C9} {H0 H : Hp} {N : Nat} {F W : Addr} {e : Fe} {es : List Fe} (h : Fm9 c H0 H N F W (e :: es)) : H e.fr = some (.lst [.int (e.n : Nat), .ref e.L, e.s]) ∧ (∃ ds, H e.L = some (.lst ds) ∧ ds.length ≤ N ∧ TsV H e.T ds) ∧ SoV H e.s (lim (unr c.f c.bod e.T)) ∧ e.n ≤ 60 ∧ e.fr ≠ e.L ∧ W ≠ e.fr ∧ W ≠ e.L ∧ (∀ a, e.s = V.ref a → a ≠ e.L ∧ a ≠ e.fr ∧ a ≠ W) ∧ F ≠ W ∧ e.fr ≠ F ∧ e.L ≠ F ∧ H0 F = none := by
 obtain ⟨hF, ⟨⟨q1, q2, q3, q4⟩, _, _, _⟩, nd0, hs0, h0, h6⟩ := h
 have nd : (F :: W :: e.fr :: e.L :: mutA es).Nodup := nd0
 simp only [List.nodup_cons, List.mem_cons, not_or] at nd
 obtain ⟨⟨nFW, nFf, nFL, nFm⟩, ⟨nWf, nWL, nWm⟩, ⟨nfL, nfm⟩, nLm, ndm⟩ := nd
 refine ⟨q1, q2, q3, q4, nfL, nWf, nWL, fun a ea => ?_, nFW, Ne.symm nFf, Ne.symm nFL, h0 F (.head _)⟩
 have z := hs0 e (.head _) a ea
 have z : a ∉ F :: W :: e.fr :: e.L :: mutA es := z
 simp only [List.mem_cons, not_or] at z
 exact ⟨z.2.2.2.1, z.2.2.1, z.2.1⟩
theorem Fm9.year {c : C9} {H0 H H1 : Hp} {N : Nat} {F W : Addr} {e : Fe} {es : List Fe} {rows : List Str} {ds : List V} {d s' : V} (hfm : Fm9 c H0 H N F W (e :: es)) (hkx : KX H0 H W) (hW : Rw9 H W rows) (t2 : H e.L = some (.lst ds)) (he : unr c.f c.bod e.T = []) (kl : ∀ a o, a ≠ e.fr → a ≠ e.L → a ≠ W → H a = some o → H1 a = some o) (q1 : H1 e.fr = some (.lst [.int (e.n : Nat), .ref e.L, s'])) (q2 : H1 e.L = some (.lst (ds ++ [d]))) (q3 : P9V H1 d .yr) (q4 : SoV H1 s' (lim [.yr])) (q5 : ∀ a, s' = V.ref a → H a = none) (q6 : H1 W = some (.lst (rows.map V.str ++ [.str (Str.ofString "year")]))) : Nn9 c H0 N F W es rows.length H1 := by
 have kp : Kp H H1 [e.fr, e.L, W] := fun a o n h => kl a o (fun z => n (by simp [z])) (fun z => n (by simp [z])) (fun z => n (by simp [z])) h
 have hd0 := hfm.2.1.2.2.1
 have hy : unr c.f c.bod e.T ++ unr c.f c.bod (.pl .yr .nil) = [.yr] := by rw [he]; rfl
 refine ⟨_, rows ++ [Str.ofString "year"], hfm.added (U := .pl .yr .nil) hkx hW.1 t2 kp q1 q2 ⟨d, [], rfl, q3, trivial, rfl⟩ ⟨trivial, trivial⟩ (by show 0 + es.length + 1 ≤ FB; omega) (by rw [hy]; exact q4) q5, ?_, hfm.kx hkx kp, ⟨by rw [q6, List.map_append]; rfl, fun w hw => ?_⟩, by rw [List.length_append]; exact Nat.le_refl _⟩
 ·show unr c.f c.bod (e.T.app (.pl .yr .nil)) ≠ []
  rw [unr_app, hy]; simp
 ·rcases List.mem_append.mp hw with hw | hw
  ·exact hW.2 w hw
  ·rw [List.mem_singleton.mp hw]; exact year_len
noncomputable def RgW (H : Hp) (M : List Addr) (v : V) (r : R9) (L : List P9) : Prop := ∃ (a b c : Addr) (s : V) (us : List V), v = V.ref a ∧ H a = some (.tup [.str r.1, .ref b, .ref c, s]) ∧ H b = some (.tup (r.2.1.map V.str)) ∧ H c = some (.tup us) ∧ TsV H r.2.2 us ∧ SoV H s (lim L) ∧ (∀ d ∈ L, d.ok ∧ d.inN r.2.1.length) ∧ ∀ x, s = .ref x → x ∉ M
theorem RgW.rg {H : Hp} {M : List Addr} {v : V} {r : R9} {L : List P9} : RgW H M v r L → Rg9 H v r L := fun ⟨a, b, c, s, us, e, h1, h2, h3, h4, h5, h6, _⟩ => ⟨a, b, c, s, us, e, h1, h2, h3, h4, h5, h6⟩
theorem RgW.kx {H H' : Hp} {M : List Addr} {W : Addr} {v : V} {r : R9} {L : List P9} (hM : W ∈ M) (k : KX H H' W) (t : TSame H H') : RgW H M v r L → RgW H' M v r L := fun ⟨a, b, c, s, us, e, h1, h2, h3, h4, h5, h6, h7⟩ => ⟨a, b, c, s, us, e, t _ _ h1, t _ _ h2, t _ _ h3, h4.ts t, h5.keep t (fun x xs ex h => k x _ (fun z => h7 x ex (by rw [z]; exact hM)) h), h6, h7⟩
noncomputable def In9 (c : C9) (H : Hp) (w R W : Addr) (rv : List V) : Prop := WfV c.f H w c.A c.S ∧ H R = some (.lst rv) ∧ Paired (fun v r => RgW H [W, R] v r (c.bod r.1)) rv c.rs ∧ R ≠ W
noncomputable def Ok9 (c : C9) : Prop := c.A ≠ [] ∧ c.A.length ≤ 60 ∧ c.S.length ≤ 60 ∧ (∀ z ∈ c.A ++ c.S, z.length ≤ 8) ∧ (∀ r ∈ c.rs, r.1.length ≤ 8 ∧ r.2.1.length ≤ 3)
theorem WfV.kx {f : Key → Key} {A S : List Str} {H H' : Hp} {w W : Addr} {rows : List Str} (h : WfV f H w A S) (hA : A ≠ []) (hW : H W = some (.lst (rows.map V.str))) (k : KX H H' W) : WfV f H' w A S := by
 obtain ⟨w0, w1, ta, tc, ts, h1, h2, h3, h4, h5⟩ := h
 have t := k.tup hW
 have no : ∀ {a : Addr} {b : Addr} {r : List V}, H a = some (.lst (.ref b :: r)) → a ≠ W := fun {a b r} ha => by
  rintro rfl
  rw [hW] at ha
  have e := HO.lst.inj (Option.some.inj ha)
  cases rows with
  | nil => cases e
  | cons z _ => cases e
 have n1 : w ≠ W := no h1
 have hne : ∃ a vs, ta ++ tc = V.ref a :: vs := by
  match hq : ta ++ tc, A, h3, hA with
  | [], [], _, z => exact absurd rfl z
  | v :: vs, _ :: _, .cons ⟨a, e, _⟩ _, _ => exact ⟨a, vs, by rw [e]⟩
 obtain ⟨a, vs, e1⟩ := hne
 have n2 : w0 ≠ W := no (by rw [h2, e1])
 have n3 : w1 ≠ W := no (by rw [h4, e1]; rfl)
 exact ⟨w0, w1, ta, tc, ts, k _ _ n1 h1, k _ _ n2 h2, Paired.mapP h3 fun _ _ h => h.ts t, k _ _ n3 h4, Paired.mapP h5 fun _ _ h => h.ts t⟩
theorem In9.kx {c : C9} {H H' : Hp} {w R W : Addr} {rv : List V} {rows : List Str} (h : In9 c H w R W rv) (hA : c.A ≠ []) (hW : H W = some (.lst (rows.map V.str))) (k : KX H H' W) : In9 c H' w R W rv := by
 obtain ⟨h1, h2, h3, h4⟩ := h
 exact ⟨h1.kx hA hW k, k _ _ h4 h2, Paired.mapP h3 fun _ _ h => h.kx (.head _) k (k.tup hW), h4⟩
theorem tm5 (n : Int) : ∃ m : Nat, m ≤ 60 ∧ atI [V.int 0, .int 1, .int 2, .int 3, .int ((n.fdiv 5).fmod 61)] (n.fmod 5) = some (.int (m : Nat)) := by
 have q := fmod_lt (c := n) (m := 5) (by decide)
 have q2 := fmod_lt (c := n.fdiv 5) (m := 61) (by decide)
 obtain ⟨m, em⟩ := Int.eq_ofNat_of_zero_le q2.1
 rw [em] at q2 ⊢
 generalize n.fmod 5 = r at *
 have h : r = 0 ∨ r = 1 ∨ r = 2 ∨ r = 3 ∨ r = 4 := by omega
 rcases h with rfl | rfl | rfl | rfl | rfl
 ·exact ⟨0, by decide, rfl⟩
 ·exact ⟨1, by decide, rfl⟩
 ·exact ⟨2, by decide, rfl⟩
 ·exact ⟨3, by decide, rfl⟩
 ·exact ⟨m, by omega, rfl⟩
theorem Fm9.len {c : C9} {H0 H : Hp} {N : Nat} {F W : Addr} {e : Fe} {es : List Fe} (h : Fm9 c H0 H N F W (e :: es)) : es.length + 1 ≤ FB := by
 have := h.2.1.2.2.1
 omega
theorem Fm9.kts {c : C9} {H0 H H' : Hp} {N : Nat} {F W : Addr} {e : Fe} {es : List Fe} {rows : List V} (h : Fm9 c H0 H N F W (e :: es)) (hW : H W = some (.lst rows)) (k : Kp H H' [e.fr, e.L, W]) : TSame H H' := k.ts fun x hx => by
 obtain ⟨y1, ⟨ds, y2, _⟩, _⟩ := h.top
 simp only [List.mem_cons, List.mem_nil_iff, or_false] at hx
 rcases hx with z | z | z <;> rw [z]
 ·exact ⟨_, y1⟩
 ·exact ⟨_, y2⟩
 ·exact ⟨_, hW⟩
theorem Fm9.init {c : C9} {H Hn : Hp} {F W k L s : Addr} {rows : List V} (hW : H W = some (.lst rows)) (fr : ∀ a ∈ [F, k, L, s], H a = none) (nd : [F, k, L, s].Nodup) (hF : Hn F = some (.lst [.ref k])) (hk : Hn k = some (.lst [.int 1, .ref L, .ref s])) (hL : Hn L = some (.lst [])) (hs : Hn s = some (.lst [])) : Fm9 c H Hn 0 F W [⟨k, L, .ref s, 1, .nil⟩] := by
 have nW : ∀ a ∈ [F, k, L, s], a ≠ W := fun a ha z => by
  have := fr a ha
  rw [z, hW] at this; cases this
 simp only [List.nodup_cons, List.mem_cons, not_or, List.mem_nil_iff, or_false] at nd
 obtain ⟨⟨n1, n2, n3⟩, ⟨n4, n5⟩, n6, _⟩ := nd
 have w1 := nW F (.head _)
 have w2 := nW k (.tail _ (.head _))
 have w3 := nW L (.tail _ (.tail _ (.head _)))
 have w4 := nW s (.tail _ (.tail _ (.tail _ (.head _))))
 refine ⟨hF, ⟨⟨hk, ⟨[], hL, Nat.le_refl _, rfl⟩, ?_, (by decide : 1 ≤ 60)⟩, trivial, (by decide : 0 + 0 + 1 ≤ FB), trivial⟩, ?_, fun e he a ea z => ?_, fun a ha => ?_, fun e he a ea => ?_⟩
 ·show SoV _ (.ref s) (lim [])
  rw [lim_le (Nat.zero_le _)]
  exact ⟨s, [], rfl, hs, .nil⟩
 ·show [F, W, k, L].Nodup
  simp only [List.nodup_cons, List.mem_cons, not_or, List.mem_nil_iff, or_false]
  exact ⟨⟨w1, n1, n2⟩, ⟨Ne.symm w2, Ne.symm w3⟩, n4, not_false, List.nodup_nil⟩
 ·rw [List.mem_singleton.mp he] at ea
  have ea : s = a := V.ref.inj ea
  have z : a ∈ [F, W, k, L] := z
  simp only [List.mem_cons, List.mem_nil_iff, or_false] at z
  rcases z with z | z | z | z
  ·exact n3 (ea.trans z).symm
  ·exact w4 (ea.trans z)
  ·exact n5 (ea.trans z).symm
  ·exact n6 (ea.trans z).symm
 ·have ha : a ∈ [F, k, L] := ha
  simp only [List.mem_cons, List.mem_nil_iff, or_false] at ha
  rcases ha with z | z | z <;> rw [z]
  ·exact fr F (.head _)
  ·exact fr k (.tail _ (.head _))
  ·exact fr L (.tail _ (.tail _ (.head _)))
 ·rw [List.mem_singleton.mp he] at ea
  rw [← V.ref.inj ea]
  exact fr s (.tail _ (.tail _ (.tail _ (.head _))))
noncomputable def spDs9 (K : PySem.W.Frag) : Sp := fun vs H Q _ => ∃ (C R w W : Addr) (ns : List Int) (c : C9) (rv : List V) (rows : List Str), vs = [.ref C, .ref R, .ref w, .ref W] ∧ H C = some (.lst (ns.map V.int)) ∧ ns.length ≤ 63 ∧ C ≠ W ∧ In9 c H w R W rv ∧ Ok9 c ∧ Rw9 H W rows ∧ rows.length ≤ 450 ∧
 ∀ (p t : Addr) (s : V) (us : List V) (T : Ts) (rows' : List Str) (H' : Hp), KX H H' W → Rw9 H' W rows' → rows'.length ≤ rows.length + 2 * ns.length + 20 → H' p = some (.tup [.ref t, s]) → H' t = some (.tup us) → us.length ≤ 200 → TsV H' T us → T.gd c.A c.S c.rs → T.dep + 1 ≤ FB → SoV H' s (lim (unr c.f c.bod T)) → (∀ a, s = V.ref a → H a = none) → s ≠ .ref W → unr c.f c.bod T ≠ [] → Q (.ref p) H'
theorem paired_imp9 {α β : Type} {F G : α → β → Prop} {xs : List α} {ys : List β} (h : Paired F xs ys) (k : ∀ x y, y ∈ ys → F x y → G x y) : Paired G xs ys := by
 induction h with
 | nil => exact .nil
 | cons a _ ih => exact .cons (k _ _ (.head _) a) (ih fun x y hy => k x y (.tail _ hy))
theorem cut_ints (ns : List Int) (lo hi : Option Int) : ∃ ms : List Int, cutV (ns.map V.int) lo hi = ms.map V.int ∧ ms.length ≤ HT.sIx ns.length ns.length hi - HT.sIx ns.length 0 lo ∧ ms.length ≤ ns.length := by
 refine ⟨(ns.drop (HT.sIx ns.length 0 lo)).take (HT.sIx ns.length ns.length hi - HT.sIx ns.length 0 lo), ?_, ?_, ?_⟩
 ·unfold cutV
  rw [List.length_map, List.map_take, List.map_drop]
 ·rw [List.length_take]; omega
 ·rw [List.length_take, List.length_drop]; omega
theorem cutsA {α : Type} (f : α → V) (zs : List α) (k : Nat) : cutV (zs.map f) none (some (k : Int)) = (zs.take k).map f := by
 have e1 : HT.sIx (zs.map f).length (zs.map f).length (some (k : Int)) = min k (zs.map f).length := HT.sIx_nat _ _ k
 have e2 : HT.sIx (zs.map f).length 0 none = 0 := rfl
 unfold cutV
 rw [e1, e2, List.length_map, List.drop_zero, Nat.sub_zero, List.map_take]
 rcases Nat.le_total k zs.length with h | h
 ·rw [Nat.min_eq_left h]
 ·rw [Nat.min_eq_right h, List.take_of_length_le (by rw [List.length_map]; exact Nat.le_refl _), List.take_of_length_le (by rw [List.length_map]; exact h)]
noncomputable def pOk (ps : List Str) : Prop := ps.length ≤ 3 ∧ ps.Nodup ∧ ∀ z ∈ ps, z.length ≤ 8 ∧ z ≠ ZZ
noncomputable def kk (hp : List (Str × Str)) (n : Nat) : Key → Prop
 | .inl i => ∃ j : Nat, i = (j : Int) ∧ j < n
 | .inr s => s ∈ hp.map (·.1)
noncomputable def P9.all (p : Key → Prop) : P9 → Prop
 | .yr => True
 | .br _ x _ _ => p x
 | .tw _ x y => p x ∧ p y
 | .tq _ x y _ _ => p x ∧ p y
theorem P9.all_sub {p q : Key → Prop} {f : Key → Key} (h : ∀ x, p x → q (f x)) : ∀ {d : P9}, d.all p → (d.sub f).all q
 | .yr, _ => trivial
 | .br _ _ _ _, k => h _ k
 | .tw _ _ _, k => ⟨h _ k.1, h _ k.2⟩
 | .tq _ _ _ _ _, k => ⟨h _ k.1, h _ k.2⟩
theorem kk_in {hp : List (Str × Str)} {n : Nat} : ∀ {x : Key}, kk hp n x → inK n x
 | .inl _, h => h
 | .inr _, _ => trivial
theorem kk_inN {hp : List (Str × Str)} {n : Nat} : ∀ {d : P9}, d.all (kk hp n) → d.inN n
 | .yr, _ => trivial
 | .br _ _ _ _, k => kk_in k
 | .tw _ _ _, k => ⟨kk_in k.1, kk_in k.2⟩
 | .tq _ _ _ _ _, k => ⟨kk_in k.1, kk_in k.2⟩
theorem kk_t {hp : List (Str × Str)} (ho : Hok hp) : ∀ {x : Key}, kk hp 0 x → isT x
 | .inl _, ⟨_, _, h⟩ => absurd h (Nat.not_lt_zero _)
 | .inr s, h => by
  obtain ⟨q, hq, e⟩ := List.mem_map.mp h
  have := (ho.2.2.1 q hq).1
  exact ⟨s, rfl, by rw [← e]; omega⟩
theorem kk_txt {hp : List (Str × Str)} (ho : Hok hp) : ∀ {d : P9}, d.all (kk hp 0) → d.txt
 | .yr, _ => trivial
 | .br _ _ _ _, k => kk_t ho k
 | .tw _ _ _, k => ⟨kk_t ho k.1, kk_t ho k.2⟩
 | .tq _ _ _ _ _, k => ⟨kk_t ho k.1, kk_t ho k.2⟩
theorem gd9.all {A S : List Str} : ∀ {d : P9}, gd9 A S d → d.all fun x => ∃ z ∈ A ++ S, x = .inr z
 | .yr, _ => trivial
 | .br _ _ _ _, ⟨z, hz, e⟩ => ⟨z, List.mem_append_left _ hz, e⟩
 | .tw _ _ _, ⟨z, hz, z', hz', e, e', _⟩ => ⟨⟨z, List.mem_append_left _ hz, e⟩, ⟨z', hz', e'⟩⟩
 | .tq _ _ _ _ _, ⟨z, hz, z', hz', e, e', _⟩ => ⟨⟨z, List.mem_append_left _ hz, e⟩, ⟨z', hz', e'⟩⟩
theorem parF_nil : parF [] = fun x => x := by
 funext x
 cases x <;> rfl
theorem mem_wds {hp : List (Str × Str)} {ps : List Str} {z : Str} (h : z ∈ wC hp ps ++ wS hp ps) : z ∈ ps ∨ (z ∉ ps ∧ z ∈ hp.map (·.1)) := by
 have key : ∀ w, z ∈ (hp.filter (isK w ps)).map (·.1) → z ∉ ps ∧ z ∈ hp.map (·.1) := fun w h => by
  obtain ⟨q, hq, rfl⟩ := List.mem_map.mp h
  obtain ⟨h1, h2⟩ := List.mem_filter.mp hq
  exact ⟨(mem_isK h2).2, List.mem_map.mpr ⟨q, h1, rfl⟩⟩
 rcases List.mem_append.mp h with h | h
 ·unfold wC at h
  rcases List.mem_append.mp h with h | h
  ·exact .inl h
  ·exact .inr (key _ h)
 ·exact .inr (key _ h)
theorem parF_kk {hp : List (Str × Str)} {ps : List Str} (nd : ps.Nodup) {z : Str} (h : z ∈ wC hp ps ++ wS hp ps) : kk hp ps.length (parF ps (.inr z)) := by
 rcases mem_wds h with h | ⟨h, h2⟩
 ·obtain ⟨i, hi⟩ := List.getElem?_of_mem h
  rw [parF_in nd hi]
  exact ⟨i, rfl, (List.getElem?_eq_some_iff.mp hi).1⟩
 ·rw [parF_out h]; exact h2
theorem numF_kk {hp : List (Str × Str)} {n : Nat} {gs : List Key} (hg : ∀ g ∈ gs, kk hp n g) : ∀ x, kk hp gs.length x → kk hp n (numF gs x)
 | .inl i, ⟨j, e, hj⟩ => by
  have hq : gs[j]? = some gs[j] := List.getElem?_eq_getElem hj
  have e2 : numF gs (.inl ((j : Nat) : Int)) = gs[j] := kV_inj (numF_at hq)
  rw [e, e2]
  exact hg _ (List.getElem_mem hj)
 | .inr s, h => by rw [numF_str]; exact h
theorem all_unr {hp : List (Str × Str)} {f : Key → Key} {bod : Str → List P9} {A S : List Str} {rs : List R9} {n : Nat} (hf : ∀ z ∈ A ++ S, kk hp n (f (.inr z))) (hb : ∀ q ∈ rs, ∀ d ∈ bod q.1, d.all (kk hp q.2.1.length)) : ∀ {T : Ts}, T.gd A S rs → ∀ d ∈ unr f bod T, d.all (kk hp n)
 | .nil, _ => fun d hd => by cases hd
 | .pl e r, h => fun d hd => by
  rcases List.mem_cons.mp hd with z | hd
  ·rw [z]
   exact P9.all_sub (fun x ⟨z, hz, e⟩ => by rw [e]; exact hf z hz) h.1.all
  ·exact all_unr hf hb (T := r) h.2 d hd
 | .dd m ps r, h => fun d hd => by
  rcases List.mem_append.mp hd with hd | hd
  ·obtain ⟨q, hq, e, hl⟩ := h.1
   obtain ⟨d', hd', rfl⟩ := List.mem_map.mp hd
   rw [← e] at hd'
   refine P9.all_sub (p := kk hp q.2.1.length) (fun x hx => numF_kk (fun g hg => ?_) x (by rw [List.length_map, hl]; exact hx)) (hb q hq d' hd')
   obtain ⟨p, hp', rfl⟩ := List.mem_map.mp hg
   exact hf p (h.2.1 p hp')
  ·exact all_unr hf hb (T := r) h.2.2 d hd
 | .tm m b r, h => fun d hd => by
  rcases List.mem_append.mp hd with hd | hd
  ·obtain ⟨l, hl, hd⟩ := List.mem_flatten.mp hd
   rw [(List.mem_replicate.mp hl).2] at hd
   exact all_unr hf hb (T := b) h.1 d hd
  ·exact all_unr hf hb (T := r) h.2 d hd
theorem Ts.gd_has {A S : List Str} {rs : List R9} : ∀ {T : Ts}, T.gd A S rs → T.has (· ∈ rs.map (·.1))
 | .nil, _ => trivial
 | .pl _ r, h => Ts.gd_has (T := r) h.2
 | .dd _ _ r, h => by
  obtain ⟨⟨q, hq, e, _⟩, _, h3⟩ := h
  exact ⟨List.mem_map.mpr ⟨q, hq, e⟩, Ts.gd_has (T := r) h3⟩
 | .tm _ b r, h => ⟨Ts.gd_has (T := b) h.1, Ts.gd_has (T := r) h.2⟩
noncomputable def Ts.rows : Ts → Nat
 | .nil => 0
 | .pl _ r => Ts.rows r + 1
 | .dd _ _ r => Ts.rows r + 1
 | .tm _ _ r => Ts.rows r + 1
theorem TsV.len {H : Hp} : ∀ {T : Ts} {us : List V}, TsV H T us → us.length = T.rows
 | .nil, us, h => by
  have h : us = [] := h
  subst h; rfl
 | .pl _ r, _, ⟨v, ws, e, h1, h2, h3⟩ => by
  subst e; rw [List.length_cons, TsV.len h3]; rfl
 | .dd _ _ r, _, ⟨v, ws, e, h1, h2, h3⟩ => by
  subst e; rw [List.length_cons, TsV.len h3]; rfl
 | .tm _ _ r, _, ⟨a, t, us1, ws, e, h1, h2, h5, h3, h4⟩ => by
  subst e; rw [List.length_cons, TsV.len h4]; rfl
noncomputable def Gr9 (hp : List (Str × Str)) (rs : List R9) : Prop := Ah9 rs ∧ (∀ r ∈ rs, r.1.length ≤ 8 ∧ r.2.1.length ≤ 3) ∧ (∀ r ∈ rs, ∀ d ∈ bodR rs.reverse r.1, d.all (kk hp r.2.1.length)) ∧ ∀ r ∈ rs, r.2.2.ok
theorem bod_old {rs : List R9} {r : R9} (nd : ((rs ++ [r]).map (·.1)).Nodup) {q : R9} (hq : q ∈ rs) : bodR (rs ++ [r]).reverse q.1 = bodR rs.reverse q.1 := by
 have := (cntR_pre nd rs.length (z := q.1) (by rw [List.take_left]; exact List.mem_map.mpr ⟨q, hq, rfl⟩)).2
 rw [List.take_left] at this
 exact this.symm
theorem bod_new (rs : List R9) (r : R9) : bodR (rs ++ [r]).reverse r.1 = unr (parF r.2.1) (bodR rs.reverse) r.2.2 := by
 rw [List.reverse_append]
 exact bodR_top r _
theorem Gr9.nd {hp : List (Str × Str)} {rs : List R9} (h : Gr9 hp rs) {r : R9} (hn : r.1 ∉ rs.map (·.1)) : ((rs ++ [r]).map (·.1)).Nodup := by
 rw [List.map_append]
 refine List.nodup_append.mpr ⟨h.1.1, by simp, fun a ha b hb e => ?_⟩
 rw [List.map_singleton, List.mem_singleton] at hb
 rw [e, hb] at ha
 exact hn ha
theorem Gr9.snoc {hp : List (Str × Str)} {rs : List R9} (h : Gr9 hp rs) {z : Str} {ps : List Str} {T : Ts} (hn : z ∉ rs.map (·.1)) (hz : z.length ≤ 8) (hgd : T.gd (wC hp ps) (wS hp ps) rs) (hd : T.dep ≤ 8) (hk : T.ok) (hp' : pOk ps) : Gr9 hp (rs ++ [(z, ps, T)]) := by
 have nd := h.nd (r := (z, ps, T)) hn
 obtain ⟨⟨a1, a2, a3⟩, b, c, d⟩ := h
 refine ⟨⟨nd, fun i r hi => ?_, fun r hr => ?_⟩, fun r hr => ?_, fun r hr e he => ?_, fun r hr => ?_⟩
 ·rcases Nat.lt_or_ge i rs.length with hlt | hge
  ·rw [List.getElem?_append_left hlt] at hi
   rw [List.take_append_of_le_length (Nat.le_of_lt hlt)]
   exact a2 i r hi
  ·rw [List.getElem?_append_right hge] at hi
   have hi0 : i - rs.length = 0 := by
    have := (List.getElem?_eq_some_iff.mp hi).1
    simp at this
    omega
   rw [hi0] at hi
   obtain rfl : (z, ps, T) = r := Option.some.inj hi
   have ei : i = rs.length := by omega
   rw [ei, List.take_left]
   exact Ts.gd_has hgd
 ·rcases List.mem_append.mp hr with hr | hr
  ·exact a3 r hr
  ·rw [List.mem_singleton.mp hr]
   exact ⟨hp'.2.1, Nat.le_trans hp'.1 (by decide), hd⟩
 ·rcases List.mem_append.mp hr with hr | hr
  ·exact b r hr
  ·rw [List.mem_singleton.mp hr]
   exact ⟨hz, hp'.1⟩
 ·rcases List.mem_append.mp hr with hr | hr
  ·rw [bod_old nd hr] at he
   exact c r hr e he
  ·rw [List.mem_singleton.mp hr] at he ⊢
   rw [bod_new] at he
   exact all_unr (fun z hz => parF_kk hp'.2.1 hz) c hgd e he
 ·rcases List.mem_append.mp hr with hr | hr
  ·exact d r hr
  ·rw [List.mem_singleton.mp hr]; exact hk
theorem wds_ok {hp : List (Str × Str)} {ps : List Str} (ho : Hok hp) (hp' : pOk ps) : (wC hp ps).length ≤ 60 ∧ (wS hp ps).length ≤ 60 ∧ (∀ z ∈ wC hp ps ++ wS hp ps, z.length ≤ 8) := by
 have o1 := ho.1
 have p1 := hp'.1
 have lc : ((hp.filter (isC ps)).map (·.1)).length ≤ 20 := by
  rw [List.length_map]; exact Nat.le_trans (List.length_filter_le _ _) o1
 have lsn : ((hp.filter (isS ps)).map (·.1)).length ≤ 20 := by
  rw [List.length_map]; exact Nat.le_trans (List.length_filter_le _ _) o1
 refine ⟨?_, by unfold wS; omega, fun z hz => ?_⟩
 ·unfold wC
  rw [List.length_append]; omega
 ·rcases mem_wds hz with h | ⟨_, h⟩
  ·exact (hp'.2.2 z h).1
  ·obtain ⟨q, hq, rfl⟩ := List.mem_map.mp h
   exact (ho.2.2.1 q hq).1
theorem wds_ne {hp : List (Str × Str)} (ho : Hok hp) : wC hp [] ≠ [] := fun z => by
 unfold wC at z
 obtain ⟨q, hq, e⟩ := ho.2.2.2
 have hin : q ∈ hp.filter (isC []) := List.mem_filter.mpr ⟨hq, by
  show (decide (q.2 = Str.ofString "cask") && !decide (q.1 ∈ ([] : List Str))) = true
  rw [decide_eq_true e]; rfl⟩
 have this : q.1 ∈ (hp.filter (isC [])).map (·.1) := List.mem_map.mpr ⟨q, hin, rfl⟩
 rw [(List.append_eq_nil_iff.mp z).2] at this
 cases this
theorem rule_len : (Str.ofString "rule").length ≤ 25 := by decide +kernel
theorem rows_room {rows : List Str} (h : ∀ z ∈ rows, z.length ≤ 300) (hl : rows.length ≤ 1000) : (rows.map (·.length)).sum + rows.length * (Str.ofString "\n").length ≤ 16777216 := by
 have h2 := sum_len h
 have e : (Str.ofString "\n").length = 1 := by decide
 rw [e]
 omega
noncomputable def Sc9 (hp : List (Str × Str)) (rs : List R9) (T : Ts) : Prop := Ah9 rs ∧ rs.length ≤ 4 ∧ T.has (· ∈ rs.map (·.1)) ∧ T.dep + 1 ≤ FB ∧ (∀ d ∈ unr (fun x => x) (bodR rs.reverse) T, d.all (kk hp 0) ∧ d.ok) ∧ unr (fun x => x) (bodR rs.reverse) T ≠ [] ∧ T.rows ≤ 200
noncomputable def spSc9 (K : PySem.W.Frag) : Sp := fun vs H Q _ => ∃ (a h : Addr) (ns : List Int) (xs : List V) (hp : List (Str × Str)), vs = [.ref a, .ref h, .int 2] ∧ SqL K H a (ns.map V.int) ∧ H h = some (.lst xs) ∧ Paired (PcV H) xs hp ∧ Hok hp ∧
 ∀ (p : Addr) (v s : V) (tx : Str) (rs : List R9) (T : Ts) (H' : Hp), Same H H' → H' p = some (.tup [v, .str tx, s]) → S9V H' v rs T → Sc9 hp rs T → SoV H' s (lim (unr (fun x => x) (bodR rs.reverse) T)) → Q (.ref p) H'
noncomputable def knd (i : Int) : List V := (List.range 15).map fun (j : Nat) => V.bl (decide ((j : Int) = i) || decide ((j : Int) = 5))
noncomputable def bad (hp : List (Str × Str)) (L : List P9) : Option Int := if L.length ≤ 200 then (jOut hp L).map Kd.ix else some 3
noncomputable def TdV (hp : List (Str × Str)) (N : Addr → Prop) (H : Hp) (v : V) (L : List P9) : Prop := ∃ (a kn : Addr) (b : V), v = .ref a ∧ H a = some (.tup [b, .ref kn]) ∧ N kn ∧ ((∃ i, bad hp L = some i ∧ b = .non ∧ H kn = some (.lst (knd i))) ∨ (bad hp L = none ∧ H kn = some (.lst []) ∧ ∃ l vs, b = .ref l ∧ N l ∧ H l = some (.lst vs) ∧ Paired (P9V H) vs L))
theorem jU_nr {kd : Str → Option Str} {an : Str → Option Nat} {ps : List (Str × Bool)} : jU kd an (.pl ps) ≠ some .nr := fun e => by
 have e : (match ps.findSome? (jP kd) with | some k => some k | none => if twin ps = true then some Kd.nc else none) = some .nr := e
 have key : ∀ p : Str × Bool, jP kd p ≠ some .nr := fun p e => by
  unfold jP at e
  split at e
  ·cases e
  ·split at e <;> cases e
 cases h : ps.findSome? (jP kd) with
 | none =>
  rw [h] at e
  have e : (if twin ps = true then some Kd.nc else none) = some Kd.nr := e
  split at e <;> cases e
 | some k =>
  rw [h] at e
  obtain ⟨p, _, hp⟩ := List.exists_of_findSome?_eq_some h
  have e : some k = some Kd.nr := e
  rw [e] at hp
  exact key p hp
theorem jOut_nr {hp : List (Str × Str)} {L : List P9} : jOut hp L ≠ some .nr := fun e => by
 unfold jOut at e
 obtain ⟨d, _, h⟩ := List.exists_of_findSome?_eq_some e
 exact jU_nr h
noncomputable def spTold9 (K : PySem.W.Frag) : Sp := fun vs H Q _ => ∃ (a : Addr) (v : V) (xs : List V) (hp : List (Str × Str)) (rs : List R9) (T : Ts), vs = [.ref a, v] ∧ H a = some (.lst xs) ∧ Paired (PcV H) xs hp ∧ hp.length ≤ 30 ∧ S9V H v rs T ∧ So9 rs T ∧ ∀ p H', Same H H' → TdV hp (fun c => H c = none) H' (.ref p) (unr (fun x => x) (bodR rs.reverse) T) → Q (.ref p) H'
noncomputable def spOnly8 : Sp := fun vs H Q _ => ∃ i : Int, vs = [.int i] ∧ ∀ l H', Same H H' → H' l = some (.lst (knd i)) → Q (.ref l) H'
theorem bits60 : ∀ m : Fin 61, Builtin.Int.intBits ((m.1 : Nat) : Int) ≤ 64 := by decide +kernel
theorem TsV.mok {H : Hp} {cc : Str → Int} : ∀ {T : Ts} {us : List V}, TsV H T us → T.mok cc
 | .nil, _, _ => trivial
 | .pl _ r, _, ⟨_, _, _, _, _, h3⟩ => (TsV.mok h3 : r.mok cc)
 | .dd _ _ r, _, ⟨_, _, _, _, _, h3⟩ => (TsV.mok h3 : r.mok cc)
 | .tm n b r, _, ⟨_, _, _, _, _, _, _, h5, h3, h4⟩ => ⟨IntMulOk.of_left (bits60 ⟨n, Nat.lt_succ_of_le h5⟩), (TsV.mok h3 : b.mok cc), (TsV.mok h4 : r.mok cc)⟩
theorem so9_of {H : Hp} {v : V} {rs : List R9} {T : Ts} (hS : S9V H v rs T) (ah : Ah9 rs) (hl : rs.length ≤ 60) (hh : T.has (· ∈ rs.map (·.1))) (hd : T.dep ≤ 8) (ht : ∀ d ∈ unr (fun x => x) (bodR rs.reverse) T, d.txt) : So9 rs T := by
 obtain ⟨p, a, b, rv, us, e, h1, h2, h3, h4, h5⟩ := hS
 refine ⟨ah, hl, hh, hd, fun i r hr => ?_, h5.mok, fun _ => ht⟩
 obtain ⟨x, _, _, _, _, us1, _, _, _, _, h⟩ := paired_mem' h3 (List.mem_of_getElem? hr)
 exact h.mok
theorem bad_none {hp : List (Str × Str)} {L : List P9} : bad hp L = none ↔ L.length ≤ 200 ∧ jOut hp L = none := by
 unfold bad
 by_cases h : L.length ≤ 200
 ·rw [if_pos h]
  cases jOut hp L with
  | none => exact ⟨fun _ => ⟨h, rfl⟩, fun _ => rfl⟩
  | some k => exact ⟨fun z => (by cases z), fun z => (by cases z.2)⟩
 ·rw [if_neg h]
  exact ⟨fun z => (by cases z), fun z => absurd z.1 h⟩
theorem repL {K : PySem.W.Frag} {H : Hp} {a : Addr} {vs : List V} {xs : List PyData} (h : SqL K H a vs) (r : RepDs K H xs vs) : RepD K H (.list xs) (.ref a) := by simp only [RepD]; exact ⟨a, vs, rfl, h, r⟩
theorem reps0 {K : PySem.W.Frag} {H : Hp} : RepDs K H [] [] := by simp [RepDs]
theorem repsC {K : PySem.W.Frag} {H : Hp} {d : PyData} {v : V} {ds : List PyData} {vs : List V} (h : RepD K H d v) (r : RepDs K H ds vs) : RepDs K H (d :: ds) (v :: vs) := by simp only [RepDs]; exact ⟨_, _, rfl, h, r⟩
theorem repB {K : PySem.W.Frag} {H : Hp} {i : Bool} : RepD K H (.bool i) (.bl i) := by rw [RepD]
theorem rep_bs {K : PySem.W.Frag} {H : Hp} {α : Type} (f : α → Bool) : ∀ l : List α, RepDs K H (l.map fun j => PyData.bool (f j)) (l.map fun j => V.bl (f j))
 | [] => reps0
 | _ :: l => repsC repB (rep_bs f l)
theorem dep_bs {α : Type} (f : α → Bool) : ∀ l : List α, PyData.depthAll (l.map fun j => PyData.bool (f j)) ≤ 10
 | [] => by simp [PyData.depthAll]
 | a :: l => by
  have := dep_bs f l
  rw [List.map_cons]
  simp only [PyData.depthAll, PyData.depth]
  omega
noncomputable def dKn (i : Int) : PyData := .list ((List.range 15).map fun (j : Nat) => PyData.bool (decide ((j : Int) = i) || decide ((j : Int) = 5)))
theorem rep_kn {K : PySem.W.Frag} {H : Hp} {a : Addr} {i : Int} (h : H a = some (.lst (knd i))) : RepD K H (dKn i) (.ref a) := repL (SqL.of h) (rep_bs _ _)
theorem rep_nil {K : PySem.W.Frag} {H : Hp} {a : Addr} (h : H a = some (.lst [])) : RepD K H (.list []) (.ref a) := repL (SqL.of h) reps0
theorem dep_kn (i : Int) : (dKn i).depth ≤ 64 := by
 have := dep_bs (fun (j : Nat) => decide ((j : Int) = i) || decide ((j : Int) = 5)) (List.range 15)
 unfold dKn
 simp only [PyData.depth]
 omega
theorem lk_none {α : Type} {l : List (Str × α)} {z : Str} (h : z ∉ l.map (·.1)) : lk l z = none := by
 induction l with
 | nil => rfl
 | cons p l ih =>
  rw [List.map_cons, List.mem_cons, not_or] at h
  show (match lk l z with | some k => some k | none => if z = p.1 then some p.2 else none) = none
  rw [ih h.2]
  exact if_neg h.1
theorem lk_mem {α : Type} {l : List (Str × α)} (nd : (l.map (·.1)).Nodup) {q : Str × α} (h : q ∈ l) : lk l q.1 = some q.2 := by
 induction l with
 | nil => cases h
 | cons p l ih =>
  rw [List.map_cons] at nd
  have nd := List.nodup_cons.mp nd
  show (match lk l q.1 with | some k => some k | none => if q.1 = p.1 then some p.2 else none) = some q.2
  rcases List.mem_cons.mp h with rfl | h
  ·rw [lk_none nd.1]
   exact if_pos rfl
  ·rw [ih nd.2 h]
noncomputable def isSk (q : Str × Str) : Bool := decide (q.2 = Str.ofString "sink")
noncomputable def sks (hp : List (Str × Str)) : List Str := (hp.filter isSk).map (·.1)
theorem sks_at {hp : List (Str × Str)} (ho : Hok hp) {z : Str} (h : z ∈ hp.map (·.1)) : ∃ k, lk hp z = some k ∧ (k = Str.ofString "sink" ↔ z ∈ sks hp) := by
 obtain ⟨q, hq, rfl⟩ := List.mem_map.mp h
 have hl := lk_mem ho.2.1 hq
 refine ⟨q.2, hl, fun e => List.mem_map.mpr ⟨q, List.mem_filter.mpr ⟨hq, decide_eq_true e⟩, rfl⟩, fun e => ?_⟩
 obtain ⟨q', hq', e'⟩ := List.mem_map.mp e
 obtain ⟨h1, h2⟩ := List.mem_filter.mp hq'
 have hl' := lk_mem ho.2.1 h1
 rw [e', hl] at hl'
 rw [Option.some.inj hl']
 exact of_decide_eq_true h2
theorem jP_at {hp : List (Str × Str)} (ho : Hok hp) {z : Str} (h : z ∈ hp.map (·.1)) (c : Bool) : jP (lk hp) (z, c) = if c = true ∧ z ∈ sks hp then some .nc else none := by
 obtain ⟨k, hk, hs⟩ := sks_at ho h
 rw [jP_some hk]
 by_cases e : c = true ∧ z ∈ sks hp
 ·rw [if_pos e, if_pos ⟨e.1, hs.mpr e.2⟩]
 ·rw [if_neg e, if_neg fun q => e ⟨q.1, hs.mp q.2⟩]
noncomputable def ft2 (zs : List Str) (w x y : Str) : Bool := if x ∈ zs ∨ x = y then false else (!decide (w = Str.ofString "fill") || !decide (y ∈ zs))
noncomputable def fits (zs : List Str) : P9 → Bool
 | .yr => true
 | .br _ x _ _ => !decide (ks x ∈ zs)
 | .tw w x y => ft2 zs w (ks x) (ks y)
 | .tq w x y _ _ => ft2 zs w (ks x) (ks y)
theorem kk0 {hp : List (Str × Str)} : ∀ {x : Key}, kk hp 0 x → ∃ s, x = .inr s ∧ s ∈ hp.map (·.1)
 | .inl _, ⟨_, _, h⟩ => absurd h (Nat.not_lt_zero _)
 | .inr s, h => ⟨s, rfl, h⟩
theorem ft2_j {hp : List (Str × Str)} (ho : Hok hp) {w x y : Str} (hx : x ∈ hp.map (·.1)) (hy : y ∈ hp.map (·.1)) : jU (lk hp) (fun _ => none) (.pl [(x, true), (y, decide (w = Str.ofString "fill"))]) = if ft2 (sks hp) w x y = true then none else some .nc := by
 show (match [(x, true), (y, decide (w = Str.ofString "fill"))].findSome? (jP (lk hp)) with | some k => some k | none => if twin [(x, true), (y, decide (w = Str.ofString "fill"))] = true then some Kd.nc else none) = _
 have j1 := jP_at ho hx true
 have j2 := jP_at ho hy (decide (w = Str.ofString "fill"))
 have tw : twin [(x, true), (y, decide (w = Str.ofString "fill"))] = decide (x = y) := rfl
 rw [List.findSome?_cons, j1, tw]
 unfold ft2
 by_cases h1 : x ∈ sks hp
 ·rw [if_pos ⟨rfl, h1⟩, if_pos (Or.inl h1)]; rfl
 rw [if_neg fun z => h1 z.2, List.findSome?_cons, j2]
 by_cases h2 : x = y
 ·rw [if_pos (Or.inr h2), decide_eq_true h2]
  by_cases h3 : decide (w = Str.ofString "fill") = true ∧ y ∈ sks hp
  ·rw [if_pos h3]; rfl
  ·rw [if_neg h3]; rfl
 rw [if_neg (fun z : x ∈ sks hp ∨ x = y => z.elim h1 h2), decide_eq_false h2]
 by_cases h4 : w = Str.ofString "fill"
 ·by_cases h5 : y ∈ sks hp
  ·rw [if_pos ⟨decide_eq_true h4, h5⟩, decide_eq_true h4, decide_eq_true h5]; rfl
  ·rw [if_neg fun z => h5 z.2, decide_eq_true h4, decide_eq_false h5]; rfl
 ·rw [if_neg fun z => h4 (of_decide_eq_true z.1), decide_eq_false h4]; rfl
theorem fits_j {hp : List (Str × Str)} (ho : Hok hp) : ∀ {d : P9}, d.all (kk hp 0) → jU (lk hp) (fun _ => none) (.pl d.want) = if fits (sks hp) d = true then none else some .nc
 | .yr, _ => rfl
 | .br n x a b, h => by
  obtain ⟨s, rfl, hs⟩ := kk0 h
  show (match [(s, true)].findSome? (jP (lk hp)) with | some k => some k | none => if twin [(s, true)] = true then some Kd.nc else none) = if (!decide (s ∈ sks hp)) = true then none else some .nc
  rw [List.findSome?_cons, jP_at ho hs true]
  by_cases h1 : s ∈ sks hp
  ·rw [if_pos ⟨rfl, h1⟩, decide_eq_true h1]; rfl
  ·rw [if_neg fun z => h1 z.2, decide_eq_false h1]; rfl
 | .tw w x y, h => by
  obtain ⟨s, rfl, hs⟩ := kk0 h.1
  obtain ⟨s', rfl, hs'⟩ := kk0 h.2
  exact ft2_j ho hs hs'
 | .tq w x y _ _, h => by
  obtain ⟨s, rfl, hs⟩ := kk0 h.1
  obtain ⟨s', rfl, hs'⟩ := kk0 h.2
  exact ft2_j ho hs hs'
theorem out_fit {hp : List (Str × Str)} (ho : Hok hp) : ∀ {L : List P9}, (∀ d ∈ L, d.all (kk hp 0)) → jOut hp L = if (L.map (fits (sks hp))).all id = true then none else some .nc
 | [], _ => rfl
 | d :: L, h => by
  have ih := out_fit ho (L := L) fun e he => h e (.tail _ he)
  unfold jOut at ih ⊢
  rw [List.findSome?_cons, fits_j ho (h d (.head _)), List.map_cons, List.all_cons]
  by_cases e : fits (sks hp) d = true
  ·rw [if_pos e, e]
   exact ih
  ·rw [if_neg e, Bool.eq_false_iff.mpr e]; rfl
noncomputable def spFt9 (K : PySem.W.Frag) : Sp := fun vs H Q _ => ∃ (v : V) (sk : Addr) (d : P9) (zs : List Str), vs = [v, .ref sk] ∧ P9V H v d ∧ d.ok ∧ d.txt ∧ H sk = some (.lst (zs.map V.str)) ∧ Q (.bl (fits zs d)) H
noncomputable def Alk (H : Hp) : Nat → V → V → Prop
 | 0, _, _ => False
 | d + 1, v, u => (∃ s, v = .str s ∧ u = .str s) ∨ (∃ n, v = .int n ∧ u = .int n) ∨ ∃ a b xs ys, v = .ref a ∧ u = .ref b ∧ H a = some (.tup xs) ∧ H b = some (.tup ys) ∧ xs.length ≤ 400 ∧ Paired (Alk H d) xs ys
theorem Alk.ts {H H' : Hp} (s : TSame H H') : ∀ {d : Nat} {v u : V}, Alk H d v u → Alk H' d v u
 | 0, _, _, h => False.elim h
 | d + 1, _, _, h => by
  rcases h with h | h | ⟨a, b, xs, ys, e1, e2, h1, h2, h3, h4⟩
  ·exact .inl h
  ·exact .inr (.inl h)
  ·exact .inr (.inr ⟨a, b, xs, ys, e1, e2, s _ _ h1, s _ _ h2, h3, Paired.mapP h4 fun _ _ h => Alk.ts s h⟩)
theorem alk_s {H : Hp} {d : Nat} {z : Str} : Alk H (d + 1) (.str z) (.str z) := .inl ⟨z, rfl, rfl⟩
theorem alk_i {H : Hp} {d : Nat} {n : Int} : Alk H (d + 1) (.int n) (.int n) := .inr (.inl ⟨n, rfl, rfl⟩)
theorem alk_t {H : Hp} {d : Nat} {a b : Addr} {xs ys : List V} (h1 : H a = some (.tup xs)) (h2 : H b = some (.tup ys)) (hl : xs.length ≤ 400) (h : Paired (Alk H d) xs ys) : Alk H (d + 1) (.ref a) (.ref b) := .inr (.inr ⟨a, b, xs, ys, rfl, rfl, h1, h2, hl, h⟩)
theorem alk_k {H : Hp} {n : Nat} (x : Key) : Alk H (n + 1) (kV x) (kV x) := by
 cases x
 ·exact alk_i
 ·exact alk_s
theorem alk_p9 {H : Hp} {v u : V} : ∀ {d : P9}, P9V H v d → P9V H u d → Alk H 3 v u
 | .yr, ⟨p, e, h⟩, ⟨q, e', h'⟩ => by
  rw [e, e']; exact alk_t h h' (by simp) (.cons alk_s .nil)
 | .br _ x _ _, ⟨p, p2, e, h, h2⟩, ⟨q, q2, e', h', h2'⟩ => by
  rw [e, e']; exact alk_t h h' (by simp) (.cons alk_s (.cons alk_s (.cons (alk_k x) (.cons (alk_t h2 h2' (by simp) (.cons alk_i (.cons alk_i .nil))) .nil))))
 | .tw _ x y, ⟨p, e, h⟩, ⟨q, e', h'⟩ => by
  rw [e, e']; exact alk_t h h' (by simp) (.cons alk_s (.cons (alk_k x) (.cons (alk_k y) .nil)))
 | .tq _ x y _ _, ⟨p, p2, e, h, h2⟩, ⟨q, q2, e', h', h2'⟩ => by
  rw [e, e']; exact alk_t h h' (by simp) (.cons alk_s (.cons (alk_k x) (.cons (alk_k y) (.cons (alk_t h2 h2' (by simp) (.cons alk_i (.cons alk_i .nil))) .nil))))
theorem alk_ps {H : Hp} {xs : List V} {L : List P9} (h : Paired (P9V H) xs L) : ∀ {ys : List V}, Paired (P9V H) ys L → Paired (Alk H 3) xs ys := by
 induction h with
 | nil => intro ys g; cases g; exact .nil
 | cons a _ ih =>
  intro ys g
  cases g with
  | cons b g => exact .cons (alk_p9 a b) (ih g)
noncomputable def spAlk (K : PySem.W.Frag) (d : Nat) : Sp := fun vs H Q _ => ∃ v u, vs = [v, u] ∧ Alk H d v u ∧ ∀ H', Same H H' → Q (.bl true) H'
theorem all_true : ∀ n : Nat, (List.replicate n true).all id = true
 | 0 => rfl
 | n + 1 => by rw [List.replicate_succ, List.all_cons, all_true n]; rfl
theorem ft_shape {H : Hp} {v : V} {d : P9} (zs : List Str) (h : P9V H v d) (k : d.ok) (x : d.txt) : (∃ a, v = .ref a ∧ H a = some (.tup [.str (Str.ofString "year")]) ∧ fits zs d = true) ∨ (∃ a n s q, v = .ref a ∧ H a = some (.tup [.str (Str.ofString "bring"), .str n, .str s, .ref q]) ∧ fits zs d = !decide (s ∈ zs)) ∨ ∃ a w s s' r, v = .ref a ∧ H a = some (.tup (.str w :: .str s :: .str s' :: r)) ∧ w ≠ Str.ofString "year" ∧ w ≠ Str.ofString "bring" ∧ fits zs d = ft2 zs w s s' := by
 cases d with
 | yr =>
  obtain ⟨a, rfl, ha⟩ := h
  exact .inl ⟨a, rfl, ha, rfl⟩
 | br n x p q =>
  obtain ⟨a, b, rfl, ha, hb⟩ := h
  obtain ⟨s, rfl, hs⟩ := x
  exact .inr (.inl ⟨a, n, s, b, rfl, ha, rfl⟩)
 | tw w x y =>
  obtain ⟨a, rfl, ha⟩ := h
  obtain ⟨⟨s, rfl, _⟩, ⟨s', rfl, _⟩⟩ := x
  exact .inr (.inr ⟨a, w, s, s', _, rfl, ha, k.1, k.2.1, rfl⟩)
 | tq w x y p q =>
  obtain ⟨a, b, rfl, ha, hb⟩ := h
  obtain ⟨⟨s, rfl, _⟩, ⟨s', rfl, _⟩⟩ := x
  exact .inr (.inr ⟨a, w, s, s', _, rfl, ha, k.1, k.2.1, rfl⟩)
end T09
namespace T09
open PySem L2 Tc
section
variable {P : Program} {w : World} {K : PySem.W.Frag} {mg : Str → Option Value} {base : Heap}
noncomputable abbrev s_kinds_of : Stmt := top 18
theorem sc_kinds_of : FnScope ["house", "kinds", "place"] ["house"] (defScope s_kinds_of) := ⟨rfl, rfl, rfl, by decide +kernel, rfl, by decide +kernel, by decide +kernel⟩
theorem ok_kinds_of {ca : Ca} (D : DefAt K mg "kinds_of" s_kinds_of) (T : Txt K mg ca) : FnAt P w K mg base CX0 1 "kinds_of" ["house"] (spK8 K) := by
 refine D.ok sc_kinds_of (fun vs H Q E h => ?_) (fun _ _ _ _ _ _ us hl => match us, hl with | [_], _ => rfl) (fun f cdv A outer s H vs Q E hr h => ?_)
 ·obtain ⟨a, xs, ps, rfl, ha, hP, hpl, k⟩ := h; rfl
 ·obtain ⟨a, xs, ps, rfl, ha, hP, hpl, k⟩ := h
  have nd := sc_kinds_of.nd
  refine ⟨_, (@pss_cons _ _ _ _ _ (@ps_set _ _ 1 _ _ _ _ nd rfl (Or.inl rfl) pe_dnewK (by rfl) (Or.inl rfl))
   (@pss_cons _ _ _ _ _ (ps_for PassesOwn.never rfl (pi_list' (K := K) rfl (pv 0)) (pg_name (i := 2) nd rfl (Or.inl rfl)) (@pss_one _ _ _ (ps_dput (hu_of hr) (pv 1) (pe_ix (ix_tup' (K := K) rfl) (pv 2) pe_int (fun _ _ => rfl)) (pe_ix (ix_tup' (K := K) rfl) (pv 2) pe_int (fun _ _ => rfl)) rfl)))
   (@pss_one _ _ _ (ps_ret (pv 1))))), ?_⟩
  intro p hp
  have tp := Same.upd (o := .dK []) hp
  refine ⟨_, rfl, a, rfl, ⟨_, SqL.of (tp _ _ ha)⟩, ?_⟩
  refine for_list (xs := xs) (fun i σ H1 => ∃ (v2 : Option V) (kv : List (Key × V)), σ = [some (.ref a), some (.ref p), v2] ∧ Same H H1 ∧ H1 p = some (.dK kv) ∧ kv.length ≤ i ∧ KdV kv (lk (ps.take i))) ⟨none, [], rfl, tp, upd_same, Nat.le_refl _, fun _ => rfl⟩ ?_ ?_ ?_
  ·rintro i σ H1 hi ⟨v2, kv, rfl, s1, _⟩
   exact SqL.of (s1 _ _ ha)
  ·rintro i z σ H1 hz ⟨v2, kv, rfl, s1, hk, hl, hkd⟩
   obtain ⟨q, hq, b, r, rfl, hb⟩ := paired_get hP hz
   have hi : i < ps.length := (List.getElem?_eq_some_iff.mp hq).1
   have hb := s1 _ _ hb
   refine ⟨_, rfl, b, _, 0, _, rfl, rfl, SqT.of hb, at_0 _ _, _, rfl, _, rfl, b, _, 1, _, rfl, rfl, SqT.of hb, at_1 _ _ _, p, _, rfl, DPut.k (k := .inr q.1) hk (sz (by omega)), ?_⟩
   refine ⟨_, _, rfl, s1.updD hp, upd_same, Nat.le_trans (length_putK _ _ _) (by omega), fun w => ?_⟩
   rw [valV_put, List.take_add_one, hq]
   show _ = (lk (ps.take i ++ [q]) w).map V.str
   rw [lk_snoc]
   by_cases e : w = q.1
   ·rw [if_pos (congrArg Sum.inr e), if_pos e]; rfl
   ·rw [if_neg (fun z => e (Sum.inr.inj z)), if_neg e]
    exact hkd w
  ·rintro σ H1 ⟨v2, kv, rfl, s1, hk, hl, hkd⟩
   rw [hP.length] at hl hkd
   rw [List.take_length] at hkd
   exact ⟨_, rfl, k p kv H1 s1 hp hk hl hkd⟩
end
end T09
namespace T09
open PySem L2 Tc
section
variable {P : Program} {w : World} {K : PySem.W.Frag} {mg : Str → Option Value} {base : Heap}
noncomputable abbrev s_wanted : Stmt := top 19
theorem sc_wanted : FnScope ["deed"] ["deed"] (defScope s_wanted) := ⟨rfl, rfl, rfl, by decide +kernel, rfl, by decide +kernel, by decide +kernel⟩
theorem ok_wanted {ca : Ca} (D : DefAt K mg "wanted" s_wanted) (T : Txt K mg ca) : FnAt P w K mg base CX0 1 "wanted" ["deed"] (spW8) := by
 refine D.ok sc_wanted (fun vs H Q E h => ?_) (fun _ _ _ _ _ _ us hl => match us, hl with | [_], _ => rfl) (fun f cdv A outer s H vs Q E hr h => ?_)
 ·obtain ⟨v, ps, rfl, ⟨a, rfl, ha⟩, k⟩ := h; rfl
 ·obtain ⟨v, ps, rfl, ⟨a, rfl, ha⟩, k⟩ := h
  have nd := sc_wanted.nd
  refine ⟨_, (@pss_cons _ _ _ _ _ (ps_if (pt_cmpR op_eq (pe_ix (ix_tup' (K := K) rfl) (pv 0) pe_int (fun _ _ => rfl)) pe_str (nomark _)) (@pss_one _ _ _ (ps_ret (@pe_lst _ _ _ _ pa_nil))) pss_nil)
   (@pss_cons _ _ _ _ _ (ps_if (pt_cmpR op_eq (pe_ix (ix_tup' (K := K) rfl) (pv 0) pe_int (fun _ _ => rfl)) pe_str (nomark _)) (@pss_one _ _ _ (ps_ret (@pe_lst _ _ _ _ (@pa_cons _ _ _ _ _ (@pe_tup _ _ _ _ _ (@pa_cons _ _ _ _ _ (pe_ix (ix_tup' (K := K) rfl) (pv 0) pe_int (fun _ _ => rfl)) (@pa_cons _ _ _ _ _ pe_bl pa_nil (by rfl)) (by rfl))) pa_nil (by rfl))))) pss_nil)
   (@pss_one _ _ _ (ps_ret (@pe_lst _ _ _ _ (@pa_cons _ _ _ _ _ (@pe_tup _ _ _ _ _ (@pa_cons _ _ _ _ _ (pe_ix (ix_tup' (K := K) rfl) (pv 0) pe_int (fun _ _ => rfl)) (@pa_cons _ _ _ _ _ pe_bl pa_nil (by rfl)) (by rfl))) (@pa_cons _ _ _ _ _ (@pe_tup _ _ _ _ _ (@pa_cons _ _ _ _ _ (pe_ix (ix_tup' (K := K) rfl) (pv 0) pe_int (fun _ _ => rfl)) (@pa_cons _ _ _ _ _ (pe_cmpR op_eq (pe_ix (ix_tup' (K := K) rfl) (pv 0) pe_int (fun _ _ => rfl)) pe_str (nomark _)) pa_nil (by rfl)) (by rfl))) pa_nil (by rfl)) (by rfl))))))), ?_⟩
  rcases ha with ⟨ha, rfl⟩ | ⟨n, x, q, ha, rfl⟩ | ⟨w, x, y, r, ha, n1, n2, n3, n4, rfl⟩
  ·refine ⟨_, rfl, a, _, 0, _, rfl, rfl, SqT.of ha, rfl, rfl, _, rfl, ?_⟩
   refine dec_true rfl ?_
   exact ⟨sz (by simp), fun l hl => k l [] _ (Same.upd hl) upd_same .nil⟩
  ·refine ⟨_, rfl, a, _, 0, _, rfl, rfl, SqT.of ha, rfl, rfl, _, rfl, ?_⟩
   refine dec_false (by decide +kernel) ?_
   refine ⟨_, rfl, a, _, 0, _, rfl, rfl, SqT.of ha, rfl, rfl, _, rfl, ?_⟩
   refine dec_true rfl ?_
   refine ⟨_, rfl, a, _, 2, _, rfl, rfl, SqT.of ha, rfl, sz (by simp), fun p hp => ⟨sz (by simp), fun l hl => ?_⟩⟩
   have t2 := Same.upd (o := .lst [.ref p]) hl
   exact k l [.ref p] _ ((Same.upd hp).trans t2) upd_same (.cons ⟨p, rfl, t2 _ _ upd_same⟩ .nil)
  ·have c1 : ¬ V.str w = V.str (Str.ofString "year") := fun e => n1 (V.str.inj e)
   have c2 : ¬ V.str w = V.str (Str.ofString "bring") := fun e => n2 (V.str.inj e)
   refine ⟨_, rfl, a, _, 0, _, rfl, rfl, SqT.of ha, at_0 _ _, rfl, _, rfl, ?_⟩
   refine dec_false c1 ?_
   refine ⟨_, rfl, a, _, 0, _, rfl, rfl, SqT.of ha, at_0 _ _, rfl, _, rfl, ?_⟩
   refine dec_false c2 ?_
   refine ⟨_, rfl, a, _, 1, _, rfl, rfl, SqT.of ha, at_1 _ _ _, sz (by simp), fun p1 h1 => ?_⟩
   have t1 := Same.upd (o := .tup [.str x, .bl true]) h1
   refine ⟨_, rfl, a, _, 2, _, rfl, rfl, SqT.of (t1 _ _ ha), at_2' _ _ _ _, _, rfl, a, _, 0, _, rfl, rfl, SqT.of (t1 _ _ ha), at_0 _ _, rfl, sz (by simp), fun p2 h2 => ⟨sz (by simp), fun l hl => ?_⟩⟩
   have ed : decide (V.str w = V.str (Str.ofString "fill")) = decide (w = Str.ofString "fill") := by
    by_cases e : w = Str.ofString "fill"
    ·rw [e]; rfl
    ·rw [decide_eq_false e, decide_eq_false fun z => e (V.str.inj z)]
   rw [ed] at hl ⊢
   have t2 := Same.upd (o := .tup [.str y, .bl (decide (w = Str.ofString "fill"))]) h2
   have t3 := Same.upd (o := .lst [.ref p1, .ref p2]) hl
   exact k l [.ref p1, .ref p2] _ (t1.trans (t2.trans t3)) upd_same (.cons ⟨p1, rfl, t3 _ _ (t2 _ _ upd_same)⟩ (.cons ⟨p2, rfl, t3 _ _ upd_same⟩ .nil))
end
end T09
namespace T09
open PySem L2 Tc
section
variable {P : Program} {w : World} {K : PySem.W.Frag} {mg : Str → Option Value} {base : Heap}
noncomputable abbrev s_check_place : Stmt := top 20
theorem sc_check_place : FnScope ["name", "kinds", "cask", "kind"] ["name", "kinds", "cask"] (defScope s_check_place) := ⟨rfl, rfl, rfl, by decide +kernel, rfl, by decide +kernel, by decide +kernel⟩
theorem ok_check_place {ca : Ca} (D : DefAt K mg "check_place" s_check_place) (T : Txt K mg ca) : FnAt P w K mg base (CXE P w) 1 "check_place" ["name", "kinds", "cask"] (spCp (cl3 ca.NoPlace ca.NoCask ca.NoRule)) := by
 refine D.okE sc_check_place (fun vs H Q E h => ?_) (fun _ _ _ _ _ _ us hl => match us, hl with | [_, _, _], _ => rfl) (fun f cdv A outer s H vs Q E hr h => ?_)
 ·obtain ⟨z, kk, c, kv, kd, rfl, hk, hkd, hz, k, kE⟩ := h; rfl
 ·obtain ⟨z, kk, c, kv, kd, rfl, hk, hkd, hz, k, kE⟩ := h
  have nd := sc_check_place.nd
  refine ⟨_, (@pss_cons _ _ _ _ _ (@ps_set _ _ 3 _ _ _ _ nd rfl (Or.inl rfl) (pe_dget1 (hu_of hr) (pv 1) (pv 0) ⟨by rfl, by rfl, by rfl, by rfl⟩) (by rfl) (Or.inl rfl))
   (@pss_cons _ _ _ _ _ (ps_if (pt_cmpR op_isN (pv 3) pe_non (nomark _)) (@pss_one _ _ _ (ps_raise raises_cx rfl (by rfl) T.c_NoPlace T.e_NoPlace PySem.F.excBase_ValueError (@pa_cons _ _ _ _ _ (pe_js (.cons pe_str (.cons (pe_fmtS (pv 0)) .nil))) pa_nil (by rfl)))) pss_nil)
   (@pss_one _ _ _ (ps_if (PW.pt (pw_and (pt_val (pv 2)) (pw_and1 (pt_cmpR op_eq (pv 3) pe_str (nomark _))))) (@pss_one _ _ _ (ps_raise raises_cx rfl (by rfl) T.c_NoCask T.e_NoCask PySem.F.excBase_ValueError (@pa_cons _ _ _ _ _ (pe_js (.cons (pe_fmtS (pv 0)) (.cons pe_str .nil))) pa_nil (by rfl)))) pss_nil)))), ?_⟩
  have g := DGet.k (k := .inr z) hk
  rw [hkd z] at g
  refine ⟨_, rfl, kk, rfl, .inl ⟨kv, .inl hk⟩, _, rfl, _, g, ?_⟩
  cases e : kd z with
  | none =>
   refine ⟨_, rfl, rfl, _, rfl, ?_⟩
   refine iteT ?_
   have l1 : (Str.ofString "there is no place ").length ≤ 60 := by decide +kernel
   exact ⟨_, rfl, Nat.le_trans (jl je l1) (by decide), _, rfl, z, rfl, Nat.le_trans hz (by decide), _, rfl, Nat.le_trans (jl (jl je l1) hz) (by decide), Nat.le_trans (jl (jl je l1) hz) (by decide), sz (by simp), kE .np (jP_none e)⟩
  | some kn =>
   refine ⟨_, rfl, rfl, _, rfl, ?_⟩
   refine iteF ?_
   refine ⟨_, rfl, _, rfl, ?_⟩
   refine ite2 (fun h => ?_) (fun h => iteF (k ?_))
   ·refine ⟨_, rfl, rfl, _, rfl, ?_⟩
    refine ite2 (fun h2 => ?_) (fun h2 => k ?_)
    ·have l1 : (Str.ofString " is a sink").length ≤ 60 := by decide +kernel
     refine ⟨_, rfl, z, rfl, Nat.le_trans hz (by decide), _, rfl, Nat.le_trans (jl je hz) (by decide), _, rfl, Nat.le_trans (jl (jl je hz) l1) (by decide), Nat.le_trans (jl (jl je hz) l1) (by decide), sz (by simp), kE .nc ?_⟩
     rw [jP_some e, if_pos ⟨h, V.str.inj (of_decide_eq_true h2)⟩]
    ·rw [jP_some e, if_neg (fun z => h2 (decide_eq_true (congrArg V.str z.2)))]
   ·rw [jP_some e, if_neg (fun z => h z.1)]
end
end T09
namespace T09
open PySem L2 Tc
section
variable {P : Program} {w : World} {K : PySem.W.Frag} {mg : Str → Option Value} {base : Heap}
noncomputable abbrev s_check_plain : Stmt := top 21
theorem sc_check_plain : FnScope ["deed", "kinds", "places", "name", "cask"] ["deed", "kinds"] (defScope s_check_plain) := ⟨rfl, rfl, rfl, by decide +kernel, rfl, by decide +kernel, by decide +kernel⟩
theorem ok_check_plain {ca : Ca} (D : DefAt K mg "check_plain" s_check_plain) (T : Txt K mg ca) (G_wanted : FnAt P w K mg base CX0 1 "wanted" ["deed"] (spW8)) (G_check_place : FnAt P w K mg base (CXE P w) 1 "check_place" ["name", "kinds", "cask"] (spCp (cl3 ca.NoPlace ca.NoCask ca.NoRule))) : FnAt P w K mg base (CXE P w) 2 "check_plain" ["deed", "kinds"] (spCl (cl3 ca.NoPlace ca.NoCask ca.NoRule)) := by
 refine D.okE sc_check_plain (fun vs H Q E h => ?_) (fun _ _ _ _ _ _ us hl => match us, hl with | [_, _], _ => rfl) (fun f cdv A outer s H vs Q E hr h => ?_)
 ·obtain ⟨v, kk, ps, kv, kd, rfl, hv, hsh, hk, hkd, k, kE⟩ := h; rfl
 ·obtain ⟨v, kk, ps, kv, kd, rfl, hv, hsh, hk, hkd, k, kE⟩ := h
  have nd := sc_check_plain.nd
  refine ⟨_, (@pss_cons _ _ _ _ _ (@ps_set _ _ 2 _ _ _ _ nd rfl (Or.inl rfl) (pe_fn G_wanted hr (by rfl) pass0 (@pa_cons _ _ _ _ _ (pv 0) pa_nil (by rfl))) (by rfl) (Or.inl rfl))
   (@pss_cons _ _ _ _ _ (ps_for PassesOwn.leaving rfl (pi_list' (K := K) rfl (pv 2)) (pg_tup rfl (pgs_cons (pg_name (i := 3) nd rfl (Or.inl rfl)) (pgs_cons (pg_name (i := 4) nd rfl (Or.inl rfl)) pgs_nil))) (@pss_one _ _ _ (ps_expr (pe_fn G_check_place hr (by rfl) passE (@pa_cons _ _ _ _ _ (pv 3) (@pa_cons _ _ _ _ _ (pv 1) (@pa_cons _ _ _ _ _ (pv 4) pa_nil (by rfl)) (by rfl)) (by rfl))))))
   (@pss_one _ _ _ (ps_if (PW.pt (pw_and (pt_cmpR op_eq (pe_callB (call_len' (K := K) rfl) (by rfl) T.z_len PySem.boot_len (@pa_cons _ _ _ _ _ (pv 2) pa_nil (by rfl))) pe_int (nomark _)) (pw_and1 (pt_cmpR op_eq (pe_ix (ix_tup' (K := K) rfl) (pe_ix (ix_list' (K := K) rfl) (pv 2) pe_int (fun _ _ => rfl)) pe_int (fun _ _ => rfl)) (pe_ix (ix_tup' (K := K) rfl) (pe_ix (ix_list' (K := K) rfl) (pv 2) pe_int (fun _ _ => rfl)) pe_int (fun _ _ => rfl)) (nomark _))))) (@pss_one _ _ _ (ps_raise raises_cx rfl (by rfl) T.c_NoCask T.e_NoCask PySem.F.excBase_ValueError (@pa_cons _ _ _ _ _ pe_str pa_nil (by rfl)))) pss_nil)))), ?_⟩
  refine ⟨_, rfl, v, ps, rfl, hv, fun l ts H1 s1 hl hP => ?_⟩
  have hk1 := s1 _ _ hk
  refine ⟨_, rfl, l, rfl, ⟨_, SqL.of hl⟩, ?_⟩
  refine for_list (xs := ts) (fun i σ H2 => ∃ v3 v4 : Option V, σ = [some v, some (.ref kk), some (.ref l), v3, v4] ∧ H2 = H1 ∧ (ps.take i).findSome? (jP kd) = none) ⟨none, none, rfl, rfl, rfl⟩ ?_ ?_ ?_
  ·rintro i σ H2 hi ⟨v3, v4, rfl, rfl, _⟩
   exact SqL.of hl
  ·rintro i x σ H2 hx ⟨v3, v4, rfl, rfl, hf⟩
   obtain ⟨p, hp, hw⟩ := paired_get hP hx
   obtain ⟨b, rfl, hb⟩ := hw
   have et : (ps.take (i + 1)).findSome? (jP kd) = jP kd p := by
    rw [List.take_add_one, hp, List.findSome?_append, hf]
    show [p].findSome? (jP kd) = _
    simp [List.findSome?]
    cases jP kd p <;> rfl
   refine ⟨b, _, rfl, SqT.of hb, rfl, _, _, rfl, _, _, rfl, rfl, ?_⟩
   refine ⟨_, rfl, _, rfl, _, rfl, p.1, kk, p.2, kv, kd, rfl, hk1, hkd, hsh p (List.mem_of_getElem? hp), fun hn => ⟨_, _, rfl, rfl, et.trans hn⟩, fun q hq => kE q ?_ H2 s1⟩
   have e2 : ps.findSome? (jP kd) = some q := by
    rw [← List.take_append_drop (i + 1) ps, List.findSome?_append, et, hq]; rfl
   show (match ps.findSome? (jP kd) with | some k => some k | none => if twin ps = true then some Kd.nc else none) = some q
   rw [e2]
  ·rintro σ H2 ⟨v3, v4, rfl, rfl, hf⟩
   have el : ps.take ts.length = ps := by rw [hP.length, List.take_length]
   rw [el] at hf
   have ej : jU kd (fun _ => none) (.pl ps) = if twin ps = true then some Kd.nc else none := by
    show (match ps.findSome? (jP kd) with | some k => some k | none => if twin ps = true then some Kd.nc else none) = _
    rw [hf]
   rw [ej] at k kE
   have tl := hP.length
   refine ⟨_, rfl, _, _, rfl, .inl ⟨_, SqL.of hl, rfl⟩, rfl, _, rfl, ?_⟩
   refine ite2 (fun h => ?_) (fun h => iteF (k ?_ _ s1))
   ·have h2 : ts.length = 2 := by
     have := V.int.inj (of_decide_eq_true h)
     omega
    match ps, hP, tl with
    | [p, q], .cons ⟨b1, e1, h1⟩ (.cons ⟨b2, e2, h2⟩ .nil), _ =>
     subst e1 e2
     refine ⟨_, rfl, l, _, 0, _, rfl, rfl, SqL.of hl, rfl, b1, _, 0, _, rfl, rfl, SqT.of h1, rfl, _, rfl, l, _, 1, _, rfl, rfl, SqL.of hl, rfl, b2, _, 0, _, rfl, rfl, SqT.of h2, rfl, rfl, _, rfl, ?_⟩
     refine ite2 (fun h3 => ?_) (fun h3 => k ?_ _ s1)
     ·exact ⟨sz (by simp), kE .nc (by rw [if_pos]; exact decide_eq_true (V.str.inj (of_decide_eq_true h3))) _ s1⟩
     ·rw [if_neg]
      exact fun z => h3 (decide_eq_true (congrArg V.str (of_decide_eq_true z)))
    | [], _, z => rw [h2] at z; cases z
    | [_], _, z => rw [h2] at z; cases z
    | _ :: _ :: _ :: _, _, z => rw [h2] at z; simp at z
   ·rw [twin_ne (fun z => h (decide_eq_true (congrArg V.int (by rw [tl, z]; rfl))))]
    rfl
end
end T09
namespace T09
open PySem L2 Tc
section
variable {P : Program} {w : World} {K : PySem.W.Frag} {mg : Str → Option Value} {base : Heap}
noncomputable abbrev s_many_of : Stmt := top 22
theorem sc_many_of : FnScope ["deeds", "counts", "many", "deed"] ["deeds", "counts"] (defScope s_many_of) := ⟨rfl, rfl, rfl, by decide +kernel, rfl, by decide +kernel, by decide +kernel⟩
theorem ok_many_of {ca : Ca} (D : DefAt K mg "many_of" s_many_of) (T : Txt K mg ca) : ∀ d, FnAt P w K mg base CX0 (d + 1) "many_of" ["deeds", "counts"] (spM9 K d) := by
 intro d
 induction d with
 | zero =>
  refine D.ok sc_many_of (fun vs H Q E h => ?_) (fun _ _ _ _ _ _ us hl => match us, hl with | [_, _], _ => rfl) (fun f cdv A outer s H vs Q E hr h => ?_)
  ·exact False.elim (by obtain ⟨_, _, _, _, _, _, _, _, _, _, e, _⟩ := h; omega)
  ·exact False.elim (by obtain ⟨_, _, _, _, _, _, _, _, _, _, e, _⟩ := h; omega)
 | succ d G_many_of =>
 refine D.ok sc_many_of (fun vs H Q E h => ?_) (fun _ _ _ _ _ _ us hl => match us, hl with | [_, _], _ => rfl) (fun f cdv A outer s H vs Q E hr h => ?_)
 ·obtain ⟨a, ac, us, T0, cv, cc, e, rfl, ha, hT, ed, hdep, hc, hhas, hmok, k⟩ := h; rfl
 ·obtain ⟨a, ac, us, T0, cv, cc, e, rfl, ha, hT, ed, hdep, hc, hhas, hmok, k⟩ := h
  have nd := sc_many_of.nd
  refine ⟨_, (@pss_cons _ _ _ _ _ (@ps_set _ _ 2 _ _ _ _ nd rfl (Or.inl rfl) pe_int (by rfl) (Or.inl rfl))
   (@pss_cons _ _ _ _ _ (ps_for PassesOwn.never rfl (pi_tup' (K := K) rfl (pv 0)) (pg_name (i := 3) nd rfl (Or.inl rfl)) (@pss_one _ _ _ (ps_if (pt_cmpR op_eq (pe_ix (ix_tup' (K := K) rfl) (pv 3) pe_int (fun _ _ => rfl)) pe_str (nomark _)) (@pss_one _ _ _ (ps_aug (i := 2) nd rfl (Or.inl rfl) (@pe_op _ _ _ _ _ _ _ _ op_mulB (pe_ix (ix_tup' (K := K) rfl) (pv 3) pe_int (fun _ _ => rfl)) (pe_fn G_many_of hr (by rfl) pass0 (@pa_cons _ _ _ _ _ (pe_ix (ix_tup' (K := K) rfl) (pv 3) pe_int (fun _ _ => rfl)) (@pa_cons _ _ _ _ _ (pv 1) pa_nil (by rfl)) (by rfl)) (by omega))) ip_add)) (@pss_one _ _ _ (ps_if (pt_cmpR op_eq (pe_ix (ix_tup' (K := K) rfl) (pv 3) pe_int (fun _ _ => rfl)) pe_str (nomark _)) (@pss_one _ _ _ (ps_aug (i := 2) nd rfl (Or.inl rfl) (pe_dget (hu_of hr) (pv 1) (pe_ix (ix_tup' (K := K) rfl) (pv 3) pe_int (fun _ _ => rfl)) (fun _ _ => rfl)) ip_add)) (@pss_one _ _ _ (ps_aug (i := 2) nd rfl (Or.inl rfl) pe_int ip_add)))))))
   (@pss_one _ _ _ (ps_ret (pv 2))))), ?_⟩
  refine ⟨_, rfl, a, rfl, ⟨_, SqT.of ha⟩, ?_⟩
  refine for_tup (xs := us) (fun i σ H1 => ∃ (v3 : Option V) (T' : Ts) (m : Int), σ = [some (.ref a), some (.ref ac), some (.int m), v3] ∧ H1 = H ∧ TsV H T' (us.drop i) ∧ T'.dep ≤ e ∧ T'.has (fun r => valV cv (.inr r) = some (.int (cc r))) ∧ T'.mok cc ∧ m + T'.cnt cc = T0.cnt cc) ⟨none, T0, 0, rfl, rfl, hT, hdep, hhas, hmok, Int.zero_add _⟩ ?_ ?_ ?_
  ·rintro i σ H1 hi ⟨v3, T', m, rfl, rfl, _⟩
   exact SqT.of ha
  ·rintro i x σ H1 hx ⟨v3, T', m, rfl, rfl, hT', hd', hh', hm', eT⟩
   have hi : i < us.length := (List.getElem?_eq_some_iff.mp hx).1
   have ex : us.drop i = x :: us.drop (i + 1) := by
    rw [List.drop_eq_getElem_cons hi]
    congr 1
    exact (List.getElem?_eq_some_iff.mp hx).2
   rw [ex] at hT'
   cases T' with
   | nil => cases hT'
   | pl d r =>
    obtain ⟨v, vs, e1, hv, hok, hr⟩ := hT'
    obtain ⟨rfl, rfl⟩ := List.cons.inj e1
    obtain ⟨b, w, r2, rfl, hb, n1, n2⟩ := P9V.head hv hok
    refine ⟨_, rfl, b, _, 0, _, rfl, rfl, SqT.of hb, at_0 _ _, rfl, _, rfl, ?_⟩
    refine dec_false (fun e => n1 (V.str.inj e)) ?_
    refine ⟨_, rfl, b, _, 0, _, rfl, rfl, SqT.of hb, at_0 _ _, rfl, _, rfl, ?_⟩
    refine dec_false (fun e => n2 (V.str.inj e)) ?_
    refine ⟨_, rfl, _, _, rfl, rfl, ?_⟩
    refine ⟨_, r, m + 1, rfl, rfl, hr, hd', hh', hm', ?_⟩
    have eT : m + (1 + r.cnt cc) = T0.cnt cc := eT
    omega
   | dd n ps r =>
    obtain ⟨v, vs, e1, hv, hpl, hr⟩ := hT'
    obtain ⟨rfl, rfl⟩ := List.cons.inj e1
    obtain ⟨b, q, rfl, hb, hq⟩ := hv
    have g := DGet.k (k := .inr n) hc
    rw [hh'.1] at g
    refine ⟨_, rfl, b, _, 0, _, rfl, rfl, SqT.of hb, rfl, rfl, _, rfl, ?_⟩
    refine dec_false (by decide +kernel) ?_
    refine ⟨_, rfl, b, _, 0, _, rfl, rfl, SqT.of hb, rfl, rfl, _, rfl, ?_⟩
    refine dec_true rfl ?_
    refine ⟨_, rfl, _, rfl, _, rfl, b, _, 1, _, rfl, rfl, SqT.of hb, rfl, ac, _, rfl, g, _, _, rfl, rfl, ?_⟩
    refine ⟨_, r, m + cc n, rfl, rfl, hr, hd', hh'.2, hm', ?_⟩
    have eT : m + (cc n + r.cnt cc) = T0.cnt cc := eT
    omega
   | tm n b0 r =>
    obtain ⟨b, t, us1, vs, e1, hb, ht, n60, hb1, hr⟩ := hT'
    obtain ⟨rfl, rfl⟩ := List.cons.inj e1
    have hd' : max (b0.dep + 1) r.dep ≤ e := hd'
    refine ⟨_, rfl, b, _, 0, _, rfl, rfl, SqT.of hb, rfl, rfl, _, rfl, ?_⟩
    refine dec_true rfl ?_
    refine ⟨_, rfl, _, rfl, b, _, 1, _, rfl, rfl, SqT.of hb, rfl, _, rfl, b, _, 2, _, rfl, rfl, SqT.of hb, rfl, _, rfl, t, ac, us1, b0, cv, cc, e - 1, rfl, ht, hb1, by omega, by omega, hc, hh'.1, hm'.2.1, ?_⟩
    refine ⟨_, _, rfl, rfl, hm'.1, _, _, rfl, rfl, ?_⟩
    refine ⟨_, r, m + (n : Int) * b0.cnt cc, rfl, rfl, hr, by omega, hh'.2, hm'.2.2, ?_⟩
    have eT : m + ((n : Int) * b0.cnt cc + r.cnt cc) = T0.cnt cc := eT
    omega
  ·rintro σ H1 ⟨v3, T', m, rfl, rfl, hT', hd', hh', hm', eT⟩
   rw [List.drop_length] at hT'
   cases T' with
   | nil =>
    have eT : m + 0 = T0.cnt cc := eT
    rw [← eT, Int.add_zero] at k
    exact ⟨_, rfl, k⟩
   | pl _ _ => obtain ⟨_, _, e, _⟩ := hT'; cases e
   | dd _ _ _ => obtain ⟨_, _, e, _⟩ := hT'; cases e
   | tm _ _ _ => obtain ⟨_, _, _, _, e, _⟩ := hT'; cases e
end
end T09
namespace T09
open PySem L2 Tc
section
variable {P : Program} {w : World} {K : PySem.W.Frag} {mg : Str → Option Value} {base : Heap}
noncomputable abbrev s_with_places : Stmt := top 23
theorem sc_with_places : FnScope ["deed", "stead"] ["deed", "stead"] (defScope s_with_places) := ⟨rfl, rfl, rfl, by decide +kernel, rfl, by decide +kernel, by decide +kernel⟩
theorem ok_with_places {ca : Ca} (D : DefAt K mg "with_places" s_with_places) (T : Txt K mg ca) : FnAt P w K mg base CX0 1 "with_places" ["deed", "stead"] (spWi9 K) := by
 refine D.ok sc_with_places (fun vs H Q E h => ?_) (fun _ _ _ _ _ _ us hl => match us, hl with | [_, _], _ => rfl) (fun f cdv A outer s H vs Q E hr h => ?_)
 ·obtain ⟨v, st, d, f, sv, rfl, hv, hok, hst, hsv, k⟩ := h; rfl
 ·obtain ⟨v, st, d, f, sv, rfl, hv, hok, hst, hsv, k⟩ := h
  have nd := sc_with_places.nd
  refine ⟨_, (@pss_cons _ _ _ _ _ (ps_if (pt_cmpR op_eq (pe_ix (ix_tup' (K := K) rfl) (pv 0) pe_int (fun _ _ => rfl)) pe_str (nomark _)) (@pss_one _ _ _ (ps_ret (pv 0))) pss_nil)
   (@pss_cons _ _ _ _ _ (ps_if (pt_cmpR op_eq (pe_ix (ix_tup' (K := K) rfl) (pv 0) pe_int (fun _ _ => rfl)) pe_str (nomark _)) (@pss_one _ _ _ (ps_ret (@pe_tup _ _ _ _ _ (@pa_cons _ _ _ _ _ (pe_ix (ix_tup' (K := K) rfl) (pv 0) pe_int (fun _ _ => rfl)) (@pa_cons _ _ _ _ _ (pe_ix (ix_tup' (K := K) rfl) (pv 0) pe_int (fun _ _ => rfl)) (@pa_cons _ _ _ _ _ (pe_dget2 (hu_of hr) (pv 1) (pe_ix (ix_tup' (K := K) rfl) (pv 0) pe_int (fun _ _ => rfl)) (pe_ix (ix_tup' (K := K) rfl) (pv 0) pe_int (fun _ _ => rfl)) ⟨by rfl, by rfl, by rfl, by rfl⟩) (@pa_cons _ _ _ _ _ (pe_ix (ix_tup' (K := K) rfl) (pv 0) pe_int (fun _ _ => rfl)) pa_nil (by rfl)) (by rfl)) (by rfl)) (by rfl))))) pss_nil)
   (@pss_one _ _ _ (ps_ret (@pe_op _ _ _ _ _ _ _ _ (op_catW (K := K) rfl) (@pe_tup _ _ _ _ _ (@pa_cons _ _ _ _ _ (pe_ix (ix_tup' (K := K) rfl) (pv 0) pe_int (fun _ _ => rfl)) (@pa_cons _ _ _ _ _ (pe_dget2 (hu_of hr) (pv 1) (pe_ix (ix_tup' (K := K) rfl) (pv 0) pe_int (fun _ _ => rfl)) (pe_ix (ix_tup' (K := K) rfl) (pv 0) pe_int (fun _ _ => rfl)) ⟨by rfl, by rfl, by rfl, by rfl⟩) (@pa_cons _ _ _ _ _ (pe_dget2 (hu_of hr) (pv 1) (pe_ix (ix_tup' (K := K) rfl) (pv 0) pe_int (fun _ _ => rfl)) (pe_ix (ix_tup' (K := K) rfl) (pv 0) pe_int (fun _ _ => rfl)) ⟨by rfl, by rfl, by rfl, by rfl⟩) pa_nil (by rfl)) (by rfl)) (by rfl))) (pe_slice (sl_tup' (K := K) rfl) (pv 0) (po_some pe_int) po_none)))))), ?_⟩
  cases d with
  | yr =>
   obtain ⟨a, rfl, ha⟩ := id hv
   refine ⟨_, rfl, a, _, 0, _, rfl, rfl, SqT.of ha, rfl, rfl, _, rfl, ?_⟩
   refine dec_true rfl ?_
   exact ⟨_, rfl, k _ _ (Same.refl _) hv⟩
  | br n x p q =>
   obtain ⟨a, b, rfl, ha, hb⟩ := hv
   have g1 := DGet.k (k := x) hst
   refine ⟨_, rfl, a, _, 0, _, rfl, rfl, SqT.of ha, rfl, rfl, _, rfl, ?_⟩
   refine dec_false (by decide +kernel) ?_
   refine ⟨_, rfl, a, _, 0, _, rfl, rfl, SqT.of ha, rfl, rfl, _, rfl, ?_⟩
   refine dec_true rfl ?_
   refine ⟨_, rfl, a, _, 0, _, rfl, rfl, SqT.of ha, rfl, _, rfl, a, _, 1, _, rfl, rfl, SqT.of ha, rfl, _, rfl, st, rfl, .inl ⟨sv, .inl hst⟩, _, rfl, a, _, 2, _, rfl, rfl, SqT.of ha, rfl, _, rfl, a, _, 2, _, rfl, rfl, SqT.of ha, rfl, _, g1, _, rfl, a, _, 3, _, rfl, rfl, SqT.of ha, rfl, sz (by simp), fun r hr2 => ?_⟩
   rw [hsv x]
   have t1 := Same.upd (o := .tup [.str (Str.ofString "bring"), .str n, kV (f x), .ref b]) hr2
   exact k _ _ t1 ⟨r, b, rfl, upd_same, t1 _ _ hb⟩
  | tw w x y =>
   obtain ⟨a, rfl, ha⟩ := hv
   have g1 := DGet.k (k := x) hst
   have g2 := DGet.k (k := y) hst
   refine ⟨_, rfl, a, _, 0, _, rfl, rfl, SqT.of ha, rfl, rfl, _, rfl, ?_⟩
   refine dec_false (fun e => hok.1 (V.str.inj e)) ?_
   refine ⟨_, rfl, a, _, 0, _, rfl, rfl, SqT.of ha, rfl, rfl, _, rfl, ?_⟩
   refine dec_false (fun e => hok.2.1 (V.str.inj e)) ?_
   refine ⟨_, rfl, a, _, 0, _, rfl, rfl, SqT.of ha, rfl, _, rfl, st, rfl, .inl ⟨sv, .inl hst⟩, _, rfl, a, _, 1, _, rfl, rfl, SqT.of ha, rfl, _, rfl, a, _, 1, _, rfl, rfl, SqT.of ha, rfl, _, g1, _, rfl, st, rfl, .inl ⟨sv, .inl hst⟩, _, rfl, a, _, 2, _, rfl, rfl, SqT.of ha, rfl, _, rfl, a, _, 2, _, rfl, rfl, SqT.of ha, rfl, _, g2, sz (show 3 ≤ 1000 by decide), fun p hp => ?_⟩
   rw [hsv x, hsv y]
   have t1 := Same.upd (o := .tup [.str w, kV (f x), kV (f y)]) hp
   refine ⟨_, rfl, 3, rfl, a, _, rfl, SqT.of (t1 _ _ ha), (show ¬ (HT.sIx 3 0 (some 3) = 0 ∧ HT.sIx 3 3 none = 3) by decide), fun p2 hp2 => ?_⟩
   have t2 := Same.upd (o := .tup []) hp2
   exact ⟨p, p2, _, _, rfl, rfl, t2 _ _ upd_same, upd_same, sz (show 3 ≤ 1000 by decide), fun r H' s' hr => k _ _ (t1.trans (t2.trans s')) ⟨r, rfl, hr⟩⟩
  | tq w x y p q =>
   obtain ⟨a, b, rfl, ha, hb⟩ := hv
   have g1 := DGet.k (k := x) hst
   have g2 := DGet.k (k := y) hst
   refine ⟨_, rfl, a, _, 0, _, rfl, rfl, SqT.of ha, rfl, rfl, _, rfl, ?_⟩
   refine dec_false (fun e => hok.1 (V.str.inj e)) ?_
   refine ⟨_, rfl, a, _, 0, _, rfl, rfl, SqT.of ha, rfl, rfl, _, rfl, ?_⟩
   refine dec_false (fun e => hok.2.1 (V.str.inj e)) ?_
   refine ⟨_, rfl, a, _, 0, _, rfl, rfl, SqT.of ha, rfl, _, rfl, st, rfl, .inl ⟨sv, .inl hst⟩, _, rfl, a, _, 1, _, rfl, rfl, SqT.of ha, rfl, _, rfl, a, _, 1, _, rfl, rfl, SqT.of ha, rfl, _, g1, _, rfl, st, rfl, .inl ⟨sv, .inl hst⟩, _, rfl, a, _, 2, _, rfl, rfl, SqT.of ha, rfl, _, rfl, a, _, 2, _, rfl, rfl, SqT.of ha, rfl, _, g2, sz (show 3 ≤ 1000 by decide), fun p hp => ?_⟩
   rw [hsv x, hsv y]
   have t1 := Same.upd (o := .tup [.str w, kV (f x), kV (f y)]) hp
   refine ⟨_, rfl, 3, rfl, a, _, rfl, SqT.of (t1 _ _ ha), (show ¬ (HT.sIx 4 0 (some 3) = 0 ∧ HT.sIx 4 4 none = 4) by decide), fun p2 hp2 => ?_⟩
   have t2 := Same.upd (o := .tup [.ref b]) hp2
   exact ⟨p, p2, _, _, rfl, rfl, t2 _ _ upd_same, upd_same, sz (show 4 ≤ 1000 by decide), fun r H' s' hr => k _ _ (t1.trans (t2.trans s')) ⟨r, b, rfl, hr, (t1.trans (t2.trans s')) _ _ hb⟩⟩
end
end T09
namespace T09
open PySem L2 Tc
section
variable {P : Program} {w : World} {K : PySem.W.Frag} {mg : Str → Option Value} {base : Heap}
noncomputable abbrev s_unrolled : Stmt := top 24
theorem sc_unrolled : FnScope ["deeds", "stead", "bodies", "plain", "deed", "places"] ["deeds", "stead", "bodies"] (defScope s_unrolled) := ⟨rfl, rfl, rfl, by decide +kernel, rfl, by decide +kernel, by decide +kernel⟩
theorem ok_unrolled {ca : Ca} (D : DefAt K mg "unrolled" s_unrolled) (T : Txt K mg ca) (G_with_places : FnAt P w K mg base CX0 1 "with_places" ["deed", "stead"] (spWi9 K)) : ∀ d, FnAt P w K mg base CX0 (d + 2) "unrolled" ["deeds", "stead", "bodies"] (spU9 K d) := by
 intro d
 induction d with
 | zero =>
  refine D.ok sc_unrolled (fun vs H Q E h => ?_) (fun _ _ _ _ _ _ us hl => match us, hl with | [_, _, _], _ => rfl) (fun f cdv A outer s H vs Q E hr h => ?_)
  ·exact False.elim (by obtain ⟨_, _, _, _, _, _, _, _, _, _, _, _, _, e, _⟩ := h; omega)
  ·exact False.elim (by obtain ⟨_, _, _, _, _, _, _, _, _, _, _, _, _, e, _⟩ := h; omega)
 | succ d G_unrolled =>
 refine D.ok sc_unrolled (fun vs H Q E h => ?_) (fun _ _ _ _ _ _ us hl => match us, hl with | [_, _, _], _ => rfl) (fun f cdv A outer s H vs Q E hr h => ?_)
 ·obtain ⟨a, st, bd, us, T0, sv, bv, f, bod, e, rfl, ha, hT, ed, hdep, hst, hSv, hbd, huse, h200, k⟩ := h; rfl
 ·obtain ⟨a, st, bd, us, T0, sv, bv, f, bod, e, rfl, ha, hT, ed, hdep, hst, hSv, hbd, huse, h200, k⟩ := h
  have nd := sc_unrolled.nd
  refine ⟨_, (@pss_cons _ _ _ _ _ (@ps_set _ _ 3 _ _ _ _ nd rfl (Or.inl rfl) (@pe_lst _ _ _ _ pa_nil) (by rfl) (Or.inl rfl))
   (@pss_cons _ _ _ _ _ (ps_for PassesOwn.never rfl (pi_tup' (K := K) rfl (pv 0)) (pg_name (i := 4) nd rfl (Or.inl rfl)) (@pss_one _ _ _ (ps_if (pt_cmpR op_eq (pe_ix (ix_tup' (K := K) rfl) (pv 4) pe_int (fun _ _ => rfl)) pe_str (nomark _)) (@pss_one _ _ _ (ps_if (pt_cmpR op_gt (pe_ix (ix_tup' (K := K) rfl) (pv 4) pe_int (fun _ _ => rfl)) pe_int (nomark _)) (@pss_one _ _ _ (ps_expr (pe_bm PySem.F.plainAttrs_list PySem.F.slot_list_extend PySem.F.type_list_extend mt_extend (pv 3) (@pa_cons _ _ _ _ _ (@pe_op _ _ _ _ _ _ _ _ op_rep (pe_fn G_unrolled hr (by rfl) pass0 (@pa_cons _ _ _ _ _ (pe_ix (ix_tup' (K := K) rfl) (pv 4) pe_int (fun _ _ => rfl)) (@pa_cons _ _ _ _ _ (pv 1) (@pa_cons _ _ _ _ _ (pv 2) pa_nil (by rfl)) (by rfl)) (by rfl)) (by omega)) (pe_ix (ix_tup' (K := K) rfl) (pv 4) pe_int (fun _ _ => rfl))) pa_nil (by rfl))))) pss_nil)) (@pss_one _ _ _ (ps_if (pt_cmpR op_eq (pe_ix (ix_tup' (K := K) rfl) (pv 4) pe_int (fun _ _ => rfl)) pe_str (nomark _)) (@pss_cons _ _ _ _ _ (@ps_set _ _ 5 _ _ _ _ nd rfl (Or.inr rfl) (pe_dictEnum (K := K) rfl rfl (by rfl) T.z_dict (by rfl) T.z_enumerate (@pa_cons _ _ _ _ _ (pe_comp ["name"] ["stead"] [1] rfl (by rfl) (pi_tup' (K := K) rfl (pe_ix (ix_tup' (K := K) rfl) (pv 4) pe_int (fun _ _ => rfl))) (fun _ _ _ _ => (pg_name (i := 0) (show List.Nodup (["name", "stead"] : List Str) from by decide) rfl (Or.inl rfl))) (fun _ _ _ _ => pif_none) (fun _ _ _ _ => (pe_dget2 (hu_of hr) (pv 1) (pv 0) (pv 0) ⟨by rfl, by rfl, by rfl, by rfl⟩))) pa_nil (by rfl))) (by rfl) (Or.inl rfl))
   (@pss_one _ _ _ (ps_expr (pe_bm PySem.F.plainAttrs_list PySem.F.slot_list_extend PySem.F.type_list_extend mt_extend (pv 3) (@pa_cons _ _ _ _ _ (pe_comp ["one"] ["places"] [5] rfl (by rfl) (pi_list' (K := K) rfl (pe_dget (hu_of hr) (pv 2) (pe_ix (ix_tup' (K := K) rfl) (pv 4) pe_int (fun _ _ => rfl)) (fun _ _ => rfl))) (fun _ _ _ _ => (pg_name (i := 0) (show List.Nodup (["one", "places"] : List Str) from by decide) rfl (Or.inl rfl))) (fun _ _ _ _ => pif_none) (fun _ _ _ _ => (pe_fn G_with_places hr (by rfl) pass0 (@pa_cons _ _ _ _ _ (pv 0) (@pa_cons _ _ _ _ _ (pv 1) pa_nil (by rfl)) (by rfl)) (by omega)))) pa_nil (by rfl)))))) (@pss_one _ _ _ (ps_expr (pe_bm PySem.F.plainAttrs_list PySem.F.slot_list_append PySem.F.type_list_append mt_append (pv 3) (@pa_cons _ _ _ _ _ (pe_fn G_with_places hr (by rfl) pass0 (@pa_cons _ _ _ _ _ (pv 4) (@pa_cons _ _ _ _ _ (pv 1) pa_nil (by rfl)) (by rfl)) (by omega)) pa_nil (by rfl))))))))))
   (@pss_one _ _ _ (ps_ret (pv 3))))), ?_⟩
  refine ⟨sz (by simp), fun l hl => ?_⟩
  have i0 := Same.upd (o := .lst []) hl
  refine ⟨_, rfl, a, rfl, ⟨_, SqT.of (i0 _ _ ha)⟩, ?_⟩
  refine for_tup (xs := us) (fun i σ H1 => ∃ (v4 v5 : Option V) (rs : List V) (ds : List P9) (T' : Ts), σ = [some (.ref a), some (.ref st), some (.ref bd), some (.ref l), v4, v5] ∧ Same H H1 ∧ H1 l = some (.lst rs) ∧ Paired (P9V H1) rs ds ∧ TsV H T' (us.drop i) ∧ T'.dep ≤ e ∧ T'.use (bod9 H bv bod) ∧ ds ++ unr f bod T' = unr f bod T0) ⟨none, none, [], [], T0, rfl, i0, upd_same, .nil, hT, hdep, huse, rfl⟩ ?_ ?_ ?_
  ·rintro i σ H1 hi ⟨v4, v5, rs, ds, T', rfl, s1, _⟩
   exact SqT.of (s1 _ _ ha)
  ·rintro i x σ H1 hx ⟨v4, v5, rs, ds, T', rfl, s1, h1, hPd, hT', hd', hu', eU⟩
   have hi : i < us.length := (List.getElem?_eq_some_iff.mp hx).1
   have ex : us.drop i = x :: us.drop (i + 1) := by
    rw [List.drop_eq_getElem_cons hi]
    congr 1
    exact (List.getElem?_eq_some_iff.mp hx).2
   rw [ex] at hT'
   have hst1 := s1 _ _ hst
   have hrl := hPd.length
   have htot : ds.length + (unr f bod T').length ≤ 200 := by rw [← List.length_append, eU]; exact h200
   cases T' with
   | nil => cases hT'
   | pl d r =>
    obtain ⟨v, vs, e1, hv, hok, hr⟩ := hT'
    obtain ⟨rfl, rfl⟩ := List.cons.inj e1
    have hv1 := hv.ts s1.ts
    obtain ⟨b, w, r2, rfl, hb, n1, n2⟩ := P9V.head hv1 hok
    refine ⟨_, rfl, b, _, 0, _, rfl, rfl, SqT.of hb, at_0 _ _, rfl, _, rfl, ?_⟩
    refine dec_false (fun e => n1 (V.str.inj e)) ?_
    refine ⟨_, rfl, b, _, 0, _, rfl, rfl, SqT.of hb, at_0 _ _, rfl, _, rfl, ?_⟩
    refine dec_false (fun e => n2 (V.str.inj e)) ?_
    refine ⟨_, rfl, .inl ⟨rfl, _, SqL.of h1⟩, _, rfl, _, rfl, _, st, d, f, sv, rfl, hv1, hok, hst1, hSv, fun v' H2 s2 hv' => ⟨l, _, _, rfl, rfl, s2 _ _ h1, sz (by omega), ?_⟩⟩
    have tL := TSame.updL (o := .lst (rs ++ [v'])) (s2 _ _ h1)
    refine ⟨_, _, rs ++ [v'], ds ++ [d.sub f], r, rfl, (s1.trans s2).updD hl, upd_same, ?_, hr, hd', hu', ?_⟩
    ·exact Paired.app (Paired.mapP hPd fun _ _ h => (h.ts s2.ts).ts tL) (.cons (hv'.ts tL) .nil)
    ·rw [← eU, List.append_assoc]; rfl
   | dd n ps r =>
    obtain ⟨v, vs, e1, hv, hpl, hr⟩ := hT'
    obtain ⟨rfl, rfl⟩ := List.cons.inj e1
    obtain ⟨b, q, rfl, hb, hq⟩ := hv.ts s1.ts
    obtain ⟨lr, bs, vb, hlr, hPb, hbok⟩ := hu'.1
    have g := DGet.k (k := .inr n) hbd
    rw [vb] at g
    refine ⟨_, rfl, b, _, 0, _, rfl, rfl, SqT.of hb, rfl, rfl, _, rfl, ?_⟩
    refine dec_false (by decide +kernel) ?_
    refine ⟨_, rfl, b, _, 0, _, rfl, rfl, SqT.of hb, rfl, rfl, _, rfl, ?_⟩
    refine dec_true rfl ?_
    refine ⟨_, rfl, b, _, 2, _, rfl, rfl, SqT.of hb, rfl, q, rfl, ⟨_, SqT.of hq⟩, fun D hD => ?_⟩
    refine block_tup (xs := ps.map V.str) (fun j σ' H' => ∃ v : Option V, σ' = [v, some (.ref st)] ∧ Same H1 H' ∧ H' D = some (.lst (((ps.take j).map fun p => f (.inr p)).map kV))) ⟨none, rfl, Same.upd hD, upd_same⟩ ?_ ?_ ?_
    ·rintro j σ' H' hj ⟨v, rfl, s2, hd2⟩
     exact SqT.of (s2 _ _ hq)
    ·rintro j z σ' H' hz ⟨v, rfl, s2, hd2⟩
     rw [List.getElem?_map] at hz
     obtain ⟨p, hp, rfl⟩ := Option.map_eq_some_iff.mp hz
     have hj : j < ps.length := (List.getElem?_eq_some_iff.mp hp).1
     have hs2 := s2 _ _ hst1
     refine ⟨_, rfl, st, rfl, .inl ⟨sv, .inl hs2⟩, _, rfl, _, rfl, _, DGet.k (k := .inr p) hs2, _, hd2, by rw [List.length_map, List.length_map, List.length_take]; exact sz (by omega), _, rfl, s2.updD hD, ?_⟩
     have gF : (valV sv (.inr p)).getD (V.str p) = kV (f (.inr p)) := hSv (.inr p)
     rw [upd_same, gF, List.take_add_one, hp, List.map_append, List.map_append]; rfl
    rintro σ' H3 ⟨v, rfl, s2, hd2⟩
    rw [List.length_map, List.take_length] at hd2
    let zs : List Key := ps.map fun p => f (.inr p)
    have hd2 : H3 D = some (.lst (zs.map kV)) := hd2
    refine ⟨D, zs.map kV, rfl, SqL.of hd2, (by rw [List.length_map, List.length_map]; omega), fun pp hpp => ?_⟩
    have t1 := Same.upd (o := .dK (numV (zs.map kV))) hpp
    have s3 := s2.trans t1
    have hlr3 := s3 _ _ (s1 _ _ hlr)
    have hb3 := s3 _ _ hb
    have hbd3 := s3 _ _ (s1 _ _ hbd)
    have g3 := DGet.k (k := .inr n) hbd3
    rw [vb] at g3
    have hPb3 := Paired.mapP hPb fun _ _ h => (h.ts s1.ts).ts s3.ts
    have hbl := hPb.length
    have hb200 : (bod n).length ≤ 200 := by
     have e2 : (unr f bod (.dd n ps r)).length = (bod n).length + (unr f bod r).length := by
      show ((bod n).map _ ++ unr f bod r).length = _
      rw [List.length_append, List.length_map]
     omega
    refine ⟨_, rfl, .inl ⟨rfl, _, SqL.of (s3 _ _ h1)⟩, _, rfl, _, rfl, b, _, 1, _, rfl, rfl, SqT.of hb3, rfl, bd, _, rfl, g3, lr, rfl, ⟨_, SqL.of hlr3⟩, fun D2 hD2 => ?_⟩
    refine block_list (xs := bs) (fun j σ' H' => ∃ (v : Option V) (ws : List V), σ' = [v, some (.ref pp)] ∧ Same (upd H3 pp (.dK (numV (zs.map kV)))) H' ∧ H' D2 = some (.lst ws) ∧ Paired (P9V H') ws (((bod n).take j).map (P9.sub (numF zs)))) ⟨none, [], rfl, Same.upd hD2, upd_same, .nil⟩ ?_ ?_ ?_
    ·rintro j σ' H' hj ⟨v, ws, rfl, s4, _⟩
     exact SqL.of (s4 _ _ hlr3)
    ·rintro j z σ' H' hz ⟨v, ws, rfl, s4, hd4, hwP⟩
     obtain ⟨d, hd, hzu⟩ := paired_get hPb3 hz
     have hj : j < (bod n).length := (List.getElem?_eq_some_iff.mp hd).1
     have hwl := hwP.length
     rw [List.length_map, List.length_take] at hwl
     refine ⟨_, rfl, _, rfl, z, pp, d, numF zs, numV (zs.map kV), rfl, hzu.ts s4.ts, hbok d (List.mem_of_getElem? hd), s4 _ _ upd_same, stF_ok numV_keys, fun v' H5 s5 hv' => ?_⟩
     have tL := TSame.updL (o := .lst (ws ++ [v'])) (s5 _ _ hd4)
     refine ⟨_, s5 _ _ hd4, sz (by omega), _, ws ++ [v'], rfl, (s4.trans s5).updD hD2, upd_same, ?_⟩
     rw [List.take_add_one, hd, List.map_append]
     exact Paired.app (Paired.mapP hwP fun _ _ h => (h.ts s5.ts).ts tL) (.cons (hv'.ts tL) .nil)
    rintro σ' H6 ⟨v, ws, rfl, s4, hd4, hwP⟩
    rw [hbl, List.take_length] at hwP
    have s6 := s3.trans s4
    have h16 := s6 _ _ h1
    have hwl := hwP.length
    rw [List.length_map] at hwl
    have tL := TSame.updL (o := .lst (rs ++ ws)) h16
    refine ⟨l, D2, _, _, rfl, rfl, h16, hd4, sz (by omega), ?_⟩
    refine ⟨_, _, rs ++ ws, ds ++ (bod n).map (P9.sub (numF zs)), r, rfl, (s1.trans s6).updD hl, upd_same, ?_, hr, hd', hu'.2, ?_⟩
    ·exact Paired.app (Paired.mapP hPd fun _ _ h => (h.ts s6.ts).ts tL) (Paired.mapP hwP fun _ _ h => h.ts tL)
    ·rw [← eU, List.append_assoc]; rfl
   | tm n b0 r =>
    obtain ⟨b, t, us1, vs, e1, hb, ht, n60, hb1, hr⟩ := hT'
    obtain ⟨rfl, rfl⟩ := List.cons.inj e1
    have hb := s1 _ _ hb
    have hd' : max (b0.dep + 1) r.dep ≤ e := hd'
    have e2 : (unr f bod (.tm n b0 r)).length = n * (unr f bod b0).length + (unr f bod r).length := by
     show ((List.replicate n (unr f bod b0)).flatten ++ unr f bod r).length = _
     rw [List.length_append, len_rep]
    refine ⟨_, rfl, b, _, 0, _, rfl, rfl, SqT.of hb, rfl, rfl, _, rfl, ?_⟩
    refine dec_true rfl ?_
    refine ⟨_, rfl, b, _, 1, _, rfl, rfl, SqT.of hb, rfl, _, _, rfl, rfl, _, rfl, ?_⟩
    refine ite2 (fun h => ?_) (fun h => ?_)
    ·have h : (0 : Int) < ((n : Nat) : Int) := of_decide_eq_true h
     have hn : 0 < n := by omega
     have hlb : (unr f bod b0).length ≤ n * (unr f bod b0).length := Nat.le_mul_of_pos_left _ hn
     refine ⟨_, rfl, .inl ⟨rfl, _, SqL.of h1⟩, _, rfl, b, _, 2, _, rfl, rfl, SqT.of hb, rfl, _, rfl, _, rfl, t, st, bd, us1, b0, sv, bv, f, bod, e - 1, rfl, s1 _ _ ht, hb1.ts s1.ts, by omega, by omega, hst1, hSv, s1 _ _ hbd, Ts.use_imp (fun _ h => h.same s1) (hu'.1 hn), by omega, fun l2 rs2 H2 s2 _ h2 hP2 => ?_⟩
     have hl2 := hP2.length
     have hnb : n * rs2.length ≤ 200 := by rw [hl2]; omega
     refine ⟨_, rfl, b, _, 1, _, rfl, rfl, SqT.of (s2 _ _ hb), rfl, l2, _, rs2, rfl, rfl, h2, by omega, by omega, by rw [Int.toNat_natCast, Nat.mul_comm]; exact sz (by omega), fun pp hpp => ?_⟩
     rw [Int.toNat_natCast]
     have t2 := Same.upd (o := .lst (List.replicate n rs2).flatten) hpp
     have s3 := s2.trans t2
     have h13 := s3 _ _ h1
     have lenf : (List.replicate n rs2).flatten.length = n * rs2.length := len_rep _ _
     have tL := TSame.updL (o := .lst (rs ++ (List.replicate n rs2).flatten)) h13
     refine ⟨l, pp, _, _, rfl, rfl, h13, upd_same, by rw [lenf]; exact sz (by omega), ?_⟩
     refine ⟨_, _, rs ++ (List.replicate n rs2).flatten, ds ++ (List.replicate n (unr f bod b0)).flatten, r, rfl, (s1.trans s3).updD hl, upd_same, ?_, hr, by omega, hu'.2, ?_⟩
     ·exact Paired.app (Paired.mapP hPd fun _ _ h => (h.ts s3.ts).ts tL) (Paired.mapP (paired_rep hP2 n) fun _ _ h => (h.ts t2.ts).ts tL)
     ·rw [← eU, List.append_assoc]; rfl
    ·have h : ¬ (0 : Int) < ((n : Nat) : Int) := fun z => h (decide_eq_true z)
     have n0 : n = 0 := by omega
     subst n0
     exact ⟨_, _, rs, ds, r, rfl, s1, h1, hPd, hr, by omega, hu'.2, eU⟩
  ·rintro σ H1 ⟨v4, v5, rs, ds, T', rfl, s1, h1, hPd, hT', hd', hu', eU⟩
   rw [List.drop_length] at hT'
   cases T' with
   | nil =>
    have eU : ds ++ [] = unr f bod T0 := eU
    rw [List.append_nil] at eU
    subst eU
    exact ⟨_, rfl, k l rs H1 s1 hl h1 hPd⟩
   | pl _ _ => obtain ⟨_, _, e, _⟩ := hT'; cases e
   | dd _ _ _ => obtain ⟨_, _, e, _⟩ := hT'; cases e
   | tm _ _ _ => obtain ⟨_, _, _, _, e, _⟩ := hT'; cases e
end
end T09
namespace T09
open PySem L2 Tc
section
variable {P : Program} {w : World} {K : PySem.W.Frag} {mg : Str → Option Value} {base : Heap}
noncomputable abbrev s_bodies_of : Stmt := top 25
theorem sc_bodies_of : FnScope ["rules", "counts", "bodies", "rule", "stead", "number", "param"] ["rules", "counts"] (defScope s_bodies_of) := ⟨rfl, rfl, rfl, by decide +kernel, rfl, by decide +kernel, by decide +kernel⟩
theorem ok_bodies_of {ca : Ca} (D : DefAt K mg "bodies_of" s_bodies_of) (T : Txt K mg ca) (G_unrolled : FnAt P w K mg base CX0 11 "unrolled" ["deeds", "stead", "bodies"] (spU9 K 9)) : FnAt P w K mg base CX0 12 "bodies_of" ["rules", "counts"] (spB9 K) := by
 refine D.ok sc_bodies_of (fun vs H Q E h => ?_) (fun _ _ _ _ _ _ us hl => match us, hl with | [_, _], _ => rfl) (fun f cdv A outer s H vs Q E hr h => ?_)
 ·obtain ⟨a, ac, rv, rs, cv, rfl, ha, hR, hrl, ah, hc, hcc, k⟩ := h; rfl
 ·obtain ⟨a, ac, rv, rs, cv, rfl, ha, hR, hrl, ah, hc, hcc, k⟩ := h
  have nd := sc_bodies_of.nd
  refine ⟨_, (@pss_cons _ _ _ _ _ (@ps_set _ _ 2 _ _ _ _ nd rfl (Or.inl rfl) pe_dnewK (by rfl) (Or.inl rfl))
   (@pss_cons _ _ _ _ _ (ps_for PassesOwn.never rfl (pi_tup' (K := K) rfl (pv 0)) (pg_name (i := 3) nd rfl (Or.inl rfl)) (@pss_one _ _ _ (ps_if (pt_cmpR op_le (pe_dget (hu_of hr) (pv 1) (pe_ix (ix_tup' (K := K) rfl) (pv 3) pe_int (fun _ _ => rfl)) (fun _ _ => rfl)) (pe_gint (by rfl) T.g_MOST_DEEDS) (nomark _)) (@pss_cons _ _ _ _ _ (@ps_set _ _ 4 _ _ _ _ nd rfl (Or.inl rfl) pe_dnewK (by rfl) (Or.inl rfl))
   (@pss_cons _ _ _ _ _ (ps_for PassesOwn.never rfl (pi_enumT (K := K) rfl (by rfl) T.z_enumerate (@pa_cons _ _ _ _ _ (pe_ix (ix_tup' (K := K) rfl) (pv 3) pe_int (fun _ _ => rfl)) pa_nil (by rfl))) (pg_tup rfl (pgs_cons (pg_name (i := 5) nd rfl (Or.inl rfl)) (pgs_cons (pg_name (i := 6) nd rfl (Or.inl rfl)) pgs_nil))) (@pss_one _ _ _ (ps_dput (hu_of hr) (pv 4) (pv 6) (pv 5) rfl)))
   (@pss_one _ _ _ (ps_dput (hu_of hr) (pv 2) (pe_ix (ix_tup' (K := K) rfl) (pv 3) pe_int (fun _ _ => rfl)) (pe_fn G_unrolled hr (by rfl) pass0 (@pa_cons _ _ _ _ _ (pe_ix (ix_tup' (K := K) rfl) (pv 3) pe_int (fun _ _ => rfl)) (@pa_cons _ _ _ _ _ (pv 4) (@pa_cons _ _ _ _ _ (pv 2) pa_nil (by rfl)) (by rfl)) (by rfl))) rfl)))) pss_nil)))
   (@pss_one _ _ _ (ps_ret (pv 2))))), ?_⟩
  intro B hB
  have i0 := Same.upd (o := .dK []) hB
  refine ⟨_, rfl, a, rfl, ⟨_, SqT.of (i0 _ _ ha)⟩, ?_⟩
  refine for_tup (xs := rv) (fun i σ H1 => ∃ (v3 v4 v5 v6 : Option V) (bv : List (Key × V)), σ = [some (.ref a), some (.ref ac), some (.ref B), v3, v4, v5, v6] ∧ Same H H1 ∧ H1 B = some (.dK bv) ∧ bv.length ≤ i ∧ ∀ z ∈ (rs.take i).map (·.1), cntR rs.reverse z ≤ 200 → bod9 H1 bv (bodR rs.reverse) z) ⟨none, none, none, none, [], rfl, i0, upd_same, Nat.le_refl _, fun _ z => nomatch z⟩ ?_ ?_ ?_
  ·rintro i σ H1 hi ⟨v3, v4, v5, v6, bv, rfl, s1, _⟩
   exact SqT.of (s1 _ _ ha)
  ·rintro i z σ H1 hz ⟨v3, v4, v5, v6, bv, rfl, s1, hB1, hbl, hbo⟩
   obtain ⟨r, hr1, hv⟩ := paired_get hR hz
   have hrm := List.mem_of_getElem? hr1
   have hi : i < rs.length := (List.getElem?_eq_some_iff.mp hr1).1
   have hcv := hcc r hrm
   obtain ⟨ra, rb, rc, us1, rfl, hra, hrb, hrc, hT1⟩ := hv.ts s1.ts
   have g := DGet.k (k := .inr r.1) (s1 _ _ hc)
   rw [hcv] at g
   have etake : (rs.take (i + 1)).map (·.1) = (rs.take i).map (·.1) ++ [r.1] := by rw [List.take_add_one, hr1, List.map_append]; rfl
   obtain ⟨pnd, ppl, pdp⟩ := ah.2.2 r hrm
   refine ⟨_, rfl, _, rfl, ra, _, 0, _, rfl, rfl, SqT.of hra, rfl, ac, _, rfl, g, _, _, rfl, rfl, _, rfl, ?_⟩
   refine ite2 (fun hle => ?_) (fun hgt => ?_)
   ·have hle : cntR rs.reverse r.1 ≤ 200 := of_decide_eq_true hle
    intro S hS
    have t1 := Same.upd (o := .dK []) hS
    refine ⟨_, rfl, ra, _, 1, _, rfl, rfl, SqT.of (t1 _ _ hra), rfl, rb, _, rfl, SqT.of (t1 _ _ hrb), ?_⟩
    refine for_enumT (xs := r.2.1.map V.str) (fun j σ H3 => ∃ (v5 v6 : Option V), σ = [some (.ref a), some (.ref ac), some (.ref B), some (.ref ra), some (.ref S), v5, v6] ∧ Same H1 H3 ∧ H3 S = some (.dK (parD r.2.1 j))) ⟨_, _, rfl, t1, upd_same⟩ ?_ ?_ ?_
    ·rintro j σ H3 hj ⟨v5, v6, rfl, s3, _⟩
     exact SqT.of (s3 _ _ hrb)
    ·rintro j w T1 σ H3 hw ⟨v5, v6, rfl, s3, hS3⟩ hT
     rw [List.getElem?_map] at hw
     obtain ⟨p, hp, rfl⟩ := Option.map_eq_some_iff.mp hw
     have hj : j < r.2.1.length := (List.getElem?_eq_some_iff.mp hp).1
     have tT := Same.upd (o := .tup [.int (j : Nat), .str p]) hT
     have hpl := parD_len r.2.1 j
     refine ⟨T1, _, rfl, SqT.of upd_same, rfl, _, _, rfl, _, _, rfl, rfl, ?_⟩
     refine ⟨_, rfl, _, rfl, _, rfl, S, _, rfl, DPut.k (k := .inr p) (tT _ _ hS3) (sz (by omega)), ?_⟩
     refine ⟨_, _, rfl, (s3.trans tT).updD hS, ?_⟩
     rw [upd_same, parD_succ]
     unfold parG
     rw [List.getD_eq_getElem?_getD, hp]; rfl
    ·rintro σ H3 ⟨v5, v6, rfl, s3, hS3⟩
     rw [List.length_map] at hS3
     have hB3 := s3 _ _ hB1
     have esp : rs.take (i + 1) = rs.take i ++ [r] := by rw [List.take_add_one, hr1]; rfl
     have hin : r.1 ∈ (rs.take (i + 1)).map (·.1) := by rw [etake]; exact List.mem_append_right _ (.head _)
     have er := cntR_pre ah.1 (i + 1) hin
     rw [esp, List.reverse_append] at er
     have ec : r.2.2.cnt (cntR (rs.take i).reverse) = cntR rs.reverse r.1 := by
      rw [← er.1]
      exact (cntR_top r _).symm
     have eb : unr (parF r.2.1) (bodR (rs.take i).reverse) r.2.2 = bodR rs.reverse r.1 := by
      rw [← er.2]
      exact (bodR_top r _).symm
     have hokr : ∀ q ∈ rs, q.2.2.ok := fun q hq => by
      obtain ⟨j, hj⟩ := List.getElem?_of_mem hq
      obtain ⟨v, hv, _, _, _, _, _, _, _, _, h⟩ := paired_mem' hR hq
      exact h.ok
     have huse : r.2.2.use (bod9 H3 bv (bodR (rs.take i).reverse)) := by
      refine Ts.use_of (cc := cntR (rs.take i).reverse) (cntR_nn _) (p := (· ∈ (rs.take i).map (·.1))) (fun z hz hle => ?_) (ah.2.1 i r hr1) (by rw [ec]; exact hle)
      have ez := cntR_pre ah.1 i hz
      rw [ez.1] at hle
      obtain ⟨lr, bs, h1, h2, h3, h4⟩ := (hbo z hz hle).same s3
      exact ⟨lr, bs, h1, h2, by rw [ez.2]; exact h3, by rw [ez.2]; exact h4⟩
     have hlen : (unr (parF r.2.1) (bodR (rs.take i).reverse) r.2.2).length ≤ 200 := by
      have := unr_len (f := parF r.2.1) (bodR_len (rs.take i).reverse) r.2.2
      rw [ec] at this
      omega
     refine ⟨_, rfl, ra, _, 2, _, rfl, rfl, SqT.of (s3 _ _ hra), rfl, _, rfl, _, rfl, rc, S, B, us1, r.2.2, _, bv, parF r.2.1, bodR (rs.take i).reverse, 8, rfl, s3 _ _ hrc, hT1.ts s3.ts, rfl, pdp, hS3, stF_ok (parD_keys _ _), hB3, huse, hlen, fun l out H4 s4 _ hl4 hP4 => ?_⟩
     have s34 := s3.trans s4
     have hB4 := s34 _ _ hB1
     refine ⟨_, rfl, _, rfl, ra, _, 0, _, rfl, rfl, SqT.of (s34 _ _ hra), rfl, B, _, rfl, DPut.k (k := .inr r.1) hB4 (sz (by omega)), ?_⟩
     have kpB : ∀ c o, c ≠ B → H4 c = some o → upd H4 B (.dK (putK bv (.inr r.1) (.ref l))) c = some o := fun c o hc h => by rw [upd_ne hc]; exact h
     have tB : TSame H4 (upd H4 B (.dK (putK bv (.inr r.1) (.ref l)))) := fun c xs h => kpB c _ (by rintro rfl; rw [hB4] at h; cases h) h
     have nlB : ∀ {q : Addr} {xs : List V}, H4 q = some (.lst xs) → q ≠ B := fun h e => by rw [e, hB4] at h; cases h
     refine ⟨_, _, _, _, putK bv (.inr r.1) (.ref l), rfl, (s1.trans s34).updD hB, upd_same, Nat.le_trans (length_putK _ _ _) (by omega), fun w hw hw2 => ?_⟩
     rw [etake] at hw
     by_cases ew : w = r.1
     ·subst ew
      refine ⟨l, out, by rw [valV_put, if_pos rfl], kpB _ _ (nlB hl4) hl4, by rw [← eb]; exact Paired.mapP hP4 fun _ _ h => h.ts tB, ?_⟩
      exact bodR_ok (fun q hq => hokr q (List.mem_reverse.mp hq)) _
     ·rcases List.mem_append.mp hw with hw | hw
      ·obtain ⟨lr, bs, h1, h2, h3, h4⟩ := (hbo w hw hw2).same s34
       exact ⟨lr, bs, by rw [valV_put, if_neg (fun e => ew (Sum.inr.inj e))]; exact h1, kpB _ _ (nlB h2) h2, Paired.mapP h3 fun _ _ h => h.ts tB, h4⟩
      ·exact absurd (List.mem_singleton.mp hw) ew
   ·have hgt : ¬ cntR rs.reverse r.1 ≤ 200 := fun z => hgt (decide_eq_true z)
    refine ⟨_, _, _, _, bv, rfl, s1, hB1, by omega, fun w hw hw2 => ?_⟩
    rw [etake] at hw
    rcases List.mem_append.mp hw with hw | hw
    ·exact hbo w hw hw2
    ·rw [List.mem_singleton.mp hw] at hw2; exact absurd hw2 hgt
  ·rintro σ H1 ⟨v3, v4, v5, v6, bv, rfl, s1, hB1, hbl, hbo⟩
   have el : rs.take rv.length = rs := by rw [hR.length, List.take_length]
   rw [el] at hbo
   exact ⟨_, rfl, k B bv H1 s1 hB1 hbo⟩
end
end T09
namespace T09
open PySem L2 Tc
section
variable {P : Program} {w : World} {K : PySem.W.Frag} {mg : Str → Option Value} {base : Heap}
noncomputable abbrev s_opened : Stmt := top 26
theorem sc_opened : FnScope ["house", "script", "counts", "rule", "plain", "kinds", "deed"] ["house", "script"] (defScope s_opened) := ⟨rfl, rfl, rfl, by decide +kernel, rfl, by decide +kernel, by decide +kernel⟩
theorem ok_opened {ca : Ca} (D : DefAt K mg "opened" s_opened) (T : Txt K mg ca) (G_many_of : FnAt P w K mg base CX0 10 "many_of" ["deeds", "counts"] (spM9 K 9)) (G_unrolled : FnAt P w K mg base CX0 11 "unrolled" ["deeds", "stead", "bodies"] (spU9 K 9)) (G_bodies_of : FnAt P w K mg base CX0 12 "bodies_of" ["rules", "counts"] (spB9 K)) (G_kinds_of : FnAt P w K mg base CX0 1 "kinds_of" ["house"] (spK8 K)) (G_check_plain : FnAt P w K mg base (CXE P w) 2 "check_plain" ["deed", "kinds"] (spCl (cl3 ca.NoPlace ca.NoCask ca.NoRule))) : FnAt P w K mg base (CXE P w) 13 "opened" ["house", "script"] (spOp9 K (cl3 ca.NoPlace ca.NoCask ca.NoRule) ca.TooMany) := by
 refine D.okE sc_opened (fun vs H Q E h => ?_) (fun _ _ _ _ _ _ us hl => match us, hl with | [_, _], _ => rfl) (fun f cdv A outer s H vs Q E hr h => ?_)
 ·obtain ⟨a0, v, xs, hp, rs, T0, rfl, hh, hX, hpl, ⟨p, a, b, rv, us, rfl, hp0, ha, hR, hb, hT⟩, ⟨ah, hrl, hhas, hdp, hmo, hmd, htx⟩, kT, k⟩ := h; rfl
 ·obtain ⟨a0, v, xs, hp, rs, T0, rfl, hh, hX, hpl, ⟨p, a, b, rv, us, rfl, hp0, ha, hR, hb, hT⟩, ⟨ah, hrl, hhas, hdp, hmo, hmd, htx⟩, kT, k⟩ := h
  have nd := sc_opened.nd
  refine ⟨_, (@pss_cons _ _ _ _ _ (@ps_set _ _ 2 _ _ _ _ nd rfl (Or.inl rfl) pe_dnewK (by rfl) (Or.inl rfl))
   (@pss_cons _ _ _ _ _ (ps_nox (ps_for PassesOwn.never rfl (pi_tup' (K := K) rfl (pe_ix (ix_tup' (K := K) rfl) (pv 1) pe_int (fun _ _ => rfl))) (pg_name (i := 3) nd rfl (Or.inl rfl)) (@pss_one _ _ _ (ps_dput (hu_of hr) (pv 2) (pe_ix (ix_tup' (K := K) rfl) (pv 3) pe_int (fun _ _ => rfl)) (pe_fn G_many_of hr (by rfl) pass0 (@pa_cons _ _ _ _ _ (pe_ix (ix_tup' (K := K) rfl) (pv 3) pe_int (fun _ _ => rfl)) (@pa_cons _ _ _ _ _ (pv 2) pa_nil (by rfl)) (by rfl))) rfl))))
   (@pss_cons _ _ _ _ _ (ps_if (pt_cmpR op_gt (pe_fn G_many_of hr (by rfl) pass0 (@pa_cons _ _ _ _ _ (pe_ix (ix_tup' (K := K) rfl) (pv 1) pe_int (fun _ _ => rfl)) (@pa_cons _ _ _ _ _ (pv 2) pa_nil (by rfl)) (by rfl))) (pe_gint (by rfl) T.g_MOST_DEEDS) (nomark _)) (@pss_one _ _ _ (ps_raise raises_cx rfl (by rfl) T.c_TooMany T.e_TooMany PySem.F.excBase_ValueError (@pa_cons _ _ _ _ _ pe_str pa_nil (by rfl)))) pss_nil)
   (@pss_cons _ _ _ _ _ (@ps_set _ _ 4 _ _ _ _ nd rfl (Or.inl rfl) (pe_fn G_unrolled hr (by rfl) pass0 (@pa_cons _ _ _ _ _ (pe_ix (ix_tup' (K := K) rfl) (pv 1) pe_int (fun _ _ => rfl)) (@pa_cons _ _ _ _ _ pe_dnewK (@pa_cons _ _ _ _ _ (pe_fn G_bodies_of hr (by rfl) pass0 (@pa_cons _ _ _ _ _ (pe_ix (ix_tup' (K := K) rfl) (pv 1) pe_int (fun _ _ => rfl)) (@pa_cons _ _ _ _ _ (pv 2) pa_nil (by rfl)) (by rfl))) pa_nil (by rfl)) (by rfl)) (by rfl))) (by rfl) (Or.inl rfl))
   (@pss_cons _ _ _ _ _ (@ps_set _ _ 5 _ _ _ _ nd rfl (Or.inl rfl) (pe_fn G_kinds_of hr (by rfl) pass0 (@pa_cons _ _ _ _ _ (pv 0) pa_nil (by rfl))) (by rfl) (Or.inl rfl))
   (@pss_cons _ _ _ _ _ (ps_for PassesOwn.leaving rfl (pi_list' (K := K) rfl (pv 4)) (pg_name (i := 6) nd rfl (Or.inl rfl)) (@pss_one _ _ _ (ps_expr (pe_fn G_check_plain hr (by rfl) passE (@pa_cons _ _ _ _ _ (pv 6) (@pa_cons _ _ _ _ _ (pv 5) pa_nil (by rfl)) (by rfl))))))
   (@pss_one _ _ _ (ps_ret (pv 4))))))))), ?_⟩
  intro A hA
  have i0 := Same.upd (o := .dK []) hA
  refine ⟨_, rfl, p, _, 0, _, rfl, rfl, SqT.of (i0 _ _ hp0), rfl, a, rfl, ⟨_, SqT.of (i0 _ _ ha)⟩, ?_⟩
  refine for_tup (xs := rv) (fun i σ H1 => ∃ (v3 v4 v5 v6 : Option V) (cv : List (Key × V)), σ = [some (.ref a0), some (.ref p), some (.ref A), v3, v4, v5, v6] ∧ Same H H1 ∧ H1 A = some (.dK cv) ∧ cv.length ≤ i ∧ ∀ z ∈ (rs.take i).map (·.1), valV cv (.inr z) = some (.int (cntR rs.reverse z))) ⟨none, none, none, none, [], rfl, i0, upd_same, Nat.le_refl _, fun _ z => nomatch z⟩ ?_ ?_ ?_
  ·rintro i σ H1 hi ⟨v3, v4, v5, v6, cv, rfl, s1, _⟩
   exact SqT.of (s1 _ _ ha)
  ·rintro i z σ H1 hz ⟨v3, v4, v5, v6, cv, rfl, s1, hA1, hcl, hcv⟩
   obtain ⟨r, hr1, hv⟩ := paired_get hR hz
   have hrm := List.mem_of_getElem? hr1
   have hi : i < rs.length := (List.getElem?_eq_some_iff.mp hr1).1
   obtain ⟨ra, rb, rc, us1, rfl, hra, hrb, hrc, hT1⟩ := hv.ts s1.ts
   have etake : (rs.take (i + 1)).map (·.1) = (rs.take i).map (·.1) ++ [r.1] := by rw [List.take_add_one, hr1, List.map_append]; rfl
   have esp : rs.take (i + 1) = rs.take i ++ [r] := by rw [List.take_add_one, hr1]; rfl
   have er := cntR_pre ah.1 (i + 1) (z := r.1) (by rw [etake]; exact List.mem_append_right _ (.head _))
   rw [esp, List.reverse_append] at er
   have ec : r.2.2.cnt (cntR (rs.take i).reverse) = cntR rs.reverse r.1 := by
    rw [← er.1]
    exact (cntR_top r _).symm
   have hdr := (ah.2.2 r hrm).2.2
   refine ⟨_, rfl, ra, _, 2, _, rfl, rfl, SqT.of hra, rfl, _, rfl, rc, A, us1, r.2.2, cv, cntR (rs.take i).reverse, 8, rfl, hrc, hT1, rfl, hdr, hA1, Ts.has_imp (fun z hz => by rw [(cntR_pre ah.1 i hz).1]; exact hcv z hz) (ah.2.1 i r hr1), hmo i r hr1, ?_⟩
   rw [ec]
   refine ⟨_, rfl, _, rfl, ra, _, 0, _, rfl, rfl, SqT.of hra, rfl, A, _, rfl, DPut.k (k := .inr r.1) hA1 (sz (by omega)), ?_⟩
   refine ⟨_, _, _, _, putK cv (.inr r.1) (.int (cntR rs.reverse r.1)), rfl, s1.updD hA, upd_same, Nat.le_trans (length_putK _ _ _) (by omega), fun w hw => ?_⟩
   rw [etake] at hw
   rw [valV_put]
   by_cases ew : w = r.1
   ·subst ew; rw [if_pos rfl]
   ·rw [if_neg (fun e => ew (Sum.inr.inj e))]
    rcases List.mem_append.mp hw with hw | hw
    ·exact hcv w hw
    ·exact absurd (List.mem_singleton.mp hw) ew
  ·rintro σ H1 ⟨v3, v4, v5, v6, cv, rfl, s1, hA1, hcl, hcv⟩
   have el : rs.take rv.length = rs := by rw [hR.length, List.take_length]
   rw [el] at hcv
   refine ⟨_, rfl, p, _, 1, _, rfl, rfl, SqT.of (s1 _ _ hp0), rfl, _, rfl, b, A, us, T0, cv, cntR rs.reverse, 8, rfl, s1 _ _ hb, hT.ts s1.ts, rfl, hdp, hA1, Ts.has_imp (fun z hz => hcv z hz) hhas, hmd, ?_⟩
   refine ⟨_, _, rfl, rfl, _, rfl, ?_⟩
   refine ite2 (fun hgt => ?_) (fun hle => ?_)
   ·have hgt : (200 : Int) < T0.cnt (cntR rs.reverse) := of_decide_eq_true hgt
    exact ⟨sz (by simp), kT (by omega) H1 s1⟩
   have hle : T0.cnt (cntR rs.reverse) ≤ 200 := by
    have : ¬ (200 : Int) < T0.cnt (cntR rs.reverse) := fun z => hle (decide_eq_true z)
    omega
   obtain ⟨kE, kQ⟩ := k hle
   have htx := htx hle
   refine ⟨_, rfl, p, _, 1, _, rfl, rfl, SqT.of (s1 _ _ hp0), rfl, fun S hS => ?_⟩
   have t1 := Same.upd (o := .dK []) hS
   have s2 := s1.trans t1
   refine ⟨_, rfl, p, _, 0, _, rfl, rfl, SqT.of (s2 _ _ hp0), rfl, _, rfl, a, A, rv, rs, cv, rfl, s2 _ _ ha, Paired.mapP hR (fun _ _ h => h.ts s2.ts), hrl, ah, t1 _ _ hA1, fun r hr => hcv r.1 (List.mem_map.mpr ⟨r, hr, rfl⟩), fun B bv H3 s3 hB3 hbo => ?_⟩
   have s13 := t1.trans s3
   have hlen : (unr (fun x => x) (bodR rs.reverse) T0).length ≤ 200 := by
    have := unr_len (f := fun x => x) (bodR_len rs.reverse) T0
    omega
   refine ⟨b, S, B, us, T0, [], bv, (fun x => x), bodR rs.reverse, 8, rfl, s13 _ _ (s1 _ _ hb), (hT.ts s1.ts).ts s13.ts, rfl, hdp, s3 _ _ upd_same, (fun x => rfl), hB3, Ts.use_of (cntR_nn _) (p := (· ∈ rs.map (·.1))) (fun z hz hle => hbo z hz hle) hhas hle, hlen, fun l out H4 s4 fl4 hl4 hP4 => ?_⟩
   have s14 := s1.trans (s13.trans s4)
   refine ⟨_, rfl, a0, xs, hp, rfl, s14 _ _ hh, Paired.mapP hX (fun _ _ h => h.ts s14.ts), by omega, fun kk kv H5 s5 hkf hk5 hkl hkd => ?_⟩
   have hl5 := s5 _ _ hl4
   have hok : ∀ d ∈ unr (fun x => x) (bodR rs.reverse) T0, d.ok := unr_ok (bodR_ok fun q hq => by
    obtain ⟨v, hv, _, _, _, _, _, _, _, _, h⟩ := paired_mem' hR (List.mem_reverse.mp hq)
    exact h.ok) hT.ok
   refine ⟨_, rfl, l, rfl, ⟨_, SqL.of hl5⟩, ?_⟩
   refine for_list (xs := out) (fun i σ H6 => ∃ v6 : Option V, ∃ v3 : Option V, σ = [some (.ref a0), some (.ref p), some (.ref A), v3, some (.ref l), some (.ref kk), v6] ∧ Same H5 H6 ∧ jOut hp ((unr (fun x => x) (bodR rs.reverse) T0).take i) = none) ⟨_, _, rfl, Same.refl _, rfl⟩ ?_ ?_ ?_
   ·rintro i σ H6 hi ⟨v6, v3, rfl, s6, _⟩
    exact SqL.of (s6 _ _ hl5)
   ·rintro i u σ H6 hu ⟨v6, v3, rfl, s6, hj⟩
    obtain ⟨d, hd, hpu⟩ := paired_get hP4 hu
    have hdm := List.mem_of_getElem? hd
    obtain ⟨h8, h9⟩ := ((hpu.ts s5.ts).ts s6.ts).pl8 (hok d hdm) (htx d hdm)
    have et : jOut hp ((unr (fun x => x) (bodR rs.reverse) T0).take (i + 1)) = jU (lk hp) (fun _ => none) (.pl d.want) := by
     unfold jOut at hj ⊢
     rw [List.take_add_one, hd, List.findSome?_append, hj, Option.none_or]
     show [d].findSome? _ = _
     rw [List.findSome?_cons, List.findSome?_nil]
     cases jU (lk hp) (fun _ => none) (.pl d.want) <;> rfl
    refine ⟨_, rfl, _, rfl, u, kk, d.want, kv, lk hp, rfl, h8, h9, s6 _ _ hk5, hkd, fun z H7 s7 => ⟨_, _, rfl, s6.trans s7, et.trans z⟩, fun q z H7 s7 => kE q ?_ H7 (s14.trans (s5.trans (s6.trans s7)))⟩
    have et2 := et.trans z
    unfold jOut at et2 ⊢
    rw [← List.take_append_drop (i + 1) (unr (fun x => x) (bodR rs.reverse) T0), List.findSome?_append, et2]; rfl
   ·rintro σ H6 ⟨v6, v3, rfl, s6, hj⟩
    rw [hP4.length, List.take_length] at hj
    exact ⟨_, rfl, kQ hj l out H6 (s14.trans (s5.trans s6)) ((s1.trans s13).free fl4) (s6 _ _ hl5) (Paired.mapP hP4 fun _ _ h => (h.ts s5.ts).ts s6.ts)⟩
end
end T09
namespace T09
open PySem L2 Tc
section
variable {P : Program} {w : World} {K : PySem.W.Frag} {mg : Str → Option Value} {base : Heap}
noncomputable abbrev s__law_cell_at : Stmt := top 28
theorem sc__law_cell_at : FnScope ["_law_script_here", "_law_k"] ["_law_script_here", "_law_k"] (defScope s__law_cell_at) := ⟨rfl, rfl, rfl, by decide +kernel, rfl, by decide +kernel, by decide +kernel⟩
theorem ok__law_cell_at {ca : Ca} (D : DefAt K mg "_law_cell_at" s__law_cell_at) (T : Txt K mg ca) : FnAt P w K mg base CX0 1 "_law_cell_at" ["_law_script_here", "_law_k"] (spCell K) := by
 refine D.ok sc__law_cell_at (fun vs H Q E h => ?_) (fun _ _ _ _ _ _ us hl => match us, hl with | [_, _], _ => rfl) (fun f cdv A outer s H vs Q E hr h => ?_)
 ·obtain ⟨a, ns, j, rfl, hS, hj, k⟩ := h; rfl
 ·obtain ⟨a, ns, j, rfl, hS, hj, k⟩ := h
  have nd := sc__law_cell_at.nd
  refine ⟨_, (@pss_cons _ _ _ _ _ (ps_if (pt_cmpR op_lt (pv 1) (pe_callB (call_len' (K := K) rfl) (by rfl) T.z_len PySem.boot_len (@pa_cons _ _ _ _ _ (pv 0) pa_nil (by rfl))) (nomark _)) (@pss_one _ _ _ (ps_ret (pe_ix (ix_list' (K := K) rfl) (pv 0) (pv 1) (fun _ _ => rfl)))) pss_nil)
   (@pss_one _ _ _ (ps_ret pe_int))), ?_⟩
  refine ⟨_, rfl, _, rfl, _, _, rfl, .inl ⟨_, hS, rfl⟩, _, _, rfl, rfl, _, rfl, ?_⟩
  refine ite2 (fun h1 => ?_) (fun h1 => ?_)
  ·obtain ⟨c, hc⟩ := map_at hj (of_decide_eq_true h1)
   refine ⟨_, rfl, _, rfl, a, _, j, _, rfl, rfl, hS, hc, k c⟩
  ·exact k 0
end
end T09
namespace T09
open PySem L2 Tc
section
variable {P : Program} {w : World} {K : PySem.W.Frag} {mg : Str → Option Value} {base : Heap}
noncomputable abbrev s__law_mixed : Stmt := top 29
theorem sc__law_mixed : FnScope ["_law_cell"] ["_law_cell"] (defScope s__law_mixed) := ⟨rfl, rfl, rfl, by decide +kernel, rfl, by decide +kernel, by decide +kernel⟩
theorem ok__law_mixed {ca : Ca} (D : DefAt K mg "_law_mixed" s__law_mixed) (T : Txt K mg ca) : FnAt P w K mg base CX0 1 "_law_mixed" ["_law_cell"] (spMix) := by
 refine D.ok sc__law_mixed (fun vs H Q E h => ?_) (fun _ _ _ _ _ _ us hl => match us, hl with | [_], _ => rfl) (fun f cdv A outer s H vs Q E hr h => ?_)
 ·obtain ⟨c, rfl, k⟩ := h; rfl
 ·obtain ⟨c, rfl, k⟩ := h
  have nd := sc__law_mixed.nd
  refine ⟨_, (@pss_one _ _ _ (ps_ret (@pe_op _ _ _ _ _ _ _ _ op_add (@pe_op _ _ _ _ _ _ _ _ op_modN (@pe_op _ _ _ _ _ _ _ _ op_mulB (pv 0) pe_int) pe_int) (@pe_op _ _ _ _ _ _ _ _ op_mulB pe_int (@pe_op _ _ _ _ _ _ _ _ op_modN (pv 0) (@pe_op _ _ _ _ _ _ _ _ op_pow pe_int pe_int)))))), ?_⟩
  refine ⟨_, rfl, _, _, rfl, rfl, IntMulOk.of_right (by decide), _, _, rfl, rfl, (show (2147483629 : Int) ≠ 0 by decide), _, rfl, _, _, rfl, rfl, ⟨by decide, by decide, by decide⟩, _, _, rfl, rfl, (by rw [pow10_30]; show (_ : Int) ≠ 0; decide), _, _, rfl, rfl, IntMulOk.of_left (by decide), _, _, rfl, rfl, ?_⟩
  rw [pow10_30]
  have q1 := fmod_lt (c := c * 69621) (m := 2147483629) (by decide)
  have q2 := fmod_lt (c := c) (m := 1000000000000000000000000000000) (by decide)
  exact k _ (by omega) (by unfold BG; omega)
end
end T09
namespace T09
open PySem L2 Tc
section
variable {P : Program} {w : World} {K : PySem.W.Frag} {mg : Str → Option Value} {base : Heap}
noncomputable abbrev s__law_digits : Stmt := top 30
theorem sc__law_digits : FnScope ["_law_number", "_law_many", "_law_top", "_law_found", "_law_k"] ["_law_number", "_law_many", "_law_top"] (defScope s__law_digits) := ⟨rfl, rfl, rfl, by decide +kernel, rfl, by decide +kernel, by decide +kernel⟩
theorem ok__law_digits {ca : Ca} (D : DefAt K mg "_law_digits" s__law_digits) (T : Txt K mg ca) : FnAt P w K mg base CX0 1 "_law_digits" ["_law_number", "_law_many", "_law_top"] (spDigits) := by
 refine D.ok sc__law_digits (fun vs H Q E h => ?_) (fun _ _ _ _ _ _ us hl => match us, hl with | [_, _, _], _ => rfl) (fun f cdv A outer s H vs Q E hr h => ?_)
 ·obtain ⟨n, m, rfl, m0, m10, k⟩ := h; rfl
 ·obtain ⟨n, m, rfl, m0, m10, k⟩ := h
  have nd := sc__law_digits.nd
  refine ⟨_, (@pss_cons _ _ _ _ _ (@ps_set _ _ 3 _ _ _ _ nd rfl (Or.inl rfl) (@pe_lst _ _ _ _ pa_nil) (by rfl) (Or.inl rfl))
   (@pss_cons _ _ _ _ _ (ps_for PassesOwn.never rfl (pi_range1 (by rfl) T.z_range (@pa_cons _ _ _ _ _ (pv 1) pa_nil (by rfl))) (pg_name (i := 4) nd rfl (Or.inl rfl)) (@pss_cons _ _ _ _ _ (ps_expr (pe_bm PySem.F.plainAttrs_list PySem.F.slot_list_append PySem.F.type_list_append mt_append (pv 3) (@pa_cons _ _ _ _ _ (@pe_op _ _ _ _ _ _ _ _ op_modN (pv 0) (pv 2)) pa_nil (by rfl))))
   (@pss_one _ _ _ (@ps_set _ _ 0 _ _ _ _ nd rfl (Or.inl rfl) (@pe_op _ _ _ _ _ _ _ _ op_fdivB (pv 0) (pv 2)) (by rfl) (Or.inl rfl)))))
   (@pss_one _ _ _ (ps_ret (pv 3))))), ?_⟩
  refine ⟨sz (by simp), fun p hp => ?_⟩
  refine ⟨_, rfl, _, rfl, by omega, by omega, ?_⟩
  refine for_range (fun i σ H1 => ∃ (v4 : Option V) (x : Int) (ds : List Int), σ = [some (.int x), some (.int m), some (.int 26), some (.ref p), v4] ∧ Same H H1 ∧ H1 p = some (.lst (ds.map V.int)) ∧ ds.length = i ∧ ∀ d ∈ ds, 0 ≤ d ∧ d < 26) ⟨none, n, [], rfl, Same.upd hp, upd_same, rfl, fun _ z => nomatch z⟩ ?_ ?_
  ·rintro i σ H1 hi ⟨v4, x, ds, rfl, s1, hp1, hl, hb⟩
   refine ⟨_, rfl, .inl ⟨rfl, _, SqL.of hp1⟩, _, rfl, _, rfl, _, _, rfl, rfl, (show (26 : Int) ≠ 0 by decide), p, _, _, rfl, rfl, hp1, by rw [List.length_map]; exact sz (by omega), ?_⟩
   refine ⟨_, rfl, _, rfl, _, _, rfl, rfl, divB_of (by decide) (by decide), ?_⟩
   refine ⟨_, x.fdiv 26, ds ++ [x.fmod 26], rfl, s1.updD hp, ?_, by rw [List.length_append, hl]; rfl, ?_⟩
   ·rw [upd_same, List.map_append]; rfl
   ·intro d hd
    rcases List.mem_append.mp hd with z | z
    ·exact hb d z
    ·have z := List.mem_singleton.mp z
     subst z
     exact fmod_lt (by decide)
  ·rintro σ H1 ⟨v4, x, ds, rfl, s1, hp1, hl, hb⟩
   exact ⟨_, rfl, k p H1 ds s1 hp1 (by have : ds.length = m.toNat := hl; omega) hb⟩
end
end T09
namespace T09
open PySem L2 Tc
section
variable {P : Program} {w : World} {K : PySem.W.Frag} {mg : Str → Option Value} {base : Heap}
noncomputable abbrev s__law_names : Stmt := top 31
theorem sc__law_names : FnScope ["_law_number", "_law_many", "_law_words_here", "_law_letters", "_law_base", "_law_at", "_law_names_here", "_law_j", "_law_signs"] ["_law_number", "_law_many"] (defScope s__law_names) := ⟨rfl, rfl, rfl, by decide +kernel, rfl, by decide +kernel, by decide +kernel⟩
theorem ok__law_names {ca : Ca} (D : DefAt K mg "_law_names" s__law_names) (T : Txt K mg ca) (G__law_digits : FnAt P w K mg base CX0 1 "_law_digits" ["_law_number", "_law_many", "_law_top"] (spDigits)) : FnAt P w K mg base CX0 2 "_law_names" ["_law_number", "_law_many"] (spNam3) := by
 refine D.ok sc__law_names (fun vs H Q E h => ?_) (fun _ _ _ _ _ _ us hl => match us, hl with | [_, _], _ => rfl) (fun f cdv A outer s H vs Q E hr h => ?_)
 ·obtain ⟨c, m, rfl, hm0, hm9, k⟩ := h; rfl
 ·obtain ⟨c, m, rfl, hm0, hm9, k⟩ := h
  have nd := sc__law_names.nd
  refine ⟨_, (@pss_cons _ _ _ _ _ (@ps_set _ _ 2 _ _ _ _ nd rfl (Or.inl rfl) (@pe_lst _ _ _ _ (@pa_cons _ _ _ _ _ pe_str (@pa_cons _ _ _ _ _ pe_str (@pa_cons _ _ _ _ _ pe_str (@pa_cons _ _ _ _ _ pe_str (@pa_cons _ _ _ _ _ pe_str (@pa_cons _ _ _ _ _ pe_str (@pa_cons _ _ _ _ _ pe_str (@pa_cons _ _ _ _ _ pe_str (@pa_cons _ _ _ _ _ pe_str (@pa_cons _ _ _ _ _ pe_str pa_nil (by rfl)) (by rfl)) (by rfl)) (by rfl)) (by rfl)) (by rfl)) (by rfl)) (by rfl)) (by rfl)) (by rfl))) (by rfl) (Or.inl rfl))
   (@pss_cons _ _ _ _ _ (ps_if (PW.pt (pw_and (pt_cmpR op_eq (@pe_op _ _ _ _ _ _ _ _ op_modN (pv 0) pe_int) pe_int (nomark _)) (pw_and1 (pt_cmpR op_lt (pv 1) pe_int (nomark _))))) (@pss_one _ _ _ (ps_ret (pe_slice (sl_list' (K := K) rfl) (pv 2) po_none (po_some (pv 1))))) pss_nil)
   (@pss_cons _ _ _ _ _ (@ps_set _ _ 3 _ _ _ _ nd rfl (Or.inr rfl) pe_str (by rfl) (Or.inl rfl))
   (@pss_cons _ _ _ _ _ (@ps_set _ _ 4 _ _ _ _ nd rfl (Or.inr rfl) (pe_fn G__law_digits hr (by rfl) pass0 (@pa_cons _ _ _ _ _ (@pe_op _ _ _ _ _ _ _ _ op_fdivB (pv 0) pe_int) (@pa_cons _ _ _ _ _ (@pe_op _ _ _ _ _ _ _ _ op_add pe_int (@pe_op _ _ _ _ _ _ _ _ op_modN (@pe_op _ _ _ _ _ _ _ _ op_fdivB (pv 0) pe_int) pe_int)) (@pa_cons _ _ _ _ _ pe_int pa_nil (by rfl)) (by rfl)) (by rfl))) (by rfl) (Or.inl rfl))
   (@pss_cons _ _ _ _ _ (@ps_set _ _ 5 _ _ _ _ nd rfl (Or.inr rfl) (@pe_op _ _ _ _ _ _ _ _ op_modN (@pe_op _ _ _ _ _ _ _ _ op_modN (@pe_op _ _ _ _ _ _ _ _ op_fdivB (pv 0) pe_int) pe_int) (pe_callB (call_len' (K := K) rfl) (by rfl) T.z_len PySem.boot_len (@pa_cons _ _ _ _ _ (pv 4) pa_nil (by rfl)))) (by rfl) (Or.inl rfl))
   (@pss_cons _ _ _ _ _ (@ps_set _ _ 6 _ _ _ _ nd rfl (Or.inl rfl) (@pe_lst _ _ _ _ pa_nil) (by rfl) (Or.inl rfl))
   (@pss_cons _ _ _ _ _ (ps_for PassesOwn.never rfl (pi_range1 (by rfl) T.z_range (@pa_cons _ _ _ _ _ (pv 1) pa_nil (by rfl))) (pg_name (i := 7) nd rfl (Or.inr rfl)) (@pss_cons _ _ _ _ _ (ps_setcomp ["_law_k"] ["_law_letters", "_law_base", "_law_j", "_law_at"] [3, 4, 7, 5] (i := 8) nd rfl rfl rfl (by rfl) (pi_range1 (by rfl) T.z_range (@pa_cons _ _ _ _ _ (pe_callB (call_len' (K := K) rfl) (by rfl) T.z_len PySem.boot_len (@pa_cons _ _ _ _ _ (pv 4) pa_nil (by rfl))) pa_nil (by rfl))) (fun _ _ _ _ => (pg_name (i := 0) (show List.Nodup (["_law_k", "_law_letters", "_law_base", "_law_j", "_law_at"] : List Str) from by decide) rfl (Or.inl rfl))) (fun _ _ _ _ => pif_none) (fun _ _ _ _ => (pe_ix ix_str (pv 1) (@pe_op _ _ _ _ _ _ _ _ op_modN (@pe_op _ _ _ _ _ _ _ _ op_add (pe_ix (ix_list' (K := K) rfl) (pv 2) (pv 0) (fun _ _ => rfl)) (@pe_op _ _ _ _ _ _ _ _ op_mulB (pv 3) (pe_callTy call_int1 (by rfl) T.z_int bt_int (@pa_cons _ _ _ _ _ (pe_cmpR op_eq (pv 0) (pv 4) (nomark _)) pa_nil (by rfl))))) pe_int) (fun _ _ => rfl))))
   (@pss_one _ _ _ (ps_expr (pe_bm PySem.F.plainAttrs_list PySem.F.slot_list_append PySem.F.type_list_append mt_append (pv 6) (@pa_cons _ _ _ _ _ (pe_bm' (K := K) rfl PySem.F.plainAttrs_str PySem.F.slot_str_join PySem.F.type_str_join (mt_join' (K := K) rfl) pe_str (@pa_cons _ _ _ _ _ (pv 8) pa_nil (by rfl))) pa_nil (by rfl)))))))
   (@pss_one _ _ _ (ps_ret (pv 6)))))))))), ?_⟩
  refine ⟨sz (show 10 ≤ 1000 by decide), fun pw hpw => ?_⟩
  have sw := Same.upd (o := .lst (WN.map V.str)) hpw
  refine ⟨_, rfl, _, _, rfl, rfl, (show (4 : Int) ≠ 0 by decide), rfl, _, rfl, ?_⟩
  refine' by_key0 (fun key => ?go) ?body
  case go =>
   refine ite2 (fun _ => ?_) (fun _ => iteF key)
   refine ⟨_, rfl, _, _, rfl, rfl, _, rfl, ?_⟩
   refine ite2 (fun h => ?_) (fun _ => key)
   have h : m < 11 := of_decide_eq_true h
   obtain ⟨mm, rfl⟩ := Int.eq_ofNat_of_zero_le hm0
   have hmm : mm ≤ WN.length := by show mm ≤ 10; omega
   refine ⟨_, rfl, _, rfl, _, rfl, pw, WN.map V.str, rfl, SqL.of upd_same, fun q hq => ?_⟩
   refine k q _ (WN.take mm) (sw.trans (Same.upd hq)) (sw.free hq) (by rw [upd_same, cut_upto WN hmm]) ?_ (wn_nd.sublist (List.take_sublist _ _)) (fun z hz => wn_len z (List.mem_of_mem_take hz))
   rw [List.length_take]; omega
  have q7 := fmod_lt (c := c.fdiv 4) (m := 7) (by decide)
  refine ⟨_, rfl, _, _, rfl, rfl, dd (by decide) (by decide), _, rfl, _, _, rfl, rfl, dd (by decide) (by decide), _, _, rfl, rfl, (show (7 : Int) ≠ 0 by decide), _, _, rfl, rfl, c.fdiv 56, 1 + (c.fdiv 4).fmod 7, rfl, by omega, by omega, fun D H1 bs s1 hd hl hb => ?_⟩
  have hlen : (bs.map V.int).length = bs.length := List.length_map ..
  have hne : (((bs.map V.int).length : Nat) : Int) ≠ 0 := by rw [hlen]; omega
  refine ⟨_, rfl, _, _, rfl, rfl, dd (by decide) (by decide), _, _, rfl, rfl, (show (7 : Int) ≠ 0 by decide), _, rfl, _, _, rfl, .inl ⟨_, SqL.of hd, rfl⟩, _, _, rfl, rfl, hne, ?_⟩
  have qa := fmod_lt (c := (c.fdiv 28).fmod 7) (m := (((bs.map V.int).length : Nat) : Int)) (by rw [hlen]; omega)
  let av : Int := ((c.fdiv 28).fmod 7).fmod (((bs.map V.int).length : Nat) : Int)
  obtain ⟨a0, ea⟩ : ∃ a0 : Nat, av = (a0 : Nat) := Int.eq_ofNat_of_zero_le qa.1
  have ha0 : a0 < bs.length := by
   have h2 : av < (((bs.map V.int).length : Nat) : Int) := qa.2
   rw [ea, hlen] at h2; omega
  refine ⟨sz (by simp), fun p hp => ?_⟩
  have sp1 := Same.upd (o := .lst []) hp
  have fp : H p = none := (sw.trans s1).free hp
  refine ⟨_, rfl, _, rfl, by omega, by omega, ?_⟩
  refine for_range (fun i σ H2 => ∃ v7 v8 : Option V, σ = [some (.int c), some (.int m), some (.ref pw), some (.str LT), some (.ref D), some (.int av), some (.ref p), v7, v8] ∧ Same H1 H2 ∧ H2 p = some (.lst (((List.range i).map (nam bs av bs.length)).map V.str))) ⟨none, none, rfl, sp1, upd_same⟩ ?_ ?_
  ·rintro i σ H2 hi ⟨v7, v8, rfl, s2, hp2⟩
   have hi : i < m.toNat := hi
   have hd2 := s2 _ _ hd
   refine ⟨_, rfl, _, _, rfl, .inl ⟨_, SqL.of hd2, rfl⟩, _, rfl, by rw [hlen]; omega, by rw [hlen]; omega, fun D2 hD2 => ?_⟩
   refine block_range (fun j σ' H' => ∃ v : Option V, σ' = [v, some (.str LT), some (.ref D), some (.int (0 + (i : Int))), some (.int av)] ∧ Same H2 H' ∧ H' D2 = some (.lst ((((List.range j).map (lr bs av i)).map one1).map V.str))) ⟨none, rfl, Same.upd hD2, upd_same⟩ ?_ ?_
   ·rintro j σ' H' hj ⟨v, rfl, s3, hd3⟩
    have hj : j < bs.length := by
     have hj : j < (((bs.map V.int).length : Nat) : Int).toNat := hj
     rw [hlen] at hj; simpa using hj
    have q26 := fmod_lt (c := bs.getD j 0 + (i : Int) * (if decide (V.int (j : Nat) = V.int av) = true then 1 else 0)) (m := 26) (by decide)
    refine ⟨_, rfl, _, rfl, _, rfl, D, _, _, _, rfl, rfl, SqL.of (s3 _ _ hd2), getD_at' hj, _, rfl, _, rfl, _, rfl, rfl, .inr ⟨_, rfl, _, _, rfl, rfl, mulOk_of 64 (Nat.lt_of_le_of_lt (m := 40) (by omega) (by decide)) ?_ (by decide), _, _, rfl, rfl, _, _, rfl, rfl, (show (26 : Int) ≠ 0 by decide), ?_⟩⟩
    ·refine Nat.lt_of_le_of_lt (m := 1) ?_ (by decide)
     show (if _ then (1 : Int) else 0).natAbs ≤ 1
     split <;> decide
    refine ⟨_, _, lr bs av i j, rfl, rfl, sz (by decide), ?_, ?_⟩
    ·have e1 : (bs.getD j 0 + (0 + (i : Int)) * (if decide (V.int (0 + (j : Int)) = V.int av) = true then 1 else 0)) = bs.getD j 0 + (i : Int) * (if decide (V.int (j : Nat) = V.int av) = true then 1 else 0) := by rw [Int.zero_add, Int.zero_add]
     show atI LT.cps.toList ((bs.getD j 0 + (0 + (i : Int)) * (if decide (V.int (0 + (j : Int)) = V.int av) = true then 1 else 0)).fmod 26) = _
     rw [e1]
     exact lt_at q26
    refine ⟨_, hd3, by rw [List.length_map, List.length_map, List.length_map, List.length_range]; exact sz (by omega), _, rfl, s3.updD hD2, ?_⟩
    rw [upd_same, List.range_succ, List.map_append, List.map_append, List.map_append]; rfl
   ·rintro σ' H3 ⟨v, rfl, s3, hd3⟩
    have ej : (((bs.map V.int).length : Nat) : Int).toNat = bs.length := by rw [hlen]; simp
    have hd3 : H3 D2 = some (.lst (((lrs bs av bs.length i).map one1).map V.str)) := by
     have hd3 : H3 D2 = some (.lst ((((List.range (((bs.map V.int).length : Nat) : Int).toNat).map (lr bs av i)).map one1).map V.str)) := hd3
     rw [ej] at hd3; exact hd3
    have hp3 := s3 _ _ hp2
    refine ⟨_, rfl, .inl ⟨rfl, _, SqL.of hp3⟩, rfl, _, rfl, _, D2, (lrs bs av bs.length i).map one1, rfl, rfl, SqL.of hd3, ?_, p, _, _, rfl, rfl, hp3, by rw [List.length_map, List.length_map, List.length_range]; exact sz (by omega), ?_⟩
    ·rw [sum_ones, List.length_map]
     unfold lrs
     rw [List.length_map, List.length_range]
     show bs.length + bs.length * 0 ≤ _
     omega
    refine ⟨_, _, rfl, (s2.trans s3).updD hp, ?_⟩
    have ez : Txt.join (Str.ofString "") ((lrs bs av bs.length i).map one1) = nam bs av bs.length i := join_cs _
    rw [upd_same, List.range_succ, List.map_append, List.map_append, ez]; rfl
  rintro σ H2 ⟨v7, v8, rfl, s2, hp2⟩
  have hp2 : H2 p = some (.lst (((List.range m.toNat).map (nam bs av bs.length)).map V.str)) := hp2
  refine ⟨_, rfl, k p H2 _ (sw.trans (s1.trans s2)) fp hp2 (by rw [List.length_map, List.length_range]; omega) ?_ fun z hz => ?_⟩
  ·rw [ea]; exact nam_nodup2 ha0 (by omega)
  ·obtain ⟨x, _, rfl⟩ := List.mem_map.mp hz
   exact ⟨by rw [nam_len]; omega, nam_zz (by omega)⟩
end
end T09
namespace T09
open PySem L2 Tc
section
variable {P : Program} {w : World} {K : PySem.W.Frag} {mg : Str → Option Value} {base : Heap}
noncomputable abbrev s__law_lowest : Stmt := top 32
theorem sc__law_lowest : FnScope ["_law_top", "_law_bottom", "_law_one", "_law_other"] ["_law_top", "_law_bottom"] (defScope s__law_lowest) := ⟨rfl, rfl, rfl, by decide +kernel, rfl, by decide +kernel, by decide +kernel⟩
theorem ok__law_lowest {ca : Ca} (D : DefAt K mg "_law_lowest" s__law_lowest) (T : Txt K mg ca) : FnAt P w K mg base CX0 1 "_law_lowest" ["_law_top", "_law_bottom"] (spLow) := by
 refine D.ok sc__law_lowest (fun vs H Q E h => ?_) (fun _ _ _ _ _ _ us hl => match us, hl with | [_, _], _ => rfl) (fun f cdv A outer s H vs Q E hr h => ?_)
 ·obtain ⟨t, b, rfl, ht, ht2, hb, hb2, k⟩ := h; rfl
 ·obtain ⟨t, b, rfl, ht, ht2, hb, hb2, k⟩ := h
  have nd := sc__law_lowest.nd
  refine ⟨_, (@pss_cons _ _ _ _ _ (@ps_set _ _ 2 _ _ _ _ nd rfl (Or.inl rfl) (pv 0) (by rfl) (Or.inl rfl))
   (@pss_cons _ _ _ _ _ (@ps_set _ _ 3 _ _ _ _ nd rfl (Or.inl rfl) (pv 1) (by rfl) (Or.inl rfl))
   (@pss_cons _ _ _ _ _ (ps_while PassesOwn.never (pt_cmpR op_gt (pv 3) pe_int (nomark _)) (@pss_one _ _ _ (ps_par (i := 2) (j := 3) rfl nd rfl rfl (by decide) rfl rfl (@pa_cons _ _ _ _ _ (pv 3) (@pa_cons _ _ _ _ _ (@pe_op _ _ _ _ _ _ _ _ op_modN (pv 2) (pv 3)) pa_nil (by rfl)) (by rfl)) rfl)))
   (@pss_one _ _ _ (ps_ret (@pe_tup _ _ _ _ _ (@pa_cons _ _ _ _ _ (@pe_op _ _ _ _ _ _ _ _ op_fdivB (pv 0) (pv 2)) (@pa_cons _ _ _ _ _ (@pe_op _ _ _ _ _ _ _ _ op_fdivB (pv 1) (pv 2)) pa_nil (by rfl)) (by rfl)))))))), ?_⟩
  refine ⟨_, rfl, ?_⟩
  refine ⟨_, rfl, ?_⟩
  refine while_by (fun σ H1 => ∃ x y : Int, σ = [some (.int t), some (.int b), some (.int x), some (.int y)] ∧ H1 = H ∧ 0 ≤ x ∧ 0 ≤ y ∧ Int.gcd x y = Int.gcd t b)
   (fun σ _ => match σ with | [_, _, _, some (.int y)] => y.natAbs | _ => 0) ⟨t, b, rfl, rfl, ht, by omega, rfl⟩ ?_ ?_
  ·rintro σ H1 ⟨x, y, rfl, rfl, hx0, hy0, hgc⟩
   refine ⟨_, rfl, _, _, rfl, rfl, _, rfl, ?_⟩
   refine ite2 (fun h1 => ?_) (fun h1 => ?_)
   ·have h1 : 0 < y := of_decide_eq_true h1
    have hy : y ≠ 0 := by omega
    refine ⟨_, rfl, _, rfl, _, rfl, _, _, rfl, rfl, hy, _, _, rfl, ?_⟩
    exact ⟨⟨_, _, rfl, rfl, by omega, (fmod_lt h1).1, (gcd_fmod x y).trans hgc⟩, Dv.less hy⟩
   ·have h1 : ¬ 0 < y := fun z => h1 (decide_eq_true z)
    have hy : y = 0 := by omega
    subst hy
    rw [Int.gcd_zero_right] at hgc
    have eg : x = ((Int.gcd t b : Nat) : Int) := by omega
    obtain ⟨g0, f1, f2, f3, f4, f5, f6, f7⟩ := low_facts ht ht2 hb hb2 eg
    have gle : x ≤ 10 ^ 12 := by
     have : Int.gcd t b ≤ b.natAbs := Int.gcd_le_natAbs_right _ (by omega)
     omega
    have hd : ∀ i, CDivB i x := fun i => divB_of (by omega) (Nat.lt_of_le_of_lt (m := 10 ^ 12) (by omega) (by decide))
    refine ⟨_, rfl, _, rfl, _, _, rfl, rfl, hd _, _, rfl, _, rfl, _, _, rfl, rfl, hd _, sz (by simp), fun p hp => ?_⟩
    exact k p _ _ _ (Same.upd hp) upd_same f1 f2 f3 f4 f5 f6 f7
  ·intro σ H1 Q1 Q2 hq h1
   obtain ⟨v, e, i, j, e1, e2, c, e3, h3⟩ := h1
   exact ⟨v, e, i, j, e1, e2, c, e3, hq _ _ h3⟩
end
end T09
namespace T09
open PySem L2 Tc
section
variable {P : Program} {w : World} {K : PySem.W.Frag} {mg : Str → Option Value} {base : Heap}
noncomputable abbrev s__law_amount : Stmt := top 33
theorem sc__law_amount : FnScope ["_law_number", "_law_top"] ["_law_number"] (defScope s__law_amount) := ⟨rfl, rfl, rfl, by decide +kernel, rfl, by decide +kernel, by decide +kernel⟩
theorem ok__law_amount {ca : Ca} (D : DefAt K mg "_law_amount" s__law_amount) (T : Txt K mg ca) (G__law_lowest : FnAt P w K mg base CX0 1 "_law_lowest" ["_law_top", "_law_bottom"] (spLow)) : FnAt P w K mg base CX0 2 "_law_amount" ["_law_number"] (spAmt) := by
 refine D.ok sc__law_amount (fun vs H Q E h => ?_) (fun _ _ _ _ _ _ us hl => match us, hl with | [_], _ => rfl) (fun f cdv A outer s H vs Q E hr h => ?_)
 ·obtain ⟨n, rfl, hn0, hn, k⟩ := h; rfl
 ·obtain ⟨n, rfl, hn0, hn, k⟩ := h
  have nd := sc__law_amount.nd
  refine ⟨_, (@pss_cons _ _ _ _ _ (ps_if (pt_cmpR op_eq (@pe_op _ _ _ _ _ _ _ _ op_modN (pv 0) pe_int) pe_int (nomark _)) (@pss_one _ _ _ (ps_ret (@pe_tup _ _ _ _ _ (@pa_cons _ _ _ _ _ (@pe_op _ _ _ _ _ _ _ _ op_add pe_int (@pe_op _ _ _ _ _ _ _ _ op_modN (@pe_op _ _ _ _ _ _ _ _ op_fdivB (pv 0) pe_int) pe_int)) (@pa_cons _ _ _ _ _ pe_int pa_nil (by rfl)) (by rfl))))) pss_nil)
   (@pss_cons _ _ _ _ _ (ps_if (pt_cmpR op_eq (@pe_op _ _ _ _ _ _ _ _ op_modN (pv 0) pe_int) pe_int (nomark _)) (@pss_one _ _ _ (ps_ret (pe_fn G__law_lowest hr (by rfl) pass0 (@pa_cons _ _ _ _ _ (@pe_op _ _ _ _ _ _ _ _ op_add pe_int (@pe_op _ _ _ _ _ _ _ _ op_modN (@pe_op _ _ _ _ _ _ _ _ op_fdivB (pv 0) pe_int) pe_int)) (@pa_cons _ _ _ _ _ (@pe_op _ _ _ _ _ _ _ _ op_add pe_int (@pe_op _ _ _ _ _ _ _ _ op_modN (@pe_op _ _ _ _ _ _ _ _ op_fdivB (pv 0) pe_int) pe_int)) pa_nil (by rfl)) (by rfl))))) pss_nil)
   (@pss_cons _ _ _ _ _ (@ps_set _ _ 1 _ _ _ _ nd rfl (Or.inl rfl) (@pe_op _ _ _ _ _ _ _ _ op_add pe_int (@pe_op _ _ _ _ _ _ _ _ op_modN (@pe_op _ _ _ _ _ _ _ _ op_mulB (pv 0) (pv 0)) pe_int)) (by rfl) (Or.inl rfl))
   (@pss_cons _ _ _ _ _ (ps_if (pt_cmpR op_eq (@pe_op _ _ _ _ _ _ _ _ op_modN (pv 0) pe_int) pe_int (nomark _)) (@pss_one _ _ _ (ps_ret (@pe_tup _ _ _ _ _ (@pa_cons _ _ _ _ _ (pv 1) (@pa_cons _ _ _ _ _ pe_int pa_nil (by rfl)) (by rfl))))) pss_nil)
   (@pss_one _ _ _ (ps_ret (pe_fn G__law_lowest hr (by rfl) pass0 (@pa_cons _ _ _ _ _ (pv 1) (@pa_cons _ _ _ _ _ (@pe_op _ _ _ _ _ _ _ _ op_add pe_int (@pe_op _ _ _ _ _ _ _ _ op_modN (@pe_op _ _ _ _ _ _ _ _ op_mulB (@pe_op _ _ _ _ _ _ _ _ op_fdivB (pv 0) pe_int) pe_int) pe_int)) pa_nil (by rfl)) (by rfl))))))))), ?_⟩
  have m4 : (4 : Int) ≠ 0 := by decide
  have q9 := fmod_lt (c := n.fdiv 4) (m := 9) (by decide)
  have q20 := fmod_lt (c := n.fdiv 4) (m := 20) (by decide)
  have q6 := fmod_lt (c := n.fdiv 80) (m := 6) (by decide)
  have qt := fmod_lt (c := n * n) (m := 999999999999) (by decide)
  have qb := fmod_lt (c := n.fdiv 7 * 48271) (m := 999999999999) (by decide)
  refine ⟨_, rfl, _, _, rfl, rfl, m4, rfl, _, rfl, ?_⟩
  refine ite2 (fun _ => ?_) (fun _ => ?_)
  ·refine ⟨_, rfl, _, _, rfl, rfl, dd (by decide) (by decide), _, _, rfl, rfl, (show (9 : Int) ≠ 0 by decide), _, _, rfl, rfl, sz (by simp), fun p hp => ?_⟩
   exact k p _ _ _ (Same.upd hp) upd_same (by omega) (by omega) (by decide) (by decide) (Int.gcd_one_right _)
  refine ⟨_, rfl, _, _, rfl, rfl, m4, rfl, _, rfl, ?_⟩
  refine ite2 (fun _ => ?_) (fun _ => ?_)
  ·refine ⟨_, rfl, _, _, rfl, rfl, dd (by decide) (by decide), _, _, rfl, rfl, (show (20 : Int) ≠ 0 by decide), _, _, rfl, rfl, _, rfl, _, _, rfl, rfl, dd (by decide) (by decide), _, _, rfl, rfl, (show (6 : Int) ≠ 0 by decide), _, _, rfl, rfl, ?_⟩
   exact ⟨_, _, rfl, by omega, by omega, by omega, by omega, fun p x y H' s' hp h1 h2 h3 h4 h5 h6 _ => k p x y H' s' hp (h6 (by omega)) h2 h3 h4 h5⟩
  refine ⟨_, rfl, _, rfl, _, _, rfl, rfl, mulOk_of 256 (big_bits hn0 hn) (big_bits hn0 hn) (by decide), _, _, rfl, rfl, (show (999999999999 : Int) ≠ 0 by decide), _, _, rfl, rfl, ?_⟩
  refine ⟨_, rfl, _, _, rfl, rfl, m4, rfl, _, rfl, ?_⟩
  refine ite2 (fun _ => ?_) (fun _ => ?_)
  ·refine ⟨_, rfl, sz (by simp), fun p hp => ?_⟩
   exact k p _ _ _ (Same.upd hp) upd_same (by omega) (by omega) (by decide) (by decide) (Int.gcd_one_right _)
  refine ⟨_, rfl, _, rfl, _, _, rfl, rfl, dd (by decide) (by decide), _, _, rfl, rfl, IntMulOk.of_right (by decide), _, _, rfl, rfl, (show (999999999999 : Int) ≠ 0 by decide), _, _, rfl, rfl, ?_⟩
  exact ⟨_, _, rfl, by omega, by omega, by omega, by omega, fun p x y H' s' hp h1 h2 h3 h4 h5 h6 _ => k p x y H' s' hp (h6 (by omega)) h2 h3 h4 h5⟩
end
end T09
namespace T09
open PySem L2 Tc
section
variable {P : Program} {w : World} {K : PySem.W.Frag} {mg : Str → Option Value} {base : Heap}
noncomputable abbrev s__law_share : Stmt := top 34
theorem sc__law_share : FnScope ["_law_number", "_law_bottom"] ["_law_number"] (defScope s__law_share) := ⟨rfl, rfl, rfl, by decide +kernel, rfl, by decide +kernel, by decide +kernel⟩
theorem ok__law_share {ca : Ca} (D : DefAt K mg "_law_share" s__law_share) (T : Txt K mg ca) (G__law_lowest : FnAt P w K mg base CX0 1 "_law_lowest" ["_law_top", "_law_bottom"] (spLow)) : FnAt P w K mg base CX0 2 "_law_share" ["_law_number"] (spShr) := by
 refine D.ok sc__law_share (fun vs H Q E h => ?_) (fun _ _ _ _ _ _ us hl => match us, hl with | [_], _ => rfl) (fun f cdv A outer s H vs Q E hr h => ?_)
 ·obtain ⟨n, rfl, hn0, hn, k⟩ := h; rfl
 ·obtain ⟨n, rfl, hn0, hn, k⟩ := h
  have nd := sc__law_share.nd
  refine ⟨_, (@pss_cons _ _ _ _ _ (@ps_set _ _ 1 _ _ _ _ nd rfl (Or.inl rfl) (pe_ix (ix_list' (K := K) rfl) (@pe_lst _ _ _ _ (@pa_cons _ _ _ _ _ pe_int (@pa_cons _ _ _ _ _ pe_int (@pa_cons _ _ _ _ _ pe_int (@pa_cons _ _ _ _ _ (@pe_op _ _ _ _ _ _ _ _ op_add pe_int (@pe_op _ _ _ _ _ _ _ _ op_modN (@pe_op _ _ _ _ _ _ _ _ op_mulB (@pe_op _ _ _ _ _ _ _ _ op_fdivB (pv 0) pe_int) pe_int) pe_int)) pa_nil (by rfl)) (by rfl)) (by rfl)) (by rfl))) (@pe_op _ _ _ _ _ _ _ _ op_modN (pv 0) pe_int) (fun _ _ => rfl)) (by rfl) (Or.inl rfl))
   (@pss_one _ _ _ (ps_ret (pe_fn G__law_lowest hr (by rfl) pass0 (@pa_cons _ _ _ _ _ (@pe_op _ _ _ _ _ _ _ _ op_modN (@pe_op _ _ _ _ _ _ _ _ op_mulB (@pe_op _ _ _ _ _ _ _ _ op_fdivB (pv 0) pe_int) pe_int) (@pe_op _ _ _ _ _ _ _ _ op_add (pv 1) pe_int)) (@pa_cons _ _ _ _ _ (pv 1) pa_nil (by rfl)) (by rfl)))))), ?_⟩
  have qb := fmod_lt (c := n.fdiv 8 * 48271) (m := 999999999999) (by decide)
  have q4 := fmod_lt (c := n) (m := 4) (by decide)
  refine ⟨_, rfl, _, _, rfl, rfl, dd (by decide) (by decide), _, _, rfl, rfl, IntMulOk.of_right (by decide), _, _, rfl, rfl, (show (999999999999 : Int) ≠ 0 by decide), _, _, rfl, rfl, sz (by simp), fun p hp => ?_⟩
  obtain ⟨b, hb0, hb1, hat⟩ : ∃ b : Int, 0 < b ∧ b < 10 ^ 12 ∧ atI [V.int 1, .int 2, .int 3, .int (1 + (n.fdiv 8 * 48271).fmod 999999999999)] (n.fmod 4) = some (V.int b) := by
   have h : n.fmod 4 = 0 ∨ n.fmod 4 = 1 ∨ n.fmod 4 = 2 ∨ n.fmod 4 = 3 := by omega
   rcases h with h | h | h | h <;> rw [h]
   ·exact ⟨1, by decide, by decide, rfl⟩
   ·exact ⟨2, by decide, by decide, rfl⟩
   ·exact ⟨3, by decide, by decide, rfl⟩
   ·exact ⟨_, by omega, by omega, rfl⟩
  refine ⟨_, rfl, _, _, rfl, rfl, (show (4 : Int) ≠ 0 by decide), p, _, _, _, rfl, rfl, SqL.of upd_same, hat, ?_⟩
  have qt := fmod_lt (c := n.fdiv 5 * 69621) (m := b + 1) (by omega)
  refine ⟨_, rfl, _, _, rfl, rfl, dd (by decide) (by decide), _, _, rfl, rfl, IntMulOk.of_right (by decide), _, rfl, _, _, rfl, rfl, _, _, rfl, rfl, (show b + 1 ≠ 0 by omega), _, rfl, ?_⟩
  exact ⟨_, _, rfl, qt.1, by omega, hb0, hb1, fun p2 x y H' s' hp2 h1 h2 h3 h4 h5 _ h7 => k p2 x y H' ((Same.upd hp).trans s') hp2 h1 (h7 (by omega)) h3 h4 h5⟩
end
end T09
namespace T09
open PySem L2 Tc
section
variable {P : Program} {w : World} {K : PySem.W.Frag} {mg : Str → Option Value} {base : Heap}
noncomputable abbrev s__law_number_text : Stmt := top 35
theorem sc__law_number_text : FnScope ["_law_one"] ["_law_one"] (defScope s__law_number_text) := ⟨rfl, rfl, rfl, by decide +kernel, rfl, by decide +kernel, by decide +kernel⟩
theorem ok__law_number_text {ca : Ca} (D : DefAt K mg "_law_number_text" s__law_number_text) (T : Txt K mg ca) : FnAt P w K mg base CX0 1 "_law_number_text" ["_law_one"] (spNT K) := by
 refine D.ok sc__law_number_text (fun vs H Q E h => ?_) (fun _ _ _ _ _ _ us hl => match us, hl with | [_], _ => rfl) (fun f cdv A outer s H vs Q E hr h => ?_)
 ·obtain ⟨a, x, y, rfl, hS, hx0, hx, hy0, hy, k⟩ := h; rfl
 ·obtain ⟨a, x, y, rfl, hS, hx0, hx, hy0, hy, k⟩ := h
  have nd := sc__law_number_text.nd
  refine ⟨_, (@pss_cons _ _ _ _ _ (ps_if (pt_cmpR op_eq (pe_ix (ix_tup' (K := K) rfl) (pv 0) pe_int (fun _ _ => rfl)) pe_int (nomark _)) (@pss_one _ _ _ (ps_ret (pe_callTy call_str_int (by rfl) T.z_str bt_str (@pa_cons _ _ _ _ _ (pe_ix (ix_tup' (K := K) rfl) (pv 0) pe_int (fun _ _ => rfl)) pa_nil (by rfl))))) pss_nil)
   (@pss_one _ _ _ (ps_ret (@pe_op _ _ _ _ _ _ _ _ op_add_str (@pe_op _ _ _ _ _ _ _ _ op_add_str (pe_callTy call_str_int (by rfl) T.z_str bt_str (@pa_cons _ _ _ _ _ (pe_ix (ix_tup' (K := K) rfl) (pv 0) pe_int (fun _ _ => rfl)) pa_nil (by rfl))) pe_str) (pe_callTy call_str_int (by rfl) T.z_str bt_str (@pa_cons _ _ _ _ _ (pe_ix (ix_tup' (K := K) rfl) (pv 0) pe_int (fun _ _ => rfl)) pa_nil (by rfl))))))), ?_⟩
  unfold numTxt at k
  refine ⟨_, rfl, a, _, 1, _, rfl, rfl, hS, rfl, rfl, _, rfl, ?_⟩
  refine ite2 (fun h1 => ?_) (fun h1 => ?_)
  ·rw [if_pos (V.int.inj (of_decide_eq_true h1))] at k
   exact ⟨_, rfl, a, _, 0, _, rfl, rfl, hS, rfl, x, rfl, log_small hx0 hx, k⟩
  ·rw [if_neg (fun z => h1 (decide_eq_true (congrArg V.int z)))] at k
   have l1 := figs_len hx0 hx
   have l2 := figs_len (by omega) hy
   have ld := slash_len
   refine ⟨_, rfl, a, _, 0, _, rfl, rfl, hS, rfl, x, rfl, log_small hx0 hx, _, _, rfl, rfl, sz (show (figs x).length + (Str.ofString "/").length ≤ 1000 by omega), _, rfl, a, _, 1, _, rfl, rfl, hS, rfl, y, rfl, log_small (by omega) hy, _, _, rfl, rfl, sz ?_, k⟩
   show (figs x ++ Str.ofString "/").length + (figs y).length ≤ 1000
   rw [strLen_append]; omega
end
end T09
namespace T09
open PySem L2 Tc
section
variable {P : Program} {w : World} {K : PySem.W.Frag} {mg : Str → Option Value} {base : Heap}
noncomputable abbrev s__law_house : Stmt := top 36
theorem sc__law_house : FnScope ["_law_script_here", "_law_number", "_law_casks", "_law_sinks", "_law_names_here", "_law_house_here", "_law_at"] ["_law_script_here"] (defScope s__law_house) := ⟨rfl, rfl, rfl, by decide +kernel, rfl, by decide +kernel, by decide +kernel⟩
theorem ok__law_house {ca : Ca} (D : DefAt K mg "_law_house" s__law_house) (T : Txt K mg ca) (G__law_mixed : FnAt P w K mg base CX0 1 "_law_mixed" ["_law_cell"] (spMix)) (G__law_cell_at : FnAt P w K mg base CX0 1 "_law_cell_at" ["_law_script_here", "_law_k"] (spCell K)) (G__law_names : FnAt P w K mg base CX0 2 "_law_names" ["_law_number", "_law_many"] (spNam3)) : FnAt P w K mg base CX0 3 "_law_house" ["_law_script_here"] (spHs8 K) := by
 refine D.ok sc__law_house (fun vs H Q E h => ?_) (fun _ _ _ _ _ _ us hl => match us, hl with | [_], _ => rfl) (fun f cdv A outer s H vs Q E hr h => ?_)
 ·obtain ⟨a, ns, rfl, hS, k⟩ := h; rfl
 ·obtain ⟨a, ns, rfl, hS, k⟩ := h
  have nd := sc__law_house.nd
  refine ⟨_, (@pss_cons _ _ _ _ _ (@ps_set _ _ 1 _ _ _ _ nd rfl (Or.inr rfl) (pe_fn G__law_mixed hr (by rfl) pass0 (@pa_cons _ _ _ _ _ (pe_fn G__law_cell_at hr (by rfl) pass0 (@pa_cons _ _ _ _ _ (pv 0) (@pa_cons _ _ _ _ _ pe_int pa_nil (by rfl)) (by rfl))) pa_nil (by rfl))) (by rfl) (Or.inl rfl))
   (@pss_cons _ _ _ _ _ (@ps_set _ _ 2 _ _ _ _ nd rfl (Or.inl rfl) (@pe_op _ _ _ _ _ _ _ _ op_add pe_int (@pe_op _ _ _ _ _ _ _ _ op_modN (pv 1) pe_int)) (by rfl) (Or.inl rfl))
   (@pss_cons _ _ _ _ _ (ps_if (pt_cmpR op_eq (@pe_op _ _ _ _ _ _ _ _ op_modN (@pe_op _ _ _ _ _ _ _ _ op_fdivB (pv 1) pe_int) pe_int) pe_int (nomark _)) (@pss_one _ _ _ (@ps_set _ _ 2 _ _ _ _ nd rfl (Or.inl rfl) (@pe_op _ _ _ _ _ _ _ _ op_add pe_int (@pe_op _ _ _ _ _ _ _ _ op_modN (@pe_op _ _ _ _ _ _ _ _ op_fdivB (pv 1) pe_int) pe_int)) (by rfl) (Or.inl rfl))) pss_nil)
   (@pss_cons _ _ _ _ _ (@ps_set _ _ 3 _ _ _ _ nd rfl (Or.inl rfl) (@pe_op _ _ _ _ _ _ _ _ op_modN (@pe_op _ _ _ _ _ _ _ _ op_fdivB (pv 1) pe_int) pe_int) (by rfl) (Or.inl rfl))
   (@pss_cons _ _ _ _ _ (ps_if (pt_cmpR op_eq (@pe_op _ _ _ _ _ _ _ _ op_modN (@pe_op _ _ _ _ _ _ _ _ op_fdivB (pv 1) pe_int) pe_int) pe_int (nomark _)) (@pss_one _ _ _ (@ps_set _ _ 3 _ _ _ _ nd rfl (Or.inl rfl) (@pe_op _ _ _ _ _ _ _ _ op_sub pe_int (pv 2)) (by rfl) (Or.inl rfl))) pss_nil)
   (@pss_cons _ _ _ _ _ (@ps_set _ _ 4 _ _ _ _ nd rfl (Or.inl rfl) (pe_fn G__law_names hr (by rfl) pass0 (@pa_cons _ _ _ _ _ (@pe_op _ _ _ _ _ _ _ _ op_fdivB (pv 1) pe_int) (@pa_cons _ _ _ _ _ (@pe_op _ _ _ _ _ _ _ _ op_add (pv 2) (pv 3)) pa_nil (by rfl)) (by rfl))) (by rfl) (Or.inl rfl))
   (@pss_cons _ _ _ _ _ (ps_setcomp ["_law_name"] ["_law_number"] [1] (i := 5) nd rfl rfl rfl (by rfl) (pi_list' (K := K) rfl (pe_slice (sl_list' (K := K) rfl) (pv 4) po_none (po_some (pv 2)))) (fun _ _ _ _ => (pg_name (i := 0) (show List.Nodup (["_law_name", "_law_number"] : List Str) from by decide) rfl (Or.inl rfl))) (fun _ _ _ _ => pif_none) (fun _ _ _ _ => (@pe_tup _ _ _ _ _ (@pa_cons _ _ _ _ _ pe_str (@pa_cons _ _ _ _ _ (pv 0) (@pa_cons _ _ _ _ _ (@pe_tup _ _ _ _ _ (@pa_cons _ _ _ _ _ (@pe_op _ _ _ _ _ _ _ _ op_add pe_int (@pe_op _ _ _ _ _ _ _ _ op_modN (@pe_op _ _ _ _ _ _ _ _ op_fdivB (pv 1) pe_int) pe_int)) (@pa_cons _ _ _ _ _ pe_int pa_nil (by rfl)) (by rfl))) pa_nil (by rfl)) (by rfl)) (by rfl)))))
   (@pss_cons _ _ _ _ _ (@ps_set _ _ 5 _ _ _ _ nd rfl (Or.inl rfl) (@pe_op _ _ _ _ _ _ _ _ op_cat (pv 5) (pe_comp ["_law_name"] [] [] rfl (by rfl) (pi_list' (K := K) rfl (pe_slice (sl_list' (K := K) rfl) (pv 4) (po_some (pv 2)) po_none)) (fun _ _ _ _ => (pg_name (i := 0) (show List.Nodup (["_law_name"] : List Str) from by decide) rfl (Or.inl rfl))) (fun _ _ _ _ => pif_none) (fun _ _ _ _ => (@pe_tup _ _ _ _ _ (@pa_cons _ _ _ _ _ pe_str (@pa_cons _ _ _ _ _ (pv 0) pa_nil (by rfl)) (by rfl)))))) (by rfl) (Or.inl rfl))
   (@pss_cons _ _ _ _ _ (@ps_set _ _ 6 _ _ _ _ nd rfl (Or.inl rfl) (@pe_op _ _ _ _ _ _ _ _ op_modN (@pe_op _ _ _ _ _ _ _ _ op_fdivB (pv 1) pe_int) (pe_callB (call_len' (K := K) rfl) (by rfl) T.z_len PySem.boot_len (@pa_cons _ _ _ _ _ (pv 5) pa_nil (by rfl)))) (by rfl) (Or.inl rfl))
   (@pss_one _ _ _ (ps_ret (@pe_op _ _ _ _ _ _ _ _ op_cat (pe_slice (sl_list' (K := K) rfl) (pv 5) (po_some (pv 6)) po_none) (pe_slice (sl_list' (K := K) rfl) (pv 5) po_none (po_some (pv 6))))))))))))))), ?_⟩
  refine ⟨_, rfl, a, ns, 0, rfl, hS, by omega, fun c0 => ⟨c0, rfl, fun n hn0 hnB => ?_⟩⟩
  have q4 := fmod_lt (c := n) (m := 4) (by decide)
  have q12 := fmod_lt (c := n.fdiv 20) (m := 12) (by decide)
  have q3 := fmod_lt (c := n.fdiv 240) (m := 3) (by decide)
  refine ⟨_, rfl, _, _, rfl, rfl, (show (4 : Int) ≠ 0 by decide), _, _, rfl, rfl, ?_⟩
  refine ⟨_, rfl, _, _, rfl, rfl, dd (by decide) (by decide), _, _, rfl, rfl, (show (5 : Int) ≠ 0 by decide), rfl, _, rfl, ?_⟩
  refine' by_key2 (C := fun (cs sk : Int) => 1 ≤ cs ∧ cs ≤ 12 ∧ 0 ≤ sk ∧ cs + sk ≤ 20) (fun key => ?go) ?body
  case go =>
   refine ite2 (fun h1 => ?_) (fun h1 => ?_)
   ·refine ⟨_, rfl, _, _, rfl, rfl, dd (by decide) (by decide), _, _, rfl, rfl, (show (12 : Int) ≠ 0 by decide), _, _, rfl, rfl, ?_⟩
    refine ⟨_, rfl, _, _, rfl, rfl, dd (by decide) (by decide), _, _, rfl, rfl, (show (3 : Int) ≠ 0 by decide), ?_⟩
    refine ⟨_, rfl, _, _, rfl, rfl, dd (by decide) (by decide), _, _, rfl, rfl, (show (5 : Int) ≠ 0 by decide), rfl, _, rfl, ?_⟩
    have e1 : (n.fdiv 4).fmod 5 = 1 := V.int.inj (of_decide_eq_true h1)
    refine ite2 (fun h2 => ?_) (fun h2 => ?_)
    ·have e2 : (n.fdiv 4).fmod 5 = 2 := V.int.inj (of_decide_eq_true h2)
     omega
    show Ends.nx _ [some (V.ref a), some (.int n), some (.int (1 + (n.fdiv 20).fmod 12)), some (.int ((n.fdiv 240).fmod 3)), none, none, none] H
    generalize ecs : 1 + (n.fdiv 20).fmod 12 = cs
    generalize esk : (n.fdiv 240).fmod 3 = sk
    exact key cs sk ⟨by omega, by omega, by omega, by omega⟩
   ·refine ⟨_, rfl, _, _, rfl, rfl, dd (by decide) (by decide), _, _, rfl, rfl, (show (3 : Int) ≠ 0 by decide), ?_⟩
    refine ⟨_, rfl, _, _, rfl, rfl, dd (by decide) (by decide), _, _, rfl, rfl, (show (5 : Int) ≠ 0 by decide), rfl, _, rfl, ?_⟩
    refine ite2 (fun h2 => ?_) (fun h2 => ?_)
    ·refine ⟨_, rfl, _, _, rfl, rfl, ?_⟩
     show Ends.nx _ [some (V.ref a), some (.int n), some (.int (1 + n.fmod 4)), some (.int (20 - (1 + n.fmod 4))), none, none, none] H
     generalize ecs : 1 + n.fmod 4 = cs
     generalize esk : 20 - cs = sk
     exact key cs sk ⟨by omega, by omega, by omega, by omega⟩
    ·show Ends.nx _ [some (V.ref a), some (.int n), some (.int (1 + n.fmod 4)), some (.int ((n.fdiv 240).fmod 3)), none, none, none] H
     generalize ecs : 1 + n.fmod 4 = cs
     generalize esk : (n.fdiv 240).fmod 3 = sk
     exact key cs sk ⟨by omega, by omega, by omega, by omega⟩
  rintro cs sk ⟨c1, c12, k0, c20⟩
  refine ⟨_, rfl, _, _, rfl, rfl, dd (by decide) (by decide), _, rfl, _, rfl, _, _, rfl, rfl, n.fdiv 720, cs + sk, rfl, by omega, by omega, fun p1 H1 zs s1 fp1 hp1 hl1 nd1 hz1 => ?_⟩
  obtain ⟨ck, rfl⟩ := Int.eq_ofNat_of_zero_le (show 0 ≤ cs by omega)
  have hck : ck ≤ zs.length := by omega
  refine ⟨_, rfl, _, rfl, _, rfl, p1, zs.map V.str, rfl, SqL.of hp1, fun q1 hq1 => ⟨q1, rfl, ⟨_, SqL.of upd_same⟩, fun D hD => ?_⟩⟩
  rw [cuts V.str zs hck] at hD ⊢
  have tq := Same.upd (o := .lst ((zs.take ck).map V.str)) hq1
  refine block_list (xs := (zs.take ck).map V.str) (fun j σ' H' => ∃ (v : Option V) (xs : List V), σ' = [v, some (.int n)] ∧ Same (upd H1 q1 (.lst ((zs.take ck).map V.str))) H' ∧ H' D = some (.lst xs) ∧ Paired (PcV H') xs (((zs.take ck).take j).map fun z => (z, Str.ofString "cask"))) ⟨none, [], rfl, Same.upd hD, upd_same, .nil⟩ ?_ ?_ ?_
  ·rintro j σ' H' hj ⟨v, xs, rfl, s3, hd3, hP⟩
   exact SqL.of (s3 _ _ upd_same)
  ·rintro j x σ' H' hx ⟨v, xs, rfl, s3, hd3, hP⟩
   rw [List.getElem?_map] at hx
   obtain ⟨z, hz, rfl⟩ := Option.map_eq_some_iff.mp hx
   have hj : j < (zs.take ck).length := (List.getElem?_eq_some_iff.mp hz).1
   have hxl := hP.length
   rw [List.length_map, List.length_take] at hxl
   rw [List.length_take] at hj
   refine ⟨_, rfl, _, rfl, _, _, rfl, rfl, dd (by decide) (by decide), _, _, rfl, rfl, (show (1000 : Int) ≠ 0 by decide), _, _, rfl, rfl, sz (by simp), fun b1 h1 => ⟨sz (by simp), fun b2 h2 => ?_⟩⟩
   have c1 := Same.upd (o := .tup [.int (1 + (n.fdiv 11).fmod 1000), .int 1]) h1
   have c2 := Same.upd (o := .tup [.str (Str.ofString "cask"), .str z, .ref b1]) h2
   have hd5 := (c1.trans c2) _ _ hd3
   refine ⟨_, hd5, sz (by omega), _, _, rfl, (s3.trans (c1.trans c2)).updD hD, upd_same, ?_⟩
   have tD := ts_updL (o := .lst (xs ++ [V.ref b2])) hd5
   rw [List.take_add_one, hz, List.map_append]
   exact Paired.app (Paired.mapP hP fun _ _ h => h.ts (fun c xs e => tD c xs ((c1.trans c2) c _ e))) (.cons ⟨b2, _, rfl, tD _ _ upd_same⟩ .nil)
  rintro σ' H2 ⟨v, xs, rfl, s3, hd3, hP⟩
  rw [List.length_map, List.take_length] at hP
  show Ends.nx _ [some (V.ref a), some (.int n), some (.int ck), some (.int sk), some (.ref p1), some (.ref D), none] H2
  have s12 := tq.trans s3
  refine ⟨_, rfl, _, rfl, _, rfl, _, rfl, p1, zs.map V.str, rfl, SqL.of (s12 _ _ hp1), fun q2 hq2 => ⟨q2, rfl, ⟨_, SqL.of upd_same⟩, fun D2 hD2 => ?_⟩⟩
  rw [cuts2 V.str zs hck] at hD2 ⊢
  have tq2 := Same.upd (o := .lst ((zs.drop ck).map V.str)) hq2
  refine block_list (xs := (zs.drop ck).map V.str) (fun j σ' H' => ∃ (v : Option V) (xs : List V), σ' = [v] ∧ Same (upd H2 q2 (.lst ((zs.drop ck).map V.str))) H' ∧ H' D2 = some (.lst xs) ∧ Paired (PcV H') xs (((zs.drop ck).take j).map fun z => (z, Str.ofString "sink"))) ⟨none, [], rfl, Same.upd hD2, upd_same, .nil⟩ ?_ ?_ ?_
  ·rintro j σ' H' hj ⟨v, xs, rfl, s3, hd3, hP⟩
   exact SqL.of (s3 _ _ upd_same)
  ·rintro j x σ' H' hx ⟨v, xs, rfl, s3, hd3, hP⟩
   rw [List.getElem?_map] at hx
   obtain ⟨z, hz, rfl⟩ := Option.map_eq_some_iff.mp hx
   have hj : j < (zs.drop ck).length := (List.getElem?_eq_some_iff.mp hz).1
   have hxl := hP.length
   rw [List.length_map, List.length_take] at hxl
   rw [List.length_drop] at hj
   refine ⟨_, rfl, sz (by simp), fun b2 h2 => ?_⟩
   have c2 := Same.upd (o := .tup [.str (Str.ofString "sink"), .str z]) h2
   have hd5 := c2 _ _ hd3
   refine ⟨_, hd5, sz (by omega), _, _, rfl, (s3.trans c2).updD hD2, upd_same, ?_⟩
   have tD := ts_updL (o := .lst (xs ++ [V.ref b2])) hd5
   rw [List.take_add_one, hz, List.map_append]
   exact Paired.app (Paired.mapP hP fun _ _ h => h.ts (fun c xs e => tD c xs (c2 c _ e))) (.cons ⟨b2, _, rfl, tD _ _ upd_same⟩ .nil)
  rintro σ' H3 ⟨v2, ys, rfl, s4, hd4, hP2⟩
  rw [List.length_map, List.take_length] at hP2
  have s34 := tq2.trans s4
  have hxl := hP.length
  have hyl := hP2.length
  rw [List.length_map, List.length_take, Nat.min_eq_left hck] at hxl
  rw [List.length_map, List.length_drop] at hyl
  refine ⟨D, D2, xs, ys, rfl, rfl, s34 _ _ hd3, hd4, sz (by omega), fun E5 hE5 => ?_⟩
  have t5 := Same.upd (o := .lst (xs ++ ys)) hE5
  have hok : Hok (((zs.take ck).map fun z => (z, Str.ofString "cask")) ++ (zs.drop ck).map fun z => (z, Str.ofString "sink")) := by
   refine ⟨by rw [List.length_append, List.length_map, List.length_map, List.length_take, List.length_drop]; omega, ?_, fun q hq => ?_, ?_⟩
   ·rw [List.map_append, List.map_map, List.map_map]
    show ((zs.take ck).map id ++ (zs.drop ck).map id).Nodup
    rw [List.map_id, List.map_id, List.take_append_drop]
    exact nd1
   ·rcases List.mem_append.mp hq with hq | hq
    ·obtain ⟨z, hz, rfl⟩ := List.mem_map.mp hq
     have := hz1 z (List.mem_of_mem_take hz)
     exact ⟨this.1, this.2, .inl rfl⟩
    ·obtain ⟨z, hz, rfl⟩ := List.mem_map.mp hq
     have := hz1 z (List.mem_of_mem_drop hz)
     exact ⟨this.1, this.2, .inr rfl⟩
   ·have h0 : 0 < (zs.take ck).length := by rw [List.length_take]; omega
    exact ⟨((zs.take ck)[0], _), List.mem_append_left _ (List.mem_map.mpr ⟨_, List.getElem_mem h0, rfl⟩), rfl⟩
  have hPa := Paired.app (Paired.mapP hP fun _ _ h => h.ts (s34.trans t5).ts) (Paired.mapP hP2 fun _ _ h => h.ts t5.ts)
  have hwl : (xs ++ ys).length = zs.length := by rw [List.length_append]; omega
  have hne : (((xs ++ ys).length : Nat) : Int) ≠ 0 := by omega
  refine ⟨_, rfl, _, _, rfl, rfl, dd (by decide) (by decide), _, rfl, _, _, rfl, .inl ⟨_, SqL.of upd_same, rfl⟩, _, _, rfl, rfl, hne, ?_⟩
  have qa := fmod_lt (c := n.fdiv 13) (m := (((xs ++ ys).length : Nat) : Int)) (by omega)
  obtain ⟨k0, ek⟩ : ∃ k0 : Nat, (n.fdiv 13).fmod (((xs ++ ys).length : Nat) : Int) = (k0 : Nat) := Int.eq_ofNat_of_zero_le qa.1
  have hk0 : k0 ≤ (xs ++ ys).length := by omega
  show Ends.nx _ [some (V.ref a), some (.int n), some (.int ck), some (.int sk), some (.ref p1), some (.ref E5), some (.int ((n.fdiv 13).fmod (((xs ++ ys).length : Nat) : Int)))] _
  rw [ek]
  refine ⟨_, rfl, _, rfl, _, rfl, E5, _, rfl, SqL.of upd_same, fun f1 g1 => ?_⟩
  rw [cutv_d _ hk0]
  have u1 := Same.upd (o := .lst ((xs ++ ys).drop k0)) g1
  refine ⟨_, rfl, _, rfl, _, rfl, E5, _, rfl, SqL.of (u1 _ _ upd_same), fun f2 g2 => ?_⟩
  rw [cutv_u _ hk0]
  have u2 := Same.upd (o := .lst ((xs ++ ys).take k0)) g2
  refine ⟨f1, f2, _, _, rfl, rfl, u2 _ _ upd_same, upd_same, sz (by rw [List.length_drop, List.length_take]; omega), fun f3 g3 => ?_⟩
  have u3 := Same.upd (o := .lst ((xs ++ ys).drop k0 ++ (xs ++ ys).take k0)) g3
  have u13 := u1.trans (u2.trans u3)
  have hPb := Paired.mapP hPa fun _ _ h => h.ts u13.ts
  have tp := Paired.turn hPb k0
  have s05 := s1.trans (s12.trans (s34.trans t5))
  exact k f3 _ _ _ (s05.trans u13) ((s05.trans (u1.trans u2)).free g3) upd_same (Paired.app tp.1 tp.2) (hok.turn k0)
end
end T09
namespace T09
open PySem L2 Tc
section
variable {P : Program} {w : World} {K : PySem.W.Frag} {mg : Str → Option Value} {base : Heap}
noncomputable abbrev s__law_words : Stmt := top 37
theorem sc__law_words : FnScope ["_law_house_here", "_law_params", "_law_known", "_law_casks", "_law_sinks"] ["_law_house_here", "_law_params"] (defScope s__law_words) := ⟨rfl, rfl, rfl, by decide +kernel, rfl, by decide +kernel, by decide +kernel⟩
theorem ok__law_words {ca : Ca} (D : DefAt K mg "_law_words" s__law_words) (T : Txt K mg ca) : FnAt P w K mg base CX0 1 "_law_words" ["_law_house_here", "_law_params"] (spWd9 K) := by
 refine D.ok sc__law_words (fun vs H Q E h => ?_) (fun _ _ _ _ _ _ us hl => match us, hl with | [_, _], _ => rfl) (fun f cdv A outer s H vs Q E hr h => ?_)
 ·obtain ⟨a, b, xs, hp, ps, rfl, ha, hX, hhl, hb, hpl, ndp, k⟩ := h; rfl
 ·obtain ⟨a, b, xs, hp, ps, rfl, ha, hX, hhl, hb, hpl, ndp, k⟩ := h
  have nd := sc__law_words.nd
  refine ⟨_, (@pss_cons _ _ _ _ _ (ps_setcomp ["_law_k"] ["_law_params"] [1] (i := 2) nd rfl rfl rfl (by rfl) (pi_range1 (by rfl) T.z_range (@pa_cons _ _ _ _ _ (pe_callB (call_len' (K := K) rfl) (by rfl) T.z_len PySem.boot_len (@pa_cons _ _ _ _ _ (pv 1) pa_nil (by rfl))) pa_nil (by rfl))) (fun _ _ _ _ => (pg_name (i := 0) (show List.Nodup (["_law_k", "_law_params"] : List Str) from by decide) rfl (Or.inl rfl))) (fun _ _ _ _ => pif_none) (fun _ _ _ _ => (@pe_tup _ _ _ _ _ (@pa_cons _ _ _ _ _ (pe_ix (ix_list' (K := K) rfl) (pv 1) (pv 0) (fun _ _ => rfl)) (@pa_cons _ _ _ _ _ (pv 0) pa_nil (by rfl)) (by rfl)))))
   (@pss_cons _ _ _ _ _ (ps_setcomp ["_law_one"] ["_law_params"] [1] (i := 3) nd rfl rfl rfl (by rfl) (pi_list' (K := K) rfl (pv 0)) (fun _ _ _ _ => (pg_name (i := 0) (show List.Nodup (["_law_one", "_law_params"] : List Str) from by decide) rfl (Or.inl rfl))) (fun _ _ _ _ => (pif_one (PW.pt (pw_and (pt_cmpR op_eq (pe_ix (ix_tup' (K := K) rfl) (pv 0) pe_int (fun _ _ => rfl)) pe_str (nomark _)) (pw_and1 (pt_cmpR (op_notIn_seq' (K := K) rfl) (pe_ix (ix_tup' (K := K) rfl) (pv 0) pe_int (fun _ _ => rfl)) (pv 1) (by rfl))))))) (fun _ _ _ _ => (@pe_tup _ _ _ _ _ (@pa_cons _ _ _ _ _ (pe_ix (ix_tup' (K := K) rfl) (pv 0) pe_int (fun _ _ => rfl)) (@pa_cons _ _ _ _ _ (pe_ix (ix_tup' (K := K) rfl) (pv 0) pe_int (fun _ _ => rfl)) pa_nil (by rfl)) (by rfl)))))
   (@pss_cons _ _ _ _ _ (ps_setcomp ["_law_one"] ["_law_params"] [1] (i := 4) nd rfl rfl rfl (by rfl) (pi_list' (K := K) rfl (pv 0)) (fun _ _ _ _ => (pg_name (i := 0) (show List.Nodup (["_law_one", "_law_params"] : List Str) from by decide) rfl (Or.inl rfl))) (fun _ _ _ _ => (pif_one (PW.pt (pw_and (pt_cmpR op_eq (pe_ix (ix_tup' (K := K) rfl) (pv 0) pe_int (fun _ _ => rfl)) pe_str (nomark _)) (pw_and1 (pt_cmpR (op_notIn_seq' (K := K) rfl) (pe_ix (ix_tup' (K := K) rfl) (pv 0) pe_int (fun _ _ => rfl)) (pv 1) (by rfl))))))) (fun _ _ _ _ => (@pe_tup _ _ _ _ _ (@pa_cons _ _ _ _ _ (pe_ix (ix_tup' (K := K) rfl) (pv 0) pe_int (fun _ _ => rfl)) (@pa_cons _ _ _ _ _ (pe_ix (ix_tup' (K := K) rfl) (pv 0) pe_int (fun _ _ => rfl)) pa_nil (by rfl)) (by rfl)))))
   (@pss_one _ _ _ (ps_ret (@pe_lst _ _ _ _ (@pa_cons _ _ _ _ _ (@pe_op _ _ _ _ _ _ _ _ op_cat (pv 2) (pv 3)) (@pa_cons _ _ _ _ _ (@pe_op _ _ _ _ _ _ _ _ op_cat (@pe_op _ _ _ _ _ _ _ _ op_cat (pv 2) (pv 3)) (pv 4)) pa_nil (by rfl)) (by rfl)))))))), ?_⟩
  refine ⟨_, rfl, _, _, rfl, .inl ⟨_, SqL.of hb, rfl⟩, _, rfl, by rw [List.length_map]; omega, by rw [List.length_map]; omega, fun D hD => ?_⟩
  refine block_range (fun j σ' H' => ∃ (v : Option V) (us : List V), σ' = [v, some (.ref b)] ∧ Same H H' ∧ H' D = some (.lst us) ∧ Paired (NmF (parF ps) H') us (ps.take j)) ⟨none, [], rfl, Same.upd hD, upd_same, .nil⟩ ?_ ?_
  ·rintro j σ' H' hj ⟨v, us, rfl, s1, h1, hP⟩
   have hj : j < ps.length := by
    have hj : j < (((ps.map V.str).length : Nat) : Int).toNat := hj
    rw [List.length_map] at hj; simpa using hj
   obtain ⟨z, hz⟩ : ∃ z, ps[j]? = some z := ⟨ps[j], List.getElem?_eq_getElem hj⟩
   have hul : us.length ≤ j := by rw [hP.length, List.length_take]; omega
   refine ⟨_, rfl, _, rfl, b, _, _, _, rfl, rfl, SqL.of (s1 _ _ hb), (by rw [Int.zero_add]; exact atI_nat (by rw [List.getElem?_map, hz]; rfl)), _, rfl, sz (by simp), fun c1 g1 => ?_⟩
   have u1 := Same.upd (o := .tup [.str z, .int (0 + (j : Int))]) g1
   have hd5 := u1 _ _ h1
   refine ⟨_, hd5, sz (by omega), _, _, rfl, (s1.trans u1).updD hD, upd_same, ?_⟩
   have tD := ts_updL (o := .lst (us ++ [V.ref c1])) hd5
   rw [List.take_add_one, hz]
   exact Paired.app (Paired.mapP hP fun _ _ h => h.ts (fun c xs e => tD c xs (u1 c _ e))) (.cons ⟨c1, rfl, by rw [parF_in ndp hz]; rw [Int.zero_add] at tD ⊢; exact tD _ _ upd_same⟩ .nil)
  rintro σ' H1 ⟨v, ta, rfl, SE1, hta, hPa⟩
  have ej : (((ps.map V.str).length : Nat) : Int).toNat = ps.length := by rw [List.length_map]; simp
  rw [ej, List.take_length] at hPa
  refine ⟨_, rfl, a, rfl, ⟨_, SqL.of (SE1 _ _ ha)⟩, fun E1 hE1 => ?_⟩
  refine block_list (xs := xs) (fun j σ' H' => ∃ (v : Option V) (us : List V), σ' = [v, some (.ref b)] ∧ Same H1 H' ∧ H' E1 = some (.lst us) ∧ Paired (NmF (parF ps) H') us (((hp.take j).filter (isC ps)).map (·.1))) ⟨none, [], rfl, Same.upd hE1, upd_same, .nil⟩ ?_ ?_ ?_
  ·rintro j σ' H' hj ⟨v, us, rfl, s1, h1, hP⟩
   exact SqL.of ((SE1.trans s1) _ _ ha)
  ·rintro j x σ' H' hx ⟨v, us, rfl, s1, h1, hP⟩
   obtain ⟨q, hq, b2, r, rfl, hb2⟩ := paired_get hX hx
   have hb2 := (SE1.trans s1) _ _ hb2
   have hj : j < hp.length := (List.getElem?_eq_some_iff.mp hq).1
   have hul : us.length ≤ j := by
    rw [hP.length, List.length_map]
    exact Nat.le_trans (List.length_filter_le _ _) (by rw [List.length_take]; omega)
   have etk : (hp.take (j + 1)).filter (isC ps) = (hp.take j).filter (isC ps) ++ (if isC ps q = true then [q] else []) := by
    rw [List.take_add_one, hq, List.filter_append]
    congr 1
    show [q].filter (isC ps) = _
    rw [List.filter_cons, List.filter_nil]
   have skip : isC ps q = false → Paired (NmF (parF ps) H') us (((hp.take (j + 1)).filter (isC ps)).map (·.1)) := fun z => by
    rw [etk, z]
    simpa using hP
   refine ⟨_, rfl, b2, _, 0, _, rfl, rfl, SqT.of hb2, at_0 _ _, rfl, _, rfl, ?_⟩
   refine ite2 (fun h => ?_) (fun h => iteF ?_)
   ·have h : q.2 = Str.ofString "cask" := V.str.inj (of_decide_eq_true h)
    refine ⟨_, rfl, b2, _, 1, _, rfl, rfl, SqT.of hb2, at_1 _ _ _, _, rfl, b, _, rfl, .inl (SqL.of ((SE1.trans s1) _ _ hb)), rfl, flat_strs ps, _, rfl, ?_⟩
    refine ite2 (fun h2 => ?_) (fun h2 => ?_)
    ·have hin : isC ps q = true := by
      have h2 : (!inV (.str q.1) (ps.map V.str)) = true := h2
      rw [inV_str] at h2
      show (decide (q.2 = Str.ofString "cask") && !decide (q.1 ∈ ps)) = true
      rw [decide_eq_true h, h2]; rfl
     have nps : q.1 ∉ ps := (mem_isK hin).2
     refine ⟨_, rfl, b2, _, 1, _, rfl, rfl, SqT.of hb2, at_1 _ _ _, _, rfl, b2, _, 1, _, rfl, rfl, SqT.of hb2, at_1 _ _ _, sz (by simp), fun c1 g1 => ?_⟩
     have u1 := Same.upd (o := .tup [.str q.1, .str q.1]) g1
     have hd5 := u1 _ _ h1
     refine ⟨_, hd5, sz (by omega), _, _, rfl, (s1.trans u1).updD hE1, upd_same, ?_⟩
     have tD := ts_updL (o := .lst (us ++ [V.ref c1])) hd5
     rw [etk, if_pos hin, List.map_append]
     exact Paired.app (Paired.mapP hP fun _ _ h => h.ts (fun c xs e => tD c xs (u1 c _ e))) (.cons ⟨c1, rfl, by rw [parF_out nps]; exact tD _ _ upd_same⟩ .nil)
    ·have hin : isC ps q = false := by
      have h2 : ¬ (!inV (.str q.1) (ps.map V.str)) = true := h2
      rw [inV_str] at h2
      show (decide (q.2 = Str.ofString "cask") && !decide (q.1 ∈ ps)) = false
      rw [Bool.eq_false_iff.mpr h2, Bool.and_false]
     exact ⟨_, us, rfl, s1, h1, skip hin⟩
   ·have hin : isC ps q = false := by
     show (decide (q.2 = Str.ofString "cask") && !decide (q.1 ∈ ps)) = false
     rw [decide_eq_false (fun z => h (decide_eq_true (congrArg V.str z))), Bool.false_and]
    exact ⟨_, us, rfl, s1, h1, skip hin⟩
  rintro σ' H2 ⟨v, tc, rfl, s2, htc, hPc⟩
  rw [hX.length, List.take_length] at hPc
  have SE2 := SE1.trans s2
  refine ⟨_, rfl, a, rfl, ⟨_, SqL.of (SE2 _ _ ha)⟩, fun E2 hE2 => ?_⟩
  refine block_list (xs := xs) (fun j σ' H' => ∃ (v : Option V) (us : List V), σ' = [v, some (.ref b)] ∧ Same H2 H' ∧ H' E2 = some (.lst us) ∧ Paired (NmF (parF ps) H') us (((hp.take j).filter (isS ps)).map (·.1))) ⟨none, [], rfl, Same.upd hE2, upd_same, .nil⟩ ?_ ?_ ?_
  ·rintro j σ' H' hj ⟨v, us, rfl, s1, h1, hP⟩
   exact SqL.of ((SE2.trans s1) _ _ ha)
  ·rintro j x σ' H' hx ⟨v, us, rfl, s1, h1, hP⟩
   obtain ⟨q, hq, b2, r, rfl, hb2⟩ := paired_get hX hx
   have hb2 := (SE2.trans s1) _ _ hb2
   have hj : j < hp.length := (List.getElem?_eq_some_iff.mp hq).1
   have hul : us.length ≤ j := by
    rw [hP.length, List.length_map]
    exact Nat.le_trans (List.length_filter_le _ _) (by rw [List.length_take]; omega)
   have etk : (hp.take (j + 1)).filter (isS ps) = (hp.take j).filter (isS ps) ++ (if isS ps q = true then [q] else []) := by
    rw [List.take_add_one, hq, List.filter_append]
    congr 1
    show [q].filter (isS ps) = _
    rw [List.filter_cons, List.filter_nil]
   have skip : isS ps q = false → Paired (NmF (parF ps) H') us (((hp.take (j + 1)).filter (isS ps)).map (·.1)) := fun z => by
    rw [etk, z]
    simpa using hP
   refine ⟨_, rfl, b2, _, 0, _, rfl, rfl, SqT.of hb2, at_0 _ _, rfl, _, rfl, ?_⟩
   refine ite2 (fun h => ?_) (fun h => iteF ?_)
   ·have h : q.2 = Str.ofString "sink" := V.str.inj (of_decide_eq_true h)
    refine ⟨_, rfl, b2, _, 1, _, rfl, rfl, SqT.of hb2, at_1 _ _ _, _, rfl, b, _, rfl, .inl (SqL.of ((SE2.trans s1) _ _ hb)), rfl, flat_strs ps, _, rfl, ?_⟩
    refine ite2 (fun h2 => ?_) (fun h2 => ?_)
    ·have hin : isS ps q = true := by
      have h2 : (!inV (.str q.1) (ps.map V.str)) = true := h2
      rw [inV_str] at h2
      show (decide (q.2 = Str.ofString "sink") && !decide (q.1 ∈ ps)) = true
      rw [decide_eq_true h, h2]; rfl
     have nps : q.1 ∉ ps := (mem_isK hin).2
     refine ⟨_, rfl, b2, _, 1, _, rfl, rfl, SqT.of hb2, at_1 _ _ _, _, rfl, b2, _, 1, _, rfl, rfl, SqT.of hb2, at_1 _ _ _, sz (by simp), fun c1 g1 => ?_⟩
     have u1 := Same.upd (o := .tup [.str q.1, .str q.1]) g1
     have hd5 := u1 _ _ h1
     refine ⟨_, hd5, sz (by omega), _, _, rfl, (s1.trans u1).updD hE2, upd_same, ?_⟩
     have tD := ts_updL (o := .lst (us ++ [V.ref c1])) hd5
     rw [etk, if_pos hin, List.map_append]
     exact Paired.app (Paired.mapP hP fun _ _ h => h.ts (fun c xs e => tD c xs (u1 c _ e))) (.cons ⟨c1, rfl, by rw [parF_out nps]; exact tD _ _ upd_same⟩ .nil)
    ·have hin : isS ps q = false := by
      have h2 : ¬ (!inV (.str q.1) (ps.map V.str)) = true := h2
      rw [inV_str] at h2
      show (decide (q.2 = Str.ofString "sink") && !decide (q.1 ∈ ps)) = false
      rw [Bool.eq_false_iff.mpr h2, Bool.and_false]
     exact ⟨_, us, rfl, s1, h1, skip hin⟩
   ·have hin : isS ps q = false := by
     show (decide (q.2 = Str.ofString "sink") && !decide (q.1 ∈ ps)) = false
     rw [decide_eq_false (fun z => h (decide_eq_true (congrArg V.str z))), Bool.false_and]
    exact ⟨_, us, rfl, s1, h1, skip hin⟩
  rintro σ' H3 ⟨v, ts, rfl, s3, hts, hPs⟩
  rw [hX.length, List.take_length] at hPs
  have l1 : ta.length = ps.length := hPa.length
  have l2 : tc.length ≤ hp.length := by
   rw [hPc.length, List.length_map]; exact List.length_filter_le _ _
  have l3 : ts.length ≤ hp.length := by
   rw [hPs.length, List.length_map]; exact List.length_filter_le _ _
  have ta3 := (s2.trans s3) _ _ hta
  have tc3 := s3 _ _ htc
  refine ⟨_, rfl, _, rfl, D, E1, ta, tc, rfl, rfl, ta3, tc3, sz (by omega), fun w0 g0 => ?_⟩
  have u0 := Same.upd (o := .lst (ta ++ tc)) g0
  refine ⟨_, rfl, _, rfl, D, E1, ta, tc, rfl, rfl, u0 _ _ ta3, u0 _ _ tc3, sz (by omega), fun w9 g9 => ?_⟩
  have u9 := Same.upd (o := .lst (ta ++ tc)) g9
  refine ⟨_, rfl, w9, E2, ta ++ tc, ts, rfl, rfl, upd_same, (u0.trans u9) _ _ hts, sz (by rw [List.length_append]; omega), fun w1 g1 => ⟨sz (by simp), fun w gw => ?_⟩⟩
  have u1 := Same.upd (o := .lst (ta ++ tc ++ ts)) g1
  have uw := Same.upd (o := .lst [.ref w0, .ref w1]) gw
  have ua := u0.trans (u9.trans (u1.trans uw))
  refine k w _ ((SE1.trans (s2.trans s3)).trans ua) ⟨w0, w1, ta, tc, ts, upd_same, (u9.trans (u1.trans uw)) _ _ upd_same, ?_, uw _ _ upd_same, Paired.mapP hPs fun _ _ h => h.ts ua.ts⟩
  exact Paired.app (Paired.mapP hPa fun _ _ h => h.ts ((s2.trans s3).trans ua).ts) (Paired.mapP hPc fun _ _ h => h.ts (s3.trans ua).ts)
end
end T09
namespace T09
open PySem L2 Tc
section
variable {P : Program} {w : World} {K : PySem.W.Frag} {mg : Str → Option Value} {base : Heap}
noncomputable abbrev s__law_plain : Stmt := top 38
theorem sc__law_plain : FnScope ["_law_number", "_law_words_here", "_law_word", "_law_x", "_law_some", "_law_name", "_law_amount_here", "_law_row", "_law_y", "_law_value"] ["_law_number", "_law_words_here"] (defScope s__law_plain) := ⟨rfl, rfl, rfl, by decide +kernel, rfl, by decide +kernel, by decide +kernel⟩
theorem ok__law_plain {ca : Ca} (D : DefAt K mg "_law_plain" s__law_plain) (T : Txt K mg ca) (G__law_names : FnAt P w K mg base CX0 2 "_law_names" ["_law_number", "_law_many"] (spNam3)) (G__law_amount : FnAt P w K mg base CX0 2 "_law_amount" ["_law_number"] (spAmt)) (G__law_number_text : FnAt P w K mg base CX0 1 "_law_number_text" ["_law_one"] (spNT K)) (G__law_share : FnAt P w K mg base CX0 2 "_law_share" ["_law_number"] (spShr)) : FnAt P w K mg base CX0 3 "_law_plain" ["_law_number", "_law_words_here"] (spPl9 K) := by
 refine D.ok sc__law_plain (fun vs H Q E h => ?_) (fun _ _ _ _ _ _ us hl => match us, hl with | [_, _], _ => rfl) (fun f cdv A outer s H vs Q E hr h => ?_)
 ·obtain ⟨n, w, f, A, S, rfl, hn0, hn, ⟨w0, w1, ta, tc, ts, hw, hw0, hPA, hw1, hPS⟩, hA, hAl, hSl, hz8, k⟩ := h; rfl
 ·obtain ⟨n, w, f, A, S, rfl, hn0, hn, ⟨w0, w1, ta, tc, ts, hw, hw0, hPA, hw1, hPS⟩, hA, hAl, hSl, hz8, k⟩ := h
  have nd := sc__law_plain.nd
  refine ⟨_, (@pss_cons _ _ _ _ _ (@ps_set _ _ 2 _ _ _ _ nd rfl (Or.inl rfl) (pe_ix (ix_list' (K := K) rfl) (@pe_lst _ _ _ _ (@pa_cons _ _ _ _ _ pe_str (@pa_cons _ _ _ _ _ pe_str (@pa_cons _ _ _ _ _ pe_str (@pa_cons _ _ _ _ _ pe_str (@pa_cons _ _ _ _ _ pe_str (@pa_cons _ _ _ _ _ pe_str pa_nil (by rfl)) (by rfl)) (by rfl)) (by rfl)) (by rfl)) (by rfl))) (@pe_op _ _ _ _ _ _ _ _ op_modN (pv 0) pe_int) (fun _ _ => rfl)) (by rfl) (Or.inl rfl))
   (@pss_cons _ _ _ _ _ (ps_if (pt_cmpR op_eq (pv 2) pe_str (nomark _)) (@pss_one _ _ _ (ps_ret (@pe_tup _ _ _ _ _ (@pa_cons _ _ _ _ _ (@pe_tup _ _ _ _ _ (@pa_cons _ _ _ _ _ (pv 2) pa_nil (by rfl))) (@pa_cons _ _ _ _ _ (@pe_tup _ _ _ _ _ (@pa_cons _ _ _ _ _ (pv 2) pa_nil (by rfl))) (@pa_cons _ _ _ _ _ (pv 2) pa_nil (by rfl)) (by rfl)) (by rfl))))) pss_nil)
   (@pss_cons _ _ _ _ _ (@ps_set _ _ 3 _ _ _ _ nd rfl (Or.inr rfl) (pe_ix (ix_list' (K := K) rfl) (pe_ix (ix_list' (K := K) rfl) (pv 1) pe_int (fun _ _ => rfl)) (@pe_op _ _ _ _ _ _ _ _ op_modN (@pe_op _ _ _ _ _ _ _ _ op_fdivB (pv 0) pe_int) (pe_callB (call_len' (K := K) rfl) (by rfl) T.z_len PySem.boot_len (@pa_cons _ _ _ _ _ (pe_ix (ix_list' (K := K) rfl) (pv 1) pe_int (fun _ _ => rfl)) pa_nil (by rfl)))) (fun _ _ => rfl)) (by rfl) (Or.inl rfl))
   (@pss_cons _ _ _ _ _ (ps_setcomp ["_law_one"] ["_law_x"] [3] (i := 4) nd rfl rfl rfl (by rfl) (pi_list' (K := K) rfl (pe_ix (ix_list' (K := K) rfl) (pv 1) (pe_callTy call_int1 (by rfl) T.z_int bt_int (@pa_cons _ _ _ _ _ (pe_cmpR op_ne (pv 2) pe_str (nomark _)) pa_nil (by rfl))) (fun _ _ => rfl))) (fun _ _ _ _ => (pg_name (i := 0) (show List.Nodup (["_law_one", "_law_x"] : List Str) from by decide) rfl (Or.inl rfl))) (fun _ _ _ _ => (pif_one (pt_cmpR op_ne (pe_ix (ix_tup' (K := K) rfl) (pv 0) pe_int (fun _ _ => rfl)) (pe_ix (ix_tup' (K := K) rfl) (pv 1) pe_int (fun _ _ => rfl)) (nomark _)))) (fun _ _ _ _ => (pv 0)))
   (@pss_cons _ _ _ _ _ (ps_if (PW.pt (pw_or (pt_cmpR op_eq (pv 2) pe_str (nomark _)) (pw_or1 (pt_cmpR (op_eqE' (K := K) rfl hr) (pv 4) (@pe_lst _ _ _ _ pa_nil) (nomark _))))) (@pss_cons _ _ _ _ _ (@ps_set _ _ 5 _ _ _ _ nd rfl (Or.inl rfl) (pe_ix (ix_list' (K := K) rfl) (pe_fn G__law_names hr (by rfl) pass0 (@pa_cons _ _ _ _ _ (@pe_op _ _ _ _ _ _ _ _ op_fdivB (pv 0) pe_int) (@pa_cons _ _ _ _ _ pe_int pa_nil (by rfl)) (by rfl))) pe_int (fun _ _ => rfl)) (by rfl) (Or.inl rfl))
   (@pss_cons _ _ _ _ _ (@ps_set _ _ 6 _ _ _ _ nd rfl (Or.inl rfl) (pe_fn G__law_amount hr (by rfl) pass0 (@pa_cons _ _ _ _ _ (@pe_op _ _ _ _ _ _ _ _ op_fdivB (pv 0) pe_int) pa_nil (by rfl))) (by rfl) (Or.inl rfl))
   (@pss_cons _ _ _ _ _ (@ps_set _ _ 7 _ _ _ _ nd rfl (Or.inl rfl) (pe_bm' (K := K) rfl PySem.F.plainAttrs_str PySem.F.slot_str_join PySem.F.type_str_join (mt_join' (K := K) rfl) pe_str (@pa_cons _ _ _ _ _ (@pe_lst _ _ _ _ (@pa_cons _ _ _ _ _ pe_str (@pa_cons _ _ _ _ _ (pv 5) (@pa_cons _ _ _ _ _ (pe_ix (ix_tup' (K := K) rfl) (pv 3) pe_int (fun _ _ => rfl)) (@pa_cons _ _ _ _ _ (pe_fn G__law_number_text hr (by rfl) pass0 (@pa_cons _ _ _ _ _ (pv 6) pa_nil (by rfl))) pa_nil (by rfl)) (by rfl)) (by rfl)) (by rfl))) pa_nil (by rfl))) (by rfl) (Or.inl rfl))
   (@pss_one _ _ _ (ps_ret (@pe_tup _ _ _ _ _ (@pa_cons _ _ _ _ _ (@pe_tup _ _ _ _ _ (@pa_cons _ _ _ _ _ pe_str (@pa_cons _ _ _ _ _ (pv 5) (@pa_cons _ _ _ _ _ (pe_ix (ix_tup' (K := K) rfl) (pv 3) pe_int (fun _ _ => rfl)) (@pa_cons _ _ _ _ _ (pv 6) pa_nil (by rfl)) (by rfl)) (by rfl)) (by rfl))) (@pa_cons _ _ _ _ _ (@pe_tup _ _ _ _ _ (@pa_cons _ _ _ _ _ pe_str (@pa_cons _ _ _ _ _ (pv 5) (@pa_cons _ _ _ _ _ (pe_ix (ix_tup' (K := K) rfl) (pv 3) pe_int (fun _ _ => rfl)) (@pa_cons _ _ _ _ _ (pv 6) pa_nil (by rfl)) (by rfl)) (by rfl)) (by rfl))) (@pa_cons _ _ _ _ _ (pv 7) pa_nil (by rfl)) (by rfl)) (by rfl)))))))) pss_nil)
   (@pss_cons _ _ _ _ _ (@ps_set _ _ 8 _ _ _ _ nd rfl (Or.inl rfl) (pe_ix (ix_list' (K := K) rfl) (pv 4) (@pe_op _ _ _ _ _ _ _ _ op_modN (@pe_op _ _ _ _ _ _ _ _ op_fdivB (pv 0) pe_int) (pe_callB (call_len' (K := K) rfl) (by rfl) T.z_len PySem.boot_len (@pa_cons _ _ _ _ _ (pv 4) pa_nil (by rfl)))) (fun _ _ => rfl)) (by rfl) (Or.inl rfl))
   (@pss_cons _ _ _ _ _ (@ps_set _ _ 7 _ _ _ _ nd rfl (Or.inl rfl) (@pe_op _ _ _ _ _ _ _ _ op_add_str (@pe_op _ _ _ _ _ _ _ _ op_add_str (@pe_op _ _ _ _ _ _ _ _ op_add_str (@pe_op _ _ _ _ _ _ _ _ op_add_str (pv 2) pe_str) (pe_ix (ix_tup' (K := K) rfl) (pv 3) pe_int (fun _ _ => rfl))) pe_str) (pe_ix (ix_tup' (K := K) rfl) (pv 8) pe_int (fun _ _ => rfl))) (by rfl) (Or.inl rfl))
   (@pss_cons _ _ _ _ _ (ps_if (PW.pt (pw_or (pt_cmpR op_eq (pv 2) pe_str (nomark _)) (pw_or1 (pt_cmpR op_eq (pv 2) pe_str (nomark _))))) (@pss_one _ _ _ (ps_ret (@pe_tup _ _ _ _ _ (@pa_cons _ _ _ _ _ (@pe_tup _ _ _ _ _ (@pa_cons _ _ _ _ _ (pv 2) (@pa_cons _ _ _ _ _ (pe_ix (ix_tup' (K := K) rfl) (pv 3) pe_int (fun _ _ => rfl)) (@pa_cons _ _ _ _ _ (pe_ix (ix_tup' (K := K) rfl) (pv 8) pe_int (fun _ _ => rfl)) pa_nil (by rfl)) (by rfl)) (by rfl))) (@pa_cons _ _ _ _ _ (@pe_tup _ _ _ _ _ (@pa_cons _ _ _ _ _ (pv 2) (@pa_cons _ _ _ _ _ (pe_ix (ix_tup' (K := K) rfl) (pv 3) pe_int (fun _ _ => rfl)) (@pa_cons _ _ _ _ _ (pe_ix (ix_tup' (K := K) rfl) (pv 8) pe_int (fun _ _ => rfl)) pa_nil (by rfl)) (by rfl)) (by rfl))) (@pa_cons _ _ _ _ _ (pv 7) pa_nil (by rfl)) (by rfl)) (by rfl))))) pss_nil)
   (@pss_cons _ _ _ _ _ (@ps_set _ _ 9 _ _ _ _ nd rfl (Or.inl rfl) (pe_fn G__law_share hr (by rfl) pass0 (@pa_cons _ _ _ _ _ (@pe_op _ _ _ _ _ _ _ _ op_fdivB (pv 0) pe_int) pa_nil (by rfl))) (by rfl) (Or.inl rfl))
   (@pss_cons _ _ _ _ _ (ps_if (pt_cmpR op_eq (pv 2) pe_str (nomark _)) (@pss_one _ _ _ (@ps_set _ _ 9 _ _ _ _ nd rfl (Or.inl rfl) (pe_fn G__law_amount hr (by rfl) pass0 (@pa_cons _ _ _ _ _ (@pe_op _ _ _ _ _ _ _ _ op_fdivB (pv 0) pe_int) pa_nil (by rfl))) (by rfl) (Or.inl rfl))) pss_nil)
   (@pss_one _ _ _ (ps_ret (@pe_tup _ _ _ _ _ (@pa_cons _ _ _ _ _ (@pe_tup _ _ _ _ _ (@pa_cons _ _ _ _ _ (pv 2) (@pa_cons _ _ _ _ _ (pe_ix (ix_tup' (K := K) rfl) (pv 3) pe_int (fun _ _ => rfl)) (@pa_cons _ _ _ _ _ (pe_ix (ix_tup' (K := K) rfl) (pv 8) pe_int (fun _ _ => rfl)) (@pa_cons _ _ _ _ _ (pv 9) pa_nil (by rfl)) (by rfl)) (by rfl)) (by rfl))) (@pa_cons _ _ _ _ _ (@pe_tup _ _ _ _ _ (@pa_cons _ _ _ _ _ (pv 2) (@pa_cons _ _ _ _ _ (pe_ix (ix_tup' (K := K) rfl) (pv 3) pe_int (fun _ _ => rfl)) (@pa_cons _ _ _ _ _ (pe_ix (ix_tup' (K := K) rfl) (pv 8) pe_int (fun _ _ => rfl)) (@pa_cons _ _ _ _ _ (pv 9) pa_nil (by rfl)) (by rfl)) (by rfl)) (by rfl))) (@pa_cons _ _ _ _ _ (@pe_op _ _ _ _ _ _ _ _ op_add_str (@pe_op _ _ _ _ _ _ _ _ op_add_str (pv 7) pe_str) (pe_fn G__law_number_text hr (by rfl) pass0 (@pa_cons _ _ _ _ _ (pv 9) pa_nil (by rfl)))) pa_nil (by rfl)) (by rfl)) (by rfl))))))))))))))), ?_⟩
  have q6 := fmod_lt (c := n) (m := 6) (by decide)
  obtain ⟨u, hat, hul, nt, nd'⟩ := w6 q6
  refine ⟨sz (show 6 ≤ 1000 by decide), fun pw hpw => ?_⟩
  refine ⟨_, rfl, _, _, rfl, rfl, (show (6 : Int) ≠ 0 by decide), pw, _, _, _, rfl, rfl, SqL.of upd_same, hat, ?_⟩
  have sw := Same.upd (o := .lst W6) hpw
  refine ⟨_, rfl, rfl, _, rfl, ?_⟩
  refine ite2 (fun h => ?_) (fun h0 => ?_)
  ·have h := V.str.inj (of_decide_eq_true h)
   subst h
   refine ⟨_, rfl, sz (by simp), fun d hd => ⟨_, rfl, sz (by simp), fun d2 hd2 => ⟨_, rfl, sz (by simp), fun p hp => ?_⟩⟩⟩
   have t1 := Same.upd (o := .tup [.str (Str.ofString "year")]) hd
   have t2 := Same.upd (o := .tup [.str (Str.ofString "year")]) hd2
   have t3 := Same.upd (o := .tup [.ref d, .ref d2, .str (Str.ofString "year")]) hp
   exact k p (.ref d) _ _ .yr _ (sw.trans (t1.trans (t2.trans t3))) upd_same ⟨d, rfl, (t2.trans t3) _ _ upd_same⟩ ⟨d2, rfl, t3 _ _ upd_same⟩ trivial trivial (by decide +kernel)
  have hw' := sw _ _ hw
  have hw0' := sw _ _ hw0
  have hw1' := sw _ _ hw1
  have hPA' := Paired.mapP hPA fun _ _ h => h.ts sw.ts
  obtain ⟨hne, xa, zx, hatx, hzx, hxa⟩ := pickN hPA' hA (n.fdiv 6)
  refine ⟨_, rfl, w, _, 0, _, rfl, rfl, SqL.of hw', rfl, _, rfl, _, _, rfl, rfl, dd (by decide) (by decide), _, rfl, w, _, 0, _, rfl, rfl, SqL.of hw', rfl, _, _, rfl, .inl ⟨_, SqL.of hw0', rfl⟩, _, _, rfl, rfl, hne, w0, _, _, _, rfl, rfl, SqL.of hw0', hatx, ?_⟩
  have g6 := fdv hn0 (show (0 : Int) < 72 by decide)
  have g7 := fdv hn0 (show (0 : Int) < 100 by decide)
  have lzx := hz8 zx (List.mem_append_left _ hzx)
  let H1 : Hp := upd H pw (.lst W6)
  show Ends.nx _ [some (.int n), some (.ref w), some (.str u), some (.ref xa), none, none, none, none, none, none] H1
  obtain ⟨wl, us, Z, hatW, hwl, hPZ, hZ, hul2⟩ : ∃ (wl : Addr) (us : List V) (Z : List Str), atI [V.ref w0, V.ref w1] (if (!decide (V.str u = V.str (Str.ofString "fill"))) = true then 1 else 0) = some (.ref wl) ∧ H1 wl = some (.lst us) ∧ Paired (NmF f H1) us Z ∧ (∀ z ∈ Z, z ∈ A ++ S ∧ (u = Str.ofString "fill" → z ∈ A)) ∧ us.length ≤ 120 := by
   by_cases hf : u = Str.ofString "fill"
   ·refine ⟨w0, ta ++ tc, A, ?_, hw0', hPA', fun z hz => ⟨List.mem_append_left _ hz, fun _ => hz⟩, by rw [hPA.length]; omega⟩
    rw [hf, decide_eq_true rfl]; rfl
   ·refine ⟨w1, ta ++ tc ++ ts, A ++ S, ?_, hw1', Paired.app hPA' (Paired.mapP hPS fun _ _ h => h.ts sw.ts), fun z hz => ⟨hz, fun e => absurd e hf⟩, ?_⟩
    ·rw [decide_eq_false (fun z => hf (V.str.inj z))]; rfl
    ·rw [List.length_append, hPA.length, hPS.length]; omega
  refine ⟨_, rfl, _, rfl, rfl, .inr ⟨_, rfl, w, _, _, _, rfl, rfl, SqL.of hw', hatW, wl, rfl, ⟨_, SqL.of hwl⟩, fun D hD => ?_⟩⟩
  refine block_list (xs := us) (fun j σ' H' => ∃ (v : Option V) (vs : List V), σ' = [v, some (.ref xa)] ∧ Same H1 H' ∧ H' D = some (.lst vs) ∧ vs.length ≤ j ∧ ∀ y ∈ vs, ∃ a z, y = V.ref a ∧ H1 a = some (.tup [.str z, kV (f (.inr z))]) ∧ z ∈ Z ∧ z ≠ zx) ⟨none, [], rfl, Same.upd hD, upd_same, Nat.le_refl _, fun _ z => nomatch z⟩ ?_ ?_ ?_
  ·rintro j σ' H' hj ⟨v, vs, rfl, s2, h2, _⟩
   exact SqL.of (s2 _ _ hwl)
  ·rintro j x2 σ' H' hx2 ⟨v, vs, rfl, s2, h2, hvl, hall⟩
   obtain ⟨z, hzz, ya, rfl, hya⟩ := paired_get hPZ hx2
   have hj : j < us.length := (List.getElem?_eq_some_iff.mp hx2).1
   refine ⟨_, rfl, ya, _, 0, _, rfl, rfl, SqT.of (s2 _ _ hya), rfl, _, rfl, xa, _, 0, _, rfl, rfl, SqT.of (s2 _ _ hxa), rfl, rfl, _, rfl, ?_⟩
   refine ite2 (fun h => ?_) (fun h => ⟨_, vs, rfl, s2, h2, by omega, hall⟩)
   have nz : z ≠ zx := fun e => by
    rw [e, decide_eq_true rfl] at h
    cases h
   refine ⟨_, rfl, _, h2, sz (by omega), _, _, rfl, s2.updD hD, upd_same, by rw [List.length_append]; simp; omega, fun y hy => ?_⟩
   rcases List.mem_append.mp hy with hy | hy
   ·exact hall y hy
   ·rw [List.mem_singleton.mp hy]
    exact ⟨ya, z, rfl, hya, List.mem_of_getElem? hzz, nz⟩
  rintro σ' H2 ⟨v, vs, rfl, s2, h2, hvl, hall⟩
  show Ends.nx _ [some (.int n), some (.ref w), some (.str u), some (.ref xa), some (.ref D), none, none, none, none, none] H2
  refine ⟨_, rfl, rfl, _, rfl, ?_⟩
  refine' by_key1 (C := fun Hx : Hp => Same H2 Hx) (fun key => ?go) ?body
  case go =>
   refine ite2 (fun h => iteT ?_) (fun hb => ?_)
   ·refine sealH (F := fun Hx => Same H2 Hx) (Same.refl _) ?_
    intro Hx sx
    exact key Hx sx
   refine ⟨_, rfl, sz (by simp), fun pe he => ⟨D, pe, vs, rfl, rfl, SqL.of (Same.upd he _ _ h2), SqL.of upd_same, _, rfl, ?_⟩⟩
   refine ite2 (fun h => key _ (Same.upd he)) (fun hne2 => ?_)
   have ln := hall
   have hvne : vs ≠ [] := fun z => hne2 (by rw [z]; rfl)
   have spe := s2.trans (Same.upd (o := .lst []) he)
   obtain ⟨hvn, ya, zy, haty, hya, hyZ, nyx⟩ := pickY hvne hall (n.fdiv 72)
   have hD3 := Same.upd (o := .lst []) he _ _ h2
   refine ⟨_, rfl, _, rfl, _, _, rfl, rfl, dd (by decide) (by decide), _, rfl, _, _, rfl, .inl ⟨_, SqL.of hD3, rfl⟩, _, _, rfl, rfl, hvn, D, _, _, _, rfl, rfl, SqL.of hD3, haty, ?_⟩
   have lzy := hz8 zy (hZ zy hyZ).1
   have ls := sp_len
   have a1 : u.length + (Str.ofString " ").length ≤ sizeLine := sz (by omega)
   have a2 : (u ++ Str.ofString " ").length + zx.length ≤ sizeLine := sz (by rw [strLen_append]; omega)
   have a3 : (u ++ Str.ofString " " ++ zx).length + (Str.ofString " ").length ≤ sizeLine := sz (by rw [strLen_append, strLen_append]; omega)
   have a4 : (u ++ Str.ofString " " ++ zx ++ Str.ofString " ").length + zy.length ≤ sizeLine := sz (by rw [strLen_append, strLen_append, strLen_append]; omega)
   have hxp := spe _ _ hxa
   have hyp := spe _ _ hya
   refine ⟨_, rfl, _, _, rfl, rfl, a1, _, rfl, xa, _, 0, _, rfl, rfl, SqT.of hxp, rfl, _, _, rfl, rfl, a2, _, _, rfl, rfl, a3, _, rfl, ya, _, 0, _, rfl, rfl, SqT.of hyp, rfl, _, _, rfl, rfl, a4, ?_⟩
   show Ends.nx _ [some (.int n), some (.ref w), some (.str u), some (.ref xa), some (.ref D), none, none, some (.str (u ++ Str.ofString " " ++ zx ++ Str.ofString " " ++ zy)), some (.ref ya), none] _
   have nb : u ≠ Str.ofString "bring" := fun z => hb (decide_eq_true (congrArg V.str z))
   have ny : u ≠ Str.ofString "year" := fun z => h0 (decide_eq_true (congrArg V.str z))
   have hgd : gd9 A S (.tw u (.inr zx) (.inr zy)) := ⟨zx, hzx, zy, (hZ zy hyZ).1, rfl, rfl, nyx.symm, (hZ zy hyZ).2⟩
   have lrw : (u ++ Str.ofString " " ++ zx ++ Str.ofString " " ++ zy).length ≤ 30 := by rw [strLen_append, strLen_append, strLen_append, strLen_append]; omega
   have spw := sw.trans spe
   generalize (upd H2 pe (.lst [])) = H3 at *
   refine ⟨_, rfl, rfl, _, rfl, ?_⟩
   refine' by_key0 (fun key2 => ?go2) ?body2
   case go2 =>
    refine ite2 (fun h => iteT key2) (fun ha => ?_)
    refine ⟨_, rfl, rfl, _, rfl, ?_⟩
    refine ite2 (fun h => key2) (fun hf => ?_)
    show Ends.nx _ [some (.int n), some (.ref w), some (.str u), some (.ref xa), some (.ref D), none, none, some (.str (u ++ Str.ofString " " ++ zx ++ Str.ofString " " ++ zy)), some (.ref ya), none] H3
    refine' by_key2 (C := fun (va : Addr) (Hx : Hp) => Same H3 Hx ∧ ∃ x y : Int, Hx va = some (.tup [.int x, .int y]) ∧ 0 ≤ x ∧ x < 10 ^ 12 ∧ 0 < y ∧ y < 10 ^ 12) (fun key3 => ?go3) ?body3
    case go3 =>
     refine ⟨_, rfl, _, _, rfl, rfl, dd (by decide) (by decide), n.fdiv 100, rfl, g7.1, by omega, fun va x y H4 s4 hva h1 h2 h3 h4 h5 => ?_⟩
     refine ⟨_, rfl, rfl, _, rfl, ?_⟩
     refine ite2 (fun hm => ?_) (fun _ => ?_)
     ·refine ⟨_, rfl, _, _, rfl, rfl, dd (by decide) (by decide), n.fdiv 100, rfl, g7.1, by omega, fun qa x2 y2 H5 s5 hqa k1 k2 k3 k4 k5 => ?_⟩
      show Ends.nx _ [some (.int n), some (.ref w), some (.str u), some (.ref xa), some (.ref D), none, none, some (.str (u ++ Str.ofString " " ++ zx ++ Str.ofString " " ++ zy)), some (.ref ya), some (.ref qa)] H5
      exact key3 qa H5 ⟨s4.trans s5, x2, y2, hqa, by omega, k2, k3, k4⟩
     ·show Ends.nx _ [some (.int n), some (.ref w), some (.str u), some (.ref xa), some (.ref D), none, none, some (.str (u ++ Str.ofString " " ++ zx ++ Str.ofString " " ++ zy)), some (.ref ya), some (.ref va)] H4
      exact key3 va H4 ⟨s4, x, y, hva, h1, by omega, h3, h4⟩
    case body3 =>
     rintro va Hx ⟨sx, x, y, hva, h1, h2, h3, h4⟩
     have hxp := sx _ _ hxp
     have hyp := sx _ _ hyp
     have lnum := num_len h1 h2 h3 h4
     refine ⟨_, rfl, _, rfl, xa, _, 0, _, rfl, rfl, SqT.of hxp, rfl, _, rfl, ya, _, 0, _, rfl, rfl, SqT.of hyp, rfl, _, rfl, sz (by simp), fun d hd => ?_⟩
     have u2 := Same.upd (o := .tup [.str u, .str zx, .str zy, .ref va]) hd
     refine ⟨_, rfl, _, rfl, xa, _, 1, _, rfl, rfl, SqT.of (u2 _ _ hxp), rfl, _, rfl, ya, _, 1, _, rfl, rfl, SqT.of (u2 _ _ hyp), rfl, _, rfl, sz (by simp), fun d2 hd2 => ?_⟩
     have u3 := Same.upd (o := .tup [.str u, kV (f (.inr zx)), kV (f (.inr zy)), .ref va]) hd2
     have b1 : (u ++ Str.ofString " " ++ zx ++ Str.ofString " " ++ zy).length + (Str.ofString " ").length ≤ sizeLine := sz (by rw [strLen_append, strLen_append, strLen_append, strLen_append]; omega)
     have b2 : (u ++ Str.ofString " " ++ zx ++ Str.ofString " " ++ zy ++ Str.ofString " ").length + (numTxt x y).length ≤ sizeLine := sz (by rw [strLen_append, strLen_append, strLen_append, strLen_append, strLen_append]; omega)
     refine ⟨_, rfl, _, _, rfl, rfl, b1, _, rfl, va, x, y, rfl, SqT.of ((u2.trans u3) _ _ hva), h1, h2, h3, h4, _, _, rfl, rfl, b2, sz (by simp), fun p hp => ?_⟩
     exact k p (.ref d) (.ref d2) _ (.tq u (.inr zx) (.inr zy) x y) _ (spw.trans (sx.trans (u2.trans (u3.trans (Same.upd hp))))) upd_same ⟨d, va, rfl, (u3.trans (Same.upd hp)) _ _ upd_same, (u2.trans (u3.trans (Same.upd hp))) _ _ hva⟩ ⟨d2, va, rfl, Same.upd hp _ _ upd_same, (u2.trans (u3.trans (Same.upd hp))) _ _ hva⟩ ⟨ny, nb, nt, nd'⟩ hgd (by rw [strLen_append, strLen_append]; omega)
   case body2 =>
    refine ⟨_, rfl, _, rfl, xa, _, 0, _, rfl, rfl, SqT.of hxp, rfl, _, rfl, ya, _, 0, _, rfl, rfl, SqT.of hyp, rfl, sz (by simp), fun d hd => ?_⟩
    have u2 := Same.upd (o := .tup [.str u, .str zx, .str zy]) hd
    refine ⟨_, rfl, _, rfl, xa, _, 1, _, rfl, rfl, SqT.of (u2 _ _ hxp), rfl, _, rfl, ya, _, 1, _, rfl, rfl, SqT.of (u2 _ _ hyp), rfl, sz (by simp), fun d2 hd2 => ⟨_, rfl, sz (by simp), fun p hp => ?_⟩⟩
    have u3 := Same.upd (o := .tup [.str u, kV (f (.inr zx)), kV (f (.inr zy))]) hd2
    exact k p (.ref d) (.ref d2) _ (.tw u (.inr zx) (.inr zy)) _ (spw.trans (u2.trans (u3.trans (Same.upd hp)))) upd_same ⟨d, rfl, (u3.trans (Same.upd hp)) _ _ upd_same⟩ ⟨d2, rfl, Same.upd hp _ _ upd_same⟩ ⟨ny, nb, nt, nd'⟩ hgd (by omega)
  case body =>
   intro Hx sx
   have sX := s2.trans sx
   refine ⟨_, rfl, _, _, rfl, rfl, dd (by decide) (by decide), n.fdiv 7, 1, rfl, by decide, by decide, fun p1 H3 zs s3 _ hp1 hl1 _ hz1 => ?_⟩
   obtain ⟨nm1, rfl⟩ := one_of hl1
   have ln1 := (hz1 nm1 (.head _)).1
   refine ⟨p1, _, 0, _, rfl, rfl, SqL.of hp1, rfl, ?_⟩
   refine ⟨_, rfl, _, _, rfl, rfl, dd (by decide) (by decide), n.fdiv 72, rfl, g6.1, by omega, fun qa x y H4 s4 hqa hx0 hx hy0 hy hg => ?_⟩
   have s14 := sX.trans (s3.trans s4)
   have lnum := num_len (by omega) hx hy0 hy
   refine ⟨rfl, _, rfl, _, rfl, xa, _, 0, _, rfl, rfl, SqT.of (s14 _ _ hxa), rfl, _, rfl, qa, x, y, rfl, SqT.of hqa, by omega, hx, hy0, hy, sz (by simp), fun L hL => ?_⟩
   have u1 := Same.upd (o := .lst [.str (Str.ofString "bring"), .str nm1, .str zx, .str (numTxt x y)]) hL
   refine ⟨_, L, [Str.ofString "bring", nm1, zx, numTxt x y], rfl, rfl, SqL.of upd_same, ?_, ?_⟩
   ·have lb : (Str.ofString "bring").length = 5 := by decide +kernel
    refine join_room (fun w hw => ?_) (by simp)
    simp only [List.mem_cons, List.mem_nil_iff, or_false] at hw
    rcases hw with rfl | rfl | rfl | rfl <;> omega
   have s15 := s14.trans u1
   refine ⟨_, rfl, _, rfl, xa, _, 0, _, rfl, rfl, SqT.of (s15 _ _ hxa), rfl, _, rfl, sz (by simp), fun d hd => ?_⟩
   have u2 := Same.upd (o := .tup [.str (Str.ofString "bring"), .str nm1, .str zx, .ref qa]) hd
   refine ⟨_, rfl, _, rfl, xa, _, 1, _, rfl, rfl, SqT.of ((s15.trans u2) _ _ hxa), rfl, _, rfl, sz (by simp), fun d2 hd2 => ⟨_, rfl, sz (by simp), fun p hp => ?_⟩⟩
   have u3 := Same.upd (o := .tup [.str (Str.ofString "bring"), .str nm1, kV (f (.inr zx)), .ref qa]) hd2
   refine k p (.ref d) (.ref d2) _ (.br nm1 (.inr zx) x y) _ (sw.trans (s15.trans (u2.trans (u3.trans (Same.upd hp))))) upd_same ⟨d, qa, rfl, (u3.trans (Same.upd hp)) _ _ upd_same, (u1.trans (u2.trans (u3.trans (Same.upd hp)))) _ _ hqa⟩ ⟨d2, qa, rfl, Same.upd hp _ _ upd_same, (u1.trans (u2.trans (u3.trans (Same.upd hp)))) _ _ hqa⟩ trivial ⟨zx, hzx, rfl⟩ ?_
   have lb : (Str.ofString "bring").length = 5 := by decide +kernel
   have hj := join_len (c := 32) (m := 25) (ws := [Str.ofString "bring", nm1, zx, numTxt x y]) (fun w hw => by
    simp only [List.mem_cons, List.mem_nil_iff, or_false] at hw
    rcases hw with rfl | rfl | rfl | rfl <;> omega)
   show (Txt.join (Str.ofString " ") _).length ≤ 300
   rw [tj, sp32]
   exact Nat.le_trans hj (by simp)
end
end T09
namespace T09
open PySem L2 Tc
section
variable {P : Program} {w : World} {K : PySem.W.Frag} {mg : Str → Option Value} {base : Heap}
noncomputable abbrev s__law_put_in : Stmt := top 39
theorem sc__law_put_in : FnScope ["_law_deed", "_law_given", "_law_first", "_law_middle", "_law_mark"] ["_law_deed", "_law_given"] (defScope s__law_put_in) := ⟨rfl, rfl, rfl, by decide +kernel, rfl, by decide +kernel, by decide +kernel⟩
theorem ok__law_put_in {ca : Ca} (D : DefAt K mg "_law_put_in" s__law_put_in) (T : Txt K mg ca) : FnAt P w K mg base CX0 1 "_law_put_in" ["_law_deed", "_law_given"] (spPi9 K) := by
 refine D.ok sc__law_put_in (fun vs H Q E h => ?_) (fun _ _ _ _ _ _ us hl => match us, hl with | [_, _], _ => rfl) (fun f cdv A outer s H vs Q E hr h => ?_)
 ·obtain ⟨v, g, d, gs, rfl, hv, hok, hg, hin, k⟩ := h; rfl
 ·obtain ⟨v, g, d, gs, rfl, hv, hok, hg, hin, k⟩ := h
  have nd := sc__law_put_in.nd
  refine ⟨_, (@pss_cons _ _ _ _ _ (ps_if (pt_cmpR op_eq (pe_ix (ix_tup' (K := K) rfl) (pv 0) pe_int (fun _ _ => rfl)) pe_str (nomark _)) (@pss_one _ _ _ (ps_ret (pv 0))) pss_nil)
   (@pss_cons _ _ _ _ _ (@ps_set _ _ 2 _ _ _ _ nd rfl (Or.inl rfl) (@pe_op _ _ _ _ _ _ _ _ op_add pe_int (pe_callTy call_int1 (by rfl) T.z_int bt_int (@pa_cons _ _ _ _ _ (pe_cmpR op_eq (pe_ix (ix_tup' (K := K) rfl) (pv 0) pe_int (fun _ _ => rfl)) pe_str (nomark _)) pa_nil (by rfl)))) (by rfl) (Or.inl rfl))
   (@pss_cons _ _ _ _ _ (@ps_set _ _ 3 _ _ _ _ nd rfl (Or.inl rfl) (@pe_lst _ _ _ _ pa_nil) (by rfl) (Or.inl rfl))
   (@pss_cons _ _ _ _ _ (ps_for PassesOwn.never rfl (pi_tup' (K := K) rfl (pe_slice (sl_tup' (K := K) rfl) (pv 0) (po_some (pv 2)) (po_some pe_int))) (pg_name (i := 4) nd rfl (Or.inl rfl)) (@pss_cons _ _ _ _ _ (ps_if (pt_val (pe_callB (call_isi' (K := K) rfl) (by rfl) T.z_isinstance bt_isinstance (@pa_cons _ _ _ _ _ (pv 4) (@pa_cons _ _ _ _ _ (pe_bltn (v := .ty "int") (by rfl) T.z_int bt_int rfl) pa_nil (by rfl)) (by rfl)))) (@pss_one _ _ _ (@ps_set _ _ 4 _ _ _ _ nd rfl (Or.inl rfl) (pe_ix (ix_list' (K := K) rfl) (pv 1) (pv 4) (fun _ _ => rfl)) (by rfl) (Or.inl rfl))) pss_nil)
   (@pss_one _ _ _ (ps_expr (pe_bm PySem.F.plainAttrs_list PySem.F.slot_list_append PySem.F.type_list_append mt_append (pv 3) (@pa_cons _ _ _ _ _ (pv 4) pa_nil (by rfl)))))))
   (@pss_one _ _ _ (ps_ret (@pe_op _ _ _ _ _ _ _ _ (op_catW (K := K) rfl) (@pe_op _ _ _ _ _ _ _ _ (op_catW (K := K) rfl) (pe_slice (sl_tup' (K := K) rfl) (pv 0) po_none (po_some (pv 2))) (pe_callTy (call_tuple_of' (K := K) rfl) (by rfl) T.z_tuple bt_tuple (@pa_cons _ _ _ _ _ (pv 3) pa_nil (by rfl)))) (pe_slice (sl_tup' (K := K) rfl) (pv 0) (po_some pe_int) po_none)))))))), ?_⟩
  by_cases hy : d = .yr
  ·subst hy
   obtain ⟨a, rfl, ha⟩ := id hv
   refine ⟨_, rfl, a, _, 0, _, rfl, rfl, SqT.of ha, rfl, rfl, _, rfl, ?_⟩
   refine dec_true rfl ?_
   exact ⟨_, rfl, k _ _ (Same.refl _) hv⟩
  obtain ⟨a, w, p1, pre, ms, post, rfl, ha, rfl, nw, hfi, hlm, hlp, hms, hout⟩ := put_shape hv hok hin hy
  have hl3 : (V.str w :: p1).length + ms.length = 3 := hlm
  refine ⟨_, rfl, a, _, 0, _, rfl, rfl, SqT.of ha, at_0 _ _, rfl, _, rfl, ?_⟩
  refine dec_false (fun e => nw (V.str.inj e)) ?_
  refine ⟨_, rfl, a, _, 0, _, rfl, rfl, SqT.of ha, at_0 _ _, rfl, .inr ⟨_, rfl, _, _, rfl, rfl, ?_⟩⟩
  show Ends.nx _ [some (.ref a), some (.ref g), some (.int (1 + if decide (V.str w = V.str (Str.ofString "bring")) = true then 1 else 0)), none, none] H
  rw [hfi]
  refine ⟨sz (by simp), fun M gM => ?_⟩
  have c1 := Same.upd (o := .lst []) gM
  refine ⟨_, rfl, _, rfl, _, rfl, 3, rfl, a, _, rfl, SqT.of (c1 _ _ ha), not1 (k := (V.str w :: p1).length) (by simp only [List.length_append, List.length_map] at *; omega) (by simp), fun t1 gt1 => ⟨t1, rfl, ⟨_, SqT.of upd_same⟩, ?_⟩⟩
  rw [cut_mid (V.str w :: p1) (ms.map kV) post (by rw [List.length_map]; exact hl3)]
  have c2 := Same.upd (o := .tup (ms.map kV)) gt1
  have c12 := c1.trans c2
  refine for_tup (xs := ms.map kV) (fun j σ H1 => ∃ v4 : Option V, σ = [some (.ref a), some (.ref g), some (.int (((V.str w :: p1).length : Nat) : Int)), some (.ref M), v4] ∧ Same H H1 ∧ H1 t1 = some (.tup (ms.map kV)) ∧ H1 M = some (.lst (((ms.take j).map (numF gs)).map kV))) ⟨none, rfl, c12, upd_same, c2 _ _ upd_same⟩ ?_ ?_ ?_
  ·rintro j σ H1 hj ⟨v4, rfl, s1, h1, _⟩
   exact SqT.of h1
  ·rintro j x σ H1 hx ⟨v4, rfl, s1, h1, hM⟩
   rw [List.getElem?_map] at hx
   obtain ⟨m, hm, rfl⟩ := Option.map_eq_some_iff.mp hx
   have hj : j < ms.length := (List.getElem?_eq_some_iff.mp hm).1
   have tM : ∀ v, TSame H1 (upd H1 M (.lst (((ms.take j).map (numF gs)).map kV ++ [v]))) := fun v => ts_updL hM
   have el : ∀ v, v = kV (numF gs m) → upd H1 M (.lst (((ms.take j).map (numF gs)).map kV ++ [v])) M = some (.lst (((ms.take (j + 1)).map (numF gs)).map kV)) := fun v e => by
    rw [upd_same, e, List.take_add_one, hm, List.map_append, List.map_append]; rfl
   have szj : (((ms.take j).map (numF gs)).map kV).length < 1000 := by rw [List.length_map, List.length_map, List.length_take]; simp only [List.length_cons] at hl3; omega
   rcases put_mark (hms m (List.mem_of_getElem? hm)) with ⟨s, rfl, e⟩ | ⟨i, q, rfl, hat, e⟩
   ·refine ⟨_, rfl, _, _, _, _, rfl, tyOf_of (n := "str") rfl, kit_tt (by decide) (by decide), _, rfl, ?_⟩
    refine iteF ?_
    refine ⟨_, rfl, .inl ⟨rfl, _, SqL.of hM⟩, _, rfl, M, _, _, rfl, rfl, hM, sz szj, ?_⟩
    exact ⟨_, rfl, s1.updD gM, tM _ _ _ h1, el _ (by rw [e])⟩
   ·refine ⟨_, rfl, _, _, _, _, rfl, tyOf_of (n := "int") rfl, kit_tt (by decide) (by decide), _, rfl, ?_⟩
    refine iteT ?_
    refine ⟨_, rfl, _, rfl, g, _, _, _, rfl, rfl, SqL.of (s1 _ _ hg), hat, ?_⟩
    refine ⟨_, rfl, .inl ⟨rfl, _, SqL.of hM⟩, _, rfl, M, _, _, rfl, rfl, hM, sz szj, ?_⟩
    exact ⟨_, rfl, s1.updD gM, tM _ _ _ h1, el _ e.symm⟩
  ·rintro σ H1 ⟨v4, rfl, s1, h1, hM⟩
   rw [List.length_map, List.take_length] at hM
   have hL : ((V.str w :: p1) ++ ms.map kV ++ post).length = 3 + post.length := by rw [List.length_append, List.length_append, List.length_map]; omega
   have hpl : (V.str w :: p1).length ≤ 3 := by omega
   refine ⟨_, rfl, _, rfl, _, rfl, a, _, rfl, SqT.of (s1 _ _ ha), ?_, fun t2 gt2 => ?_⟩
   ·intro z
    have z2 := z.2
    rw [HT.sIx_nat, hL] at z2
    have hp2 : (V.str w :: p1).length ≤ 2 := by
     have := hfi
     split at this <;> omega
    omega
   have lmm : ((ms.map (numF gs)).map kV).length = ms.length := by rw [List.length_map, List.length_map]
   rw [cut_pre (V.str w :: p1) (ms.map kV) post (by rw [List.length_map]; exact hl3)]
   have u1 := Same.upd (o := .tup (V.str w :: p1)) gt2
   refine ⟨_, rfl, M, _, rfl, .inl ⟨SqL.of (u1 _ _ hM), fun t3 gt3 => ?_⟩⟩
   have u2 := Same.upd (o := .tup ((ms.map (numF gs)).map kV)) gt3
   refine ⟨t2, t3, _, _, rfl, rfl, u2 _ _ upd_same, upd_same, sz (by omega), fun t4 H4 s4 h4 => ?_⟩
   have s14 := s1.trans (u1.trans (u2.trans s4))
   refine ⟨_, rfl, 3, rfl, a, _, rfl, SqT.of (s14 _ _ ha), not1 (k := 3) (by rw [hL]; omega) (by decide), fun t5 gt5 => ?_⟩
   rw [cut_post (V.str w :: p1) (ms.map kV) post (by rw [List.length_map]; exact hl3)]
   have u5 := Same.upd (o := .tup post) gt5
   exact ⟨t4, t5, _, _, rfl, rfl, u5 _ _ h4, upd_same, sz (by rw [List.length_append]; omega), fun r H6 s6 hr => k _ _ (s14.trans (u5.trans s6)) (hout r H6 (s14.trans (u5.trans s6)) hr)⟩
end
end T09
namespace T09
open PySem L2 Tc
section
variable {P : Program} {w : World} {K : PySem.W.Frag} {mg : Str → Option Value} {base : Heap}
noncomputable abbrev s__law_do : Stmt := top 40
theorem sc__law_do : FnScope ["_law_number", "_law_rules", "_law_words_here", "_law_name", "_law_params", "_law_deeds_here", "_law_plain_ones", "_law_some", "_law_given", "_law_marks", "_law_spots"] ["_law_number", "_law_rules", "_law_words_here"] (defScope s__law_do) := ⟨rfl, rfl, rfl, by decide +kernel, rfl, by decide +kernel, by decide +kernel⟩
theorem ok__law_do {ca : Ca} (D : DefAt K mg "_law_do" s__law_do) (T : Txt K mg ca) (G__law_put_in : FnAt P w K mg base CX0 1 "_law_put_in" ["_law_deed", "_law_given"] (spPi9 K)) : FnAt P w K mg base CX0 2 "_law_do" ["_law_number", "_law_rules", "_law_words_here"] (spDo9 K) := by
 refine D.ok sc__law_do (fun vs H Q E h => ?_) (fun _ _ _ _ _ _ us hl => match us, hl with | [_, _, _], _ => rfl) (fun f cdv A outer s H vs Q E hr h => ?_)
 ·obtain ⟨n, R, w, rv, rs, bod, f, A, S, rfl, hR, hRs, hne, hrs, ⟨w0, w1, ta, tc, ts, hw, hw0, hPA, hw1, hPS⟩, hA, hAl, hSl, hz8, k⟩ := h; rfl
 ·obtain ⟨n, R, w, rv, rs, bod, f, A, S, rfl, hR, hRs, hne, hrs, ⟨w0, w1, ta, tc, ts, hw, hw0, hPA, hw1, hPS⟩, hA, hAl, hSl, hz8, k⟩ := h
  have nd := sc__law_do.nd
  refine ⟨_, (@pss_cons _ _ _ _ _ (ps_asg (pe_ix (ix_list' (K := K) rfl) (pv 1) (@pe_op _ _ _ _ _ _ _ _ op_modN (pv 0) (pe_callB (call_len' (K := K) rfl) (by rfl) T.z_len PySem.boot_len (@pa_cons _ _ _ _ _ (pv 1) pa_nil (by rfl)))) (fun _ _ => rfl)) (pg_tup rfl (pgs_cons (pg_name (i := 3) nd rfl (Or.inl rfl)) (pgs_cons (pg_name (i := 4) nd rfl (Or.inl rfl)) (pgs_cons (pg_name (i := 5) nd rfl (Or.inl rfl)) (pgs_cons (pg_name (i := 6) nd rfl (Or.inl rfl)) pgs_nil))))))
   (@pss_cons _ _ _ _ _ (@ps_set _ _ 7 _ _ _ _ nd rfl (Or.inr rfl) (pe_ix (ix_list' (K := K) rfl) (pv 2) (pe_callTy call_int1 (by rfl) T.z_int bt_int (@pa_cons _ _ _ _ _ (pe_cmpR op_eq (@pe_op _ _ _ _ _ _ _ _ op_modN (@pe_op _ _ _ _ _ _ _ _ op_fdivB (pv 0) pe_int) pe_int) pe_int (nomark _)) pa_nil (by rfl))) (fun _ _ => rfl)) (by rfl) (Or.inl rfl))
   (@pss_cons _ _ _ _ _ (ps_setcomp ["_law_k"] ["_law_some", "_law_number"] [7, 0] (i := 8) nd rfl rfl rfl (by rfl) (pi_range1 (by rfl) T.z_range (@pa_cons _ _ _ _ _ (pe_callB (call_len' (K := K) rfl) (by rfl) T.z_len PySem.boot_len (@pa_cons _ _ _ _ _ (pv 4) pa_nil (by rfl))) pa_nil (by rfl))) (fun _ _ _ _ => (pg_name (i := 0) (show List.Nodup (["_law_k", "_law_some", "_law_number"] : List Str) from by decide) rfl (Or.inl rfl))) (fun _ _ _ _ => pif_none) (fun _ _ _ _ => (pe_ix (ix_list' (K := K) rfl) (pv 1) (@pe_op _ _ _ _ _ _ _ _ op_modN (@pe_op _ _ _ _ _ _ _ _ op_add (@pe_op _ _ _ _ _ _ _ _ op_fdivB (pv 2) pe_int) (pv 0)) (pe_callB (call_len' (K := K) rfl) (by rfl) T.z_len PySem.boot_len (@pa_cons _ _ _ _ _ (pv 1) pa_nil (by rfl)))) (fun _ _ => rfl))))
   (@pss_cons _ _ _ _ _ (ps_if (pt_cmpR op_notN (pv 6) pe_non (nomark _)) (@pss_cons _ _ _ _ _ (@ps_set _ _ 9 _ _ _ _ nd rfl (Or.inr rfl) (pe_comp ["_law_one"] [] [] rfl (by rfl) (pi_list' (K := K) rfl (pv 8)) (fun _ _ _ _ => (pg_name (i := 0) (show List.Nodup (["_law_one"] : List Str) from by decide) rfl (Or.inl rfl))) (fun _ _ _ _ => pif_none) (fun _ _ _ _ => (pe_ix (ix_tup' (K := K) rfl) (pv 0) pe_int (fun _ _ => rfl)))) (by rfl) (Or.inl rfl))
   (@pss_one _ _ _ (ps_setcomp ["_law_deed"] ["_law_marks"] [9] (i := 6) nd rfl rfl rfl (by rfl) (pi_list' (K := K) rfl (pv 6)) (fun _ _ _ _ => (pg_name (i := 0) (show List.Nodup (["_law_deed", "_law_marks"] : List Str) from by decide) rfl (Or.inl rfl))) (fun _ _ _ _ => pif_none) (fun _ _ _ _ => (pe_fn G__law_put_in hr (by rfl) pass0 (@pa_cons _ _ _ _ _ (pv 0) (@pa_cons _ _ _ _ _ (pv 1) pa_nil (by rfl)) (by rfl))))))) pss_nil)
   (@pss_cons _ _ _ _ _ (ps_setcomp ["_law_one"] [] [] (i := 10) nd rfl rfl rfl (by rfl) (pi_list' (K := K) rfl (pv 8)) (fun _ _ _ _ => (pg_name (i := 0) (show List.Nodup (["_law_one"] : List Str) from by decide) rfl (Or.inl rfl))) (fun _ _ _ _ => pif_none) (fun _ _ _ _ => (pe_ix (ix_tup' (K := K) rfl) (pv 0) pe_int (fun _ _ => rfl))))
   (@pss_one _ _ _ (ps_ret (@pe_tup _ _ _ _ _ (@pa_cons _ _ _ _ _ (@pe_tup _ _ _ _ _ (@pa_cons _ _ _ _ _ pe_str (@pa_cons _ _ _ _ _ (pv 3) (@pa_cons _ _ _ _ _ (pe_callTy (call_tuple_of' (K := K) rfl) (by rfl) T.z_tuple bt_tuple (@pa_cons _ _ _ _ _ (pv 10) pa_nil (by rfl))) pa_nil (by rfl)) (by rfl)) (by rfl))) (@pa_cons _ _ _ _ _ (pv 6) (@pa_cons _ _ _ _ _ (pe_bm' (K := K) rfl PySem.F.plainAttrs_str PySem.F.slot_str_join PySem.F.type_str_join (mt_join' (K := K) rfl) pe_str (@pa_cons _ _ _ _ _ (@pe_op _ _ _ _ _ _ _ _ op_cat (@pe_lst _ _ _ _ (@pa_cons _ _ _ _ _ pe_str (@pa_cons _ _ _ _ _ (pv 3) pa_nil (by rfl)) (by rfl))) (pv 10)) pa_nil (by rfl))) pa_nil (by rfl)) (by rfl)) (by rfl)))))))))), ?_⟩
  have hrl := hRs.length
  have h0 : 0 < rv.length := by rw [hrl]; exact List.length_pos_iff.mpr hne
  have q := fmod_lt (c := n) (m := ((rv.length : Nat) : Int)) (by omega)
  obtain ⟨vr, hvr, hatr⟩ := atI_in (xs := rv) q.1 q.2
  obtain ⟨r, hr, ra, rb, rc, s, us, rfl, hra, hrb, hrc, hT, hs, hin⟩ := paired_mem hRs hvr
  obtain ⟨lr8, lp3⟩ := hrs r hr
  refine ⟨_, rfl, _, rfl, _, rfl, _, _, rfl, .inl ⟨_, SqL.of hR, rfl⟩, _, _, rfl, rfl, (by omega), R, _, _, _, rfl, rfl, SqL.of hR, hatr, ?_⟩
  refine ⟨ra, _, rfl, SqT.of hra, rfl, _, _, rfl, _, _, rfl, _, _, rfl, _, _, rfl, rfl, ?_⟩
  show Ends.nx _ [_, _, _, _, _, _, _, _, _, _, _] H
  obtain ⟨wl, us2, Z, hatW, hwl, hPZ, hZ, hZne⟩ : ∃ (wl : Addr) (us : List V) (Z : List Str), atI [V.ref w0, V.ref w1] (if decide (V.int ((n.fdiv 8).fmod 4) = V.int 0) = true then 1 else 0) = some (.ref wl) ∧ H wl = some (.lst us) ∧ Paired (NmF f H) us Z ∧ (∀ z ∈ Z, z ∈ A ++ S) ∧ Z ≠ [] := by
   by_cases hf : decide (V.int ((n.fdiv 8).fmod 4) = V.int 0) = true
   ·exact ⟨w1, ta ++ tc ++ ts, A ++ S, by rw [hf]; rfl, hw1, Paired.app hPA hPS, fun z hz => hz, fun z => hA (List.append_eq_nil_iff.mp z).1⟩
   ·exact ⟨w0, ta ++ tc, A, by rw [if_neg hf]; rfl, hw0, hPA, fun z hz => List.mem_append_left _ hz, hA⟩
  refine ⟨_, rfl, _, rfl, _, _, rfl, rfl, dd (by decide) (by decide), _, _, rfl, rfl, (show (4 : Int) ≠ 0 by decide), rfl, .inr ⟨_, rfl, w, _, _, _, rfl, rfl, SqL.of hw, hatW, ?_⟩⟩
  show Ends.nx _ [_, _, _, _, _, _, _, _, _, _, _] H
  refine ⟨_, rfl, _, _, rfl, .inr ⟨_, SqT.of hrb, rfl⟩, _, rfl, by rw [List.length_map]; omega, by rw [List.length_map]; omega, fun D hD => ?_⟩
  refine block_range (fun i σ' H' => ∃ (v : Option V) (vs : List V) (zs : List Str), σ' = [v, some (.ref wl), some (.int n)] ∧ Same H H' ∧ H' D = some (.lst vs) ∧ Paired (NmF f H) vs zs ∧ zs.length = i ∧ ∀ z ∈ zs, z ∈ Z) ⟨none, [], [], rfl, Same.upd hD, upd_same, .nil, rfl, fun _ z => nomatch z⟩ ?_ ?_
  ·rintro i σ' H' hi ⟨v, vs, zs, rfl, s3, hd3, hPv, hzl, hzm⟩
   have hi : i < r.2.1.length := by
    have hi : i < (((r.2.1.map V.str).length : Nat) : Int).toNat := hi
    rw [List.length_map] at hi; simpa using hi
   have hvl := hPv.length
   obtain ⟨hn1, ka, zk, hatk, hzk, hka⟩ := pickN hPZ hZne (n.fdiv 32 + (0 + (i : Int)))
   refine ⟨_, rfl, _, rfl, _, _, rfl, rfl, dd (by decide) (by decide), _, rfl, _, _, rfl, rfl, _, rfl, _, _, rfl, .inl ⟨_, SqL.of (s3 _ _ hwl), rfl⟩, _, _, rfl, rfl, hn1, wl, _, _, _, rfl, rfl, SqL.of (s3 _ _ hwl), hatk, ?_⟩
   refine ⟨_, hd3, sz (by omega), _, vs ++ [.ref ka], zs ++ [zk], rfl, s3.updD hD, upd_same, Paired.app hPv (.cons ⟨ka, rfl, hka⟩ .nil), by rw [List.length_append, hzl]; rfl, fun z hz => ?_⟩
   rcases List.mem_append.mp hz with hz | hz
   ·exact hzm z hz
   ·rw [List.mem_singleton.mp hz]; exact hzk
  rintro σ' H3 ⟨v, vs, zs, rfl, s3, hd3, hPv, hzl, hzm⟩
  have hzl : zs.length = r.2.1.length := by
   have hzl : zs.length = (((r.2.1.map V.str).length : Nat) : Int).toNat := hzl
   rw [hzl, List.length_map]; simp
  have hvl := hPv.length
  show Ends.nx _ [some (.int n), some (.ref R), some (.ref w), some (.str r.1), some (.ref rb), some (.ref rc), some s, some (.ref wl), some (.ref D), none, none] H3
  refine ⟨_, rfl, rfl, _, rfl, ?_⟩
  let zf : List Key := zs.map fun z => f (.inr z)
  have hlzf : zf.length = r.2.1.length := by show (zs.map _).length = _; rw [List.length_map]; exact hzl
  refine' by_key3 (C := fun (s' : V) (Hx : Hp) (_ : Option V) => Same H3 Hx ∧ SoV Hx s' (lim ((bod r.1).map (P9.sub (numF zf)))) ∧ ∀ a, s' = V.ref a → H a = none) (fun key => ?go) ?body
  case go =>
   by_cases hL : (bod r.1).length ≤ 200
   ·have hsL := hs
    rw [lim_le hL] at hsL
    obtain ⟨a, bs, es, ha, hPb⟩ := hsL
    refine ite2 (fun _ => ?_) (fun z => absurd (by rw [es]; rfl) z)
    refine ⟨_, rfl, D, rfl, ⟨_, SqL.of hd3⟩, fun D2 hD2 => ?_⟩
    refine block_list (xs := vs) (fun j σ' H' => ∃ (v : Option V), σ' = [v] ∧ Same H3 H' ∧ H' D2 = some (.lst (((zs.take j).map fun z => f (.inr z)).map kV))) ⟨none, rfl, Same.upd hD2, upd_same⟩ ?_ ?_ ?_
    ·rintro j σ' H' hj ⟨v, rfl, s4, _⟩
     exact SqL.of (s4 _ _ hd3)
    ·rintro j x σ' H' hx ⟨v, rfl, s4, hd4⟩
     obtain ⟨z, hz, ka, rfl, hka⟩ := paired_get hPv hx
     have hj : j < zs.length := (List.getElem?_eq_some_iff.mp hz).1
     refine ⟨_, rfl, ka, _, 1, _, rfl, rfl, SqT.of ((s3.trans s4) _ _ hka), rfl, _, hd4, by rw [List.length_map, List.length_map, List.length_take]; exact sz (by omega), _, rfl, s4.updD hD2, ?_⟩
     rw [upd_same, List.take_add_one, hz, List.map_append, List.map_append]; rfl
    rintro σ' H4 ⟨v, rfl, s4, hd4⟩
    rw [hvl, List.take_length] at hd4
    have hd4 : H4 D2 = some (.lst (zf.map kV)) := hd4
    have s34 := s3.trans s4
    have ha4 := s34 _ _ ha
    have hPb4 := Paired.mapP hPb fun _ _ h => h.ts s34.ts
    have hbl := hPb.length
    refine ⟨_, rfl, a, es, ⟨_, SqL.of ha4⟩, fun D3 hD3 => ?_⟩
    refine block_list (xs := bs) (fun j σ' H' => ∃ (v : Option V) (ws : List V), σ' = [v, some (.ref D2)] ∧ Same H4 H' ∧ H' D3 = some (.lst ws) ∧ Paired (P9V H') ws (((bod r.1).take j).map (P9.sub (numF zf)))) ⟨none, [], rfl, Same.upd hD3, upd_same, .nil⟩ ?_ ?_ ?_
    ·rintro j σ' H' hj ⟨v, ws, rfl, s5, _⟩
     exact SqL.of (s5 _ _ ha4)
    ·rintro j x σ' H' hx ⟨v, ws, rfl, s5, hd5, hwP⟩
     obtain ⟨d, hd, hzu⟩ := paired_get hPb4 hx
     have hj : j < (bod r.1).length := (List.getElem?_eq_some_iff.mp hd).1
     have hwl := hwP.length
     rw [List.length_map, List.length_take] at hwl
     obtain ⟨dok, din⟩ := hin d (List.mem_of_getElem? hd)
     refine ⟨_, rfl, _, rfl, x, D2, d, zf, rfl, hzu.ts s5.ts, dok, s5 _ _ hd4, by rw [hlzf]; exact din, fun v' H6 s6 hv' => ?_⟩
     have tL := ts_updL (o := .lst (ws ++ [v'])) (s6 _ _ hd5)
     refine ⟨_, s6 _ _ hd5, sz (by omega), _, ws ++ [v'], rfl, (s5.trans s6).updD hD3, upd_same, ?_⟩
     rw [List.take_add_one, hd, List.map_append]
     exact Paired.app (Paired.mapP hwP fun _ _ h => (h.ts s6.ts).ts tL) (.cons (hv'.ts tL) .nil)
    rintro σ' H5 ⟨v, ws, rfl, s5, hd5, hwP⟩
    rw [hbl, List.take_length] at hwP
    show Ends.nx _ [some (.int n), some (.ref R), some (.ref w), some (.str r.1), some (.ref rb), some (.ref rc), some (.ref D3), some (.ref wl), some (.ref D), some (.ref D2), none] H5
    generalize (some (V.ref D2) : Option V) = v9
    generalize eD3 : V.ref D3 = s'
    exact key s' H5 v9 ⟨s4.trans s5, by rw [← eD3, lim_le (by rw [List.length_map]; exact hL)]; exact ⟨D3, ws, rfl, hd5, hwP⟩, fun a ea => by rw [← eD3] at ea; rw [← V.ref.inj ea]; exact s34.free hD3⟩
   ·have hsL := hs
    rw [lim_gt hL] at hsL
    have hsL : s = .non := hsL
    refine ite2 (fun z => by rw [hsL] at z; cases z) (fun _ => ?_)
    show Ends.nx _ [some (.int n), some (.ref R), some (.ref w), some (.str r.1), some (.ref rb), some (.ref rc), some s, some (.ref wl), some (.ref D), none, none] H3
    exact key s H3 none ⟨Same.refl _, by rw [lim_gt (by rw [List.length_map]; exact hL)]; exact hsL, fun a ea => by rw [hsL] at ea; cases ea⟩
  rintro s' Hx v9 ⟨sx, hs', hsf⟩
  have hdx := sx _ _ hd3
  refine ⟨_, rfl, D, rfl, ⟨_, SqL.of hdx⟩, fun D4 hD4 => ?_⟩
  refine block_list (xs := vs) (fun j σ' H' => ∃ (v : Option V), σ' = [v] ∧ Same Hx H' ∧ H' D4 = some (.lst ((zs.take j).map V.str))) ⟨none, rfl, Same.upd hD4, upd_same⟩ ?_ ?_ ?_
  ·rintro j σ' H' hj ⟨v, rfl, s4, _⟩
   exact SqL.of (s4 _ _ hdx)
  ·rintro j x σ' H' hx ⟨v, rfl, s4, hd4⟩
   obtain ⟨z, hz, ka, rfl, hka⟩ := paired_get hPv hx
   have hj : j < zs.length := (List.getElem?_eq_some_iff.mp hz).1
   refine ⟨_, rfl, ka, _, 0, _, rfl, rfl, SqT.of ((s3.trans (sx.trans s4)) _ _ hka), rfl, _, hd4, by rw [List.length_map, List.length_take]; exact sz (by omega), _, rfl, s4.updD hD4, ?_⟩
   rw [upd_same, List.take_add_one, hz, List.map_append]; rfl
  rintro σ' H6 ⟨v, rfl, s6, hd6⟩
  rw [hvl, List.take_length] at hd6
  show Ends.nx _ [some (.int n), some (.ref R), some (.ref w), some (.str r.1), some (.ref rb), some (.ref rc), some s', some (.ref wl), some (.ref D), v9, some (.ref D4)] H6
  have hmz : ∀ z ∈ zs, z.length ≤ 8 := fun z hz => hz8 z (hZ z (hzm z hz))
  have ldo : (Str.ofString "do").length = 2 := by decide +kernel
  have h25 : ∀ x ∈ Str.ofString "do" :: r.1 :: zs, x.length ≤ 25 := fun x hx => by
   rcases List.mem_cons.mp hx with rfl | hx
   ·omega
   rcases List.mem_cons.mp hx with rfl | hx
   ·omega
   ·have := hmz x hx; omega
  have l10 : (Str.ofString "do" :: r.1 :: zs).length ≤ 5 := by simp only [List.length_cons]; omega
  refine ⟨_, rfl, _, rfl, D4, _, rfl, .inl ⟨SqL.of hd6, fun b hb => ⟨sz (by simp), fun d hd => ?_⟩⟩⟩
  have u1 := Same.upd (o := .tup (zs.map V.str)) hb
  have u2 := Same.upd (o := .tup [.str (Str.ofString "do"), .str r.1, .ref b]) hd
  refine ⟨_, rfl, rfl, _, rfl, sz (by simp), fun q1 hq1 => ?_⟩
  have u3 := Same.upd (o := .lst [.str (Str.ofString "do"), .str r.1]) hq1
  refine ⟨_, rfl, q1, D4, _, _, rfl, rfl, upd_same, (u1.trans (u2.trans u3)) _ _ hd6, sz (by simp; omega), fun q2 hq2 => ?_⟩
  have u4 := Same.upd (o := .lst ([V.str (Str.ofString "do"), V.str r.1] ++ zs.map V.str)) hq2
  refine ⟨_, q2, Str.ofString "do" :: r.1 :: zs, rfl, rfl, SqL.of upd_same, join_room h25 (by omega), sz (by simp), fun p hp => ?_⟩
  have s0 := s3.trans (sx.trans s6)
  refine k p (.ref d) s' _ r zs _ (s0.trans (u1.trans (u2.trans (u3.trans (u4.trans (Same.upd hp)))))) upd_same hr ⟨d, b, rfl, (u3.trans (u4.trans (Same.upd hp))) _ _ upd_same, (u2.trans (u3.trans (u4.trans (Same.upd hp)))) _ _ upd_same⟩ hzl (fun z hz => hZ z (hzm z hz)) (hs'.same (s6.trans (u1.trans (u2.trans (u3.trans (u4.trans (Same.upd hp))))))) hsf ?_
  have hj := join_len (c := 32) h25
  show (Txt.join (Str.ofString " ") _).length ≤ 300
  rw [tj, sp32]
  exact Nat.le_trans hj (by omega)
end
end T09
namespace T09
open PySem L2 Tc
section
variable {P : Program} {w : World} {K : PySem.W.Frag} {mg : Str → Option Value} {base : Heap}
noncomputable abbrev s__law_so_often : Stmt := top 41
theorem sc__law_so_often : FnScope ["_law_some", "_law_many"] ["_law_some", "_law_many"] (defScope s__law_so_often) := ⟨rfl, rfl, rfl, by decide +kernel, rfl, by decide +kernel, by decide +kernel⟩
theorem ok__law_so_often {ca : Ca} (D : DefAt K mg "_law_so_often" s__law_so_often) (T : Txt K mg ca) : FnAt P w K mg base CX0 1 "_law_so_often" ["_law_some", "_law_many"] (spSo9 K) := by
 refine D.ok sc__law_so_often (fun vs H Q E h => ?_) (fun _ _ _ _ _ _ us hl => match us, hl with | [_, _], _ => rfl) (fun f cdv A outer s H vs Q E hr h => ?_)
 ·obtain ⟨v, n, L, rfl, hn, hv, k⟩ := h; rfl
 ·obtain ⟨v, n, L, rfl, hn, hv, k⟩ := h
  have nd := sc__law_so_often.nd
  refine ⟨_, (@pss_cons _ _ _ _ _ (ps_if (pt_cmpR op_eq (pv 1) pe_int (nomark _)) (@pss_one _ _ _ (ps_ret (@pe_lst _ _ _ _ pa_nil))) pss_nil)
   (@pss_cons _ _ _ _ _ (ps_if (PW.pt (pw_or (pt_cmpR op_isN (pv 0) pe_non (nomark _)) (pw_or1 (pt_cmpR op_gt (@pe_op _ _ _ _ _ _ _ _ op_mulB (pe_callB (call_len' (K := K) rfl) (by rfl) T.z_len PySem.boot_len (@pa_cons _ _ _ _ _ (pv 0) pa_nil (by rfl))) (pv 1)) pe_int (nomark _))))) (@pss_one _ _ _ (ps_ret pe_non)) pss_nil)
   (@pss_one _ _ _ (ps_ret (@pe_op _ _ _ _ _ _ _ _ op_rep (pv 0) (pv 1)))))), ?_⟩
  refine ⟨_, rfl, rfl, _, rfl, ?_⟩
  refine ite2 (fun h => ?_) (fun h => ?_)
  ·have e : ((n : Nat) : Int) = 0 := V.int.inj (of_decide_eq_true h)
   have e : n = 0 := by omega
   subst e
   refine ⟨sz (by simp), fun p hp => k _ _ (Same.upd hp) ?_ (fun a e => by cases e; exact hp)⟩
   exact ⟨p, [], rfl, upd_same, .nil⟩
  have hn0 : n ≠ 0 := fun z => h (decide_eq_true (by rw [z]; rfl))
  have len : (List.replicate n L).flatten.length = n * L.length := len_rep _ _
  rcases hv with ⟨hv, hL⟩ | ⟨hv, hL⟩
  ·obtain ⟨a, vs, rfl, ha, hP⟩ := hv
   have hl := hP.length
   refine ⟨_, rfl, rfl, _, rfl, ?_⟩
   refine ite2 (fun z => nomatch z) (fun _ => ?_)
   refine ⟨_, rfl, _, _, rfl, .inl ⟨_, SqL.of ha, rfl⟩, _, rfl, _, _, rfl, rfl, mulOk_of 64 (Nat.lt_of_le_of_lt (m := 1000) (by omega) (by decide)) (Nat.lt_of_le_of_lt (m := 60) (by omega) (by decide)) (by decide), _, _, rfl, rfl, _, rfl, ?_⟩
   have em : ((vs.length : Nat) : Int) * ((n : Nat) : Int) = ((n * L.length : Nat) : Int) := by rw [hl, ← Int.natCast_mul, Nat.mul_comm]
   refine ite2 (fun h2 => ?_) (fun h2 => ?_)
   ·have h2 : (200 : Int) < ((vs.length : Nat) : Int) * ((n : Nat) : Int) := of_decide_eq_true h2
    rw [em] at h2
    refine k _ _ (Same.refl _) ?_ (fun a e => nomatch e)
    rw [lim_gt (by rw [len]; omega)]
    rfl
   ·have h2 : ¬ (200 : Int) < ((vs.length : Nat) : Int) * ((n : Nat) : Int) := fun z => h2 (decide_eq_true z)
    rw [em] at h2
    have hs : n * L.length ≤ 200 := by omega
    refine ⟨_, rfl, _, rfl, a, _, vs, rfl, rfl, ha, by omega, by omega, by rw [Int.toNat_natCast, Nat.mul_comm, hl]; exact sz (by omega), fun p hp => ?_⟩
    rw [Int.toNat_natCast]
    have t := Same.upd (o := .lst (List.replicate n vs).flatten) hp
    refine k _ _ t ?_ (fun a e => by cases e; exact hp)
    rw [lim_le (by rw [len]; exact hs)]
    exact ⟨p, _, rfl, upd_same, Paired.mapP (paired_rep hP n) fun _ _ h => h.ts t.ts⟩
  ·subst hv
   refine ⟨_, rfl, rfl, _, rfl, ?_⟩
   refine ite2 (fun _ => iteT ?_) (fun z => absurd rfl z)
   refine k _ _ (Same.refl _) ?_ (fun a e => nomatch e)
   have : L.length ≤ n * L.length := Nat.le_mul_of_pos_left _ (by omega)
   rw [lim_gt (by rw [len]; omega)]
   rfl
end
end T09
namespace T09
open PySem L2 Tc
section
variable {P : Program} {w : World} {K : PySem.W.Frag} {mg : Str → Option Value} {base : Heap}
noncomputable abbrev s__law_added : Stmt := top 42
theorem sc__law_added : FnScope ["_law_frame", "_law_deed", "_law_more"] ["_law_frame", "_law_deed", "_law_more"] (defScope s__law_added) := ⟨rfl, rfl, rfl, by decide +kernel, rfl, by decide +kernel, by decide +kernel⟩
theorem ok__law_added {ca : Ca} (D : DefAt K mg "_law_added" s__law_added) (T : Txt K mg ca) (G__law_so_often : FnAt P w K mg base CX0 1 "_law_so_often" ["_law_some", "_law_many"] (spSo9 K)) : FnAt P w K mg base CX0 2 "_law_added" ["_law_frame", "_law_deed", "_law_more"] (spAd9 K) := by
 refine D.ok sc__law_added (fun vs H Q E h => ?_) (fun _ _ _ _ _ _ us hl => match us, hl with | [_, _, _], _ => rfl) (fun f cdv A outer s H vs Q E hr h => ?_)
 ·obtain ⟨fr, L, d, v, s, n, ds, A, B, rfl, hfr, hL, hdl, nfL, hs, hv, ns, nv, k⟩ := h; rfl
 ·obtain ⟨fr, L, d, v, s, n, ds, A, B, rfl, hfr, hL, hdl, nfL, hs, hv, ns, nv, k⟩ := h
  have nd := sc__law_added.nd
  refine ⟨_, (@pss_cons _ _ _ _ _ (ps_expr (pe_bm PySem.F.plainAttrs_list PySem.F.slot_list_append PySem.F.type_list_append mt_append (pe_ix (ix_list' (K := K) rfl) (pv 0) pe_int (fun _ _ => rfl)) (@pa_cons _ _ _ _ _ (pv 1) pa_nil (by rfl))))
   (@pss_one _ _ _ (ps_if (PW.pt (pw_and (pt_cmpR op_notN (pe_ix (ix_list' (K := K) rfl) (pv 0) pe_int (fun _ _ => rfl)) pe_non (nomark _)) (pw_and1 (pt_cmpR op_notN (pv 2) pe_non (nomark _))))) (@pss_one _ _ _ (ps_asg (pe_fn G__law_so_often hr (by rfl) pass0 (@pa_cons _ _ _ _ _ (@pe_op _ _ _ _ _ _ _ _ op_cat (pe_ix (ix_list' (K := K) rfl) (pv 0) pe_int (fun _ _ => rfl)) (pv 2)) (@pa_cons _ _ _ _ _ pe_int pa_nil (by rfl)) (by rfl))) (pg_sub (pv 0) pe_int set_list))) (@pss_one _ _ _ (ps_asg pe_non (pg_sub (pv 0) pe_int set_list)))))), ?_⟩
  refine ⟨_, rfl, fr, _, 1, _, rfl, rfl, SqL.of hfr, rfl, .inl ⟨rfl, _, SqL.of hL⟩, _, rfl, L, _, _, rfl, rfl, hL, sz (by omega), ?_⟩
  have tL := ts_updL (o := .lst (ds ++ [d])) hL
  have hfr1 := keepL (o' := .lst (ds ++ [d])) nfL hfr
  have hs1 : SoV (upd H L (.lst (ds ++ [d]))) s (lim A) := hs.keep tL fun a xs e h => keepL (ns a e).1 h
  have hv1 : SoV (upd H L (.lst (ds ++ [d]))) v (lim B) := hv.keep tL fun a xs e h => keepL (nv a e).1 h
  have k1 : KL H (upd H L (.lst (ds ++ [d]))) fr L := fun c o _ h2 h => keepL h2 h
  refine ⟨_, rfl, fr, _, 2, _, rfl, rfl, SqL.of hfr1, rfl, rfl, _, rfl, ?_⟩
  have tfr : ∀ o, TSame (upd H L (.lst (ds ++ [d]))) (upd (upd H L (.lst (ds ++ [d]))) fr o) := fun o => ts_updL hfr1
  have fin : ¬ (A ++ B).length ≤ 200 → Q .non (upd (upd H L (.lst (ds ++ [d]))) fr (.lst [.int n, .ref L, .non])) := fun hg => by
   refine k .non _ (fun c o h1 h2 h => by rw [upd_ne h1]; exact k1 c o h1 h2 h) upd_same (keepL nfL.symm upd_same) ?_ (fun a e => nomatch e)
   rw [lim_gt hg]
   rfl
  by_cases hA : A.length ≤ 200
  ·rw [lim_le hA] at hs1
   obtain ⟨a, vs, rfl, ha, hPa⟩ := hs1
   refine ite2 (fun _ => ?_) (fun z => absurd rfl z)
   refine ⟨_, rfl, rfl, _, rfl, ?_⟩
   by_cases hB : B.length ≤ 200
   ·rw [lim_le hB] at hv1
    obtain ⟨b, ws, rfl, hb, hPb⟩ := hv1
    refine ite2 (fun _ => ?_) (fun z => absurd rfl z)
    have la := hPa.length
    have lb := hPb.length
    refine ⟨_, rfl, fr, _, 2, _, rfl, rfl, SqL.of hfr1, rfl, _, rfl, a, b, vs, ws, rfl, rfl, ha, hb, sz (by omega), fun c gc => ?_⟩
    have u1 := Same.upd (o := .lst (vs ++ ws)) gc
    refine ⟨.ref c, 1, A ++ B, rfl, by decide, .inl ⟨⟨c, vs ++ ws, rfl, upd_same, Paired.app (Paired.mapP hPa fun _ _ h => h.ts u1.ts) (Paired.mapP hPb fun _ _ h => h.ts u1.ts)⟩, by rw [List.length_append]; omega⟩, fun s' H3 s3 hs' hf' => ?_⟩
    have s13 := u1.trans s3
    have hfr3 := s13 _ _ hfr1
    refine ⟨_, rfl, fr, _, 2, 2, rfl, rfl, hfr3, rfl, ?_⟩
    have t3 := ts_updL (o := .lst [.int n, .ref L, s']) hfr3
    have fr' : ∀ e, s' = V.ref e → upd H L (.lst (ds ++ [d])) e = none := fun e he => u1.free (hf' e he)
    have fr0 : ∀ e, s' = V.ref e → H e = none := fun e he => by
     have := fr' e he
     by_cases z : e = L
     ·rw [z, upd_same] at this; cases this
     ·rw [upd_ne z] at this; exact this
    refine k s' _ (fun c o h1 h2 h => by rw [upd_ne h1]; exact s13 _ _ (k1 c o h1 h2 h)) upd_same (keepL nfL.symm (s13 _ _ upd_same)) ?_ fr0
    have e1 : (List.replicate 1 (A ++ B)).flatten = A ++ B := by simp
    rw [e1] at hs'
    exact hs'.keep t3 fun e xs he h => keepL (fun z => by
     have := fr0 e he
     rw [z, hfr] at this; cases this) h
   ·rw [lim_gt hB] at hv1
    have hv1 : v = .non := hv1
    subst hv1
    refine ite2 (fun z => nomatch z) (fun _ => ?_)
    exact ⟨_, rfl, fr, _, 2, 2, rfl, rfl, hfr1, rfl, fin (by rw [List.length_append]; omega)⟩
  ·rw [lim_gt hA] at hs1
   have hs1 : s = .non := hs1
   subst hs1
   refine ite2 (fun z => nomatch z) (fun _ => iteF ?_)
   exact ⟨_, rfl, fr, _, 2, 2, rfl, rfl, hfr1, rfl, fin (by rw [List.length_append]; omega)⟩
end
end T09
namespace T09
open PySem L2 Tc
section
variable {P : Program} {w : World} {K : PySem.W.Frag} {mg : Str → Option Value} {base : Heap}
noncomputable abbrev s__law_never_none : Stmt := top 43
theorem sc__law_never_none : FnScope ["_law_frame", "_law_rows"] ["_law_frame", "_law_rows"] (defScope s__law_never_none) := ⟨rfl, rfl, rfl, by decide +kernel, rfl, by decide +kernel, by decide +kernel⟩
theorem ok__law_never_none {ca : Ca} (D : DefAt K mg "_law_never_none" s__law_never_none) (T : Txt K mg ca) (G__law_added : FnAt P w K mg base CX0 2 "_law_added" ["_law_frame", "_law_deed", "_law_more"] (spAd9 K)) : FnAt P w K mg base CX0 3 "_law_never_none" ["_law_frame", "_law_rows"] (spNn9 K) := by
 refine D.ok sc__law_never_none (fun vs H Q E h => ?_) (fun _ _ _ _ _ _ us hl => match us, hl with | [_, _], _ => rfl) (fun f cdv A outer s H vs Q E hr h => ?_)
 ·obtain ⟨fr, L, W, s, n, ds, rows, A, rfl, hfr, hL, hdl, nfL, hs, ns, hW, hrl, nWf, nWL, k1, k2⟩ := h; rfl
 ·obtain ⟨fr, L, W, s, n, ds, rows, A, rfl, hfr, hL, hdl, nfL, hs, ns, hW, hrl, nWf, nWL, k1, k2⟩ := h
  have nd := sc__law_never_none.nd
  refine ⟨_, (@pss_one _ _ _ (ps_if (pt_cmpR (op_eqEN (K := K) rfl hr) (pe_ix (ix_list' (K := K) rfl) (pv 0) pe_int (fun _ _ => rfl)) (@pe_lst _ _ _ _ pa_nil) (nomark _)) (@pss_cons _ _ _ _ _ (ps_expr (pe_bm PySem.F.plainAttrs_list PySem.F.slot_list_append PySem.F.type_list_append mt_append (pv 1) (@pa_cons _ _ _ _ _ pe_str pa_nil (by rfl))))
   (@pss_one _ _ _ (ps_expr (pe_fn G__law_added hr (by rfl) pass0 (@pa_cons _ _ _ _ _ (pv 0) (@pa_cons _ _ _ _ _ (@pe_tup _ _ _ _ _ (@pa_cons _ _ _ _ _ pe_str pa_nil (by rfl))) (@pa_cons _ _ _ _ _ (@pe_lst _ _ _ _ (@pa_cons _ _ _ _ _ (@pe_tup _ _ _ _ _ (@pa_cons _ _ _ _ _ pe_str pa_nil (by rfl))) pa_nil (by rfl))) pa_nil (by rfl)) (by rfl)) (by rfl)))))) pss_nil)), ?_⟩
  refine ⟨_, rfl, fr, _, 2, _, rfl, rfl, SqL.of hfr, rfl, sz (by simp), fun pe he => ⟨pe, rfl, SqL.of upd_same, ?_⟩⟩
  have ue := Same.upd (o := .lst []) he
  by_cases hA : A.length ≤ 200
  ·rw [lim_le hA] at hs
   obtain ⟨a, vs, rfl, ha, hP⟩ := hs
   refine .inr ⟨a, vs, rfl, SqL.of (ue _ _ ha), _, rfl, ?_⟩
   by_cases h0 : A = []
   ·subst h0
    cases hP
    refine iteT ?_
    have hW1 := ue _ _ hW
    refine ⟨_, rfl, .inl ⟨rfl, _, SqL.of hW1⟩, W, _, _, rfl, rfl, hW1, sz (by omega), ?_⟩
    have tW := ts_updL (o := .lst (rows ++ [.str (Str.ofString "year")])) hW1
    refine ⟨_, rfl, sz (by simp), fun d gd => ⟨sz (by simp), fun e ge => ⟨sz (by simp), fun m gm => ?_⟩⟩⟩
    have c1 := Same.upd (o := .tup [.str (Str.ofString "year")]) gd
    have c2 := Same.upd (o := .tup [.str (Str.ofString "year")]) ge
    have c3 := Same.upd (o := .lst [.ref e]) gm
    have c13 := c1.trans (c2.trans c3)
    have hfr2 := keepL (o' := .lst (rows ++ [.str (Str.ofString "year")])) nWf.symm (ue _ _ hfr)
    have hL2 := keepL (o' := .lst (rows ++ [.str (Str.ofString "year")])) nWL.symm (ue _ _ hL)
    have ha2 := keepL (o' := .lst (rows ++ [.str (Str.ofString "year")])) (ns a rfl).2.2 (ue _ _ ha)
    refine ⟨fr, L, .ref d, .ref m, .ref a, n, ds, [], [.yr], rfl, c13 _ _ hfr2, c13 _ _ hL2, hdl, nfL, ⟨a, [], rfl, c13 _ _ ha2, .nil⟩, ⟨m, [.ref e], rfl, upd_same, .cons ⟨e, rfl, c3 _ _ upd_same⟩ .nil⟩, (fun b eb => by cases eb; exact ⟨(ns a rfl).1, (ns a rfl).2.1⟩), (fun b eb => by
     cases eb
     exact ⟨ne_none gm ((c1.trans c2) _ _ hL2), ne_none gm ((c1.trans c2) _ _ hfr2)⟩), fun s' H' kl hf' hL' hs' hfr' => ?_⟩
    have nd1 : d ≠ fr := ne_none gd hfr2
    have nd2 : d ≠ L := ne_none gd hL2
    refine k2 rfl (.ref d) s' H' (fun c o h1 h2 h3 h => kl c o h1 h2 (c13 _ _ (keepL h3 (ue _ _ h)))) hf' hL' ⟨d, rfl, kl d _ nd1 nd2 ((c2.trans c3) _ _ upd_same)⟩ hs' (fun b eb => ?_) (kl W _ nWf nWL (c13 _ _ upd_same))
    have h1 := c13.free (hfr' b eb)
    by_cases z : b = W
    ·rw [z, upd_same] at h1; cases h1
    ·rw [upd_ne z] at h1; exact ue.free h1
   ·have hv0 : vs.isEmpty = false := by
     cases hP with
     | nil => exact absurd rfl h0
     | cons _ _ => rfl
    refine ite2 (fun z => by rw [hv0] at z; cases z) (fun _ => ?_)
    exact k1 h0 _ ue
  ·rw [lim_gt hA] at hs
   have hs : s = .non := hs
   subst hs
   refine .inl ⟨rfl, _, rfl, ?_⟩
   refine iteF ?_
   exact k1 (fun z => hA (by rw [z]; decide)) _ ue
end
end T09
namespace T09
open PySem L2 Tc
section
variable {P : Program} {w : World} {K : PySem.W.Frag} {mg : Str → Option Value} {base : Heap}
noncomputable abbrev s__law_shut : Stmt := top 44
theorem sc__law_shut : FnScope ["_law_frames", "_law_rows", "_law_many", "_law_deeds_here", "_law_some"] ["_law_frames", "_law_rows"] (defScope s__law_shut) := ⟨rfl, rfl, rfl, by decide +kernel, rfl, by decide +kernel, by decide +kernel⟩
theorem ok__law_shut {ca : Ca} (D : DefAt K mg "_law_shut" s__law_shut) (T : Txt K mg ca) (G__law_never_none : FnAt P w K mg base CX0 3 "_law_never_none" ["_law_frame", "_law_rows"] (spNn9 K)) (G__law_added : FnAt P w K mg base CX0 2 "_law_added" ["_law_frame", "_law_deed", "_law_more"] (spAd9 K)) (G__law_so_often : FnAt P w K mg base CX0 1 "_law_so_often" ["_law_some", "_law_many"] (spSo9 K)) : FnAt P w K mg base CX0 4 "_law_shut" ["_law_frames", "_law_rows"] (spSh9 K) := by
 refine D.ok sc__law_shut (fun vs H Q E h => ?_) (fun _ _ _ _ _ _ us hl => match us, hl with | [_, _], _ => rfl) (fun f cdv A outer s H vs Q E hr h => ?_)
 ·obtain ⟨c, H0, N, F, W, e1, e2, es, rows, rfl, hfm, hkx, hW, hrl, hN, k⟩ := h; rfl
 ·obtain ⟨c, H0, N, F, W, e1, e2, es, rows, rfl, hfm, hkx, hW, hrl, hN, k⟩ := h
  have nd := sc__law_shut.nd
  refine ⟨_, (@pss_cons _ _ _ _ _ (ps_expr (pe_fn G__law_never_none hr (by rfl) pass0 (@pa_cons _ _ _ _ _ (pe_ix (ix_list' (K := K) rfl) (pv 0) (pe_un un_neg pe_int) (fun _ _ => rfl)) (@pa_cons _ _ _ _ _ (pv 1) pa_nil (by rfl)) (by rfl))))
   (@pss_cons _ _ _ _ _ (ps_asg (pe_bm0' (K := K) rfl PySem.F.plainAttrs_list PySem.F.slot_list_pop PySem.F.type_list_pop mt_pop (pv 0)) (pg_lst (K := K) rfl rfl (pgs_cons (pg_name (i := 2) nd rfl (Or.inl rfl)) (pgs_cons (pg_name (i := 3) nd rfl (Or.inl rfl)) (pgs_cons (pg_name (i := 4) nd rfl (Or.inl rfl)) pgs_nil)))))
   (@pss_cons _ _ _ _ _ (ps_expr (pe_bm PySem.F.plainAttrs_list PySem.F.slot_list_append PySem.F.type_list_append mt_append (pv 1) (@pa_cons _ _ _ _ _ pe_str pa_nil (by rfl))))
   (@pss_one _ _ _ (ps_expr (pe_fn G__law_added hr (by rfl) pass0 (@pa_cons _ _ _ _ _ (pe_ix (ix_list' (K := K) rfl) (pv 0) (pe_un un_neg pe_int) (fun _ _ => rfl)) (@pa_cons _ _ _ _ _ (@pe_tup _ _ _ _ _ (@pa_cons _ _ _ _ _ pe_str (@pa_cons _ _ _ _ _ (pv 2) (@pa_cons _ _ _ _ _ (pe_callTy (call_tuple_of' (K := K) rfl) (by rfl) T.z_tuple bt_tuple (@pa_cons _ _ _ _ _ (pv 3) pa_nil (by rfl))) pa_nil (by rfl)) (by rfl)) (by rfl))) (@pa_cons _ _ _ _ _ (pe_fn G__law_so_often hr (by rfl) pass0 (@pa_cons _ _ _ _ _ (pv 4) (@pa_cons _ _ _ _ _ (pv 2) pa_nil (by rfl)) (by rfl))) pa_nil (by rfl)) (by rfl)) (by rfl)))))))), ?_⟩
  obtain ⟨t1, ⟨ds1, t2, t3, t4⟩, t5, t6, nfL, nWf, nWL, nsA, nFW, _, _, _⟩ := hfm.top
  have hF : H F = some (.lst (((e2 :: es).map fun e => V.ref e.fr).reverse ++ [.ref e1.fr])) := by rw [hfm.1, List.map_cons, List.reverse_cons]
  refine' by_key1 (C := Nn9 c H0 N F W (e2 :: es) rows.length) (fun key => ?go) ?body
  case go =>
   refine ⟨_, rfl, _, rfl, F, _, _, _, rfl, rfl, SqL.of hF, atI_last _ _, _, rfl, e1.fr, e1.L, W, e1.s, (e1.n : Nat), ds1, rows.map V.str, unr c.f c.bod e1.T, rfl, t1, t2, by omega, nfL, t5, nsA, hW.1, by rw [List.length_map]; omega, nWf, nWL, fun hne H1 s1 => ?_, fun he d s' H1 kl q1 q2 q3 q4 q5 q6 => ?_⟩
   ·exact key H1 ⟨e1, rows, hfm.same (Nat.le_succ _) s1, hne, hkx.trans (.of s1), ⟨s1 _ _ hW.1, hW.2⟩, Nat.le_succ _⟩
   ·exact key H1 (hfm.year hkx hW t2 he kl q1 q2 q3 q4 q5 q6)
  rintro Hx ⟨e1, rows1, hfm, hne, hkx, hW, hrl1⟩
  have hF : Hx F = some (.lst (((e2 :: es).map fun e => V.ref e.fr).reverse ++ [.ref e1.fr])) := by rw [hfm.1, List.map_cons, List.reverse_cons]
  obtain ⟨t1, _, _, t6, _, _, _, _, nFW, nfF, _, h0F⟩ := hfm.top
  refine ⟨_, rfl, .inl ⟨rfl, _, SqL.of hF⟩, F, _, _, rfl, rfl, hF, (by simp : (((e2 :: es).map fun e => V.ref e.fr).reverse ++ [V.ref e1.fr])[(((e2 :: es).map fun e => V.ref e.fr).reverse ++ [V.ref e1.fr]).length - 1]? = some (V.ref e1.fr)), ?_⟩
  rw [List.dropLast_concat]
  refine ⟨e1.fr, _, rfl, SqL.of (keepL nfF t1), rfl, _, _, rfl, _, _, rfl, _, _, rfl, rfl, ?_⟩
  show Ends.nx _ [some (.ref F), some (.ref W), some (.int (e1.n : Nat)), some (.ref e1.L), some e1.s] _
  refine sealH (F := fun Hn => Fm9 c H0 Hn (N + 1) F W (e2 :: es) ∧ FeV c Hn (N + 1) e1 ∧ KX H0 Hn W ∧ Rw9 Hn W rows1) ⟨hfm.pop.1, hfm.pop.2.1, hkx.updN h0F, keepL nFW.symm hW.1, hW.2⟩ ?_
  rintro H2 ⟨f2, v2, kx2, W2⟩
  obtain ⟨_, _, gd1, dp1, nsW, nLW, nLF⟩ := hfm.pop
  refine ⟨_, rfl, .inl ⟨rfl, _, SqL.of W2.1⟩, W, _, _, rfl, rfl, W2.1, sz (by rw [List.length_map]; omega), ?_⟩
  have f3 := f2.kw (Nat.le_refl _) (KX.updX (o := .lst (rows1.map V.str ++ [.str (Str.ofString "end")]))) (ts_updL W2.1)
  have W3 := W2.add end_len
  have kx3 := kx2.trans (KX.updX (o := .lst (rows1.map V.str ++ [.str (Str.ofString "end")])))
  have nfW : e1.fr ≠ W := (hfm.top).2.2.2.2.2.1.symm
  have v3 : FeV c (upd H2 W (.lst (rows1.map V.str ++ [.str (Str.ofString "end")]))) (N + 1) e1 := v2.keep (M := [W]) (Nat.le_refl _) (ts_updL W2.1) (fun a o n h => keepL (fun z => n (by simp [z])) h) (by simp [nfW]) (by simp [nLW]) (fun a ea z => nsW a ea (List.mem_singleton.mp z))
  refine sealH (F := fun Hn => Fm9 c H0 Hn (N + 1) F W (e2 :: es) ∧ FeV c Hn (N + 1) e1 ∧ KX H0 Hn W ∧ Rw9 Hn W (rows1 ++ [Str.ofString "end"])) ⟨f3, v3, kx3, W3⟩ ?_
  rintro H4 ⟨f4, ⟨_, ⟨dsx, hL4, hdl, hT4⟩, hs4, hn60⟩, kx4, W4⟩
  have hF4 : H4 F = some (.lst ((es.map fun e => V.ref e.fr).reverse ++ [.ref e2.fr])) := by rw [f4.1, List.map_cons, List.reverse_cons]
  refine ⟨_, rfl, _, rfl, F, _, _, _, rfl, rfl, SqL.of hF4, atI_last _ _, _, rfl, _, rfl, e1.L, dsx, rfl, .inl ⟨SqL.of hL4, fun b gb => ⟨sz (by simp), fun a ga => ?_⟩⟩⟩
  have u1 := Same.upd (o := .tup dsx) gb
  have u2 := Same.upd (o := .tup [.str (Str.ofString "times"), .int (e1.n : Nat), .ref b]) ga
  have u12 := u1.trans u2
  refine ⟨_, rfl, _, rfl, e1.s, e1.n, unr c.f c.bod e1.T, rfl, hn60, so_in (hs4.same u12), fun v' H5 s5 hv' hf' => ?_⟩
  have s45 := u12.trans s5
  have f5 := f4.same (Nat.le_refl _) s45
  have W5 := s45 _ _ W4.1
  obtain ⟨y1, ⟨ds2, y2, y3, y4⟩, y5, y6, zfL, zWf, zWL, zsA, _, _, _, _⟩ := f5.top
  have nv : ∀ x, v' = V.ref x → x ≠ e2.L ∧ x ≠ e2.fr := fun x ex => by
   have hn := hf' x ex
   obtain ⟨_, ⟨dsy, o2, _, _⟩, _⟩ := (f4.same (Nat.le_refl _) u12).top
   have o1 := (f4.same (Nat.le_refl _) u12).top.1
   exact ⟨ne_none hn o2, ne_none hn o1⟩
  refine ⟨e2.fr, e2.L, .ref a, v', e2.s, (e2.n : Nat), ds2, unr c.f c.bod e2.T, (List.replicate e1.n (unr c.f c.bod e1.T)).flatten, rfl, y1, y2, by omega, zfL, y5, hv', (fun x ex => ⟨(zsA x ex).1, (zsA x ex).2.1⟩), nv, fun s'' H6 kl q1 q2 q3 q4 => ?_⟩
  have kp : Kp H5 H6 [e2.fr, e2.L, W] := fun a o n h => kl a o (fun z => n (by simp [z])) (fun z => n (by simp [z])) h
  have t56 : TSame H5 H6 := kp.ts fun x hx => by
   simp only [List.mem_cons, List.mem_nil_iff, or_false] at hx
   rcases hx with z | z | z <;> rw [z]
   ·exact ⟨_, y1⟩
   ·exact ⟨_, y2⟩
   ·exact ⟨_, W5⟩
  have eU : unr c.f c.bod (.tm e1.n e1.T .nil) = (List.replicate e1.n (unr c.f c.bod e1.T)).flatten := List.append_nil _
  have s0 := f5.kx (kx4.trans (.of s45)) kp
  refine k _ (rows1 ++ [Str.ofString "end"]) H6 (f5.added (U := .tm e1.n e1.T .nil) (kx4.trans (.of s45)) W5 y2 kp q1 q2 ⟨a, b, dsx, [], rfl, t56 _ _ (s5 _ _ upd_same), t56 _ _ ((u2.trans s5) _ _ upd_same), hn60, (hT4.ts s45.ts).ts t56, rfl⟩ ⟨gd1, trivial⟩ ?_ (by rw [eU]; exact q3) q4) s0 ⟨kl _ _ zWf zWL W5, W4.2⟩ (by rw [List.length_append, List.length_singleton]; omega)
  show max (e1.T.dep + 1) 0 + es.length + 1 ≤ FB
  simp only [List.length_cons] at dp1
  omega
end
end T09
namespace T09
open PySem L2 Tc
section
variable {P : Program} {w : World} {K : PySem.W.Frag} {mg : Str → Option Value} {base : Heap}
noncomputable abbrev s__law_deeds : Stmt := top 45
theorem sc__law_deeds : FnScope ["_law_cells", "_law_rules", "_law_words_here", "_law_rows", "_law_frames", "_law_k", "_law_cell", "_law_number", "_law_deed", "_law_more", "_law_row", "_law_mark"] ["_law_cells", "_law_rules", "_law_words_here", "_law_rows"] (defScope s__law_deeds) := ⟨rfl, rfl, rfl, by decide +kernel, rfl, by decide +kernel, by decide +kernel⟩
theorem ok__law_deeds {ca : Ca} (D : DefAt K mg "_law_deeds" s__law_deeds) (T : Txt K mg ca) (G__law_mixed : FnAt P w K mg base CX0 1 "_law_mixed" ["_law_cell"] (spMix)) (G__law_shut : FnAt P w K mg base CX0 4 "_law_shut" ["_law_frames", "_law_rows"] (spSh9 K)) (G__law_do : FnAt P w K mg base CX0 2 "_law_do" ["_law_number", "_law_rules", "_law_words_here"] (spDo9 K)) (G__law_added : FnAt P w K mg base CX0 2 "_law_added" ["_law_frame", "_law_deed", "_law_more"] (spAd9 K)) (G__law_plain : FnAt P w K mg base CX0 3 "_law_plain" ["_law_number", "_law_words_here"] (spPl9 K)) (G__law_never_none : FnAt P w K mg base CX0 3 "_law_never_none" ["_law_frame", "_law_rows"] (spNn9 K)) : FnAt P w K mg base CX0 5 "_law_deeds" ["_law_cells", "_law_rules", "_law_words_here", "_law_rows"] (spDs9 K) := by
 refine D.ok sc__law_deeds (fun vs H Q E h => ?_) (fun _ _ _ _ _ _ us hl => match us, hl with | [_, _, _, _], _ => rfl) (fun f cdv A outer s H vs Q E hr h => ?_)
 ·obtain ⟨C, R, w, W, ns, c, rv, rows, rfl, hC, hnl, nCW, hIn, hOk, hW, hrl, k⟩ := h; rfl
 ·obtain ⟨C, R, w, W, ns, c, rv, rows, rfl, hC, hnl, nCW, hIn, hOk, hW, hrl, k⟩ := h
  have nd := sc__law_deeds.nd
  refine ⟨_, (@pss_cons _ _ _ _ _ (@ps_set _ _ 4 _ _ _ _ nd rfl (Or.inl rfl) (@pe_lst _ _ _ _ (@pa_cons _ _ _ _ _ (@pe_lst _ _ _ _ (@pa_cons _ _ _ _ _ pe_int (@pa_cons _ _ _ _ _ (@pe_lst _ _ _ _ pa_nil) (@pa_cons _ _ _ _ _ (@pe_lst _ _ _ _ pa_nil) pa_nil (by rfl)) (by rfl)) (by rfl))) pa_nil (by rfl))) (by rfl) (Or.inl rfl))
   (@pss_cons _ _ _ _ _ (ps_for PassesOwn.never rfl (pi_enum (K := K) rfl (by rfl) T.z_enumerate (@pa_cons _ _ _ _ _ (pv 0) pa_nil (by rfl))) (pg_tup rfl (pgs_cons (pg_name (i := 5) nd rfl (Or.inl rfl)) (pgs_cons (pg_name (i := 6) nd rfl (Or.inl rfl)) pgs_nil))) (@pss_cons _ _ _ _ _ (@ps_set _ _ 7 _ _ _ _ nd rfl (Or.inl rfl) (pe_fn G__law_mixed hr (by rfl) pass0 (@pa_cons _ _ _ _ _ (@pe_op _ _ _ _ _ _ _ _ op_add (@pe_op _ _ _ _ _ _ _ _ op_mulB pe_int (pv 6)) (pv 5)) pa_nil (by rfl))) (by rfl) (Or.inl rfl))
   (@pss_one _ _ _ (ps_if (PW.pt (pw_and (pt_cmpR op_eq (@pe_op _ _ _ _ _ _ _ _ op_modN (pv 6) pe_int) pe_int (nomark _)) (pw_and1 (pt_cmpR op_lt (pe_callB (call_len' (K := K) rfl) (by rfl) T.z_len PySem.boot_len (@pa_cons _ _ _ _ _ (pv 4) pa_nil (by rfl))) pe_int (nomark _))))) (@pss_cons _ _ _ _ _ (ps_expr (pe_bm PySem.F.plainAttrs_list PySem.F.slot_list_append PySem.F.type_list_append mt_append (pv 4) (@pa_cons _ _ _ _ _ (@pe_lst _ _ _ _ (@pa_cons _ _ _ _ _ (pe_ix (ix_list' (K := K) rfl) (@pe_lst _ _ _ _ (@pa_cons _ _ _ _ _ pe_int (@pa_cons _ _ _ _ _ pe_int (@pa_cons _ _ _ _ _ pe_int (@pa_cons _ _ _ _ _ pe_int (@pa_cons _ _ _ _ _ (@pe_op _ _ _ _ _ _ _ _ op_modN (@pe_op _ _ _ _ _ _ _ _ op_fdivB (pv 7) pe_int) pe_int) pa_nil (by rfl)) (by rfl)) (by rfl)) (by rfl)) (by rfl))) (@pe_op _ _ _ _ _ _ _ _ op_modN (pv 7) pe_int) (fun _ _ => rfl)) (@pa_cons _ _ _ _ _ (@pe_lst _ _ _ _ pa_nil) (@pa_cons _ _ _ _ _ (@pe_lst _ _ _ _ pa_nil) pa_nil (by rfl)) (by rfl)) (by rfl))) pa_nil (by rfl))))
   (@pss_one _ _ _ (ps_expr (pe_bm PySem.F.plainAttrs_list PySem.F.slot_list_append PySem.F.type_list_append mt_append (pv 3) (@pa_cons _ _ _ _ _ (@pe_op _ _ _ _ _ _ _ _ op_add_str pe_str (pe_callTy call_str_int (by rfl) T.z_str bt_str (@pa_cons _ _ _ _ _ (pe_ix (ix_list' (K := K) rfl) (pe_ix (ix_list' (K := K) rfl) (pv 4) (pe_un un_neg pe_int) (fun _ _ => rfl)) pe_int (fun _ _ => rfl)) pa_nil (by rfl)))) pa_nil (by rfl)))))) (@pss_one _ _ _ (ps_if (PW.pt (pw_and (pt_cmpR op_eq (@pe_op _ _ _ _ _ _ _ _ op_modN (pv 6) pe_int) pe_int (nomark _)) (pw_and1 (pt_cmpR op_gt (pe_callB (call_len' (K := K) rfl) (by rfl) T.z_len PySem.boot_len (@pa_cons _ _ _ _ _ (pv 4) pa_nil (by rfl))) pe_int (nomark _))))) (@pss_one _ _ _ (ps_expr (pe_fn G__law_shut hr (by rfl) pass0 (@pa_cons _ _ _ _ _ (pv 4) (@pa_cons _ _ _ _ _ (pv 3) pa_nil (by rfl)) (by rfl))))) (@pss_one _ _ _ (ps_if (PW.pt (pw_and (pt_cmpR op_eq (@pe_op _ _ _ _ _ _ _ _ op_modN (pv 6) pe_int) pe_int (nomark _)) (pw_and1 (pt_cmpR op_gt (pe_callB (call_len' (K := K) rfl) (by rfl) T.z_len PySem.boot_len (@pa_cons _ _ _ _ _ (pv 1) pa_nil (by rfl))) pe_int (nomark _))))) (@pss_cons _ _ _ _ _ (ps_asg (pe_fn G__law_do hr (by rfl) pass0 (@pa_cons _ _ _ _ _ (pv 7) (@pa_cons _ _ _ _ _ (pv 1) (@pa_cons _ _ _ _ _ (pv 2) pa_nil (by rfl)) (by rfl)) (by rfl))) (pg_tup rfl (pgs_cons (pg_name (i := 8) nd rfl (Or.inl rfl)) (pgs_cons (pg_name (i := 9) nd rfl (Or.inl rfl)) (pgs_cons (pg_name (i := 10) nd rfl (Or.inl rfl)) pgs_nil)))))
   (@pss_cons _ _ _ _ _ (ps_expr (pe_bm PySem.F.plainAttrs_list PySem.F.slot_list_append PySem.F.type_list_append mt_append (pv 3) (@pa_cons _ _ _ _ _ (pv 10) pa_nil (by rfl))))
   (@pss_one _ _ _ (ps_expr (pe_fn G__law_added hr (by rfl) pass0 (@pa_cons _ _ _ _ _ (pe_ix (ix_list' (K := K) rfl) (pv 4) (pe_un un_neg pe_int) (fun _ _ => rfl)) (@pa_cons _ _ _ _ _ (pv 8) (@pa_cons _ _ _ _ _ (pv 9) pa_nil (by rfl)) (by rfl)) (by rfl))))))) (@pss_cons _ _ _ _ _ (ps_asg (pe_fn G__law_plain hr (by rfl) pass0 (@pa_cons _ _ _ _ _ (pv 7) (@pa_cons _ _ _ _ _ (pv 2) pa_nil (by rfl)) (by rfl))) (pg_tup rfl (pgs_cons (pg_name (i := 8) nd rfl (Or.inl rfl)) (pgs_cons (pg_name (i := 11) nd rfl (Or.inl rfl)) (pgs_cons (pg_name (i := 10) nd rfl (Or.inl rfl)) pgs_nil)))))
   (@pss_cons _ _ _ _ _ (ps_expr (pe_bm PySem.F.plainAttrs_list PySem.F.slot_list_append PySem.F.type_list_append mt_append (pv 3) (@pa_cons _ _ _ _ _ (pv 10) pa_nil (by rfl))))
   (@pss_one _ _ _ (ps_expr (pe_fn G__law_added hr (by rfl) pass0 (@pa_cons _ _ _ _ _ (pe_ix (ix_list' (K := K) rfl) (pv 4) (pe_un un_neg pe_int) (fun _ _ => rfl)) (@pa_cons _ _ _ _ _ (pv 8) (@pa_cons _ _ _ _ _ (@pe_lst _ _ _ _ (@pa_cons _ _ _ _ _ (pv 11) pa_nil (by rfl))) pa_nil (by rfl)) (by rfl)) (by rfl)))))))))))))))
   (@pss_cons _ _ _ _ _ (ps_while PassesOwn.never (pt_cmpR op_gt (pe_callB (call_len' (K := K) rfl) (by rfl) T.z_len PySem.boot_len (@pa_cons _ _ _ _ _ (pv 4) pa_nil (by rfl))) pe_int (nomark _)) (@pss_one _ _ _ (ps_expr (pe_fn G__law_shut hr (by rfl) pass0 (@pa_cons _ _ _ _ _ (pv 4) (@pa_cons _ _ _ _ _ (pv 3) pa_nil (by rfl)) (by rfl))))))
   (@pss_cons _ _ _ _ _ (ps_expr (pe_fn G__law_never_none hr (by rfl) pass0 (@pa_cons _ _ _ _ _ (pe_ix (ix_list' (K := K) rfl) (pv 4) pe_int (fun _ _ => rfl)) (@pa_cons _ _ _ _ _ (pv 3) pa_nil (by rfl)) (by rfl))))
   (@pss_one _ _ _ (ps_ret (@pe_tup _ _ _ _ _ (@pa_cons _ _ _ _ _ (pe_callTy (call_tuple_of' (K := K) rfl) (by rfl) T.z_tuple bt_tuple (@pa_cons _ _ _ _ _ (pe_ix (ix_list' (K := K) rfl) (pe_ix (ix_list' (K := K) rfl) (pv 4) pe_int (fun _ _ => rfl)) pe_int (fun _ _ => rfl)) pa_nil (by rfl))) (@pa_cons _ _ _ _ _ (pe_ix (ix_list' (K := K) rfl) (pe_ix (ix_list' (K := K) rfl) (pv 4) pe_int (fun _ _ => rfl)) pe_int (fun _ _ => rfl)) pa_nil (by rfl)) (by rfl))))))))), ?_⟩
  have hFB : FB ≤ 9 := by decide
  obtain ⟨hA, hAl, hSl, hz8, hrs⟩ := id hOk
  refine ⟨sz (by simp), fun L0 gL0 => ⟨sz (by simp), fun s0 gs0 => ⟨sz (by simp), fun k0 gk0 => ⟨sz (by simp), fun F gF => ?_⟩⟩⟩⟩
  have c1 := Same.upd (o := .lst []) gL0
  have c2 := Same.upd (o := .lst []) gs0
  have c3 := Same.upd (o := .lst [.int 1, .ref L0, .ref s0]) gk0
  have c4 := Same.upd (o := .lst [.ref k0]) gF
  have c14 := c1.trans (c2.trans (c3.trans c4))
  have fi : Fm9 c H _ 0 F W [⟨k0, L0, .ref s0, 1, .nil⟩] := Fm9.init hW.1 (fun a ha => by
   simp only [List.mem_cons, List.mem_nil_iff, or_false] at ha
   rcases ha with z | z | z | z <;> rw [z]
   ·exact (c1.trans (c2.trans c3)).free gF
   ·exact (c1.trans c2).free gk0
   ·exact gL0
   ·exact c1.free gs0) (by
   simp only [List.nodup_cons, List.mem_cons, not_or, List.mem_nil_iff, or_false]
   exact ⟨⟨ne_none gF upd_same, ne_none gF ((c2.trans c3) _ _ upd_same), ne_none gF (c3 _ _ upd_same)⟩, ⟨ne_none gk0 (c2 _ _ upd_same), ne_none gk0 upd_same⟩, (ne_none gs0 upd_same).symm, not_false, List.nodup_nil⟩) upd_same (c4 _ _ upd_same) ((c2.trans (c3.trans c4)) _ _ upd_same) ((c3.trans c4) _ _ upd_same)
  show Ends.nx _ [some (.ref C), some (.ref R), some (.ref w), some (.ref W), some (.ref F), none, none, none, none, none, none, none] _
  refine sealH (F := fun Hn => KX H Hn W ∧ Rw9 Hn W rows ∧ Fm9 c H Hn 0 F W [⟨k0, L0, .ref s0, 1, .nil⟩]) ⟨.of c14, ⟨c14 _ _ hW.1, hW.2⟩, fi⟩ ?_
  rintro Ha ⟨kxa, Wa, fa⟩
  refine ⟨_, rfl, C, _, rfl, SqL.of (kxa _ _ nCW hC), ?_⟩
  refine for_enum (xs := ns.map V.int) (fun j σ H1 => ∃ (v5 v6 v7 v8 v9 v10 v11 : Option V) (e : Fe) (es : List Fe) (rs1 : List Str), σ = [some (.ref C), some (.ref R), some (.ref w), some (.ref W), some (.ref F), v5, v6, v7, v8, v9, v10, v11] ∧ KX H H1 W ∧ Rw9 H1 W rs1 ∧ rs1.length ≤ rows.length + 2 * j ∧ Fm9 c H H1 (2 * j) F W (e :: es)) ⟨none, none, none, none, none, none, none, _, [], rows, rfl, kxa, Wa, by omega, fa⟩ ?_ ?_ ?_
  ·rintro j σ H1 hj ⟨v5, v6, v7, v8, v9, v10, v11, e, es, rs1, rfl, kx, _⟩
   exact SqL.of (kx _ _ nCW hC)
  ·rintro j z T0 σ H1 hz ⟨v5, v6, v7, v8, v9, v10, v11, e, es, rs1, rfl, kx, hW1, hr1, f1⟩ hT
   rw [List.getElem?_map] at hz
   obtain ⟨cc, hcc, rfl⟩ := Option.map_eq_some_iff.mp hz
   have hj : j < ns.length := (List.getElem?_eq_some_iff.mp hcc).1
   have tT := Same.upd (o := .tup [.int (j : Nat), .int cc]) hT
   refine ⟨T0, _, rfl, SqT.of upd_same, rfl, _, _, rfl, _, _, rfl, rfl, ?_⟩
   refine ⟨_, rfl, _, _, rfl, rfl, IntMulOk.of_left (by decide), _, rfl, _, _, rfl, rfl, 64 * cc + (j : Nat), rfl, fun m hm0 hmB => ?_⟩
   show Ends.nx _ [some (.ref C), some (.ref R), some (.ref w), some (.ref W), some (.ref F), some (.int (j : Nat)), some (.int cc), some (.int m), v8, v9, v10, v11] _
   refine sealH (F := fun Hn => KX H Hn W ∧ Rw9 Hn W rs1 ∧ Fm9 c H Hn (2 * j) F W (e :: es)) ⟨kx.trans (.of tT), ⟨tT _ _ hW1.1, hW1.2⟩, f1.same (Nat.le_refl _) tT⟩ ?_
   rintro H2 ⟨kx2, W2, f2⟩
   have hIn2 := hIn.kx hA hW.1 kx2
   have hln := f2.len
   have lnF : ((((e :: es).map fun e => V.ref e.fr).reverse).length) = es.length + 1 := by rw [List.length_reverse, List.length_map]; rfl
   have m8 : (8 : Int) ≠ 0 := by decide
   refine ⟨_, rfl, _, _, rfl, rfl, m8, rfl, _, rfl, ?_⟩
   refine' by_key0 (fun e1 => ?g1) ?b1
   case g1 =>
    refine ite2 (fun _ => ?_) (fun _ => iteF e1)
    refine ⟨_, rfl, _, _, rfl, .inl ⟨_, SqL.of f2.1, rfl⟩, _, _, rfl, rfl, _, rfl, ?_⟩
    refine ite2 (fun h => ?_) (fun _ => e1)
    have h : ((((((e :: es).map fun e => V.ref e.fr).reverse).length : Nat)) : Int) < ((FB : Nat) : Int) := of_decide_eq_true h
    rw [lnF] at h
    obtain ⟨mt, hmt, hat⟩ := tm5 m
    refine ⟨_, rfl, .inl ⟨rfl, _, SqL.of f2.1⟩, _, rfl, _, _, rfl, rfl, dd (by decide) (by decide), _, _, rfl, rfl, (show (61 : Int) ≠ 0 by decide), sz (by simp), fun pw gpw => ⟨_, rfl, _, _, rfl, rfl, (show (5 : Int) ≠ 0 by decide), pw, _, _, _, rfl, rfl, SqL.of upd_same, hat, sz (by simp), fun L' gL' => ⟨sz (by simp), fun s' gs' => ⟨sz (by simp), fun k' gk' => ?_⟩⟩⟩⟩
    have u0 := Same.upd (o := .lst [.int 0, .int 1, .int 2, .int 3, .int ((m.fdiv 5).fmod 61)]) gpw
    have u1 := Same.upd (o := .lst []) gL'
    have u2 := Same.upd (o := .lst []) gs'
    have u3 := Same.upd (o := .lst [.int (mt : Nat), .ref L', .ref s']) gk'
    have u03 := u0.trans (u1.trans (u2.trans u3))
    refine ⟨F, _, _, rfl, rfl, u03 _ _ f2.1, sz (by rw [lnF]; omega), ?_⟩
    have f4 := f2.push (k := k') (L := L') (s := s') (n := mt) kx2 W2.1 u03 (fun a ha => by
     simp only [List.mem_cons, List.mem_nil_iff, or_false] at ha
     rcases ha with z | z | z <;> rw [z]
     ·exact (u0.trans (u1.trans u2)).free gk'
     ·exact u0.free gL'
     ·exact (u0.trans u1).free gs') (by
     simp only [List.nodup_cons, List.mem_cons, not_or, List.mem_nil_iff, or_false]
     exact ⟨⟨ne_none gk' (u2 _ _ upd_same), ne_none gk' upd_same⟩, (ne_none gs' upd_same).symm, not_false, List.nodup_nil⟩) upd_same ((u2.trans u3) _ _ upd_same) (u3 _ _ upd_same) hmt (by simp only [List.length_cons]; omega)
    have h0F := f2.2.2.2.2.1 F (.head _)
    have nFW : F ≠ W := fun z => by rw [z, hW.1] at h0F; cases h0F
    refine sealH (F := fun Hn => KX H Hn W ∧ Rw9 Hn W rs1 ∧ Fm9 c H Hn (2 * j) F W (⟨k', L', .ref s', mt, .nil⟩ :: e :: es)) ⟨(kx2.trans (.of u03)).updN h0F, ⟨keepL nFW.symm (u03 _ _ W2.1), W2.2⟩, f4⟩ ?_
    rintro H5 ⟨kx5, W5, f5⟩
    have hF5 : H5 F = some (.lst (((e :: es).map fun e => V.ref e.fr).reverse ++ [.ref k'])) := by rw [f5.1, List.map_cons, List.reverse_cons]
    have hk5 := f5.top.1
    have lg := log_small (show (0 : Int) ≤ ((mt : Nat) : Int) by omega) (by omega)
    have fl := figs_len (show (0 : Int) ≤ ((mt : Nat) : Int) by omega) (by omega)
    have e0 : (Str.ofString "times ").length = 6 := by decide +kernel
    have lrw : (Str.ofString "times " ++ figs (mt : Nat)).length ≤ 300 := by rw [strLen_append]; omega
    refine ⟨_, rfl, .inl ⟨rfl, _, SqL.of W5.1⟩, _, rfl, _, rfl, F, _, _, _, rfl, rfl, SqL.of hF5, atI_last _ _, k', _, 0, _, rfl, rfl, SqL.of hk5, rfl, _, rfl, lg, _, _, rfl, rfl, sz ?_, W, _, _, rfl, rfl, W5.1, sz (by rw [List.length_map]; omega), ?_⟩
    ·show (Str.ofString "times ").length + (figs (mt : Nat)).length ≤ 1000
     omega
    exact ⟨_, _, _, _, _, _, _, _, e :: es, _, rfl, kx5.trans .updX, W5.add lrw, by rw [List.length_append, List.length_singleton]; omega, f5.kw (by omega) .updX (ts_updL W5.1)⟩
   case b1 =>
   refine ⟨_, rfl, _, _, rfl, rfl, m8, rfl, _, rfl, ?_⟩
   refine' by_key0 (fun e2 => ?g2) ?b2
   case g2 =>
    refine ite2 (fun _ => ?_) (fun _ => iteF e2)
    refine ⟨_, rfl, _, _, rfl, .inl ⟨_, SqL.of f2.1, rfl⟩, _, _, rfl, rfl, _, rfl, ?_⟩
    refine ite2 (fun h => ?_) (fun _ => e2)
    have h : (1 : Int) < ((((((e :: es).map fun e => V.ref e.fr).reverse).length : Nat)) : Int) := of_decide_eq_true h
    rw [lnF] at h
    obtain ⟨ee, es, rfl⟩ : ∃ p q, es = p :: q := by
     cases es with
     | nil => exact absurd h (by decide)
     | cons p q => exact ⟨p, q, rfl⟩
    exact ⟨_, rfl, _, rfl, c, H, 2 * j, F, W, e, ee, es, rs1, rfl, f2, kx2, W2, by omega, by omega, fun e' rows' H3 f3 kx3 W3 hr3 => ⟨_, _, _, _, _, _, _, e', es, rows', rfl, kx3, W3, by omega, f3.same (by omega) (Same.refl _)⟩⟩
   case b2 =>
   obtain ⟨hWf2, hR2, hRs2, nRW⟩ := id hIn2
   have hRg := Paired.mapP hRs2 fun _ _ h => h.rg
   refine ⟨_, rfl, _, _, rfl, rfl, m8, rfl, _, rfl, ?_⟩
   refine' by_key0 (fun e3 => ?g3) ?b3
   case g3 =>
    refine ite2 (fun _ => ?_) (fun _ => iteF e3)
    refine ⟨_, rfl, _, _, rfl, .inl ⟨_, SqL.of hR2, rfl⟩, _, _, rfl, rfl, _, rfl, ?_⟩
    refine ite2 (fun h => ?_) (fun _ => e3)
    have h0 : 0 < rv.length := by
     have h : (0 : Int) < ((rv.length : Nat) : Int) := of_decide_eq_true h
     omega
    have hne : c.rs ≠ [] := fun z => by
     have := hRs2.length
     rw [z] at this
     simp at this
     rw [this] at h0
     exact absurd h0 (by decide)
    refine ⟨_, rfl, _, rfl, _, rfl, m, R, w, rv, c.rs, c.bod, c.f, c.A, c.S, rfl, hR2, hRg, hne, hrs, hWf2, hA, hAl, hSl, hz8, fun p d s rw' r zs H3 s3 hp hr hd hzl hzm hs hsf hrw => ?_⟩
    refine ⟨p, _, rfl, SqT.of hp, rfl, _, _, rfl, _, _, rfl, _, _, rfl, rfl, ?_⟩
    show Ends.nx _ [some (.ref C), some (.ref R), some (.ref w), some (.ref W), some (.ref F), some (.int (j : Nat)), some (.int cc), some (.int m), some d, some s, some (.str rw'), v11] H3
    have W3 : Rw9 H3 W rs1 := ⟨s3 _ _ W2.1, W2.2⟩
    refine ⟨_, rfl, .inl ⟨rfl, _, SqL.of W3.1⟩, _, rfl, W, _, _, rfl, rfl, W3.1, sz (by rw [List.length_map]; omega), ?_⟩
    have tw := ts_updL (o := .lst (rs1.map V.str ++ [.str rw'])) W3.1
    have f4 := (f2.same (Nat.le_refl _) s3).kw (Nat.le_refl _) (KX.updX (o := .lst (rs1.map V.str ++ [.str rw']))) tw
    obtain ⟨t1, ⟨ds, t2, _⟩, _⟩ := f2.top
    refine sealH (F := fun Hn => KX H Hn W ∧ Rw9 Hn W (rs1 ++ [rw']) ∧ Fm9 c H Hn (2 * j) F W (e :: es) ∧ Do8 Hn d r.1 zs ∧ SoV Hn s (lim ((c.bod r.1).map (P9.sub (numF (zs.map fun z => c.f (.inr z)))))) ∧ (∀ a, s = V.ref a → a ≠ e.L ∧ a ≠ e.fr)) ⟨(kx2.trans (.of s3)).trans .updX, W3.add hrw, f4, hd.ts tw, hs.keep tw (fun a xs ea h => keepL (ne_none (hsf a ea) W2.1) h), fun a ea => ⟨ne_none (hsf a ea) t2, ne_none (hsf a ea) t1⟩⟩ ?_
    rintro H5 ⟨kx5, W5, f5, hd5, hs5, nv5⟩
    obtain ⟨y1, ⟨ds5, y2, y3, y4⟩, y5, y6, zfL, zWf, zWL, zsA, _⟩ := f5.top
    have hF5 : H5 F = some (.lst ((es.map fun e => V.ref e.fr).reverse ++ [.ref e.fr])) := by rw [f5.1, List.map_cons, List.reverse_cons]
    refine ⟨_, rfl, _, rfl, F, _, _, _, rfl, rfl, SqL.of hF5, atI_last _ _, _, rfl, _, rfl, e.fr, e.L, d, s, e.s, (e.n : Nat), ds5, unr c.f c.bod e.T, (c.bod r.1).map (P9.sub (numF (zs.map fun z => c.f (.inr z)))), rfl, y1, y2, by omega, zfL, y5, hs5, (fun x ex => ⟨(zsA x ex).1, (zsA x ex).2.1⟩), nv5, fun s'' H6 kl q1 q2 q3 q4 => ?_⟩
    have kp : Kp H5 H6 [e.fr, e.L, W] := fun a o n h => kl a o (fun z => n (by simp [z])) (fun z => n (by simp [z])) h
    have t56 := f5.kts W5.1 kp
    have eU : unr c.f c.bod (.dd r.1 zs .nil) = (c.bod r.1).map (P9.sub (numF (zs.map fun z => c.f (.inr z)))) := List.append_nil _
    have l3 := (hrs r hr).2
    exact ⟨_, _, _, _, _, _, _, _, es, rs1 ++ [rw'], rfl, f5.kx kx5 kp, ⟨kl _ _ zWf zWL W5.1, W5.2⟩, by rw [List.length_append, List.length_singleton]; omega, (f5.added (U := .dd r.1 zs .nil) kx5 W5.1 y2 kp q1 q2 ⟨d, [], rfl, hd5.ts t56, by omega, rfl⟩ ⟨⟨r, hr, rfl, hzl⟩, hzm, trivial⟩ (by show 0 + es.length + 1 ≤ FB; omega) (by rw [eU]; exact q3) q4).same (by omega) (Same.refl _)⟩
   case b3 =>
   refine ⟨_, rfl, _, rfl, m, w, c.f, c.A, c.S, rfl, hm0, hmB, hWf2, hA, hAl, hSl, hz8, fun p d mk rw' ep H3 s3 hp hd hmk hok hgd hrw => ?_⟩
   refine ⟨p, _, rfl, SqT.of hp, rfl, _, _, rfl, _, _, rfl, _, _, rfl, rfl, ?_⟩
   show Ends.nx _ [some (.ref C), some (.ref R), some (.ref w), some (.ref W), some (.ref F), some (.int (j : Nat)), some (.int cc), some (.int m), some d, v9, some (.str rw'), some mk] H3
   have W3 : Rw9 H3 W rs1 := ⟨s3 _ _ W2.1, W2.2⟩
   refine ⟨_, rfl, .inl ⟨rfl, _, SqL.of W3.1⟩, _, rfl, W, _, _, rfl, rfl, W3.1, sz (by rw [List.length_map]; omega), ?_⟩
   have tw := ts_updL (o := .lst (rs1.map V.str ++ [.str rw'])) W3.1
   have f4 := (f2.same (Nat.le_refl _) s3).kw (Nat.le_refl _) (KX.updX (o := .lst (rs1.map V.str ++ [.str rw']))) tw
   refine sealH (F := fun Hn => KX H Hn W ∧ Rw9 Hn W (rs1 ++ [rw']) ∧ Fm9 c H Hn (2 * j) F W (e :: es) ∧ P9V Hn d ep ∧ P9V Hn mk (ep.sub c.f)) ⟨(kx2.trans (.of s3)).trans .updX, W3.add hrw, f4, hd.ts tw, hmk.ts tw⟩ ?_
   rintro H4 ⟨kx4, W4, f4, hd4, hmk4⟩
   have hF4 : H4 F = some (.lst ((es.map fun e => V.ref e.fr).reverse ++ [.ref e.fr])) := by rw [f4.1, List.map_cons, List.reverse_cons]
   refine ⟨_, rfl, _, rfl, F, _, _, _, rfl, rfl, SqL.of hF4, atI_last _ _, _, rfl, _, rfl, sz (by simp), fun ml gml => ?_⟩
   have um := Same.upd (o := .lst [mk]) gml
   have f5 := f4.same (Nat.le_refl _) um
   have W5 := um _ _ W4.1
   obtain ⟨y1, ⟨ds5, y2, y3, y4⟩, y5, y6, zfL, zWf, zWL, zsA, _⟩ := f5.top
   obtain ⟨x1, ⟨_, x2, _⟩, _⟩ := f4.top
   have eU : unr c.f c.bod (.pl ep .nil) = [ep.sub c.f] := rfl
   refine ⟨e.fr, e.L, d, .ref ml, e.s, (e.n : Nat), ds5, unr c.f c.bod e.T, [ep.sub c.f], rfl, y1, y2, by omega, zfL, y5, (by rw [lim_le (by simp)]; exact ⟨ml, [mk], rfl, upd_same, .cons (hmk4.ts um.ts) .nil⟩), (fun x ex => ⟨(zsA x ex).1, (zsA x ex).2.1⟩), (fun x ex => by
    rw [← V.ref.inj ex]
    exact ⟨ne_none gml x2, ne_none gml x1⟩), fun s'' H6 kl q1 q2 q3 q4 => ?_⟩
   have kp : Kp (upd H4 ml (.lst [mk])) H6 [e.fr, e.L, W] := fun a o n h => kl a o (fun z => n (by simp [z])) (fun z => n (by simp [z])) h
   have t56 := f5.kts W5 kp
   have kx5 := kx4.trans (.of um)
   exact ⟨_, _, _, _, _, _, _, _, es, rs1 ++ [rw'], rfl, f5.kx kx5 kp, ⟨kl _ _ zWf zWL W5, W4.2⟩, by rw [List.length_append, List.length_singleton]; omega, (f5.added (U := .pl ep .nil) kx5 W5 y2 kp q1 q2 ⟨d, [], rfl, (hd4.ts um.ts).ts t56, hok, rfl⟩ ⟨hgd, trivial⟩ (by show 0 + es.length + 1 ≤ FB; omega) q3 q4).same (by omega) (Same.refl _)⟩
  ·rintro σ H1 ⟨v5, v6, v7, v8, v9, v10, v11, e, es, rs1, rfl, kx, hW1, hr1, f1⟩
   rw [List.length_map] at hr1 f1
   have hl0 := f1.len
   refine while_by (fun σ H1 => ∃ (v5 v6 v7 v8 v9 v10 v11 : Option V) (e : Fe) (es : List Fe) (rs1 : List Str) (N : Nat), σ = [some (.ref C), some (.ref R), some (.ref w), some (.ref W), some (.ref F), v5, v6, v7, v8, v9, v10, v11] ∧ KX H H1 W ∧ Rw9 H1 W rs1 ∧ rs1.length + 2 * es.length ≤ rows.length + 2 * ns.length + 18 ∧ Fm9 c H H1 N F W (e :: es) ∧ N + 2 * es.length ≤ 2 * ns.length + 18) (fun _ H1 => match H1 F with | some (.lst xs) => xs.length | _ => 0) ⟨_, _, _, _, _, _, _, e, es, rs1, 2 * ns.length, rfl, kx, hW1, by omega, f1, by omega⟩ ?_ ?_
   ·rintro σ H1 ⟨v5, v6, v7, v8, v9, v10, v11, e, es, rs1, N, rfl, kx2, W2, hr2, f2, hN⟩
    have lnF : ((((e :: es).map fun e => V.ref e.fr).reverse).length) = es.length + 1 := by rw [List.length_reverse, List.length_map]; rfl
    refine ⟨_, rfl, _, _, rfl, .inl ⟨_, SqL.of f2.1, rfl⟩, _, _, rfl, rfl, _, rfl, ?_⟩
    refine ite2 (fun h => ?_) (fun h => ?_)
    ·have h : (1 : Int) < ((((((e :: es).map fun e => V.ref e.fr).reverse).length : Nat)) : Int) := of_decide_eq_true h
     rw [lnF] at h
     obtain ⟨ee, es, rfl⟩ : ∃ p q, es = p :: q := by
      cases es with
      | nil => exact absurd h (by decide)
      | cons p q => exact ⟨p, q, rfl⟩
     simp only [List.length_cons] at hr2 hN
     refine ⟨_, rfl, _, rfl, c, H, N, F, W, e, ee, es, rs1, rfl, f2, kx2, W2, by omega, by omega, fun e' rows' H3 f3 kx3 W3 hr3 => ⟨⟨_, _, _, _, _, _, _, e', es, rows', N + 2, rfl, kx3, W3, by omega, f3, by omega⟩, ?_⟩⟩
     show (match H3 F with | some (.lst xs) => xs.length | _ => 0) < (match H1 F with | some (.lst xs) => xs.length | _ => 0)
     rw [f3.1, f2.1]
     show (((e' :: es).map fun e => V.ref e.fr).reverse).length < (((e :: ee :: es).map fun e => V.ref e.fr).reverse).length
     rw [List.length_reverse, List.length_reverse, List.length_map, List.length_map]
     simp only [List.length_cons]
     omega
    ·have h : ¬ (1 : Int) < ((((((e :: es).map fun e => V.ref e.fr).reverse).length : Nat)) : Int) := fun z => h (decide_eq_true z)
     rw [lnF] at h
     have e0 : es = [] := List.eq_nil_of_length_eq_zero (by omega)
     subst e0
     simp only [List.length_nil] at hr2 hN
     obtain ⟨t1, ⟨ds1, t2, t3, t4⟩, t5, t6, nfL, nWf, nWL, nsA, nFW, _, _, _⟩ := f2.top
     have hF2 : H1 F = some (.lst [.ref e.fr]) := f2.1
     refine' by_key1 (C := Nn9 c H N F W [] rs1.length) (fun key => ?go) ?body
     case go =>
      refine ⟨_, rfl, F, _, 0, _, rfl, rfl, SqL.of hF2, rfl, _, rfl, e.fr, e.L, W, e.s, (e.n : Nat), ds1, rs1.map V.str, unr c.f c.bod e.T, rfl, t1, t2, by omega, nfL, t5, nsA, W2.1, by rw [List.length_map]; omega, nWf, nWL, fun hne H1 s1 => ?_, fun he d s' H1 kl q1 q2 q3 q4 q5 q6 => ?_⟩
      ·exact key H1 ⟨e, rs1, f2.same (Nat.le_succ _) s1, hne, kx2.trans (.of s1), ⟨s1 _ _ W2.1, W2.2⟩, Nat.le_succ _⟩
      ·exact key H1 (f2.year kx2 W2 t2 he kl q1 q2 q3 q4 q5 q6)
     rintro Hx ⟨e, rows1, fx, hne, hkx, Wx, hrl1⟩
     obtain ⟨t1, ⟨ds1, t2, t3, t4⟩, t5, t6, nfL, nWf, nWL, nsA, nFW, _, _, _⟩ := fx.top
     have hFx : Hx F = some (.lst [.ref e.fr]) := fx.1
     refine ⟨_, rfl, F, _, 0, _, rfl, rfl, SqL.of hFx, rfl, e.fr, _, 1, _, rfl, rfl, SqL.of t1, rfl, e.L, ds1, rfl, .inl ⟨SqL.of t2, fun t gt => ?_⟩⟩
     have v1 := Same.upd (o := .tup ds1) gt
     refine ⟨_, rfl, F, _, 0, _, rfl, rfl, SqL.of (v1 _ _ hFx), rfl, e.fr, _, 2, _, rfl, rfl, SqL.of (v1 _ _ t1), rfl, sz (by simp), fun p gp => ?_⟩
     have v2 := Same.upd (o := .tup [.ref t, e.s]) gp
     have v12 := v1.trans v2
     exact k p t e.s ds1 e.T rows1 _ (hkx.trans (.of v12)) ⟨v12 _ _ Wx.1, Wx.2⟩ (by omega) upd_same (v2 _ _ upd_same) (by omega) (t4.ts v12.ts) fx.2.1.2.1 (by have := fx.2.1.2.2.1; simp only [List.length_nil] at this; omega) (t5.same v12) (fx.2.2.2.2.2 e (.head _)) (fun z => (nsA W z).2.2 rfl) hne
   ·intro σ H1 Q1 Q2 hq h1
    obtain ⟨v, e, z, w', e1, h2, i', j', e2, e3, c', e4, h3⟩ := h1
    exact ⟨v, e, z, w', e1, h2, i', j', e2, e3, c', e4, hq _ _ h3⟩
end
end T09
namespace T09
open PySem L2 Tc
section
variable {P : Program} {w : World} {K : PySem.W.Frag} {mg : Str → Option Value} {base : Heap}
noncomputable abbrev s__law_script : Stmt := top 46
theorem sc__law_script : FnScope ["_law_script_here", "_law_house_here", "_law_start", "_law_number", "_law_many", "_law_cells", "_law_size", "_law_names_here", "_law_rules", "_law_rows", "_law_j", "_law_params", "_law_made"] ["_law_script_here", "_law_house_here", "_law_start"] (defScope s__law_script) := ⟨rfl, rfl, rfl, by decide +kernel, rfl, by decide +kernel, by decide +kernel⟩
theorem ok__law_script {ca : Ca} (D : DefAt K mg "_law_script" s__law_script) (T : Txt K mg ca) (G__law_mixed : FnAt P w K mg base CX0 1 "_law_mixed" ["_law_cell"] (spMix)) (G__law_cell_at : FnAt P w K mg base CX0 1 "_law_cell_at" ["_law_script_here", "_law_k"] (spCell K)) (G__law_names : FnAt P w K mg base CX0 2 "_law_names" ["_law_number", "_law_many"] (spNam3)) (G__law_deeds : FnAt P w K mg base CX0 5 "_law_deeds" ["_law_cells", "_law_rules", "_law_words_here", "_law_rows"] (spDs9 K)) (G__law_words : FnAt P w K mg base CX0 1 "_law_words" ["_law_house_here", "_law_params"] (spWd9 K)) : FnAt P w K mg base CX0 6 "_law_script" ["_law_script_here", "_law_house_here", "_law_start"] (spSc9 K) := by
 refine D.ok sc__law_script (fun vs H Q E h => ?_) (fun _ _ _ _ _ _ us hl => match us, hl with | [_, _, _], _ => rfl) (fun f cdv A outer s H vs Q E hr h => ?_)
 ·obtain ⟨a, h, ns, xs, hp, rfl, hS, hh, hPh, hok, k⟩ := h; rfl
 ·obtain ⟨a, h, ns, xs, hp, rfl, hS, hh, hPh, hok, k⟩ := h
  have nd := sc__law_script.nd
  refine ⟨_, (@pss_cons _ _ _ _ _ (@ps_set _ _ 3 _ _ _ _ nd rfl (Or.inl rfl) (pe_fn G__law_mixed hr (by rfl) pass0 (@pa_cons _ _ _ _ _ (pe_fn G__law_cell_at hr (by rfl) pass0 (@pa_cons _ _ _ _ _ (pv 0) (@pa_cons _ _ _ _ _ pe_int pa_nil (by rfl)) (by rfl))) pa_nil (by rfl))) (by rfl) (Or.inl rfl))
   (@pss_cons _ _ _ _ _ (@ps_set _ _ 4 _ _ _ _ nd rfl (Or.inl rfl) (@pe_op _ _ _ _ _ _ _ _ op_modN (pv 3) pe_int) (by rfl) (Or.inl rfl))
   (@pss_cons _ _ _ _ _ (@ps_set _ _ 5 _ _ _ _ nd rfl (Or.inl rfl) (pe_slice (sl_list' (K := K) rfl) (pv 0) (po_some (pv 2)) (po_some pe_int)) (by rfl) (Or.inl rfl))
   (@pss_cons _ _ _ _ _ (@ps_set _ _ 6 _ _ _ _ nd rfl (Or.inl rfl) (@pe_op _ _ _ _ _ _ _ _ op_fdivB (pe_callB (call_len' (K := K) rfl) (by rfl) T.z_len PySem.boot_len (@pa_cons _ _ _ _ _ (pv 5) pa_nil (by rfl))) (@pe_op _ _ _ _ _ _ _ _ op_add (pv 4) pe_int)) (by rfl) (Or.inl rfl))
   (@pss_cons _ _ _ _ _ (@ps_set _ _ 7 _ _ _ _ nd rfl (Or.inl rfl) (pe_fn G__law_names hr (by rfl) pass0 (@pa_cons _ _ _ _ _ (@pe_op _ _ _ _ _ _ _ _ op_fdivB (pv 3) pe_int) (@pa_cons _ _ _ _ _ (pv 4) pa_nil (by rfl)) (by rfl))) (by rfl) (Or.inl rfl))
   (@pss_cons _ _ _ _ _ (@ps_set _ _ 8 _ _ _ _ nd rfl (Or.inl rfl) (@pe_lst _ _ _ _ pa_nil) (by rfl) (Or.inl rfl))
   (@pss_cons _ _ _ _ _ (@ps_set _ _ 9 _ _ _ _ nd rfl (Or.inl rfl) (@pe_lst _ _ _ _ pa_nil) (by rfl) (Or.inl rfl))
   (@pss_cons _ _ _ _ _ (ps_for PassesOwn.never rfl (pi_range1 (by rfl) T.z_range (@pa_cons _ _ _ _ _ (pv 4) pa_nil (by rfl))) (pg_name (i := 10) nd rfl (Or.inl rfl)) (@pss_cons _ _ _ _ _ (@ps_set _ _ 11 _ _ _ _ nd rfl (Or.inl rfl) (pe_fn G__law_names hr (by rfl) pass0 (@pa_cons _ _ _ _ _ (@pe_op _ _ _ _ _ _ _ _ op_fdivB (pv 3) (@pe_op _ _ _ _ _ _ _ _ op_add pe_int (pv 10))) (@pa_cons _ _ _ _ _ (@pe_op _ _ _ _ _ _ _ _ op_add pe_int (@pe_op _ _ _ _ _ _ _ _ op_modN (@pe_op _ _ _ _ _ _ _ _ op_fdivB (pv 3) (@pe_op _ _ _ _ _ _ _ _ op_add pe_int (pv 10))) pe_int)) pa_nil (by rfl)) (by rfl))) (by rfl) (Or.inl rfl))
   (@pss_cons _ _ _ _ _ (ps_if (pt_cmpR op_eq (@pe_op _ _ _ _ _ _ _ _ op_modN (@pe_op _ _ _ _ _ _ _ _ op_fdivB (pv 3) (@pe_op _ _ _ _ _ _ _ _ op_add pe_int (pv 10))) pe_int) pe_int (nomark _)) (@pss_one _ _ _ (@ps_set _ _ 11 _ _ _ _ nd rfl (Or.inl rfl) (pe_slice (sl_list' (K := K) rfl) (pe_comp ["_law_one"] [] [] rfl (by rfl) (pi_list' (K := K) rfl (pv 1)) (fun _ _ _ _ => (pg_name (i := 0) (show List.Nodup (["_law_one"] : List Str) from by decide) rfl (Or.inl rfl))) (fun _ _ _ _ => pif_none) (fun _ _ _ _ => (pe_ix (ix_tup' (K := K) rfl) (pv 0) pe_int (fun _ _ => rfl)))) po_none (po_some (@pe_op _ _ _ _ _ _ _ _ op_add pe_int (@pe_op _ _ _ _ _ _ _ _ op_modN (@pe_op _ _ _ _ _ _ _ _ op_fdivB (pv 3) (@pe_op _ _ _ _ _ _ _ _ op_add pe_int (pv 10))) pe_int)))) (by rfl) (Or.inl rfl))) pss_nil)
   (@pss_cons _ _ _ _ _ (ps_expr (pe_bm PySem.F.plainAttrs_list PySem.F.slot_list_append PySem.F.type_list_append mt_append (pv 9) (@pa_cons _ _ _ _ _ (pe_bm' (K := K) rfl PySem.F.plainAttrs_str PySem.F.slot_str_join PySem.F.type_str_join (mt_join' (K := K) rfl) pe_str (@pa_cons _ _ _ _ _ (@pe_op _ _ _ _ _ _ _ _ op_cat (@pe_lst _ _ _ _ (@pa_cons _ _ _ _ _ pe_str (@pa_cons _ _ _ _ _ (pe_ix (ix_list' (K := K) rfl) (pv 7) (pv 10) (fun _ _ => rfl)) pa_nil (by rfl)) (by rfl))) (pv 11)) pa_nil (by rfl))) pa_nil (by rfl))))
   (@pss_cons _ _ _ _ _ (@ps_set _ _ 12 _ _ _ _ nd rfl (Or.inl rfl) (pe_fn G__law_deeds hr (by rfl) pass0 (@pa_cons _ _ _ _ _ (pe_slice (sl_list' (K := K) rfl) (pv 5) (po_some (@pe_op _ _ _ _ _ _ _ _ op_mulB (pv 10) (pv 6))) (po_some (@pe_op _ _ _ _ _ _ _ _ op_mulB (@pe_op _ _ _ _ _ _ _ _ op_add (pv 10) pe_int) (pv 6)))) (@pa_cons _ _ _ _ _ (pv 8) (@pa_cons _ _ _ _ _ (pe_fn G__law_words hr (by rfl) pass0 (@pa_cons _ _ _ _ _ (pv 1) (@pa_cons _ _ _ _ _ (pv 11) pa_nil (by rfl)) (by rfl))) (@pa_cons _ _ _ _ _ (pv 9) pa_nil (by rfl)) (by rfl)) (by rfl)) (by rfl))) (by rfl) (Or.inl rfl))
   (@pss_cons _ _ _ _ _ (ps_expr (pe_bm PySem.F.plainAttrs_list PySem.F.slot_list_append PySem.F.type_list_append mt_append (pv 9) (@pa_cons _ _ _ _ _ pe_str pa_nil (by rfl))))
   (@pss_one _ _ _ (ps_expr (pe_bm PySem.F.plainAttrs_list PySem.F.slot_list_append PySem.F.type_list_append mt_append (pv 8) (@pa_cons _ _ _ _ _ (@pe_tup _ _ _ _ _ (@pa_cons _ _ _ _ _ (pe_ix (ix_list' (K := K) rfl) (pv 7) (pv 10) (fun _ _ => rfl)) (@pa_cons _ _ _ _ _ (pe_callTy (call_tuple_of' (K := K) rfl) (by rfl) T.z_tuple bt_tuple (@pa_cons _ _ _ _ _ (pv 11) pa_nil (by rfl))) (@pa_cons _ _ _ _ _ (pe_ix (ix_tup' (K := K) rfl) (pv 12) pe_int (fun _ _ => rfl)) (@pa_cons _ _ _ _ _ (pe_ix (ix_tup' (K := K) rfl) (pv 12) pe_int (fun _ _ => rfl)) pa_nil (by rfl)) (by rfl)) (by rfl)) (by rfl))) pa_nil (by rfl)))))))))))
   (@pss_cons _ _ _ _ _ (@ps_set _ _ 12 _ _ _ _ nd rfl (Or.inl rfl) (pe_fn G__law_deeds hr (by rfl) pass0 (@pa_cons _ _ _ _ _ (pe_slice (sl_list' (K := K) rfl) (pv 5) (po_some (@pe_op _ _ _ _ _ _ _ _ op_mulB (pv 4) (pv 6))) po_none) (@pa_cons _ _ _ _ _ (pv 8) (@pa_cons _ _ _ _ _ (pe_fn G__law_words hr (by rfl) pass0 (@pa_cons _ _ _ _ _ (pv 1) (@pa_cons _ _ _ _ _ (@pe_lst _ _ _ _ pa_nil) pa_nil (by rfl)) (by rfl))) (@pa_cons _ _ _ _ _ (pv 9) pa_nil (by rfl)) (by rfl)) (by rfl)) (by rfl))) (by rfl) (Or.inl rfl))
   (@pss_one _ _ _ (ps_ret (@pe_tup _ _ _ _ _ (@pa_cons _ _ _ _ _ (@pe_tup _ _ _ _ _ (@pa_cons _ _ _ _ _ (pe_callTy (call_tuple_of' (K := K) rfl) (by rfl) T.z_tuple bt_tuple (@pa_cons _ _ _ _ _ (pe_comp ["_law_one"] [] [] rfl (by rfl) (pi_list' (K := K) rfl (pv 8)) (fun _ _ _ _ => (pg_name (i := 0) (show List.Nodup (["_law_one"] : List Str) from by decide) rfl (Or.inl rfl))) (fun _ _ _ _ => pif_none) (fun _ _ _ _ => (pe_slice (sl_tup' (K := K) rfl) (pv 0) po_none (po_some pe_int)))) pa_nil (by rfl))) (@pa_cons _ _ _ _ _ (pe_ix (ix_tup' (K := K) rfl) (pv 12) pe_int (fun _ _ => rfl)) pa_nil (by rfl)) (by rfl))) (@pa_cons _ _ _ _ _ (pe_bm' (K := K) rfl PySem.F.plainAttrs_str PySem.F.slot_str_join PySem.F.type_str_join (mt_join' (K := K) rfl) pe_str (@pa_cons _ _ _ _ _ (pv 9) pa_nil (by rfl))) (@pa_cons _ _ _ _ _ (pe_ix (ix_tup' (K := K) rfl) (pv 12) pe_int (fun _ _ => rfl)) pa_nil (by rfl)) (by rfl)) (by rfl)))))))))))))), ?_⟩
  obtain ⟨ms, hms, hml, _⟩ := cut_ints ns (some ((2 : Nat) : Int)) (some ((63 : Nat) : Int))
  rw [HT.sIx_nat, HT.sIx_nat] at hml
  have hms' : cutV (ns.map V.int) (some 2) (some 63) = ms.map V.int := hms
  have hml' : ms.length ≤ 61 := by omega
  refine ⟨_, rfl, a, ns, 1, rfl, hS, by omega, fun c0 => ⟨c0, rfl, fun n hn0 hnB => ?_⟩⟩
  have q4 := fmod_lt (c := n) (m := 4) (by decide)
  refine ⟨_, rfl, _, _, rfl, rfl, (show (4 : Int) ≠ 0 by decide), ?_⟩
  refine ⟨_, rfl, _, rfl, 2, rfl, 63, rfl, a, _, rfl, hS, fun C gC => ?_⟩
  rw [hms']
  have c1 := Same.upd (o := .lst (ms.map V.int)) gC
  obtain ⟨mk, emk⟩ := Int.eq_ofNat_of_zero_le q4.1
  have hlm : (ms.map V.int).length = ms.length := List.length_map ..
  have gs := fdv (n := (((ms.map V.int).length : Nat) : Int)) (d := (mk : Nat) + 1) (by omega) (by omega)
  show Ends.nx _ [some (.ref a), some (.ref h), some (.int 2), some (.int n), some (.int (n.fmod 4)), some (.ref C), none, none, none, none, none, none, none] _
  rw [emk]
  refine ⟨_, rfl, _, _, rfl, .inl ⟨_, SqL.of upd_same, rfl⟩, _, rfl, _, _, rfl, rfl, _, _, rfl, rfl, dd (by omega) (by omega), ?_⟩
  let sv : Int := (((ms.map V.int).length : Nat) : Int).fdiv ((mk : Nat) + 1)
  have sv0 : 0 ≤ sv := gs.1
  have sv60 : sv ≤ 61 := by have : sv ≤ (((ms.map V.int).length : Nat) : Int) := gs.2; omega
  show Ends.nx _ [some (.ref a), some (.ref h), some (.int 2), some (.int n), some (.int (mk : Nat)), some (.ref C), some (.int sv), none, none, none, none, none, none] _
  clear_value sv
  refine ⟨_, rfl, _, _, rfl, rfl, dd (by decide) (by decide), _, rfl, n.fdiv 4, (mk : Nat), rfl, by omega, by omega, fun p1 H1 zs s1 fp1 hp1 hl1 nd1 hz1 => ⟨sz (by simp), fun Rl gRl => ⟨sz (by simp), fun W gW => ?_⟩⟩⟩
  have c2 := Same.upd (o := .lst []) gRl
  have c3 := Same.upd (o := .lst []) gW
  have s03 := c1.trans (s1.trans (c2.trans c3))
  have fR : H Rl = none := (c1.trans s1).free gRl
  have fW : H W = none := (c1.trans (s1.trans c2)).free gW
  have nRW : Rl ≠ W := (ne_none gW upd_same).symm
  have nRC : Rl ≠ C := ne_none gRl (s1 _ _ upd_same)
  have nRp : Rl ≠ p1 := ne_none gRl hp1
  have nWC : W ≠ C := ne_none gW (c2 _ _ (s1 _ _ upd_same))
  have nWp : W ≠ p1 := ne_none gW (c2 _ _ hp1)
  have hp20 := hok.1
  show Ends.nx _ [some (.ref a), some (.ref h), some (.int 2), some (.int n), some (.int (mk : Nat)), some (.ref C), some (.int sv), some (.ref p1), some (.ref Rl), some (.ref W), none, none, none] _
  refine sealH (F := fun Hn => Same H Hn ∧ Hn C = some (.lst (ms.map V.int)) ∧ Hn p1 = some (.lst (zs.map V.str)) ∧ Hn Rl = some (.lst []) ∧ Hn W = some (.lst [])) ⟨s03, (s1.trans (c2.trans c3)) _ _ upd_same, (c2.trans c3) _ _ hp1, c3 _ _ upd_same, upd_same⟩ ?_
  rintro Hs ⟨ss, hCs, hps, hRs0, hWs⟩
  have updS : ∀ {H1 : Hp} {o : HO} {X : Addr}, Same H H1 → H X = none → Same H (upd H1 X o) := fun s f => s.updD f
  refine ⟨_, rfl, _, rfl, by omega, by omega, ?_⟩
  refine for_range (fun i σ H1 => ∃ (v10 v11 v12 : Option V) (rv : List V) (rs : List R9) (rows : List Str), σ = [some (.ref a), some (.ref h), some (.int 2), some (.int n), some (.int (mk : Nat)), some (.ref C), some (.int sv), some (.ref p1), some (.ref Rl), some (.ref W), v10, v11, v12] ∧ Same H H1 ∧ H1 C = some (.lst (ms.map V.int)) ∧ H1 p1 = some (.lst (zs.map V.str)) ∧ H1 Rl = some (.lst rv) ∧ Paired (fun v r => RgW H1 [W, Rl] v r (bodR rs.reverse r.1)) rv rs ∧ rs.map (·.1) = zs.take i ∧ Rw9 H1 W rows ∧ rows.length ≤ 144 * i ∧ Gr9 hp rs) ⟨none, none, none, [], [], [], rfl, ss, hCs, hps, hRs0, .nil, rfl, ⟨hWs, fun _ z => nomatch z⟩, Nat.le_refl _, ⟨⟨List.nodup_nil, fun i r z => (by cases z), fun _ z => nomatch z⟩, (fun _ z => nomatch z), (fun _ z => nomatch z), (fun _ z => nomatch z)⟩⟩ ?_ ?_
  ·rintro i σ H1 hi ⟨v10, v11, v12, rv, rs, rows, rfl, s1, hC1, hp1, hR1, hPr, hnm, hW1, hrw, hgr⟩
   have hi : i < mk := by
    have hi : i < ((mk : Nat) : Int).toNat := hi
    simpa using hi
   have hrl : rs.length = i := by
    have := congrArg List.length hnm
    rw [List.length_map, List.length_take] at this
    omega
   have rvl : rv.length = i := by rw [hPr.length, hrl]
   have hh1 := s1 _ _ hh
   have hPh1 := Paired.mapP hPh fun _ _ h => h.ts s1.ts
   have q3 := fmod_lt (c := n.fdiv (4 + (0 + (i : Int)))) (m := 3) (by decide)
   refine' by_key2 (C := fun (P : Addr) (Hx : Hp) => Same H1 Hx ∧ H1 P = none ∧ ∃ ps : List Str, Hx P = some (.lst (ps.map V.str)) ∧ pOk ps ∧ 1 ≤ ps.length) (fun key => ?go) ?body
   case go =>
    refine ⟨_, rfl, _, rfl, _, _, rfl, rfl, _, _, rfl, rfl, (show CDivB n (11 + (0 + (i : Int))) from dd (by omega) (by omega)), _, rfl, _, rfl, _, _, rfl, rfl, _, _, rfl, rfl, (show CDivB n (4 + (0 + (i : Int))) from dd (by omega) (by omega)), _, _, rfl, rfl, (show (3 : Int) ≠ 0 by decide), _, _, rfl, rfl, _, _, rfl, by omega, by omega, fun P H3 ps s3 fP hP hPl ndP hPz => ?_⟩
    have hpo : pOk ps ∧ 1 ≤ ps.length := ⟨⟨by omega, ndP, hPz⟩, by omega⟩
    refine ⟨_, rfl, _, rfl, _, _, rfl, rfl, _, _, rfl, rfl, (show CDivB n (5 + (0 + (i : Int))) from dd (by omega) (by omega)), _, _, rfl, rfl, (show (3 : Int) ≠ 0 by decide), rfl, _, rfl, ?_⟩
    refine ite2 (fun _ => ?_) (fun _ => ?_)
    ·refine ⟨_, rfl, h, rfl, ⟨_, SqL.of (s3 _ _ hh1)⟩, fun D hD => ?_⟩
     refine block_list (xs := xs) (fun j σ' H' => ∃ (v : Option V), σ' = [v] ∧ Same H3 H' ∧ H' D = some (.lst (((hp.take j).map (·.1)).map V.str))) ⟨none, rfl, Same.upd hD, upd_same⟩ ?_ ?_ ?_
     ·rintro j σ' H' hj ⟨v, rfl, s4, _⟩
      exact SqL.of (s4 _ _ (s3 _ _ hh1))
     ·rintro j x σ' H' hx ⟨v, rfl, s4, hd4⟩
      obtain ⟨q, hq, b2, r2, rfl, hb2⟩ := paired_get hPh1 hx
      have hb2 := (s3.trans s4) _ _ hb2
      have hj : j < hp.length := (List.getElem?_eq_some_iff.mp hq).1
      refine ⟨_, rfl, b2, _, 1, _, rfl, rfl, SqT.of hb2, at_1 _ _ _, _, hd4, by rw [List.length_map, List.length_map, List.length_take]; exact sz (by omega), _, rfl, s4.updD hD, ?_⟩
      rw [upd_same, List.take_add_one, hq, List.map_append, List.map_append]; rfl
     rintro σ' H4 ⟨v, rfl, s4, hd4⟩
     rw [hPh.length, List.take_length] at hd4
     obtain ⟨kk, ekk⟩ := Int.eq_ofNat_of_zero_le (show 0 ≤ 1 + (n.fdiv (4 + (0 + (i : Int)))).fmod 3 by omega)
     refine ⟨_, rfl, _, rfl, _, _, rfl, rfl, _, _, rfl, rfl, (show CDivB n (4 + (0 + (i : Int))) from dd (by omega) (by omega)), _, _, rfl, rfl, (show (3 : Int) ≠ 0 by decide), _, _, rfl, rfl, (kk : Nat), congrArg V.int ekk, D, _, rfl, SqL.of hd4, fun P2 gP2 => ?_⟩
     rw [cutsA]
     have u1 := Same.upd (o := .lst (((hp.map (·.1)).take kk).map V.str)) gP2
     show Ends.nx _ [some (.ref a), some (.ref h), some (.int 2), some (.int n), some (.int (mk : Nat)), some (.ref C), some (.int sv), some (.ref p1), some (.ref Rl), some (.ref W), some (.int (0 + (i : Int))), some (.ref P2), v12] _
     refine sealH (F := fun Hx => Same H1 Hx ∧ H1 P2 = none ∧ ∃ ps : List Str, Hx P2 = some (.lst (ps.map V.str)) ∧ pOk ps ∧ 1 ≤ ps.length) ⟨s3.trans (s4.trans u1), (s3.trans s4).free gP2, _, upd_same, ⟨?_, hok.2.1.sublist (List.take_sublist _ _), fun z hz => ?_⟩, ?_⟩ ?_
     ·rw [List.length_take]; omega
     ·obtain ⟨q, hq, rfl⟩ := List.mem_map.mp (List.mem_of_mem_take hz)
      have := hok.2.2.1 q hq
      exact ⟨this.1, this.2.1⟩
     ·obtain ⟨q, hq, _⟩ := hok.2.2.2
      have := List.length_pos_of_mem hq
      rw [List.length_take, List.length_map]; omega
     intro Hx hx
     exact key P2 Hx hx
    ·show Ends.nx _ [some (.ref a), some (.ref h), some (.int 2), some (.int n), some (.int (mk : Nat)), some (.ref C), some (.int sv), some (.ref p1), some (.ref Rl), some (.ref W), some (.int (0 + (i : Int))), some (.ref P), v12] H3
     exact key P H3 ⟨s3, fP, ps, hP, hpo⟩
   rintro P Hx ⟨sx, fP, ps, hPx, hpok, hps1⟩
   have nPW : P ≠ W := ne_none fP hW1.1
   have nPR : P ≠ Rl := ne_none fP hR1
   obtain ⟨z, hz⟩ : ∃ z, zs[i]? = some z := ⟨zs[i]'(by omega), List.getElem?_eq_getElem _⟩
   have hzm := List.mem_of_getElem? hz
   have hat : atI (zs.map V.str) (0 + (i : Int)) = some (V.str z) := by rw [Int.zero_add]; exact atI_nat (by rw [List.getElem?_map, hz]; rfl)
   have h25 : ∀ x ∈ Str.ofString "rule" :: z :: ps, x.length ≤ 25 := fun x hx => by
    rcases List.mem_cons.mp hx with q | hx
    ·rw [q]; exact rule_len
    rcases List.mem_cons.mp hx with q | hx
    ·rw [q]; have := (hz1 z hzm).1; omega
    ·have := (hpok.2.2 x hx).1; omega
   have l5 : (Str.ofString "rule" :: z :: ps).length ≤ 5 := by have := hpok.1; simp only [List.length_cons]; omega
   have lrow : (Txt.join (Str.ofString " ") (Str.ofString "rule" :: z :: ps)).length ≤ 300 := by
    have hj := join_len (c := 32) h25
    rw [tj, sp32]
    exact Nat.le_trans hj (by omega)
   have Wx : Rw9 Hx W rows := ⟨sx _ _ hW1.1, hW1.2⟩
   refine ⟨_, rfl, .inl ⟨rfl, _, SqL.of Wx.1⟩, rfl, _, rfl, _, rfl, p1, _, _, _, rfl, rfl, SqL.of (sx _ _ hp1), hat, sz (show 2 ≤ 1000 by decide), fun q hq => ?_⟩
   have t1 := Same.upd (o := .lst [.str (Str.ofString "rule"), .str z]) hq
   refine ⟨_, rfl, q, P, _, _, rfl, rfl, upd_same, t1 _ _ hPx, by rw [List.length_map]; exact sz (show 2 + ps.length ≤ 1000 by have := hpok.1; omega), fun r hr2 => ?_⟩
   have t2 := Same.upd (o := .lst ([.str (Str.ofString "rule"), .str z] ++ ps.map V.str)) hr2
   have t12 := t1.trans t2
   have W4 : Rw9 _ W rows := ⟨t12 _ _ Wx.1, Wx.2⟩
   refine ⟨_, r, Str.ofString "rule" :: z :: ps, rfl, rfl, SqL.of upd_same, join_room h25 (by omega), W, _, _, rfl, rfl, W4.1, sz (by rw [List.length_map]; omega), ?_⟩
   have kW : KX _ _ W := KX.updX (H := upd (upd Hx q (.lst [.str (Str.ofString "rule"), .str z])) r (.lst ([.str (Str.ofString "rule"), .str z] ++ ps.map V.str))) (o := .lst (rows.map V.str ++ [.str (Txt.join (Str.ofString " ") (Str.ofString "rule" :: z :: ps))]))
   have k14 : KX H1 _ W := (KX.of (sx.trans t12)).trans kW
   refine sealH (F := fun Hn => KX H1 Hn W ∧ Same H Hn ∧ Hn P = some (.lst (ps.map V.str)) ∧ Rw9 Hn W (rows ++ [Txt.join (Str.ofString " ") (Str.ofString "rule" :: z :: ps)])) ⟨k14, updS (s1.trans (sx.trans t12)) fW, keepL nPW (t12 _ _ hPx), W4.add lrow⟩ ?_
   rintro H5 ⟨k5, s5, hP5, W5⟩
   obtain ⟨ms1, em1, _, hm1⟩ := cut_ints ms (some ((0 + (i : Int)) * sv)) (some ((0 + (i : Int) + 1) * sv))
   have mo1 : IntMulOk (0 + (i : Int)) sv := mulOk_of 64 (Nat.lt_of_le_of_lt (m := 10) (by omega) (by decide)) (Nat.lt_of_le_of_lt (m := 61) (by omega) (by decide)) (by decide)
   have mo2 : IntMulOk (0 + (i : Int) + 1) sv := mulOk_of 64 (Nat.lt_of_le_of_lt (m := 10) (by omega) (by decide)) (Nat.lt_of_le_of_lt (m := 61) (by omega) (by decide)) (by decide)
   have hC5 := k5 _ _ nWC.symm hC1
   refine ⟨_, rfl, _, rfl, _, rfl, _, _, rfl, rfl, mo1, _, rfl, _, rfl, _, _, rfl, rfl, _, rfl, _, _, rfl, rfl, mo2, _, rfl, C, _, rfl, SqL.of hC5, fun Cq gCq => ?_⟩
   rw [em1]
   have u1 := Same.upd (o := .lst (ms1.map V.int)) gCq
   have su := s5.trans u1
   refine ⟨_, rfl, _, rfl, _, rfl, h, P, xs, hp, ps, rfl, su _ _ hh, Paired.mapP hPh (fun _ _ h => h.ts su.ts), by omega, u1 _ _ hP5, by have := hpok.1; omega, hpok.2.1, fun w H6 s6 hWf => ⟨_, rfl, ?_⟩⟩
   have u6 := u1.trans s6
   have t16 : TSame H1 H6 := fun c xs e => u6 c _ (k5.tup hW1.1 c xs e)
   obtain ⟨wl1, wl2, wl3⟩ := wds_ok hok hpok
   have hA : wC hp ps ≠ [] := fun z => by
    unfold wC at z
    rw [(List.append_eq_nil_iff.mp z).1] at hps1
    exact absurd hps1 (by decide)
   have W6 : Rw9 H6 W (rows ++ [Txt.join (Str.ofString " ") (Str.ofString "rule" :: z :: ps)]) := ⟨u6 _ _ W5.1, W5.2⟩
   have hR6 : H6 Rl = some (.lst rv) := u6 _ _ (k5 _ _ nRW hR1)
   have nCqW : Cq ≠ W := ne_none gCq W5.1
   let c : C9 := ⟨parF ps, bodR rs.reverse, wC hp ps, wS hp ps, rs⟩
   have hIn : In9 c H6 w Rl W rv := ⟨hWf, hR6, Paired.mapP hPr fun _ _ h => h.kx (.head _) (k5.trans (.of u6)) t16, nRW⟩
   have hOk : Ok9 c := ⟨hA, wl1, wl2, wl3, hgr.2.1⟩
   refine ⟨Cq, Rl, w, W, ms1, c, rv, _, rfl, s6 _ _ upd_same, by omega, nCqW, hIn, hOk, W6, by rw [List.length_append, List.length_singleton]; omega, fun p t s us T rows2 H7 kx7 W7 hr7 hp7 ht7 hul hT7 hgd hdp hs7 hsf hsW hne => ?_⟩
   show Ends.nx _ [some (.ref a), some (.ref h), some (.int 2), some (.int n), some (.int (mk : Nat)), some (.ref C), some (.int sv), some (.ref p1), some (.ref Rl), some (.ref W), some (.int (0 + (i : Int))), some (.ref P), some (.ref p)] H7
   have k17 : KX H1 H7 W := (k5.trans (.of u6)).trans kx7
   have t17 : TSame H1 H7 := k17.tup hW1.1
   have hP7 : H7 P = some (.lst (ps.map V.str)) := kx7 _ _ nPW (u6 _ _ hP5)
   refine ⟨_, rfl, .inl ⟨rfl, _, SqL.of W7.1⟩, W, _, _, rfl, rfl, W7.1, sz (by rw [List.length_map, List.length_append, List.length_singleton] at *; omega), ?_⟩
   have tw := ts_updL (o := .lst (rows2.map V.str ++ [.str (Str.ofString "end")])) W7.1
   have s7 : Same H H7 := fun x o e => k17 x o (by rintro rfl; rw [fW] at e; cases e) (s1 _ _ e)
   have sN : ∀ x, s = V.ref x → x ∉ [W, Rl] := fun x ex z => by
    have hn := hsf x ex
    simp only [List.mem_cons, List.mem_nil_iff, or_false] at z
    rcases z with z | z
    ·rw [z, W6.1] at hn; cases hn
    ·rw [z, hR6] at hn; cases hn
   refine sealH (F := fun Hn => KX H1 Hn W ∧ Same H Hn ∧ Hn P = some (.lst (ps.map V.str)) ∧ Rw9 Hn W (rows2 ++ [Str.ofString "end"]) ∧ Hn p = some (.tup [.ref t, s]) ∧ Hn t = some (.tup us) ∧ TsV Hn T us ∧ SoV Hn s (lim (unr c.f c.bod T))) ⟨k17.trans .updX, updS s7 fW, keepL nPW hP7, W7.add end_len, tw _ _ hp7, tw _ _ ht7, hT7.ts tw, hs7.keep tw (fun x xs ex hx => keepL (fun z => hsW (by rw [ex, z])) hx)⟩ ?_
   rintro H8 ⟨k8, s8, hP8, W8, hp8, ht8, hT8, hs8⟩
   have hR8 : H8 Rl = some (.lst rv) := k8 _ _ nRW hR1
   refine ⟨_, rfl, .inl ⟨rfl, _, SqL.of hR8⟩, _, rfl, _, rfl, p1, _, _, _, rfl, rfl, SqL.of (k8 _ _ nWp.symm hp1), hat, _, rfl, P, _, rfl, .inl ⟨SqL.of hP8, fun tb gtb => ?_⟩⟩
   have v1 := Same.upd (o := .tup (ps.map V.str)) gtb
   refine ⟨_, rfl, p, _, 0, _, rfl, rfl, SqT.of (v1 _ _ hp8), rfl, _, rfl, p, _, 1, _, rfl, rfl, SqT.of (v1 _ _ hp8), rfl, sz (by simp), fun tr gtr => ?_⟩
   have v2 := Same.upd (o := .tup [.str z, .ref tb, .ref t, s]) gtr
   have v12 := v1.trans v2
   have hR9 := v12 _ _ hR8
   refine ⟨Rl, _, _, rfl, rfl, hR9, sz (by omega), ?_⟩
   have tR := ts_updL (o := .lst (rv ++ [.ref tr])) hR9
   have zn : z ∉ rs.map (·.1) := by
    rw [hnm]
    intro q
    obtain ⟨i', hi'⟩ := List.getElem?_of_mem q
    have hlt : i' < (zs.take i).length := (List.getElem?_eq_some_iff.mp hi').1
    rw [List.length_take] at hlt
    rw [List.getElem?_take_of_lt (by omega)] at hi'
    have := ixs_at nd1 hi'
    rw [ixs_at nd1 hz] at this
    omega
   have nd' := hgr.nd (r := (z, ps, T)) zn
   have dp8 : T.dep ≤ 8 := Nat.le_trans (Nat.le_of_succ_le_succ (Nat.le_trans hdp (by decide : FB ≤ 9))) (Nat.le_refl _)
   have hgr' := hgr.snoc zn (hz1 z hzm).1 hgd dp8 hT8.ok hpok
   have kR : KX _ _ Rl := KX.updX (H := upd (upd H8 tb (.tup (ps.map V.str))) tr (.tup [.str z, .ref tb, .ref t, s])) (o := .lst (rv ++ [.ref tr]))
   have t18 : TSame H1 H8 := k8.tup hW1.1
   refine ⟨_, _, _, rv ++ [.ref tr], rs ++ [(z, ps, T)], rows2 ++ [Str.ofString "end"], rfl, updS (s8.trans v12) fR, keepL nRC.symm (v12 _ _ (k8 _ _ nWC.symm hC1)), keepL nRp.symm (v12 _ _ (k8 _ _ nWp.symm hp1)), upd_same, ?_, ?_, ⟨keepL nRW.symm (v12 _ _ W8.1), W8.2⟩, ?_, hgr'⟩
   ·refine Paired.app ?_ (.cons ⟨tr, tb, t, s, us, rfl, tR _ _ upd_same, tR _ _ (v2 _ _ upd_same), tR _ _ (v12 _ _ ht8), (hT8.ts v12.ts).ts tR, ?_, ?_, sN⟩ .nil)
    ·refine paired_imp9 hPr fun v r hr h => ?_
     rw [bod_old nd' hr]
     exact ((h.kx (.head _) k8 t18).kx (W := W) (.head _) (.of v12) v12.ts).kx (.tail _ (.head _)) kR tR
    ·rw [bod_new]
     exact (hs8.same v12).keep tR (fun x xs ex hx => keepL (fun z => sN x ex (by rw [z]; exact .tail _ (.head _))) hx)
    ·intro d hd
     have hk := hgr'.2.2.1 (z, ps, T) (List.mem_append_right _ (.head _)) d hd
     refine ⟨?_, kk_inN hk⟩
     exact bodR_ok (fun q hq => hgr'.2.2.2 q (List.mem_reverse.mp hq)) _ d hd
   ·rw [List.map_append, hnm, List.take_add_one, hz]; rfl
   ·rw [List.length_append, List.length_singleton]
    rw [List.length_append, List.length_singleton] at hr7
    omega
  ·rintro σ H1 ⟨v10, v11, v12, rv, rs, rows, rfl, s1, hC1, hp1, hR1, hPr, hnm, hW1, hrw, hgr⟩
   have eM : ((mk : Nat) : Int).toNat = mk := by simp
   rw [eM] at hnm hrw
   have hrl : rs.length = mk := by
    have := congrArg List.length hnm
    rw [List.length_map, List.length_take] at this
    omega
   have rvl : rv.length = mk := by rw [hPr.length, hrl]
   obtain ⟨ms1, em1, _, hm1⟩ := cut_ints ms (some (((mk : Nat) : Int) * sv)) none
   have mo1 : IntMulOk ((mk : Nat) : Int) sv := mulOk_of 64 (Nat.lt_of_le_of_lt (m := 10) (by omega) (by decide)) (Nat.lt_of_le_of_lt (m := 61) (by omega) (by decide)) (by decide)
   refine ⟨_, rfl, _, rfl, _, rfl, _, _, rfl, rfl, mo1, _, rfl, C, _, rfl, SqL.of hC1, fun Cq gCq => ?_⟩
   rw [em1]
   have u1 := Same.upd (o := .lst (ms1.map V.int)) gCq
   refine ⟨_, rfl, _, rfl, sz (by simp), fun e0 ge0 => ?_⟩
   have u2 := Same.upd (o := .lst []) ge0
   have u12 := u1.trans u2
   have su := s1.trans u12
   refine ⟨h, e0, xs, hp, [], rfl, su _ _ hh, Paired.mapP hPh (fun _ _ h => h.ts su.ts), by omega, upd_same, by simp, List.nodup_nil, fun w H6 s6 hWf => ⟨_, rfl, ?_⟩⟩
   have u6 := u12.trans s6
   have pok0 : pOk [] := ⟨by decide, List.nodup_nil, fun _ z => nomatch z⟩
   obtain ⟨wl1, wl2, wl3⟩ := wds_ok hok pok0
   have W6 : Rw9 H6 W rows := ⟨u6 _ _ hW1.1, hW1.2⟩
   have nCqW : Cq ≠ W := ne_none gCq hW1.1
   let c : C9 := ⟨parF [], bodR rs.reverse, wC hp [], wS hp [], rs⟩
   have hIn : In9 c H6 w Rl W rv := ⟨hWf, u6 _ _ hR1, Paired.mapP hPr fun _ _ h => h.kx (W := W) (.head _) (.of u6) u6.ts, nRW⟩
   have hOk : Ok9 c := ⟨wds_ne hok, wl1, wl2, wl3, hgr.2.1⟩
   refine ⟨Cq, Rl, w, W, ms1, c, rv, rows, rfl, (u2.trans s6) _ _ upd_same, by omega, nCqW, hIn, hOk, W6, by omega, fun p t s us T rows2 H7 kx7 W7 hr7 hp7 ht7 hul hT7 hgd hdp hs7 hsf hsW hne => ?_⟩
   show Ends.nx _ [some (.ref a), some (.ref h), some (.int 2), some (.int n), some (.int (mk : Nat)), some (.ref C), some (.int sv), some (.ref p1), some (.ref Rl), some (.ref W), v10, v11, some (.ref p)] H7
   have k17 : KX H1 H7 W := (KX.of u6).trans kx7
   have t17 : TSame H1 H7 := k17.tup hW1.1
   have s7 : Same H H7 := fun x o e => k17 x o (by rintro rfl; rw [fW] at e; cases e) (s1 _ _ e)
   have hR7 := k17 _ _ nRW hR1
   have hP7 := Paired.mapP hPr fun _ _ h => (h.kx (.head _) k17 t17)
   refine ⟨_, rfl, Rl, rfl, ⟨_, SqL.of hR7⟩, fun D hD => ?_⟩
   refine block_list (xs := rv) (fun j σ' H' => ∃ (v : Option V) (ws : List V), σ' = [v] ∧ Same H7 H' ∧ H' D = some (.lst ws) ∧ Paired (R9V H') ws (rs.take j)) ⟨none, [], rfl, Same.upd hD, upd_same, .nil⟩ ?_ ?_ ?_
   ·rintro j σ' H' hj ⟨v, ws, rfl, s9, _⟩
    exact SqL.of (s9 _ _ hR7)
   ·rintro j x σ' H' hx ⟨v, ws, rfl, s9, hd9, hwP⟩
    obtain ⟨r, hr, ra, rb, rc, rsv, us1, rfl, h1, h2, h3, h4, _⟩ := paired_get hP7 hx
    have hj : j < rs.length := (List.getElem?_eq_some_iff.mp hr).1
    have hwl := hwP.length
    rw [List.length_take] at hwl
    refine ⟨_, rfl, _, rfl, ra, _, rfl, SqT.of (s9 _ _ h1), (show ¬ (HT.sIx 4 0 none = 0 ∧ HT.sIx 4 4 (some 3) = 4) by decide), fun q gq => ?_⟩
    rw [show cutV [V.str r.1, V.ref rb, V.ref rc, rsv] none (some 3) = [V.str r.1, V.ref rb, V.ref rc] from rfl]
    have x1 := Same.upd (o := .tup [.str r.1, .ref rb, .ref rc]) gq
    have tL := ts_updL (o := .lst (ws ++ [.ref q])) (x1 _ _ hd9)
    have t9 : TSame H' _ := fun c xs e => tL c xs (x1 c _ e)
    refine ⟨_, x1 _ _ hd9, sz (by omega), _, ws ++ [.ref q], rfl, (s9.trans x1).updD hD, upd_same, ?_⟩
    rw [List.take_add_one, hr]
    exact Paired.app (Paired.mapP hwP fun _ _ h => h.ts t9) (.cons ⟨q, rb, rc, us1, rfl, tL _ _ upd_same, t9 _ _ (s9 _ _ h2), t9 _ _ (s9 _ _ h3), (h4.ts s9.ts).ts t9⟩ .nil)
   rintro σ' H9 ⟨v, ws, rfl, s9, hd9, hwP⟩
   rw [rvl, ← hrl, List.take_length] at hwP
   refine ⟨D, _, rfl, .inl ⟨SqL.of hd9, fun tA gtA => ?_⟩⟩
   have y1 := Same.upd (o := .tup ws) gtA
   refine ⟨_, rfl, p, _, 0, _, rfl, rfl, SqT.of (y1 _ _ (s9 _ _ hp7)), rfl, sz (by simp), fun sc gsc => ?_⟩
   have y2 := Same.upd (o := .tup [.ref tA, .ref t]) gsc
   have y12 := s9.trans (y1.trans y2)
   refine ⟨rfl, _, rfl, _, W, rows2, rfl, rfl, SqL.of (y12 _ _ W7.1), rows_room W7.2 (by omega), _, rfl, p, _, 1, _, rfl, rfl, SqT.of (y12 _ _ hp7), rfl, sz (by simp), fun out gout => ?_⟩
   have y3 := Same.upd (o := .tup [.ref sc, .str (Txt.join (Str.ofString "\n") rows2), s]) gout
   have y13 := y12.trans y3
   have hgd' : T.gd (wC hp []) (wS hp []) rs := hgd
   have eu : unr c.f c.bod T = unr (fun x => x) (bodR rs.reverse) T := by
    show unr (parF []) (bodR rs.reverse) T = _
    rw [parF_nil]
   refine k out (.ref sc) s _ rs T _ (s7.trans y13) upd_same ⟨sc, tA, t, ws, us, rfl, y3 _ _ upd_same, (y2.trans y3) _ _ upd_same, Paired.mapP hwP fun _ _ h => h.ts (y1.trans (y2.trans y3)).ts, y13 _ _ ht7, hT7.ts y13.ts⟩ ⟨hgr.1, by omega, Ts.gd_has hgd', hdp, fun d hd => ?_, by rw [← eu]; exact hne, by rw [← hT7.len]; exact hul⟩ (by rw [← eu]; exact hs7.same y13)
   rw [← eu] at hd
   exact ⟨all_unr (n := 0) (fun z hz => parF_kk (ps := []) List.nodup_nil hz) hgr.2.2.1 hgd' d hd, unr_ok (bodR_ok fun q hq => hgr.2.2.2 q (List.mem_reverse.mp hq)) hT7.ok d hd⟩
end
end T09
namespace T09
open PySem L2 Tc
section
variable {P : Program} {w : World} {K : PySem.W.Frag} {mg : Str → Option Value} {base : Heap}
noncomputable abbrev s__law_fits : Stmt := top 47
theorem sc__law_fits : FnScope ["_law_deed", "_law_sinks"] ["_law_deed", "_law_sinks"] (defScope s__law_fits) := ⟨rfl, rfl, rfl, by decide +kernel, rfl, by decide +kernel, by decide +kernel⟩
theorem ok__law_fits {ca : Ca} (D : DefAt K mg "_law_fits" s__law_fits) (T : Txt K mg ca) : FnAt P w K mg base CX0 1 "_law_fits" ["_law_deed", "_law_sinks"] (spFt9 K) := by
 refine D.ok sc__law_fits (fun vs H Q E h => ?_) (fun _ _ _ _ _ _ us hl => match us, hl with | [_, _], _ => rfl) (fun f cdv A outer s H vs Q E hr h => ?_)
 ·obtain ⟨v, sk, d, zs, rfl, hv, hok, htx, hsk, k⟩ := h; rfl
 ·obtain ⟨v, sk, d, zs, rfl, hv, hok, htx, hsk, k⟩ := h
  have nd := sc__law_fits.nd
  refine ⟨_, (@pss_cons _ _ _ _ _ (ps_if (pt_cmpR op_eq (pe_ix (ix_tup' (K := K) rfl) (pv 0) pe_int (fun _ _ => rfl)) pe_str (nomark _)) (@pss_one _ _ _ (ps_ret pe_bl)) pss_nil)
   (@pss_cons _ _ _ _ _ (ps_if (pt_cmpR op_eq (pe_ix (ix_tup' (K := K) rfl) (pv 0) pe_int (fun _ _ => rfl)) pe_str (nomark _)) (@pss_one _ _ _ (ps_ret (pe_cmpR (op_notIn_seq' (K := K) rfl) (pe_ix (ix_tup' (K := K) rfl) (pv 0) pe_int (fun _ _ => rfl)) (pv 1) (by rfl)))) pss_nil)
   (@pss_cons _ _ _ _ _ (ps_if (PW.pt (pw_or (pt_cmpR (op_in_seq' (K := K) rfl) (pe_ix (ix_tup' (K := K) rfl) (pv 0) pe_int (fun _ _ => rfl)) (pv 1) (by rfl)) (pw_or1 (pt_cmpR op_eq (pe_ix (ix_tup' (K := K) rfl) (pv 0) pe_int (fun _ _ => rfl)) (pe_ix (ix_tup' (K := K) rfl) (pv 0) pe_int (fun _ _ => rfl)) (nomark _))))) (@pss_one _ _ _ (ps_ret pe_bl)) pss_nil)
   (@pss_one _ _ _ (ps_ret (pe_or (pe_cmpR op_ne (pe_ix (ix_tup' (K := K) rfl) (pv 0) pe_int (fun _ _ => rfl)) pe_str (nomark _)) (pe_one (pe_cmpR (op_notIn_seq' (K := K) rfl) (pe_ix (ix_tup' (K := K) rfl) (pv 0) pe_int (fun _ _ => rfl)) (pv 1) (by rfl))))))))), ?_⟩
  rcases ft_shape zs hv hok htx with ⟨a, rfl, ha, e⟩ | ⟨a, n, s, q, rfl, ha, e⟩ | ⟨a, w, s, s', r, rfl, ha, n1, n2, e⟩
  ·refine ⟨_, rfl, a, _, 0, _, rfl, rfl, SqT.of ha, rfl, rfl, _, rfl, ?_⟩
   refine dec_true rfl ?_
   rw [e] at k
   exact k
  ·refine ⟨_, rfl, a, _, 0, _, rfl, rfl, SqT.of ha, rfl, rfl, _, rfl, ?_⟩
   refine dec_false (by decide +kernel) ?_
   refine ⟨_, rfl, a, _, 0, _, rfl, rfl, SqT.of ha, rfl, rfl, _, rfl, ?_⟩
   refine dec_true rfl ?_
   refine ⟨_, rfl, a, _, 2, _, rfl, rfl, SqT.of ha, rfl, _, rfl, sk, _, rfl, .inl (SqL.of hsk), rfl, flat_strs zs, ?_⟩
   have e2 : (!inV (.str s) (zs.map V.str)) = !decide (s ∈ zs) := by rw [inV_str]
   rw [e, ← e2] at k
   exact k
  ·refine ⟨_, rfl, a, _, 0, _, rfl, rfl, SqT.of ha, at_0 _ _, rfl, _, rfl, ?_⟩
   refine dec_false (fun e => n1 (V.str.inj e)) ?_
   refine ⟨_, rfl, a, _, 0, _, rfl, rfl, SqT.of ha, at_0 _ _, rfl, _, rfl, ?_⟩
   refine dec_false (fun e => n2 (V.str.inj e)) ?_
   refine ⟨_, rfl, a, _, 1, _, rfl, rfl, SqT.of ha, at_1 _ _ _, _, rfl, sk, _, rfl, .inl (SqL.of hsk), rfl, flat_strs zs, _, rfl, ?_⟩
   unfold ft2 at e
   have e1 : inV (.str s) (zs.map V.str) = decide (s ∈ zs) := inV_str _ _
   refine ite2 (fun h => iteT ?_) (fun h => ?_)
   ·have h : inV (.str s) (zs.map V.str) = true := h
    rw [e1] at h
    rw [e, if_pos (Or.inl (of_decide_eq_true h))] at k
    exact k
   have h1 : s ∉ zs := fun z => h (by show inV (.str s) (zs.map V.str) = true; rw [e1]; exact decide_eq_true z)
   refine ⟨_, rfl, a, _, 1, _, rfl, rfl, SqT.of ha, at_1 _ _ _, _, rfl, a, _, 2, _, rfl, rfl, SqT.of ha, at_2' _ _ _ _, rfl, _, rfl, ?_⟩
   refine ite2 (fun h => ?_) (fun h => ?_)
   ·have h : s = s' := V.str.inj (of_decide_eq_true h)
    rw [e, if_pos (Or.inr h)] at k
    exact k
   have h2 : s ≠ s' := fun z => h (decide_eq_true (congrArg V.str z))
   rw [e, if_neg fun z => z.elim h1 h2] at k
   refine ⟨_, rfl, a, _, 0, _, rfl, rfl, SqT.of ha, at_0 _ _, rfl, _, rfl, ?_⟩
   refine ite2 (fun h => ?_) (fun h => ?_)
   ·have h3 : w ≠ Str.ofString "fill" := fun z => by
     rw [z, decide_eq_true rfl] at h
     cases h
    rw [decide_eq_false h3] at k
    exact k
   ·have h3 : w = Str.ofString "fill" := by
     by_cases z : w = Str.ofString "fill"
     ·exact z
     ·exact absurd (by rw [decide_eq_false fun q => z (V.str.inj q)]; rfl) h
    refine ⟨_, rfl, a, _, 2, _, rfl, rfl, SqT.of ha, at_2' _ _ _ _, _, rfl, sk, _, rfl, .inl (SqL.of hsk), rfl, flat_strs zs, ?_⟩
    have e4 : (!inV (.str s') (zs.map V.str)) = (!decide (w = Str.ofString "fill") || !decide (s' ∈ zs)) := by rw [inV_str, decide_eq_true h3]; rfl
    rw [← e4] at k
    exact k
end
end T09
namespace T09
open PySem L2 Tc
section
variable {P : Program} {w : World} {K : PySem.W.Frag} {mg : Str → Option Value} {base : Heap}
noncomputable abbrev s__law_alike : Stmt := top 48
theorem sc__law_alike : FnScope ["_law_found", "_law_due"] ["_law_found", "_law_due"] (defScope s__law_alike) := ⟨rfl, rfl, rfl, by decide +kernel, rfl, by decide +kernel, by decide +kernel⟩
theorem ok__law_alike {ca : Ca} (D : DefAt K mg "_law_alike" s__law_alike) (T : Txt K mg ca) : ∀ d, FnAt P w K mg base CX0 (d + 1) "_law_alike" ["_law_found", "_law_due"] (spAlk K d) := by
 intro d
 induction d with
 | zero =>
  refine D.ok sc__law_alike (fun vs H Q E h => ?_) (fun _ _ _ _ _ _ us hl => match us, hl with | [_, _], _ => rfl) (fun f cdv A outer s H vs Q E hr h => ?_)
  ·exact False.elim (by obtain ⟨_, _, _, h, _⟩ := h; exact h)
  ·exact False.elim (by obtain ⟨_, _, _, h, _⟩ := h; exact h)
 | succ d G__law_alike =>
 refine D.ok sc__law_alike (fun vs H Q E h => ?_) (fun _ _ _ _ _ _ us hl => match us, hl with | [_, _], _ => rfl) (fun f cdv A outer s H vs Q E hr h => ?_)
 ·obtain ⟨v, u, rfl, h, k⟩ := h; rfl
 ·obtain ⟨v, u, rfl, h, k⟩ := h
  have nd := sc__law_alike.nd
  refine ⟨_, (@pss_cons _ _ _ _ _ (ps_if (pt_val (pe_callB (call_isi' (K := K) rfl) (by rfl) T.z_isinstance bt_isinstance (@pa_cons _ _ _ _ _ (pv 1) (@pa_cons _ _ _ _ _ (pe_bltn (v := .ty "tuple") (by rfl) T.z_tuple bt_tuple rfl) pa_nil (by rfl)) (by rfl)))) (@pss_cons _ _ _ _ _ (ps_if (PW.pt (pw_or (pt_not (pt_val (pe_callB (call_isi' (K := K) rfl) (by rfl) T.z_isinstance bt_isinstance (@pa_cons _ _ _ _ _ (pv 0) (@pa_cons _ _ _ _ _ (pe_bltn (v := .ty "tuple") (by rfl) T.z_tuple bt_tuple rfl) pa_nil (by rfl)) (by rfl))))) (pw_or1 (pt_cmpR op_ne (pe_callB (call_len' (K := K) rfl) (by rfl) T.z_len PySem.boot_len (@pa_cons _ _ _ _ _ (pv 0) pa_nil (by rfl))) (pe_callB (call_len' (K := K) rfl) (by rfl) T.z_len PySem.boot_len (@pa_cons _ _ _ _ _ (pv 1) pa_nil (by rfl))) (nomark _))))) (@pss_one _ _ _ (ps_ret pe_bl)) pss_nil)
   (@pss_one _ _ _ (ps_ret (pe_callB (call_all' (K := K) rfl rfl) (by rfl) T.z_all bt_all (@pa_cons _ _ _ _ _ (pe_comp ["_law_one", "_law_other"] [] [] rfl (by rfl) (pi_zipT (K := K) rfl (by rfl) T.z_zip (@pa_cons _ _ _ _ _ (pv 0) (@pa_cons _ _ _ _ _ (pv 1) pa_nil (by rfl)) (by rfl))) (fun _ _ _ _ => (pg_tup' (K := K) (n := 2) (by rfl) (by rfl) (pgs_cons (pg_name (i := 0) (show List.Nodup (["_law_one", "_law_other"] : List Str) from by decide) rfl (Or.inl rfl) (hf := Or.inr (by rfl))) (pgs_cons (pg_name (i := 1) (show List.Nodup (["_law_one", "_law_other"] : List Str) from by decide) rfl (Or.inl rfl) (hf := Or.inr (by rfl))) pgs_nil)))) (fun _ _ _ _ => pif_none) (fun _ _ _ _ => (pe_fn G__law_alike hr (by rfl) pass0 (@pa_cons _ _ _ _ _ (pv 0) (@pa_cons _ _ _ _ _ (pv 1) pa_nil (by rfl)) (by rfl)) (by omega)))) pa_nil (by rfl)))))) pss_nil)
   (@pss_cons _ _ _ _ _ (ps_if (pt_val (pe_callB (call_isi' (K := K) rfl) (by rfl) T.z_isinstance bt_isinstance (@pa_cons _ _ _ _ _ (pv 1) (@pa_cons _ _ _ _ _ (pe_bltn (v := .ty "str") (by rfl) T.z_str bt_str rfl) pa_nil (by rfl)) (by rfl)))) (@pss_one _ _ _ (ps_ret (pe_and (pe_callB (call_isi' (K := K) rfl) (by rfl) T.z_isinstance bt_isinstance (@pa_cons _ _ _ _ _ (pv 0) (@pa_cons _ _ _ _ _ (pe_bltn (v := .ty "str") (by rfl) T.z_str bt_str rfl) pa_nil (by rfl)) (by rfl))) (pe_one (pe_cmpR op_eq (pv 0) (pv 1) (nomark _)))))) pss_nil)
   (@pss_one _ _ _ (ps_ret (pe_and (pe_callB (call_isi' (K := K) rfl) (by rfl) T.z_isinstance bt_isinstance (@pa_cons _ _ _ _ _ (pv 0) (@pa_cons _ _ _ _ _ (pe_bltn (v := .ty "int") (by rfl) T.z_int bt_int rfl) pa_nil (by rfl)) (by rfl))) (pe_and (pe_not (pe_callB (call_isi' (K := K) rfl) (by rfl) T.z_isinstance bt_isinstance (@pa_cons _ _ _ _ _ (pv 0) (@pa_cons _ _ _ _ _ (pe_bltn (v := .ty "bool") (by rfl) T.z_bool bt_bool rfl) pa_nil (by rfl)) (by rfl)))) (pe_one (pe_cmpR op_eq (pv 0) (pv 1) (nomark _))))))))), ?_⟩
  rcases h with ⟨z, rfl, rfl⟩ | ⟨n, rfl, rfl⟩ | ⟨a, b, xs, ys, rfl, rfl, ha, hb, hl, hP⟩
  ·refine ⟨_, rfl, _, _, _, _, rfl, tyOf_of (n := "str") rfl, kit_tt (by decide) (by decide), _, rfl, ?_⟩
   refine iteF ?_
   refine ⟨_, rfl, _, _, _, _, rfl, tyOf_of (n := "str") rfl, kit_tt (by decide) (by decide), _, rfl, ?_⟩
   refine iteT ?_
   refine ⟨_, rfl, _, _, _, _, rfl, tyOf_of (n := "str") rfl, kit_tt (by decide) (by decide), _, rfl, ?_⟩
   refine iteT ?_
   refine ⟨_, rfl, _, rfl, rfl, ?_⟩
   have e : decide (V.str z = V.str z) = true := decide_eq_true rfl
   have k := k H (Same.refl _)
   rw [← e] at k
   exact k
  ·refine ⟨_, rfl, _, _, _, _, rfl, tyOf_of (n := "int") rfl, kit_tt (by decide) (by decide), _, rfl, ?_⟩
   refine iteF ?_
   refine ⟨_, rfl, _, _, _, _, rfl, tyOf_of (n := "int") rfl, kit_tt (by decide) (by decide), _, rfl, ?_⟩
   refine iteF ?_
   refine ⟨_, rfl, _, _, _, _, rfl, tyOf_of (n := "int") rfl, kit_tt (by decide) (by decide), _, rfl, ?_⟩
   refine iteT ?_
   refine ⟨_, rfl, _, _, _, _, rfl, tyOf_of (n := "int") rfl, kit_tt (by decide) (by decide), _, rfl, _, rfl, ?_⟩
   refine iteT ?_
   refine ⟨_, rfl, _, rfl, rfl, ?_⟩
   have e : decide (V.int n = V.int n) = true := decide_eq_true rfl
   have k := k H (Same.refl _)
   rw [← e] at k
   exact k
  have hlen := hP.length
  refine ⟨_, rfl, _, _, _, _, rfl, tyOf_of (n := "tuple") (ty_of hb rfl), kit_tt (by decide) (by decide), _, rfl, ?_⟩
  refine iteT ?_
  refine ⟨_, rfl, _, _, _, _, rfl, tyOf_of (n := "tuple") (ty_of ha rfl), kit_tt (by decide) (by decide), _, rfl, ?_⟩
  refine iteF ?_
  refine ⟨_, rfl, _, _, rfl, .inr ⟨_, SqT.of ha, rfl⟩, _, rfl, _, _, rfl, .inr ⟨_, SqT.of hb, rfl⟩, rfl, _, rfl, ?_⟩
  refine ite2 (fun h => ?_) (fun _ => ?_)
  ·have h : (!decide (V.int (xs.length : Nat) = V.int (ys.length : Nat))) = true := h
   rw [hlen] at h
   simp at h
  refine ⟨_, rfl, _, rfl, a, b, xs, ys, rfl, SqT.of ha, SqT.of hb, fun D hD => ?_⟩
  refine block_zipT (xs := xs) (ys := ys) (fun j σ' H' => ∃ v1 v2 : Option V, σ' = [v1, v2] ∧ Same H H' ∧ H' D = some (.lst ((List.replicate j true).map V.bl))) hlen ⟨none, none, rfl, Same.upd hD, upd_same⟩ ?_ ?_ ?_
  ·rintro j σ' H' hj ⟨v1, v2, rfl, s1, hd⟩
   exact ⟨SqT.of (s1 _ _ ha), SqT.of (s1 _ _ hb)⟩
  ·rintro j x y T σ' H' hx hy ⟨v1, v2, rfl, s1, hd⟩ hT
   have hj : j < xs.length := (List.getElem?_eq_some_iff.mp hx).1
   obtain ⟨y', hy', hal⟩ := paired_get hP hx
   rw [hy] at hy'
   cases hy'
   have tT := Same.upd (o := .tup [x, y]) hT
   refine ⟨T, _, rfl, SqT.of upd_same, rfl, _, _, rfl, _, _, rfl, rfl, ?_⟩
   refine ⟨_, rfl, _, rfl, x, y, rfl, hal.ts (s1.trans tT).ts, fun H3 s3 => ?_⟩
   have s4 := (s1.trans tT).trans s3
   refine ⟨_, s3 _ _ (tT _ _ hd), by rw [List.length_map, List.length_replicate]; exact sz (by omega), _, _, rfl, s4.updD hD, ?_⟩
   rw [upd_same, List.replicate_succ', List.map_append]; rfl
  rintro σ' H' ⟨v1, v2, rfl, s1, hd⟩
  refine ⟨D, _, rfl, SqL.of hd, ?_⟩
  have k := k H' s1
  rw [← all_true xs.length] at k
  exact k
end
end T09
namespace T09
open PySem L2 Tc
section
variable {P : Program} {w : World} {K : PySem.W.Frag} {mg : Str → Option Value} {base : Heap}
noncomputable abbrev s__law_told : Stmt := top 49
theorem sc__law_told : FnScope ["_law_house_here", "_law_made", "_law_found", "_law_kinds", "e"] ["_law_house_here", "_law_made"] (defScope s__law_told) := ⟨rfl, rfl, rfl, by decide +kernel, rfl, by decide +kernel, by decide +kernel⟩
theorem ok__law_told {ca : Ca} (D : DefAt K mg "_law_told" s__law_told) (T : Txt K mg ca) (G_opened : FnAt P w K mg base (CXE P w) 13 "opened" ["house", "script"] (spOp9 K (cl3 ca.NoPlace ca.NoCask ca.NoRule) ca.TooMany)) : FnAt P w K mg base CX0 14 "_law_told" ["_law_house_here", "_law_made"] (spTold9 K) := by
 refine D.ok sc__law_told (fun vs H Q E h => ?_) (fun _ _ _ _ _ _ us hl => match us, hl with | [_, _], _ => rfl) (fun f cdv A outer s H vs Q E hr h => ?_)
 ·obtain ⟨a0, v, xs, hp, rs, T0, rfl, ha, hX, hpl, hS, hso, k⟩ := h; rfl
 ·obtain ⟨a0, v, xs, hp, rs, T0, rfl, ha, hX, hpl, hS, hso, k⟩ := h
  have nd := sc__law_told.nd
  refine ⟨_, (@pss_cons _ _ _ _ _ (@ps_set _ _ 2 _ _ _ _ nd rfl (Or.inl rfl) pe_non (by rfl) (Or.inl rfl))
   (@pss_cons _ _ _ _ _ (@ps_set _ _ 3 _ _ _ _ nd rfl (Or.inl rfl) (@pe_lst _ _ _ _ pa_nil) (by rfl) (Or.inl rfl))
   (@pss_cons _ _ _ _ _ (ps_tryS (i := 2) rfl rfl nd rfl (Or.inl rfl) (pex_fn G_opened hr (by rfl) (@pa_cons _ _ _ _ _ (pv 0) (@pa_cons _ _ _ _ _ (pv 1) pa_nil (by rfl)) (by rfl))) (hd_as rfl nd (by rfl) T.c_TierError (i := 4) rfl rfl (fun _ => (@pss_one _ _ _ (@ps_set _ _ 3 _ _ _ _ nd rfl (Or.inl rfl) (@pe_lst _ _ _ _ (@pa_cons _ _ _ _ _ (pe_callB (call_isiE' (K := K) rfl) (by rfl) T.z_isinstance bt_isinstance (@pa_cons _ _ _ _ _ (pv 4) (@pa_cons _ _ _ _ _ (pe_glob (v := .ref _) (by rfl) T.c_NoPlace rfl) pa_nil (by rfl)) (by rfl))) (@pa_cons _ _ _ _ _ (pe_callB (call_isiE' (K := K) rfl) (by rfl) T.z_isinstance bt_isinstance (@pa_cons _ _ _ _ _ (pv 4) (@pa_cons _ _ _ _ _ (pe_glob (v := .ref _) (by rfl) T.c_NoCask rfl) pa_nil (by rfl)) (by rfl))) (@pa_cons _ _ _ _ _ (pe_callB (call_isiE' (K := K) rfl) (by rfl) T.z_isinstance bt_isinstance (@pa_cons _ _ _ _ _ (pv 4) (@pa_cons _ _ _ _ _ (pe_glob (v := .ref _) (by rfl) T.c_NoRule rfl) pa_nil (by rfl)) (by rfl))) (@pa_cons _ _ _ _ _ (pe_callB (call_isiE' (K := K) rfl) (by rfl) T.z_isinstance bt_isinstance (@pa_cons _ _ _ _ _ (pv 4) (@pa_cons _ _ _ _ _ (pe_glob (v := .ref _) (by rfl) T.c_TooMany rfl) pa_nil (by rfl)) (by rfl))) (@pa_cons _ _ _ _ _ (pe_callB (call_isiE' (K := K) rfl) (by rfl) T.z_isinstance bt_isinstance (@pa_cons _ _ _ _ _ (pv 4) (@pa_cons _ _ _ _ _ (pe_glob (v := .ref _) (by rfl) T.c_NoText rfl) pa_nil (by rfl)) (by rfl))) (@pa_cons _ _ _ _ _ (pe_callB (call_isiE' (K := K) rfl) (by rfl) T.z_isinstance bt_isinstance (@pa_cons _ _ _ _ _ (pv 4) (@pa_cons _ _ _ _ _ (pe_bltn (v := .ty "ValueError") (by rfl) T.z_ValueError bt_ValueError rfl) pa_nil (by rfl)) (by rfl))) (@pa_cons _ _ _ _ _ (pe_callB (call_isiE' (K := K) rfl) (by rfl) T.z_isinstance bt_isinstance (@pa_cons _ _ _ _ _ (pv 4) (@pa_cons _ _ _ _ _ (pe_glob (v := .ref _) (by rfl) T.c_NoNumber rfl) pa_nil (by rfl)) (by rfl))) (@pa_cons _ _ _ _ _ (pe_callB (call_isiE' (K := K) rfl) (by rfl) T.z_isinstance bt_isinstance (@pa_cons _ _ _ _ _ (pv 4) (@pa_cons _ _ _ _ _ (pe_glob (v := .ref _) (by rfl) T.c_Lacking rfl) pa_nil (by rfl)) (by rfl))) (@pa_cons _ _ _ _ _ (pe_callB (call_isiE' (K := K) rfl) (by rfl) T.z_isinstance bt_isinstance (@pa_cons _ _ _ _ _ (pv 4) (@pa_cons _ _ _ _ _ (pe_glob (v := .ref _) (by rfl) T.c_Full rfl) pa_nil (by rfl)) (by rfl))) (@pa_cons _ _ _ _ _ (pe_callB (call_isiE' (K := K) rfl) (by rfl) T.z_isinstance bt_isinstance (@pa_cons _ _ _ _ _ (pv 4) (@pa_cons _ _ _ _ _ (pe_glob (v := .ref _) (by rfl) T.c_NotSteady rfl) pa_nil (by rfl)) (by rfl))) (@pa_cons _ _ _ _ _ (pe_callB (call_isiE' (K := K) rfl) (by rfl) T.z_isinstance bt_isinstance (@pa_cons _ _ _ _ _ (pv 4) (@pa_cons _ _ _ _ _ (pe_glob (v := .ref _) (by rfl) T.c_NoDeed rfl) pa_nil (by rfl)) (by rfl))) (@pa_cons _ _ _ _ _ (pe_callB (call_isiE' (K := K) rfl) (by rfl) T.z_isinstance bt_isinstance (@pa_cons _ _ _ _ _ (pv 4) (@pa_cons _ _ _ _ _ (pe_glob (v := .ref _) (by rfl) T.c_Tied rfl) pa_nil (by rfl)) (by rfl))) (@pa_cons _ _ _ _ _ (pe_callB (call_isiE' (K := K) rfl) (by rfl) T.z_isinstance bt_isinstance (@pa_cons _ _ _ _ _ (pv 4) (@pa_cons _ _ _ _ _ (pe_glob (v := .ref _) (by rfl) T.c_NoChange rfl) pa_nil (by rfl)) (by rfl))) (@pa_cons _ _ _ _ _ (pe_callB (call_isiE' (K := K) rfl) (by rfl) T.z_isinstance bt_isinstance (@pa_cons _ _ _ _ _ (pv 4) (@pa_cons _ _ _ _ _ (pe_glob (v := .ref _) (by rfl) T.c_NoRow rfl) pa_nil (by rfl)) (by rfl))) (@pa_cons _ _ _ _ _ (pe_callB (call_isiE' (K := K) rfl) (by rfl) T.z_isinstance bt_isinstance (@pa_cons _ _ _ _ _ (pv 4) (@pa_cons _ _ _ _ _ (pe_glob (v := .ref _) (by rfl) T.c_NoName rfl) pa_nil (by rfl)) (by rfl))) pa_nil (by rfl)) (by rfl)) (by rfl)) (by rfl)) (by rfl)) (by rfl)) (by rfl)) (by rfl)) (by rfl)) (by rfl)) (by rfl)) (by rfl)) (by rfl)) (by rfl)) (by rfl))) (by rfl) (Or.inl rfl)))) hd_none))
   (@pss_one _ _ _ (ps_ret (@pe_tup _ _ _ _ _ (@pa_cons _ _ _ _ _ (pv 2) (@pa_cons _ _ _ _ _ (pv 3) pa_nil (by rfl)) (by rfl)))))))), ?_⟩
  have hln := unr_len (f := fun x => x) (bodR_len rs.reverse) T0
  let L : List P9 := unr (fun x => x) (bodR rs.reverse) T0
  have bT : ¬ T0.cnt (cntR rs.reverse) ≤ 200 → bad hp L = some 3 := fun z => if_neg (show ¬ (unr (fun x => x) (bodR rs.reverse) T0).length ≤ 200 by omega)
  have bL : T0.cnt (cntR rs.reverse) ≤ 200 → bad hp L = (jOut hp L).map Kd.ix := fun z => if_pos (show (unr (fun x => x) (bodR rs.reverse) T0).length ≤ 200 by omega)
  refine ⟨sz (by simp), fun kk hkk => ?_⟩
  have t0 := Same.upd (o := .lst []) hkk
  refine ⟨_, rfl, _, rfl, a0, v, xs, hp, rs, T0, rfl, t0 _ _ ha, Paired.mapP hX (fun _ _ h => h.ts t0.ts), hpl, hS.ts t0.ts, hso, fun z H1 s1 => ?_, fun hle => ⟨fun q z H1 s1 => ?_, fun z l vs H1 s1 fl hl hP => ?_⟩⟩
  ·refine ⟨true, T.m_TooMany_TierError, ?_⟩
   refine iteT ?_
   intro a ha
   have hE : upd H1 a (excO a (.ref ca.TooMany)) a = some (excO a (.ref ca.TooMany)) := upd_same
   have ta := Same.upd (o := excO a (.ref ca.TooMany)) ha
   refine ⟨_, rfl, a, ca.TooMany, _, _, rfl, hE, T.x_TooMany, .inr (.inl ⟨_, rfl, T.i_TooMany_NoPlace⟩), _, rfl, a, ca.TooMany, _, _, rfl, hE, T.x_TooMany, .inr (.inl ⟨_, rfl, T.i_TooMany_NoCask⟩), _, rfl, a, ca.TooMany, _, _, rfl, hE, T.x_TooMany, .inr (.inl ⟨_, rfl, T.i_TooMany_NoRule⟩), _, rfl, a, ca.TooMany, _, _, rfl, hE, T.x_TooMany, .inr (.inl ⟨_, rfl, T.i_TooMany_TooMany⟩), _, rfl, a, ca.TooMany, _, _, rfl, hE, T.x_TooMany, .inr (.inl ⟨_, rfl, T.i_TooMany_NoText⟩), _, rfl, a, ca.TooMany, _, _, rfl, hE, T.x_TooMany, .inl ⟨_, rfl, T.v_TooMany⟩, _, rfl, a, ca.TooMany, _, _, rfl, hE, T.x_TooMany, .inr (.inl ⟨_, rfl, T.i_TooMany_NoNumber⟩), _, rfl, a, ca.TooMany, _, _, rfl, hE, T.x_TooMany, .inr (.inl ⟨_, rfl, T.i_TooMany_Lacking⟩), _, rfl, a, ca.TooMany, _, _, rfl, hE, T.x_TooMany, .inr (.inl ⟨_, rfl, T.i_TooMany_Full⟩), _, rfl, a, ca.TooMany, _, _, rfl, hE, T.x_TooMany, .inr (.inl ⟨_, rfl, T.i_TooMany_NotSteady⟩), _, rfl, a, ca.TooMany, _, _, rfl, hE, T.x_TooMany, .inr (.inl ⟨_, rfl, T.i_TooMany_NoDeed⟩), _, rfl, a, ca.TooMany, _, _, rfl, hE, T.x_TooMany, .inr (.inl ⟨_, rfl, T.i_TooMany_Tied⟩), _, rfl, a, ca.TooMany, _, _, rfl, hE, T.x_TooMany, .inr (.inl ⟨_, rfl, T.i_TooMany_NoChange⟩), _, rfl, a, ca.TooMany, _, _, rfl, hE, T.x_TooMany, .inr (.inl ⟨_, rfl, T.i_TooMany_NoRow⟩), _, rfl, a, ca.TooMany, _, _, rfl, hE, T.x_TooMany, .inr (.inl ⟨_, rfl, T.i_TooMany_NoName⟩), sz (by simp), fun kn hkn => ?_⟩
   have tn := Same.upd (o := .lst (knd 3)) hkn
   refine ⟨_, rfl, _, rfl, sz (by simp), fun p hp => ?_⟩
   have tp := Same.upd (o := .tup [.non, .ref kn]) hp
   exact k p _ (t0.trans (s1.trans (ta.trans (tn.trans tp)))) ⟨p, kn, .non, rfl, upd_same, (t0.trans (s1.trans ta)).free hkn, .inl ⟨3, bT z, rfl, tp _ _ upd_same⟩⟩
  ·have eb : bad hp L = some q.ix := by rw [bL hle]; show (jOut hp L).map Kd.ix = _; rw [show jOut hp L = some q from z]; rfl
   cases q with
   | np =>
    refine ⟨true, T.m_NoPlace_TierError, ?_⟩
    refine iteT ?_
    intro a ha
    have hE : upd H1 a (excO a (.ref ca.NoPlace)) a = some (excO a (.ref ca.NoPlace)) := upd_same
    have ta := Same.upd (o := excO a (.ref ca.NoPlace)) ha
    refine ⟨_, rfl, a, ca.NoPlace, _, _, rfl, hE, T.x_NoPlace, .inr (.inl ⟨_, rfl, T.i_NoPlace_NoPlace⟩), _, rfl, a, ca.NoPlace, _, _, rfl, hE, T.x_NoPlace, .inr (.inl ⟨_, rfl, T.i_NoPlace_NoCask⟩), _, rfl, a, ca.NoPlace, _, _, rfl, hE, T.x_NoPlace, .inr (.inl ⟨_, rfl, T.i_NoPlace_NoRule⟩), _, rfl, a, ca.NoPlace, _, _, rfl, hE, T.x_NoPlace, .inr (.inl ⟨_, rfl, T.i_NoPlace_TooMany⟩), _, rfl, a, ca.NoPlace, _, _, rfl, hE, T.x_NoPlace, .inr (.inl ⟨_, rfl, T.i_NoPlace_NoText⟩), _, rfl, a, ca.NoPlace, _, _, rfl, hE, T.x_NoPlace, .inl ⟨_, rfl, T.v_NoPlace⟩, _, rfl, a, ca.NoPlace, _, _, rfl, hE, T.x_NoPlace, .inr (.inl ⟨_, rfl, T.i_NoPlace_NoNumber⟩), _, rfl, a, ca.NoPlace, _, _, rfl, hE, T.x_NoPlace, .inr (.inl ⟨_, rfl, T.i_NoPlace_Lacking⟩), _, rfl, a, ca.NoPlace, _, _, rfl, hE, T.x_NoPlace, .inr (.inl ⟨_, rfl, T.i_NoPlace_Full⟩), _, rfl, a, ca.NoPlace, _, _, rfl, hE, T.x_NoPlace, .inr (.inl ⟨_, rfl, T.i_NoPlace_NotSteady⟩), _, rfl, a, ca.NoPlace, _, _, rfl, hE, T.x_NoPlace, .inr (.inl ⟨_, rfl, T.i_NoPlace_NoDeed⟩), _, rfl, a, ca.NoPlace, _, _, rfl, hE, T.x_NoPlace, .inr (.inl ⟨_, rfl, T.i_NoPlace_Tied⟩), _, rfl, a, ca.NoPlace, _, _, rfl, hE, T.x_NoPlace, .inr (.inl ⟨_, rfl, T.i_NoPlace_NoChange⟩), _, rfl, a, ca.NoPlace, _, _, rfl, hE, T.x_NoPlace, .inr (.inl ⟨_, rfl, T.i_NoPlace_NoRow⟩), _, rfl, a, ca.NoPlace, _, _, rfl, hE, T.x_NoPlace, .inr (.inl ⟨_, rfl, T.i_NoPlace_NoName⟩), sz (by simp), fun kn hkn => ?_⟩
    have tn := Same.upd (o := .lst (knd Kd.np.ix)) hkn
    refine ⟨_, rfl, _, rfl, sz (by simp), fun p hp => ?_⟩
    have tp := Same.upd (o := .tup [.non, .ref kn]) hp
    exact k p _ (t0.trans (s1.trans (ta.trans (tn.trans tp)))) ⟨p, kn, .non, rfl, upd_same, (t0.trans (s1.trans ta)).free hkn, .inl ⟨Kd.np.ix, eb, rfl, tp _ _ upd_same⟩⟩
   | nc =>
    refine ⟨true, T.m_NoCask_TierError, ?_⟩
    refine iteT ?_
    intro a ha
    have hE : upd H1 a (excO a (.ref ca.NoCask)) a = some (excO a (.ref ca.NoCask)) := upd_same
    have ta := Same.upd (o := excO a (.ref ca.NoCask)) ha
    refine ⟨_, rfl, a, ca.NoCask, _, _, rfl, hE, T.x_NoCask, .inr (.inl ⟨_, rfl, T.i_NoCask_NoPlace⟩), _, rfl, a, ca.NoCask, _, _, rfl, hE, T.x_NoCask, .inr (.inl ⟨_, rfl, T.i_NoCask_NoCask⟩), _, rfl, a, ca.NoCask, _, _, rfl, hE, T.x_NoCask, .inr (.inl ⟨_, rfl, T.i_NoCask_NoRule⟩), _, rfl, a, ca.NoCask, _, _, rfl, hE, T.x_NoCask, .inr (.inl ⟨_, rfl, T.i_NoCask_TooMany⟩), _, rfl, a, ca.NoCask, _, _, rfl, hE, T.x_NoCask, .inr (.inl ⟨_, rfl, T.i_NoCask_NoText⟩), _, rfl, a, ca.NoCask, _, _, rfl, hE, T.x_NoCask, .inl ⟨_, rfl, T.v_NoCask⟩, _, rfl, a, ca.NoCask, _, _, rfl, hE, T.x_NoCask, .inr (.inl ⟨_, rfl, T.i_NoCask_NoNumber⟩), _, rfl, a, ca.NoCask, _, _, rfl, hE, T.x_NoCask, .inr (.inl ⟨_, rfl, T.i_NoCask_Lacking⟩), _, rfl, a, ca.NoCask, _, _, rfl, hE, T.x_NoCask, .inr (.inl ⟨_, rfl, T.i_NoCask_Full⟩), _, rfl, a, ca.NoCask, _, _, rfl, hE, T.x_NoCask, .inr (.inl ⟨_, rfl, T.i_NoCask_NotSteady⟩), _, rfl, a, ca.NoCask, _, _, rfl, hE, T.x_NoCask, .inr (.inl ⟨_, rfl, T.i_NoCask_NoDeed⟩), _, rfl, a, ca.NoCask, _, _, rfl, hE, T.x_NoCask, .inr (.inl ⟨_, rfl, T.i_NoCask_Tied⟩), _, rfl, a, ca.NoCask, _, _, rfl, hE, T.x_NoCask, .inr (.inl ⟨_, rfl, T.i_NoCask_NoChange⟩), _, rfl, a, ca.NoCask, _, _, rfl, hE, T.x_NoCask, .inr (.inl ⟨_, rfl, T.i_NoCask_NoRow⟩), _, rfl, a, ca.NoCask, _, _, rfl, hE, T.x_NoCask, .inr (.inl ⟨_, rfl, T.i_NoCask_NoName⟩), sz (by simp), fun kn hkn => ?_⟩
    have tn := Same.upd (o := .lst (knd Kd.nc.ix)) hkn
    refine ⟨_, rfl, _, rfl, sz (by simp), fun p hp => ?_⟩
    have tp := Same.upd (o := .tup [.non, .ref kn]) hp
    exact k p _ (t0.trans (s1.trans (ta.trans (tn.trans tp)))) ⟨p, kn, .non, rfl, upd_same, (t0.trans (s1.trans ta)).free hkn, .inl ⟨Kd.nc.ix, eb, rfl, tp _ _ upd_same⟩⟩
   | nr => exact absurd z jOut_nr
  ·refine ⟨_, rfl, _, rfl, sz (by simp), fun p hq => ?_⟩
   have t2 := Same.upd (o := .tup [.ref l, .ref kk]) hq
   exact k p _ (t0.trans (s1.trans t2)) ⟨p, kk, .ref l, rfl, upd_same, hkk, .inr ⟨by rw [show unr (fun x => x) (bodR rs.reverse) T0 = L from rfl, bL hle, show jOut hp L = none from z]; rfl, t2 _ _ (s1 _ _ upd_same), l, vs, rfl, t0.free fl, t2 _ _ hl, Paired.mapP hP fun _ _ h => h.ts t2.ts⟩⟩
end
end T09
namespace T09
open PySem L2 Tc
section
variable {P : Program} {w : World} {K : PySem.W.Frag} {mg : Str → Option Value} {base : Heap}
noncomputable abbrev s__law_only : Stmt := top 50
theorem sc__law_only : FnScope ["_law_place"] ["_law_place"] (defScope s__law_only) := ⟨rfl, rfl, rfl, by decide +kernel, rfl, by decide +kernel, by decide +kernel⟩
theorem ok__law_only {ca : Ca} (D : DefAt K mg "_law_only" s__law_only) (T : Txt K mg ca) : FnAt P w K mg base CX0 1 "_law_only" ["_law_place"] (spOnly8) := by
 refine D.ok sc__law_only (fun vs H Q E h => ?_) (fun _ _ _ _ _ _ us hl => match us, hl with | [_], _ => rfl) (fun f cdv A outer s H vs Q E hr h => ?_)
 ·obtain ⟨i, rfl, k⟩ := h; rfl
 ·obtain ⟨i, rfl, k⟩ := h
  have nd := sc__law_only.nd
  refine ⟨_, (@pss_one _ _ _ (ps_ret (pe_comp ["_law_k"] ["_law_place"] [0] rfl (by rfl) (pi_range1 (by rfl) T.z_range (@pa_cons _ _ _ _ _ pe_int pa_nil (by rfl))) (fun _ _ _ _ => (pg_name (i := 0) (show List.Nodup (["_law_k", "_law_place"] : List Str) from by decide) rfl (Or.inl rfl))) (fun _ _ _ _ => pif_none) (fun _ _ _ _ => (pe_or (pe_cmpR op_eq (pv 0) (pv 1) (nomark _)) (pe_one (pe_cmpR op_eq (pv 0) pe_int (nomark _)))))))), ?_⟩
  refine ⟨_, rfl, by decide, by decide, fun D hD => ?_⟩
  refine block_range (fun j σ' H' => ∃ v : Option V, σ' = [v, some (.int i)] ∧ Same H H' ∧ H' D = some (.lst ((List.range j).map fun (j : Nat) => V.bl (decide ((j : Int) = i) || decide ((j : Int) = 5))))) ⟨none, rfl, Same.upd hD, upd_same⟩ ?_ ?_
  ·rintro j σ' H' hj ⟨v, rfl, s1, h1⟩
   have hj : j < 15 := hj
   have e1 : decide (V.int (0 + (j : Nat)) = V.int i) = decide ((j : Int) = i) := by rw [Int.zero_add]; exact decide_eq_decide.mpr ⟨V.int.inj, congrArg V.int⟩
   have e2 : decide (V.int (0 + (j : Nat)) = V.int 5) = decide ((j : Int) = 5) := by rw [Int.zero_add]; exact decide_eq_decide.mpr ⟨V.int.inj, congrArg V.int⟩
   have tl : (((List.range j).map fun (j : Nat) => V.bl (decide ((j : Int) = i) || decide ((j : Int) = 5))).length).succ ≤ 1000 := by rw [List.length_map, List.length_range]; omega
   refine ⟨_, rfl, _, rfl, rfl, _, rfl, ?_⟩
   refine ite2 (fun h => ?_) (fun h => ?_)
   ·refine ⟨_, h1, sz tl, _, rfl, s1.updD hD, ?_⟩
    rw [e1] at h
    rw [upd_same, List.range_succ, List.map_append, List.map_singleton, h, Bool.true_or]
   ·refine ⟨_, rfl, rfl, _, h1, sz tl, _, rfl, s1.updD hD, ?_⟩
    rw [e1] at h
    rw [upd_same, List.range_succ, List.map_append, List.map_singleton, e2, Bool.eq_false_iff.mpr h, Bool.false_or]
  rintro σ' H' ⟨v, rfl, s1, h1⟩
  exact k D H' s1 h1
end
end T09
namespace T09
open PySem L2 Tc
section
variable {P : Program} {w : World} {K : PySem.W.Frag} {mg : Str → Option Value} {base : Heap}
noncomputable abbrev s_law : Stmt := top 51
theorem sc_law : FnScope ["_law_script_here", "_law_house_here", "_law_made", "_law_words_here", "_law_due", "_law_sinks", "_law_handed", "_law_turn", "_law_found", "_law_kinds"] ["_law_script_here"] (defScope s_law) := ⟨rfl, rfl, rfl, by decide +kernel, rfl, by decide +kernel, by decide +kernel⟩
theorem ok_law {ca : Ca} {f : Addr} {fd : FuncData} (D : Fun K "law" "law" s_law f fd) (T : Txt K mg ca) (G__law_house : FnAt P w K mg base CX0 3 "_law_house" ["_law_script_here"] (spHs8 K)) (G__law_script : FnAt P w K mg base CX0 6 "_law_script" ["_law_script_here", "_law_house_here", "_law_start"] (spSc9 K)) (G__law_told : FnAt P w K mg base CX0 14 "_law_told" ["_law_house_here", "_law_made"] (spTold9 K)) (G__law_only : FnAt P w K mg base CX0 1 "_law_only" ["_law_place"] (spOnly8)) (G__law_fits : FnAt P w K mg base CX0 1 "_law_fits" ["_law_deed", "_law_sinks"] (spFt9 K)) (G__law_alike : FnAt P w K mg base CX0 5 "_law_alike" ["_law_found", "_law_due"] (spAlk K 4)) : FnOk P w K mg base CX0 15 f fd ["_law_script_here"] (spLaw K) := by
 refine D.ok sc_law (fun vs H Q E h => ?_) (fun cdv A outer s H vs Q E hr h => ?_)
 ·obtain ⟨a, ns, rfl, hS, hlen, k⟩ := h; rfl
 ·obtain ⟨a, ns, rfl, hS, hlen, k⟩ := h
  have nd := sc_law.nd
  refine ⟨_, (@pss_cons _ _ _ _ _ (@ps_set _ _ 1 _ _ _ _ nd rfl (Or.inl rfl) (pe_fn G__law_house hr (by rfl) pass0 (@pa_cons _ _ _ _ _ (pv 0) pa_nil (by rfl))) (by rfl) (Or.inl rfl))
   (@pss_cons _ _ _ _ _ (ps_asg (pe_fn G__law_script hr (by rfl) pass0 (@pa_cons _ _ _ _ _ (pv 0) (@pa_cons _ _ _ _ _ (pv 1) (@pa_cons _ _ _ _ _ pe_int pa_nil (by rfl)) (by rfl)) (by rfl))) (pg_tup rfl (pgs_cons (pg_name (i := 2) nd rfl (Or.inl rfl)) (pgs_cons (pg_name (i := 3) nd rfl (Or.inl rfl)) (pgs_cons (pg_name (i := 4) nd rfl (Or.inl rfl)) pgs_nil)))))
   (@pss_cons _ _ _ _ _ (@ps_set _ _ 5 _ _ _ _ nd rfl (Or.inr rfl) (pe_comp ["_law_one"] [] [] rfl (by rfl) (pi_list' (K := K) rfl (pv 1)) (fun _ _ _ _ => (pg_name (i := 0) (show List.Nodup (["_law_one"] : List Str) from by decide) rfl (Or.inl rfl))) (fun _ _ _ _ => (pif_one (pt_cmpR op_eq (pe_ix (ix_tup' (K := K) rfl) (pv 0) pe_int (fun _ _ => rfl)) pe_str (nomark _)))) (fun _ _ _ _ => (pe_ix (ix_tup' (K := K) rfl) (pv 0) pe_int (fun _ _ => rfl)))) (by rfl) (Or.inl rfl))
   (@pss_cons _ _ _ _ _ (@ps_set _ _ 6 _ _ _ _ nd rfl (Or.inl rfl) (pe_callTy (call_list_of' (K := K) rfl) (by rfl) T.z_list bt_list (@pa_cons _ _ _ _ _ (pv 1) pa_nil (by rfl))) (by rfl) (Or.inl rfl))
   (@pss_cons _ _ _ _ _ (ps_for PassesOwn.never rfl (pi_range1 (by rfl) T.z_range (@pa_cons _ _ _ _ _ pe_int pa_nil (by rfl))) (pg_name (i := 7) nd rfl (Or.inl rfl)) (@pss_cons _ _ _ _ _ (ps_asg (pe_fn G__law_told hr (by rfl) pass0 (@pa_cons _ _ _ _ _ (pv 6) (@pa_cons _ _ _ _ _ (pv 2) pa_nil (by rfl)) (by rfl))) (pg_tup rfl (pgs_cons (pg_name (i := 8) nd rfl (Or.inl rfl)) (pgs_cons (pg_name (i := 9) nd rfl (Or.inl rfl)) pgs_nil))))
   (@pss_cons _ _ _ _ _ (ps_if (pt_cmpR (op_neS (K := K) rfl hr) (pv 6) (pv 1) (nomark _)) (@pss_one _ _ _ (ps_ret pe_bl)) pss_nil)
   (@pss_cons _ _ _ _ _ (ps_if (pt_cmpR op_isN (pv 4) pe_non (nomark _)) (@pss_one _ _ _ (ps_ret (pe_cmpR (op_eqD' (K := K) rfl hr) (pv 9) (pe_fn G__law_only hr (by rfl) pass0 (@pa_cons _ _ _ _ _ pe_int pa_nil (by rfl))) (nomark _)))) pss_nil)
   (@pss_cons _ _ _ _ _ (ps_if (pt_not (pt_val (pe_callB (call_all' (K := K) rfl rfl) (by rfl) T.z_all bt_all (@pa_cons _ _ _ _ _ (pe_comp ["_law_deed"] ["_law_sinks"] [5] rfl (by rfl) (pi_list' (K := K) rfl (pv 4)) (fun _ _ _ _ => (pg_name (i := 0) (show List.Nodup (["_law_deed", "_law_sinks"] : List Str) from by decide) rfl (Or.inl rfl))) (fun _ _ _ _ => pif_none) (fun _ _ _ _ => (pe_fn G__law_fits hr (by rfl) pass0 (@pa_cons _ _ _ _ _ (pv 0) (@pa_cons _ _ _ _ _ (pv 1) pa_nil (by rfl)) (by rfl))))) pa_nil (by rfl))))) (@pss_one _ _ _ (ps_ret (pe_cmpR (op_eqD' (K := K) rfl hr) (pv 9) (pe_fn G__law_only hr (by rfl) pass0 (@pa_cons _ _ _ _ _ pe_int pa_nil (by rfl))) (nomark _)))) pss_nil)
   (@pss_cons _ _ _ _ _ (ps_if (PW.pt (pw_or (pt_cmpR (op_neD' (K := K) rfl hr) (pv 9) (@pe_lst _ _ _ _ pa_nil) (nomark _)) (pw_or (pt_not (pt_val (pe_callB (call_isi' (K := K) rfl) (by rfl) T.z_isinstance bt_isinstance (@pa_cons _ _ _ _ _ (pv 8) (@pa_cons _ _ _ _ _ (pe_bltn (v := .ty "list") (by rfl) T.z_list bt_list rfl) pa_nil (by rfl)) (by rfl))))) (pw_or1 (pt_not (pt_val (pe_fn G__law_alike hr (by rfl) pass0 (@pa_cons _ _ _ _ _ (pe_callTy (call_tuple_of' (K := K) rfl) (by rfl) T.z_tuple bt_tuple (@pa_cons _ _ _ _ _ (pv 8) pa_nil (by rfl))) (@pa_cons _ _ _ _ _ (pe_callTy (call_tuple_of' (K := K) rfl) (by rfl) T.z_tuple bt_tuple (@pa_cons _ _ _ _ _ (pv 4) pa_nil (by rfl))) pa_nil (by rfl)) (by rfl))))))))) (@pss_one _ _ _ (ps_ret pe_bl)) pss_nil)
   (@pss_one _ _ _ (ps_expr (pe_bm PySem.F.plainAttrs_list PySem.F.slot_list_append PySem.F.type_list_append mt_append (pv 8) (@pa_cons _ _ _ _ _ (@pe_tup _ _ _ _ _ (@pa_cons _ _ _ _ _ pe_str pa_nil (by rfl))) pa_nil (by rfl)))))))))))
   (@pss_one _ _ _ (ps_ret pe_bl))))))), ?_⟩
  refine ⟨_, rfl, a, ns, rfl, hS, fun hh xs hp H1 s1 fh hhh hPh hok => ?_⟩
  have hp20 := hok.1
  refine ⟨_, rfl, _, rfl, a, hh, ns, xs, hp, rfl, s1.seq hS, hhh, hPh, hok, fun pt mv sv tx rs T H2 s2 hpt hSv hSc hSo => ?_⟩
  refine ⟨pt, _, rfl, SqT.of hpt, rfl, _, _, rfl, _, _, rfl, _, _, rfl, rfl, ?_⟩
  show Ends.nx _ [some (.ref a), some (.ref hh), some mv, some (.str tx), some sv, none, none, none, none, none] H2
  obtain ⟨ah, hrl, hhas, hdp, hall, hne, hrows⟩ := id hSc
  have hdp : T.dep + 1 ≤ 9 := hdp
  let L : List P9 := unr (fun x => x) (bodR rs.reverse) T
  have htx : ∀ d ∈ L, d.txt := fun d hd => kk_txt hok (hall d hd).1
  have hok9 : ∀ d ∈ L, d.ok := fun d hd => (hall d hd).2
  have hfo : jOut hp L = if (L.map (fits (sks hp))).all id = true then none else some .nc := out_fit hok fun d hd => (hall d hd).1
  have hso := so9_of hSv ah (by omega) hhas (by omega) htx
  have hPh2 := Paired.mapP hPh fun _ _ h => h.ts s2.ts
  have hh2 := s2 _ _ hhh
  refine ⟨_, rfl, hh, rfl, ⟨_, SqL.of hh2⟩, fun D hD => ?_⟩
  refine block_list (xs := xs) (fun j σ' H' => ∃ (v : Option V), σ' = [v] ∧ Same H2 H' ∧ H' D = some (.lst ((((hp.take j).filter isSk).map (·.1)).map V.str))) ⟨none, rfl, Same.upd hD, upd_same⟩ ?_ ?_ ?_
  ·rintro j σ' H' hj ⟨v, rfl, s4, _⟩
   exact SqL.of (s4 _ _ hh2)
  ·rintro j x σ' H' hx ⟨v, rfl, s4, hd4⟩
   obtain ⟨q, hq, b2, r2, rfl, hb2⟩ := paired_get hPh2 hx
   have hb2 := s4 _ _ hb2
   have hj : j < hp.length := (List.getElem?_eq_some_iff.mp hq).1
   have hfl : ((hp.take j).filter isSk).length ≤ j := Nat.le_trans (List.length_filter_le _ _) (by rw [List.length_take]; omega)
   have etk : (hp.take (j + 1)).filter isSk = (hp.take j).filter isSk ++ (if isSk q = true then [q] else []) := by
    rw [List.take_add_one, hq, List.filter_append]
    congr 1
    show [q].filter isSk = _
    rw [List.filter_cons, List.filter_nil]
   refine ⟨_, rfl, b2, _, 0, _, rfl, rfl, SqT.of hb2, at_0 _ _, rfl, _, rfl, ?_⟩
   refine ite2 (fun h => ?_) (fun h => ?_)
   ·have h : isSk q = true := decide_eq_true (V.str.inj (of_decide_eq_true h))
    refine ⟨_, rfl, b2, _, 1, _, rfl, rfl, SqT.of hb2, at_1 _ _ _, _, hd4, by rw [List.length_map, List.length_map]; exact sz (by omega), _, rfl, s4.updD hD, ?_⟩
    rw [upd_same, etk, if_pos h, List.map_append, List.map_append]; rfl
   ·have h : ¬ isSk q = true := fun z => h (decide_eq_true (congrArg V.str (of_decide_eq_true z)))
    refine ⟨_, rfl, s4, ?_⟩
    rw [etk, if_neg h, List.append_nil]; exact hd4
  rintro σ' H3 ⟨v, rfl, s3, hd3⟩
  rw [hPh.length, List.take_length] at hd3
  have hd3 : H3 D = some (.lst ((sks hp).map V.str)) := hd3
  show Ends.nx _ [some (.ref a), some (.ref hh), some mv, some (.str tx), some sv, some (.ref D), none, none, none, none] H3
  refine ⟨_, rfl, hh, _, rfl, .inl (SqL.of (s3 _ _ hh2)), fun hd ghd => ?_⟩
  have uh := Same.upd (o := .lst xs) ghd
  show Ends.nx _ [some (.ref a), some (.ref hh), some mv, some (.str tx), some sv, some (.ref D), some (.ref hd), none, none, none] _
  refine sealH (F := fun Hn => Same H2 Hn ∧ Hn D = some (.lst ((sks hp).map V.str)) ∧ Hn hd = some (.lst xs)) ⟨s3.trans uh, uh _ _ hd3, upd_same⟩ ?_
  rintro H4 ⟨s4, hD4, hhd4⟩
  have hh4 := s4 _ _ hh2
  have hPh4 := Paired.mapP hPh2 fun _ _ h => h.ts s4.ts
  have hSv4 := hSv.ts s4.ts
  have hSo4 := hSo.same s4
  have hrefs : ∀ x ∈ xs, ∃ b, x = V.ref b := fun x hx => by
   obtain ⟨_, _, b, _, e, _⟩ := paired_mem hPh hx
   exact ⟨b, e⟩
  refine ⟨_, rfl, by decide, by decide, ?_⟩
  refine for_range (fun i σ H5 => ∃ (v7 v8 v9 : Option V), σ = [some (.ref a), some (.ref hh), some mv, some (.str tx), some sv, some (.ref D), some (.ref hd), v7, v8, v9] ∧ Same H4 H5) ⟨none, none, none, rfl, Same.refl _⟩ ?_ ?_
  ·rintro i σ H5 hi ⟨v7, v8, v9, rfl, s5⟩
   refine ⟨_, rfl, _, rfl, hd, mv, xs, hp, rs, T, rfl, s5 _ _ hhd4, Paired.mapP hPh4 (fun _ _ h => h.ts s5.ts), by omega, hSv4.ts s5.ts, hso, fun p1 H6 s6 hT1 => ?_⟩
   obtain ⟨a1, kn, b, e1, ha1, hkN, htd⟩ := hT1
   have s46 := s5.trans s6
   refine ⟨a1, _, e1, SqT.of ha1, rfl, _, _, rfl, _, _, rfl, rfl, ?_⟩
   show Ends.nx _ [some (.ref a), some (.ref hh), some mv, some (.str tx), some sv, some (.ref D), some (.ref hd), some (.int (0 + (i : Int))), some b, some (.ref kn)] H6
   refine ⟨_, rfl, _, rfl, ⟨hd, hh, xs, xs, rfl, rfl, SqL.of (s46 _ _ hhd4), SqL.of (s46 _ _ hh4), AlS.refls 3 hrefs⟩, _, rfl, ?_⟩
   refine iteF ?_
   refine ⟨_, rfl, rfl, _, rfl, ?_⟩
   have hSo6 := hSo4.same s46
   by_cases h200 : L.length ≤ 200
   ·rw [show lim (unr (fun x => x) (bodR rs.reverse) T) = some L from lim_le h200] at hSo6
    obtain ⟨da, dvs, rfl, hda, hPd⟩ := hSo6
    have hdl := hPd.length
    refine iteF ?_
    refine ⟨_, rfl, da, rfl, ⟨_, SqL.of hda⟩, fun E hE => ?_⟩
    refine block_list (xs := dvs) (fun j σ' H' => ∃ (v : Option V), σ' = [v, some (.ref D)] ∧ Same H6 H' ∧ H' E = some (.lst (((L.take j).map (fits (sks hp))).map V.bl))) ⟨none, rfl, Same.upd hE, upd_same⟩ ?_ ?_ ?_
    ·rintro j σ' H' hj ⟨v, rfl, s7, _⟩
     exact SqL.of (s7 _ _ hda)
    ·rintro j x σ' H' hx ⟨v, rfl, s7, hE7⟩
     obtain ⟨d, hd', hv⟩ := paired_get hPd hx
     have hdm := List.mem_of_getElem? hd'
     have hj : j < L.length := (List.getElem?_eq_some_iff.mp hd').1
     refine ⟨_, rfl, _, rfl, x, D, d, sks hp, rfl, hv.ts s7.ts, hok9 d hdm, htx d hdm, (s46.trans s7) _ _ hD4, ?_⟩
     refine ⟨_, hE7, by rw [List.length_map, List.length_map, List.length_take]; exact sz (by omega), _, rfl, s7.updD hE, ?_⟩
     rw [upd_same, List.take_add_one, hd', List.map_append, List.map_append]; rfl
    rintro σ' H7 ⟨v, rfl, s7, hE7⟩
    rw [hdl, List.take_length] at hE7
    have s47 := s46.trans s7
    refine ⟨E, _, rfl, SqL.of hE7, _, rfl, ?_⟩
    by_cases hf : (L.map (fits (sks hp))).all id = true
    ·rw [if_pos hf] at hfo
     have hbn : bad hp L = none := bad_none.mpr ⟨h200, hfo⟩
     refine ite2 (fun z => absurd z (by rw [hf]; decide)) (fun _ => ?_)
     rcases htd with ⟨i7, hi7, _, _⟩ | ⟨_, hk7, l, vs, rfl, fl, hl, hPl⟩
     ·rw [show bad hp (unr (fun x => x) (bodR rs.reverse) T) = none from hbn] at hi7; cases hi7
     have hvl : vs.length = L.length := hPl.length
     refine ⟨_, rfl, sz (by simp), fun pe he => ?_⟩
     have ue := Same.upd (o := .lst []) he
     refine ⟨.list [], .list [], rep_nil (ue _ _ (s7 _ _ hk7)), rep_nil upd_same, by decide, _, rfl, ?_⟩
     refine iteF ?_
     have s68 := s7.trans ue
     have hl8 := s68 _ _ hl
     have tyl : tyS (upd H7 pe (.lst [])) (.ref l) = some "list" := by show tyH (upd H7 pe (.lst []) l) = _; rw [hl8]; rfl
     refine ⟨_, rfl, _, _, _, _, rfl, tyOf_of tyl, kit_tt (by decide) (by decide), _, rfl, ?_⟩
     refine ite2 (fun z => nomatch z) (fun _ => ?_)
     refine ⟨_, rfl, l, _, rfl, .inl ⟨SqL.of hl8, fun t1 g1 => ?_⟩⟩
     have u1 := Same.upd (o := .tup vs) g1
     refine ⟨_, rfl, da, _, rfl, .inl ⟨SqL.of (u1 _ _ (s68 _ _ hda)), fun t2 g2 => ?_⟩⟩
     have u2 := Same.upd (o := .tup dvs) g2
     have s69 := s68.trans (u1.trans u2)
     refine ⟨.ref t1, .ref t2, rfl, alk_t (u2 _ _ upd_same) upd_same (by omega) (alk_ps (Paired.mapP hPl fun _ _ h => h.ts s69.ts) (Paired.mapP hPd fun _ _ h => h.ts s69.ts)), fun H9 s9 => ⟨_, rfl, ?_⟩⟩
     refine ite2 (fun z => nomatch z) (fun _ => ?_)
     have s6a := s69.trans s9
     refine ⟨_, rfl, .inl ⟨rfl, _, SqL.of (s6a _ _ hl)⟩, sz (by simp), fun y gy => ?_⟩
     have uy := Same.upd (o := .tup [.str (Str.ofString "year")]) gy
     refine ⟨l, _, _, rfl, rfl, uy _ _ (s6a _ _ hl), sz (by omega), ?_⟩
     exact ⟨_, _, _, rfl, (s46.trans (s6a.trans uy)).updD (s5.free fl)⟩
    ·rw [if_neg hf] at hfo
     have hb1 : bad hp L = some 1 := by
      unfold bad
      rw [if_pos h200, hfo]; rfl
     refine ite2 (fun _ => ?_) (fun z => absurd (by rw [Bool.eq_false_iff.mpr hf]; rfl) z)
     rcases htd with ⟨i7, hi7, _, hk7⟩ | ⟨hb8, _⟩
     ·rw [show bad hp (unr (fun x => x) (bodR rs.reverse) T) = some 1 from hb1] at hi7
      obtain rfl : 1 = i7 := Option.some.inj hi7
      refine ⟨_, rfl, 1, rfl, fun l6 H8 s8 hl6 => ?_⟩
      have r1 : RepD K H8 (dKn 1) (.ref kn) := rep_kn (s8 _ _ (s7 _ _ hk7))
      refine ⟨_, _, r1, rep_kn hl6, dep_kn _, ?_⟩
      rw [PySem.SeqAt.eqv_refl _ r1.lay]
      exact k _
     ·rw [show bad hp (unr (fun x => x) (bodR rs.reverse) T) = some 1 from hb1] at hb8; cases hb8
   ·rw [show lim (unr (fun x => x) (bodR rs.reverse) T) = none from lim_gt h200] at hSo6
    have hSo6 : sv = .non := hSo6
    subst hSo6
    refine iteT ?_
    have hb3 : bad hp L = some 3 := if_neg h200
    rcases htd with ⟨i7, hi7, _, hk7⟩ | ⟨hb8, _⟩
    ·rw [show bad hp (unr (fun x => x) (bodR rs.reverse) T) = some 3 from hb3] at hi7
     obtain rfl : 3 = i7 := Option.some.inj hi7
     refine ⟨_, rfl, 3, rfl, fun l6 H7 s7 hl6 => ?_⟩
     have r1 : RepD K H7 (dKn 3) (.ref kn) := rep_kn (s7 _ _ hk7)
     refine ⟨_, _, r1, rep_kn hl6, dep_kn _, ?_⟩
     rw [PySem.SeqAt.eqv_refl _ r1.lay]
     exact k _
    ·rw [show bad hp (unr (fun x => x) (bodR rs.reverse) T) = some 3 from hb3] at hb8; cases hb8
  ·rintro σ H5 ⟨v7, v8, v9, rfl, s5⟩
   exact k _
end
end T09
namespace T09
open PySem L2 Tc
theorem all_mk {l : PySem.W.OpenLaw} {w : World} {K : PySem.W.Frag} {h : Heap} {mg : Str → Option Value} {fa : Addr} (X : K.In h) (G : h.Ns mainGlobals mg) (hfa : mg "law" = some (.ref fa))
  {k_Full : Addr}
  {k_Lacking : Addr}
  {k_NoCask : Addr}
  {k_NoChange : Addr}
  {k_NoDeed : Addr}
  {k_NoName : Addr}
  {k_NoNumber : Addr}
  {k_NoPlace : Addr}
  {k_NoRow : Addr}
  {k_NoRule : Addr}
  {k_NoText : Addr}
  {k_NotSteady : Addr}
  {k_Tied : Addr}
  {k_TierError : Addr}
  {k_TooMany : Addr}
  {f0 : Addr} {oc0 kV0 dc0 pm0 cd0 ct0 : Value} {od0 an0 : Option Addr} {sl0 : Array (Option Value)}
  {f1 : Addr} {oc1 kV1 dc1 pm1 cd1 ct1 : Value} {od1 an1 : Option Addr} {sl1 : Array (Option Value)}
  {f2 : Addr} {oc2 kV2 dc2 pm2 cd2 ct2 : Value} {od2 an2 : Option Addr} {sl2 : Array (Option Value)}
  {f3 : Addr} {oc3 kV3 dc3 pm3 cd3 ct3 : Value} {od3 an3 : Option Addr} {sl3 : Array (Option Value)}
  {f4 : Addr} {oc4 kV4 dc4 pm4 cd4 ct4 : Value} {od4 an4 : Option Addr} {sl4 : Array (Option Value)}
  {f5 : Addr} {oc5 kV5 dc5 pm5 cd5 ct5 : Value} {od5 an5 : Option Addr} {sl5 : Array (Option Value)}
  {f6 : Addr} {oc6 kV6 dc6 pm6 cd6 ct6 : Value} {od6 an6 : Option Addr} {sl6 : Array (Option Value)}
  {f7 : Addr} {oc7 kV7 dc7 pm7 cd7 ct7 : Value} {od7 an7 : Option Addr} {sl7 : Array (Option Value)}
  {f8 : Addr} {oc8 kV8 dc8 pm8 cd8 ct8 : Value} {od8 an8 : Option Addr} {sl8 : Array (Option Value)}
  {f9 : Addr} {oc9 kV9 dc9 pm9 cd9 ct9 : Value} {od9 an9 : Option Addr} {sl9 : Array (Option Value)}
  {f10 : Addr} {oc10 kV10 dc10 pm10 cd10 ct10 : Value} {od10 an10 : Option Addr} {sl10 : Array (Option Value)}
  {f11 : Addr} {oc11 kV11 dc11 pm11 cd11 ct11 : Value} {od11 an11 : Option Addr} {sl11 : Array (Option Value)}
  {f12 : Addr} {oc12 kV12 dc12 pm12 cd12 ct12 : Value} {od12 an12 : Option Addr} {sl12 : Array (Option Value)}
  {f13 : Addr} {oc13 kV13 dc13 pm13 cd13 ct13 : Value} {od13 an13 : Option Addr} {sl13 : Array (Option Value)}
  {f14 : Addr} {oc14 kV14 dc14 pm14 cd14 ct14 : Value} {od14 an14 : Option Addr} {sl14 : Array (Option Value)}
  {f15 : Addr} {oc15 kV15 dc15 pm15 cd15 ct15 : Value} {od15 an15 : Option Addr} {sl15 : Array (Option Value)}
  {f16 : Addr} {oc16 kV16 dc16 pm16 cd16 ct16 : Value} {od16 an16 : Option Addr} {sl16 : Array (Option Value)}
  {f17 : Addr} {oc17 kV17 dc17 pm17 cd17 ct17 : Value} {od17 an17 : Option Addr} {sl17 : Array (Option Value)}
  {f18 : Addr} {oc18 kV18 dc18 pm18 cd18 ct18 : Value} {od18 an18 : Option Addr} {sl18 : Array (Option Value)}
  {f19 : Addr} {oc19 kV19 dc19 pm19 cd19 ct19 : Value} {od19 an19 : Option Addr} {sl19 : Array (Option Value)}
  {f20 : Addr} {oc20 kV20 dc20 pm20 cd20 ct20 : Value} {od20 an20 : Option Addr} {sl20 : Array (Option Value)}
  {f21 : Addr} {oc21 kV21 dc21 pm21 cd21 ct21 : Value} {od21 an21 : Option Addr} {sl21 : Array (Option Value)}
  {f22 : Addr} {oc22 kV22 dc22 pm22 cd22 ct22 : Value} {od22 an22 : Option Addr} {sl22 : Array (Option Value)}
  {f23 : Addr} {oc23 kV23 dc23 pm23 cd23 ct23 : Value} {od23 an23 : Option Addr} {sl23 : Array (Option Value)}
  {f24 : Addr} {oc24 kV24 dc24 pm24 cd24 ct24 : Value} {od24 an24 : Option Addr} {sl24 : Array (Option Value)}
  {f25 : Addr} {oc25 kV25 dc25 pm25 cd25 ct25 : Value} {od25 an25 : Option Addr} {sl25 : Array (Option Value)}
  {f26 : Addr} {oc26 kV26 dc26 pm26 cd26 ct26 : Value} {od26 an26 : Option Addr} {sl26 : Array (Option Value)}
  {f27 : Addr} {oc27 kV27 dc27 pm27 cd27 ct27 : Value} {od27 an27 : Option Addr} {sl27 : Array (Option Value)}
  {f28 : Addr} {oc28 kV28 dc28 pm28 cd28 ct28 : Value} {od28 an28 : Option Addr} {sl28 : Array (Option Value)}
  {f29 : Addr} {oc29 kV29 dc29 pm29 cd29 ct29 : Value} {od29 an29 : Option Addr} {sl29 : Array (Option Value)}
  {f30 : Addr} {oc30 kV30 dc30 pm30 cd30 ct30 : Value} {od30 an30 : Option Addr} {sl30 : Array (Option Value)}
  {f31 : Addr} {oc31 kV31 dc31 pm31 cd31 ct31 : Value} {od31 an31 : Option Addr} {sl31 : Array (Option Value)}
  {f32 : Addr} {oc32 kV32 dc32 pm32 cd32 ct32 : Value} {od32 an32 : Option Addr} {sl32 : Array (Option Value)}
  (a0 : PySem.W.nsIn K mainGlobals "kinds_of" = some (some (.ref f0))) (l0 : K.lookup f0 = some ⟨oc0, od0, .func (PySem.W.fnOf "kinds_of" "kinds_of" (defArgs s_kinds_of) (defBody s_kinds_of) (defScope s_kinds_of) .none kV0 dc0 pm0 an0 cd0 ct0), sl0⟩) (c0 : PySem.W.codeIn K cd0 "kinds_of" = true) (k0 : PySem.W.keepIn K (.ref f0) = true)
  (a1 : PySem.W.nsIn K mainGlobals "wanted" = some (some (.ref f1))) (l1 : K.lookup f1 = some ⟨oc1, od1, .func (PySem.W.fnOf "wanted" "wanted" (defArgs s_wanted) (defBody s_wanted) (defScope s_wanted) .none kV1 dc1 pm1 an1 cd1 ct1), sl1⟩) (c1 : PySem.W.codeIn K cd1 "wanted" = true) (k1 : PySem.W.keepIn K (.ref f1) = true)
  (a2 : PySem.W.nsIn K mainGlobals "check_place" = some (some (.ref f2))) (l2 : K.lookup f2 = some ⟨oc2, od2, .func (PySem.W.fnOf "check_place" "check_place" (defArgs s_check_place) (defBody s_check_place) (defScope s_check_place) .none kV2 dc2 pm2 an2 cd2 ct2), sl2⟩) (c2 : PySem.W.codeIn K cd2 "check_place" = true) (k2 : PySem.W.keepIn K (.ref f2) = true)
  (a3 : PySem.W.nsIn K mainGlobals "check_plain" = some (some (.ref f3))) (l3 : K.lookup f3 = some ⟨oc3, od3, .func (PySem.W.fnOf "check_plain" "check_plain" (defArgs s_check_plain) (defBody s_check_plain) (defScope s_check_plain) .none kV3 dc3 pm3 an3 cd3 ct3), sl3⟩) (c3 : PySem.W.codeIn K cd3 "check_plain" = true) (k3 : PySem.W.keepIn K (.ref f3) = true)
  (a4 : PySem.W.nsIn K mainGlobals "many_of" = some (some (.ref f4))) (l4 : K.lookup f4 = some ⟨oc4, od4, .func (PySem.W.fnOf "many_of" "many_of" (defArgs s_many_of) (defBody s_many_of) (defScope s_many_of) .none kV4 dc4 pm4 an4 cd4 ct4), sl4⟩) (c4 : PySem.W.codeIn K cd4 "many_of" = true) (k4 : PySem.W.keepIn K (.ref f4) = true)
  (a5 : PySem.W.nsIn K mainGlobals "with_places" = some (some (.ref f5))) (l5 : K.lookup f5 = some ⟨oc5, od5, .func (PySem.W.fnOf "with_places" "with_places" (defArgs s_with_places) (defBody s_with_places) (defScope s_with_places) .none kV5 dc5 pm5 an5 cd5 ct5), sl5⟩) (c5 : PySem.W.codeIn K cd5 "with_places" = true) (k5 : PySem.W.keepIn K (.ref f5) = true)
  (a6 : PySem.W.nsIn K mainGlobals "unrolled" = some (some (.ref f6))) (l6 : K.lookup f6 = some ⟨oc6, od6, .func (PySem.W.fnOf "unrolled" "unrolled" (defArgs s_unrolled) (defBody s_unrolled) (defScope s_unrolled) .none kV6 dc6 pm6 an6 cd6 ct6), sl6⟩) (c6 : PySem.W.codeIn K cd6 "unrolled" = true) (k6 : PySem.W.keepIn K (.ref f6) = true)
  (a7 : PySem.W.nsIn K mainGlobals "bodies_of" = some (some (.ref f7))) (l7 : K.lookup f7 = some ⟨oc7, od7, .func (PySem.W.fnOf "bodies_of" "bodies_of" (defArgs s_bodies_of) (defBody s_bodies_of) (defScope s_bodies_of) .none kV7 dc7 pm7 an7 cd7 ct7), sl7⟩) (c7 : PySem.W.codeIn K cd7 "bodies_of" = true) (k7 : PySem.W.keepIn K (.ref f7) = true)
  (a8 : PySem.W.nsIn K mainGlobals "opened" = some (some (.ref f8))) (l8 : K.lookup f8 = some ⟨oc8, od8, .func (PySem.W.fnOf "opened" "opened" (defArgs s_opened) (defBody s_opened) (defScope s_opened) .none kV8 dc8 pm8 an8 cd8 ct8), sl8⟩) (c8 : PySem.W.codeIn K cd8 "opened" = true) (k8 : PySem.W.keepIn K (.ref f8) = true)
  (a9 : PySem.W.nsIn K mainGlobals "_law_cell_at" = some (some (.ref f9))) (l9 : K.lookup f9 = some ⟨oc9, od9, .func (PySem.W.fnOf "_law_cell_at" "_law_cell_at" (defArgs s__law_cell_at) (defBody s__law_cell_at) (defScope s__law_cell_at) .none kV9 dc9 pm9 an9 cd9 ct9), sl9⟩) (c9 : PySem.W.codeIn K cd9 "_law_cell_at" = true) (k9 : PySem.W.keepIn K (.ref f9) = true)
  (a10 : PySem.W.nsIn K mainGlobals "_law_mixed" = some (some (.ref f10))) (l10 : K.lookup f10 = some ⟨oc10, od10, .func (PySem.W.fnOf "_law_mixed" "_law_mixed" (defArgs s__law_mixed) (defBody s__law_mixed) (defScope s__law_mixed) .none kV10 dc10 pm10 an10 cd10 ct10), sl10⟩) (c10 : PySem.W.codeIn K cd10 "_law_mixed" = true) (k10 : PySem.W.keepIn K (.ref f10) = true)
  (a11 : PySem.W.nsIn K mainGlobals "_law_digits" = some (some (.ref f11))) (l11 : K.lookup f11 = some ⟨oc11, od11, .func (PySem.W.fnOf "_law_digits" "_law_digits" (defArgs s__law_digits) (defBody s__law_digits) (defScope s__law_digits) .none kV11 dc11 pm11 an11 cd11 ct11), sl11⟩) (c11 : PySem.W.codeIn K cd11 "_law_digits" = true) (k11 : PySem.W.keepIn K (.ref f11) = true)
  (a12 : PySem.W.nsIn K mainGlobals "_law_names" = some (some (.ref f12))) (l12 : K.lookup f12 = some ⟨oc12, od12, .func (PySem.W.fnOf "_law_names" "_law_names" (defArgs s__law_names) (defBody s__law_names) (defScope s__law_names) .none kV12 dc12 pm12 an12 cd12 ct12), sl12⟩) (c12 : PySem.W.codeIn K cd12 "_law_names" = true) (k12 : PySem.W.keepIn K (.ref f12) = true)
  (a13 : PySem.W.nsIn K mainGlobals "_law_lowest" = some (some (.ref f13))) (l13 : K.lookup f13 = some ⟨oc13, od13, .func (PySem.W.fnOf "_law_lowest" "_law_lowest" (defArgs s__law_lowest) (defBody s__law_lowest) (defScope s__law_lowest) .none kV13 dc13 pm13 an13 cd13 ct13), sl13⟩) (c13 : PySem.W.codeIn K cd13 "_law_lowest" = true) (k13 : PySem.W.keepIn K (.ref f13) = true)
  (a14 : PySem.W.nsIn K mainGlobals "_law_amount" = some (some (.ref f14))) (l14 : K.lookup f14 = some ⟨oc14, od14, .func (PySem.W.fnOf "_law_amount" "_law_amount" (defArgs s__law_amount) (defBody s__law_amount) (defScope s__law_amount) .none kV14 dc14 pm14 an14 cd14 ct14), sl14⟩) (c14 : PySem.W.codeIn K cd14 "_law_amount" = true) (k14 : PySem.W.keepIn K (.ref f14) = true)
  (a15 : PySem.W.nsIn K mainGlobals "_law_share" = some (some (.ref f15))) (l15 : K.lookup f15 = some ⟨oc15, od15, .func (PySem.W.fnOf "_law_share" "_law_share" (defArgs s__law_share) (defBody s__law_share) (defScope s__law_share) .none kV15 dc15 pm15 an15 cd15 ct15), sl15⟩) (c15 : PySem.W.codeIn K cd15 "_law_share" = true) (k15 : PySem.W.keepIn K (.ref f15) = true)
  (a16 : PySem.W.nsIn K mainGlobals "_law_number_text" = some (some (.ref f16))) (l16 : K.lookup f16 = some ⟨oc16, od16, .func (PySem.W.fnOf "_law_number_text" "_law_number_text" (defArgs s__law_number_text) (defBody s__law_number_text) (defScope s__law_number_text) .none kV16 dc16 pm16 an16 cd16 ct16), sl16⟩) (c16 : PySem.W.codeIn K cd16 "_law_number_text" = true) (k16 : PySem.W.keepIn K (.ref f16) = true)
  (a17 : PySem.W.nsIn K mainGlobals "_law_house" = some (some (.ref f17))) (l17 : K.lookup f17 = some ⟨oc17, od17, .func (PySem.W.fnOf "_law_house" "_law_house" (defArgs s__law_house) (defBody s__law_house) (defScope s__law_house) .none kV17 dc17 pm17 an17 cd17 ct17), sl17⟩) (c17 : PySem.W.codeIn K cd17 "_law_house" = true) (k17 : PySem.W.keepIn K (.ref f17) = true)
  (a18 : PySem.W.nsIn K mainGlobals "_law_words" = some (some (.ref f18))) (l18 : K.lookup f18 = some ⟨oc18, od18, .func (PySem.W.fnOf "_law_words" "_law_words" (defArgs s__law_words) (defBody s__law_words) (defScope s__law_words) .none kV18 dc18 pm18 an18 cd18 ct18), sl18⟩) (c18 : PySem.W.codeIn K cd18 "_law_words" = true) (k18 : PySem.W.keepIn K (.ref f18) = true)
  (a19 : PySem.W.nsIn K mainGlobals "_law_plain" = some (some (.ref f19))) (l19 : K.lookup f19 = some ⟨oc19, od19, .func (PySem.W.fnOf "_law_plain" "_law_plain" (defArgs s__law_plain) (defBody s__law_plain) (defScope s__law_plain) .none kV19 dc19 pm19 an19 cd19 ct19), sl19⟩) (c19 : PySem.W.codeIn K cd19 "_law_plain" = true) (k19 : PySem.W.keepIn K (.ref f19) = true)
  (a20 : PySem.W.nsIn K mainGlobals "_law_put_in" = some (some (.ref f20))) (l20 : K.lookup f20 = some ⟨oc20, od20, .func (PySem.W.fnOf "_law_put_in" "_law_put_in" (defArgs s__law_put_in) (defBody s__law_put_in) (defScope s__law_put_in) .none kV20 dc20 pm20 an20 cd20 ct20), sl20⟩) (c20 : PySem.W.codeIn K cd20 "_law_put_in" = true) (k20 : PySem.W.keepIn K (.ref f20) = true)
  (a21 : PySem.W.nsIn K mainGlobals "_law_do" = some (some (.ref f21))) (l21 : K.lookup f21 = some ⟨oc21, od21, .func (PySem.W.fnOf "_law_do" "_law_do" (defArgs s__law_do) (defBody s__law_do) (defScope s__law_do) .none kV21 dc21 pm21 an21 cd21 ct21), sl21⟩) (c21 : PySem.W.codeIn K cd21 "_law_do" = true) (k21 : PySem.W.keepIn K (.ref f21) = true)
  (a22 : PySem.W.nsIn K mainGlobals "_law_so_often" = some (some (.ref f22))) (l22 : K.lookup f22 = some ⟨oc22, od22, .func (PySem.W.fnOf "_law_so_often" "_law_so_often" (defArgs s__law_so_often) (defBody s__law_so_often) (defScope s__law_so_often) .none kV22 dc22 pm22 an22 cd22 ct22), sl22⟩) (c22 : PySem.W.codeIn K cd22 "_law_so_often" = true) (k22 : PySem.W.keepIn K (.ref f22) = true)
  (a23 : PySem.W.nsIn K mainGlobals "_law_added" = some (some (.ref f23))) (l23 : K.lookup f23 = some ⟨oc23, od23, .func (PySem.W.fnOf "_law_added" "_law_added" (defArgs s__law_added) (defBody s__law_added) (defScope s__law_added) .none kV23 dc23 pm23 an23 cd23 ct23), sl23⟩) (c23 : PySem.W.codeIn K cd23 "_law_added" = true) (k23 : PySem.W.keepIn K (.ref f23) = true)
  (a24 : PySem.W.nsIn K mainGlobals "_law_never_none" = some (some (.ref f24))) (l24 : K.lookup f24 = some ⟨oc24, od24, .func (PySem.W.fnOf "_law_never_none" "_law_never_none" (defArgs s__law_never_none) (defBody s__law_never_none) (defScope s__law_never_none) .none kV24 dc24 pm24 an24 cd24 ct24), sl24⟩) (c24 : PySem.W.codeIn K cd24 "_law_never_none" = true) (k24 : PySem.W.keepIn K (.ref f24) = true)
  (a25 : PySem.W.nsIn K mainGlobals "_law_shut" = some (some (.ref f25))) (l25 : K.lookup f25 = some ⟨oc25, od25, .func (PySem.W.fnOf "_law_shut" "_law_shut" (defArgs s__law_shut) (defBody s__law_shut) (defScope s__law_shut) .none kV25 dc25 pm25 an25 cd25 ct25), sl25⟩) (c25 : PySem.W.codeIn K cd25 "_law_shut" = true) (k25 : PySem.W.keepIn K (.ref f25) = true)
  (a26 : PySem.W.nsIn K mainGlobals "_law_deeds" = some (some (.ref f26))) (l26 : K.lookup f26 = some ⟨oc26, od26, .func (PySem.W.fnOf "_law_deeds" "_law_deeds" (defArgs s__law_deeds) (defBody s__law_deeds) (defScope s__law_deeds) .none kV26 dc26 pm26 an26 cd26 ct26), sl26⟩) (c26 : PySem.W.codeIn K cd26 "_law_deeds" = true) (k26 : PySem.W.keepIn K (.ref f26) = true)
  (a27 : PySem.W.nsIn K mainGlobals "_law_script" = some (some (.ref f27))) (l27 : K.lookup f27 = some ⟨oc27, od27, .func (PySem.W.fnOf "_law_script" "_law_script" (defArgs s__law_script) (defBody s__law_script) (defScope s__law_script) .none kV27 dc27 pm27 an27 cd27 ct27), sl27⟩) (c27 : PySem.W.codeIn K cd27 "_law_script" = true) (k27 : PySem.W.keepIn K (.ref f27) = true)
  (a28 : PySem.W.nsIn K mainGlobals "_law_fits" = some (some (.ref f28))) (l28 : K.lookup f28 = some ⟨oc28, od28, .func (PySem.W.fnOf "_law_fits" "_law_fits" (defArgs s__law_fits) (defBody s__law_fits) (defScope s__law_fits) .none kV28 dc28 pm28 an28 cd28 ct28), sl28⟩) (c28 : PySem.W.codeIn K cd28 "_law_fits" = true) (k28 : PySem.W.keepIn K (.ref f28) = true)
  (a29 : PySem.W.nsIn K mainGlobals "_law_alike" = some (some (.ref f29))) (l29 : K.lookup f29 = some ⟨oc29, od29, .func (PySem.W.fnOf "_law_alike" "_law_alike" (defArgs s__law_alike) (defBody s__law_alike) (defScope s__law_alike) .none kV29 dc29 pm29 an29 cd29 ct29), sl29⟩) (c29 : PySem.W.codeIn K cd29 "_law_alike" = true) (k29 : PySem.W.keepIn K (.ref f29) = true)
  (a30 : PySem.W.nsIn K mainGlobals "_law_told" = some (some (.ref f30))) (l30 : K.lookup f30 = some ⟨oc30, od30, .func (PySem.W.fnOf "_law_told" "_law_told" (defArgs s__law_told) (defBody s__law_told) (defScope s__law_told) .none kV30 dc30 pm30 an30 cd30 ct30), sl30⟩) (c30 : PySem.W.codeIn K cd30 "_law_told" = true) (k30 : PySem.W.keepIn K (.ref f30) = true)
  (a31 : PySem.W.nsIn K mainGlobals "_law_only" = some (some (.ref f31))) (l31 : K.lookup f31 = some ⟨oc31, od31, .func (PySem.W.fnOf "_law_only" "_law_only" (defArgs s__law_only) (defBody s__law_only) (defScope s__law_only) .none kV31 dc31 pm31 an31 cd31 ct31), sl31⟩) (c31 : PySem.W.codeIn K cd31 "_law_only" = true) (k31 : PySem.W.keepIn K (.ref f31) = true)
  (a32 : PySem.W.nsIn K mainGlobals "law" = some (some (.ref f32))) (l32 : K.lookup f32 = some ⟨oc32, od32, .func (PySem.W.fnOf "law" "law" (defArgs s_law) (defBody s_law) (defScope s_law) .none kV32 dc32 pm32 an32 cd32 ct32), sl32⟩) (c32 : PySem.W.codeIn K cd32 "law" = true) (k32 : PySem.W.keepIn K (.ref f32) = true)
  (z_ValueError : PySem.W.nsIn K mainGlobals "ValueError" = some none)
  (z_all : PySem.W.nsIn K mainGlobals "all" = some none)
  (z_bool : PySem.W.nsIn K mainGlobals "bool" = some none)
  (z_dict : PySem.W.nsIn K mainGlobals "dict" = some none)
  (z_enumerate : PySem.W.nsIn K mainGlobals "enumerate" = some none)
  (z_int : PySem.W.nsIn K mainGlobals "int" = some none)
  (z_isinstance : PySem.W.nsIn K mainGlobals "isinstance" = some none)
  (z_len : PySem.W.nsIn K mainGlobals "len" = some none)
  (z_list : PySem.W.nsIn K mainGlobals "list" = some none)
  (z_range : PySem.W.nsIn K mainGlobals "range" = some none)
  (z_str : PySem.W.nsIn K mainGlobals "str" = some none)
  (z_tuple : PySem.W.nsIn K mainGlobals "tuple" = some none)
  (z_zip : PySem.W.nsIn K mainGlobals "zip" = some none)
  {t_MOST_DEEDS : Tok} (w_MOST_DEEDS : PySem.W.nsIn K mainGlobals "MOST_DEEDS" = some (some (.int 200 t_MOST_DEEDS)))
  (y_Full : PySem.W.nsIn K mainGlobals "Full" = some (some (.ref k_Full)))
  (y_Lacking : PySem.W.nsIn K mainGlobals "Lacking" = some (some (.ref k_Lacking)))
  (y_NoCask : PySem.W.nsIn K mainGlobals "NoCask" = some (some (.ref k_NoCask)))
  (y_NoChange : PySem.W.nsIn K mainGlobals "NoChange" = some (some (.ref k_NoChange)))
  (y_NoDeed : PySem.W.nsIn K mainGlobals "NoDeed" = some (some (.ref k_NoDeed)))
  (y_NoName : PySem.W.nsIn K mainGlobals "NoName" = some (some (.ref k_NoName)))
  (y_NoNumber : PySem.W.nsIn K mainGlobals "NoNumber" = some (some (.ref k_NoNumber)))
  (y_NoPlace : PySem.W.nsIn K mainGlobals "NoPlace" = some (some (.ref k_NoPlace)))
  (y_NoRow : PySem.W.nsIn K mainGlobals "NoRow" = some (some (.ref k_NoRow)))
  (y_NoRule : PySem.W.nsIn K mainGlobals "NoRule" = some (some (.ref k_NoRule)))
  (y_NoText : PySem.W.nsIn K mainGlobals "NoText" = some (some (.ref k_NoText)))
  (y_NotSteady : PySem.W.nsIn K mainGlobals "NotSteady" = some (some (.ref k_NotSteady)))
  (y_Tied : PySem.W.nsIn K mainGlobals "Tied" = some (some (.ref k_Tied)))
  (y_TierError : PySem.W.nsIn K mainGlobals "TierError" = some (some (.ref k_TierError)))
  (y_TooMany : PySem.W.nsIn K mainGlobals "TooMany" = some (some (.ref k_TooMany)))
  (e_NoCask : PySem.W.excIn K k_NoCask [.type "ValueError", .type "Exception", .type "BaseException", .type "object"] "ValueError.__new__" = true)
  (x_NoCask : ExcK K k_NoCask)
  (i_NoCask_Full : PySem.W.kitOne K (.ref k_NoCask) (.ref k_Full) = some false)
  (m_NoCask_Full : PySem.W.exmOne K (.ref k_NoCask) (.ref k_Full) = some false)
  (i_NoCask_Lacking : PySem.W.kitOne K (.ref k_NoCask) (.ref k_Lacking) = some false)
  (m_NoCask_Lacking : PySem.W.exmOne K (.ref k_NoCask) (.ref k_Lacking) = some false)
  (i_NoCask_NoCask : PySem.W.kitOne K (.ref k_NoCask) (.ref k_NoCask) = some true)
  (m_NoCask_NoCask : PySem.W.exmOne K (.ref k_NoCask) (.ref k_NoCask) = some true)
  (i_NoCask_NoChange : PySem.W.kitOne K (.ref k_NoCask) (.ref k_NoChange) = some false)
  (m_NoCask_NoChange : PySem.W.exmOne K (.ref k_NoCask) (.ref k_NoChange) = some false)
  (i_NoCask_NoDeed : PySem.W.kitOne K (.ref k_NoCask) (.ref k_NoDeed) = some false)
  (m_NoCask_NoDeed : PySem.W.exmOne K (.ref k_NoCask) (.ref k_NoDeed) = some false)
  (i_NoCask_NoName : PySem.W.kitOne K (.ref k_NoCask) (.ref k_NoName) = some false)
  (m_NoCask_NoName : PySem.W.exmOne K (.ref k_NoCask) (.ref k_NoName) = some false)
  (i_NoCask_NoNumber : PySem.W.kitOne K (.ref k_NoCask) (.ref k_NoNumber) = some false)
  (m_NoCask_NoNumber : PySem.W.exmOne K (.ref k_NoCask) (.ref k_NoNumber) = some false)
  (i_NoCask_NoPlace : PySem.W.kitOne K (.ref k_NoCask) (.ref k_NoPlace) = some false)
  (m_NoCask_NoPlace : PySem.W.exmOne K (.ref k_NoCask) (.ref k_NoPlace) = some false)
  (i_NoCask_NoRow : PySem.W.kitOne K (.ref k_NoCask) (.ref k_NoRow) = some false)
  (m_NoCask_NoRow : PySem.W.exmOne K (.ref k_NoCask) (.ref k_NoRow) = some false)
  (i_NoCask_NoRule : PySem.W.kitOne K (.ref k_NoCask) (.ref k_NoRule) = some false)
  (m_NoCask_NoRule : PySem.W.exmOne K (.ref k_NoCask) (.ref k_NoRule) = some false)
  (i_NoCask_NoText : PySem.W.kitOne K (.ref k_NoCask) (.ref k_NoText) = some false)
  (m_NoCask_NoText : PySem.W.exmOne K (.ref k_NoCask) (.ref k_NoText) = some false)
  (i_NoCask_NotSteady : PySem.W.kitOne K (.ref k_NoCask) (.ref k_NotSteady) = some false)
  (m_NoCask_NotSteady : PySem.W.exmOne K (.ref k_NoCask) (.ref k_NotSteady) = some false)
  (i_NoCask_Tied : PySem.W.kitOne K (.ref k_NoCask) (.ref k_Tied) = some false)
  (m_NoCask_Tied : PySem.W.exmOne K (.ref k_NoCask) (.ref k_Tied) = some false)
  (i_NoCask_TierError : PySem.W.kitOne K (.ref k_NoCask) (.ref k_TierError) = some true)
  (m_NoCask_TierError : PySem.W.exmOne K (.ref k_NoCask) (.ref k_TierError) = some true)
  (i_NoCask_TooMany : PySem.W.kitOne K (.ref k_NoCask) (.ref k_TooMany) = some false)
  (m_NoCask_TooMany : PySem.W.exmOne K (.ref k_NoCask) (.ref k_TooMany) = some false)
  (v_NoCask : PySem.W.kitOne K (.ref k_NoCask) (.type "ValueError") = some true)
  (e_NoPlace : PySem.W.excIn K k_NoPlace [.type "ValueError", .type "Exception", .type "BaseException", .type "object"] "ValueError.__new__" = true)
  (x_NoPlace : ExcK K k_NoPlace)
  (i_NoPlace_Full : PySem.W.kitOne K (.ref k_NoPlace) (.ref k_Full) = some false)
  (m_NoPlace_Full : PySem.W.exmOne K (.ref k_NoPlace) (.ref k_Full) = some false)
  (i_NoPlace_Lacking : PySem.W.kitOne K (.ref k_NoPlace) (.ref k_Lacking) = some false)
  (m_NoPlace_Lacking : PySem.W.exmOne K (.ref k_NoPlace) (.ref k_Lacking) = some false)
  (i_NoPlace_NoCask : PySem.W.kitOne K (.ref k_NoPlace) (.ref k_NoCask) = some false)
  (m_NoPlace_NoCask : PySem.W.exmOne K (.ref k_NoPlace) (.ref k_NoCask) = some false)
  (i_NoPlace_NoChange : PySem.W.kitOne K (.ref k_NoPlace) (.ref k_NoChange) = some false)
  (m_NoPlace_NoChange : PySem.W.exmOne K (.ref k_NoPlace) (.ref k_NoChange) = some false)
  (i_NoPlace_NoDeed : PySem.W.kitOne K (.ref k_NoPlace) (.ref k_NoDeed) = some false)
  (m_NoPlace_NoDeed : PySem.W.exmOne K (.ref k_NoPlace) (.ref k_NoDeed) = some false)
  (i_NoPlace_NoName : PySem.W.kitOne K (.ref k_NoPlace) (.ref k_NoName) = some false)
  (m_NoPlace_NoName : PySem.W.exmOne K (.ref k_NoPlace) (.ref k_NoName) = some false)
  (i_NoPlace_NoNumber : PySem.W.kitOne K (.ref k_NoPlace) (.ref k_NoNumber) = some false)
  (m_NoPlace_NoNumber : PySem.W.exmOne K (.ref k_NoPlace) (.ref k_NoNumber) = some false)
  (i_NoPlace_NoPlace : PySem.W.kitOne K (.ref k_NoPlace) (.ref k_NoPlace) = some true)
  (m_NoPlace_NoPlace : PySem.W.exmOne K (.ref k_NoPlace) (.ref k_NoPlace) = some true)
  (i_NoPlace_NoRow : PySem.W.kitOne K (.ref k_NoPlace) (.ref k_NoRow) = some false)
  (m_NoPlace_NoRow : PySem.W.exmOne K (.ref k_NoPlace) (.ref k_NoRow) = some false)
  (i_NoPlace_NoRule : PySem.W.kitOne K (.ref k_NoPlace) (.ref k_NoRule) = some false)
  (m_NoPlace_NoRule : PySem.W.exmOne K (.ref k_NoPlace) (.ref k_NoRule) = some false)
  (i_NoPlace_NoText : PySem.W.kitOne K (.ref k_NoPlace) (.ref k_NoText) = some false)
  (m_NoPlace_NoText : PySem.W.exmOne K (.ref k_NoPlace) (.ref k_NoText) = some false)
  (i_NoPlace_NotSteady : PySem.W.kitOne K (.ref k_NoPlace) (.ref k_NotSteady) = some false)
  (m_NoPlace_NotSteady : PySem.W.exmOne K (.ref k_NoPlace) (.ref k_NotSteady) = some false)
  (i_NoPlace_Tied : PySem.W.kitOne K (.ref k_NoPlace) (.ref k_Tied) = some false)
  (m_NoPlace_Tied : PySem.W.exmOne K (.ref k_NoPlace) (.ref k_Tied) = some false)
  (i_NoPlace_TierError : PySem.W.kitOne K (.ref k_NoPlace) (.ref k_TierError) = some true)
  (m_NoPlace_TierError : PySem.W.exmOne K (.ref k_NoPlace) (.ref k_TierError) = some true)
  (i_NoPlace_TooMany : PySem.W.kitOne K (.ref k_NoPlace) (.ref k_TooMany) = some false)
  (m_NoPlace_TooMany : PySem.W.exmOne K (.ref k_NoPlace) (.ref k_TooMany) = some false)
  (v_NoPlace : PySem.W.kitOne K (.ref k_NoPlace) (.type "ValueError") = some true)
  (e_TooMany : PySem.W.excIn K k_TooMany [.type "ValueError", .type "Exception", .type "BaseException", .type "object"] "ValueError.__new__" = true)
  (x_TooMany : ExcK K k_TooMany)
  (i_TooMany_Full : PySem.W.kitOne K (.ref k_TooMany) (.ref k_Full) = some false)
  (m_TooMany_Full : PySem.W.exmOne K (.ref k_TooMany) (.ref k_Full) = some false)
  (i_TooMany_Lacking : PySem.W.kitOne K (.ref k_TooMany) (.ref k_Lacking) = some false)
  (m_TooMany_Lacking : PySem.W.exmOne K (.ref k_TooMany) (.ref k_Lacking) = some false)
  (i_TooMany_NoCask : PySem.W.kitOne K (.ref k_TooMany) (.ref k_NoCask) = some false)
  (m_TooMany_NoCask : PySem.W.exmOne K (.ref k_TooMany) (.ref k_NoCask) = some false)
  (i_TooMany_NoChange : PySem.W.kitOne K (.ref k_TooMany) (.ref k_NoChange) = some false)
  (m_TooMany_NoChange : PySem.W.exmOne K (.ref k_TooMany) (.ref k_NoChange) = some false)
  (i_TooMany_NoDeed : PySem.W.kitOne K (.ref k_TooMany) (.ref k_NoDeed) = some false)
  (m_TooMany_NoDeed : PySem.W.exmOne K (.ref k_TooMany) (.ref k_NoDeed) = some false)
  (i_TooMany_NoName : PySem.W.kitOne K (.ref k_TooMany) (.ref k_NoName) = some false)
  (m_TooMany_NoName : PySem.W.exmOne K (.ref k_TooMany) (.ref k_NoName) = some false)
  (i_TooMany_NoNumber : PySem.W.kitOne K (.ref k_TooMany) (.ref k_NoNumber) = some false)
  (m_TooMany_NoNumber : PySem.W.exmOne K (.ref k_TooMany) (.ref k_NoNumber) = some false)
  (i_TooMany_NoPlace : PySem.W.kitOne K (.ref k_TooMany) (.ref k_NoPlace) = some false)
  (m_TooMany_NoPlace : PySem.W.exmOne K (.ref k_TooMany) (.ref k_NoPlace) = some false)
  (i_TooMany_NoRow : PySem.W.kitOne K (.ref k_TooMany) (.ref k_NoRow) = some false)
  (m_TooMany_NoRow : PySem.W.exmOne K (.ref k_TooMany) (.ref k_NoRow) = some false)
  (i_TooMany_NoRule : PySem.W.kitOne K (.ref k_TooMany) (.ref k_NoRule) = some false)
  (m_TooMany_NoRule : PySem.W.exmOne K (.ref k_TooMany) (.ref k_NoRule) = some false)
  (i_TooMany_NoText : PySem.W.kitOne K (.ref k_TooMany) (.ref k_NoText) = some false)
  (m_TooMany_NoText : PySem.W.exmOne K (.ref k_TooMany) (.ref k_NoText) = some false)
  (i_TooMany_NotSteady : PySem.W.kitOne K (.ref k_TooMany) (.ref k_NotSteady) = some false)
  (m_TooMany_NotSteady : PySem.W.exmOne K (.ref k_TooMany) (.ref k_NotSteady) = some false)
  (i_TooMany_Tied : PySem.W.kitOne K (.ref k_TooMany) (.ref k_Tied) = some false)
  (m_TooMany_Tied : PySem.W.exmOne K (.ref k_TooMany) (.ref k_Tied) = some false)
  (i_TooMany_TierError : PySem.W.kitOne K (.ref k_TooMany) (.ref k_TierError) = some true)
  (m_TooMany_TierError : PySem.W.exmOne K (.ref k_TooMany) (.ref k_TierError) = some true)
  (i_TooMany_TooMany : PySem.W.kitOne K (.ref k_TooMany) (.ref k_TooMany) = some true)
  (m_TooMany_TooMany : PySem.W.exmOne K (.ref k_TooMany) (.ref k_TooMany) = some true)
  (v_TooMany : PySem.W.kitOne K (.ref k_TooMany) (.type "ValueError") = some true)
  : ∃ fd : FuncData, (∀ (s : Shared) (v : Value), BindsTo s fd ⟨[v], []⟩ [("_law_script_here", v)]) ∧ ∀ base : Heap, K.In base → base.Ns mainGlobals mg → FnOk l.prog w K mg base CX0 15 fa fd ["_law_script_here"] (spLaw K) := by
 have T : Txt K mg (⟨k_Full, k_Lacking, k_NoCask, k_NoChange, k_NoDeed, k_NoName, k_NoNumber, k_NoPlace, k_NoRow, k_NoRule, k_NoText, k_NotSteady, k_Tied, k_TierError, k_TooMany⟩ : Ca) := ⟨PySem.W.mg_none_of X G z_ValueError, PySem.W.mg_none_of X G z_all, PySem.W.mg_none_of X G z_bool, PySem.W.mg_none_of X G z_dict, PySem.W.mg_none_of X G z_enumerate, PySem.W.mg_none_of X G z_int, PySem.W.mg_none_of X G z_isinstance, PySem.W.mg_none_of X G z_len, PySem.W.mg_none_of X G z_list, PySem.W.mg_none_of X G z_range, PySem.W.mg_none_of X G z_str, PySem.W.mg_none_of X G z_tuple, PySem.W.mg_none_of X G z_zip, PySem.W.mg_of X G y_Full, PySem.W.mg_of X G y_Lacking, PySem.W.mg_of X G y_NoCask, PySem.W.mg_of X G y_NoChange, PySem.W.mg_of X G y_NoDeed, PySem.W.mg_of X G y_NoName, PySem.W.mg_of X G y_NoNumber, PySem.W.mg_of X G y_NoPlace, PySem.W.mg_of X G y_NoRow, PySem.W.mg_of X G y_NoRule, PySem.W.mg_of X G y_NoText, PySem.W.mg_of X G y_NotSteady, PySem.W.mg_of X G y_Tied, PySem.W.mg_of X G y_TierError, PySem.W.mg_of X G y_TooMany, ⟨_, PySem.W.mg_of X G w_MOST_DEEDS⟩, e_NoCask, x_NoCask, i_NoCask_Full, m_NoCask_Full, i_NoCask_Lacking, m_NoCask_Lacking, i_NoCask_NoCask, m_NoCask_NoCask, i_NoCask_NoChange, m_NoCask_NoChange, i_NoCask_NoDeed, m_NoCask_NoDeed, i_NoCask_NoName, m_NoCask_NoName, i_NoCask_NoNumber, m_NoCask_NoNumber, i_NoCask_NoPlace, m_NoCask_NoPlace, i_NoCask_NoRow, m_NoCask_NoRow, i_NoCask_NoRule, m_NoCask_NoRule, i_NoCask_NoText, m_NoCask_NoText, i_NoCask_NotSteady, m_NoCask_NotSteady, i_NoCask_Tied, m_NoCask_Tied, i_NoCask_TierError, m_NoCask_TierError, i_NoCask_TooMany, m_NoCask_TooMany, v_NoCask, e_NoPlace, x_NoPlace, i_NoPlace_Full, m_NoPlace_Full, i_NoPlace_Lacking, m_NoPlace_Lacking, i_NoPlace_NoCask, m_NoPlace_NoCask, i_NoPlace_NoChange, m_NoPlace_NoChange, i_NoPlace_NoDeed, m_NoPlace_NoDeed, i_NoPlace_NoName, m_NoPlace_NoName, i_NoPlace_NoNumber, m_NoPlace_NoNumber, i_NoPlace_NoPlace, m_NoPlace_NoPlace, i_NoPlace_NoRow, m_NoPlace_NoRow, i_NoPlace_NoRule, m_NoPlace_NoRule, i_NoPlace_NoText, m_NoPlace_NoText, i_NoPlace_NotSteady, m_NoPlace_NotSteady, i_NoPlace_Tied, m_NoPlace_Tied, i_NoPlace_TierError, m_NoPlace_TierError, i_NoPlace_TooMany, m_NoPlace_TooMany, v_NoPlace, e_TooMany, x_TooMany, i_TooMany_Full, m_TooMany_Full, i_TooMany_Lacking, m_TooMany_Lacking, i_TooMany_NoCask, m_TooMany_NoCask, i_TooMany_NoChange, m_TooMany_NoChange, i_TooMany_NoDeed, m_TooMany_NoDeed, i_TooMany_NoName, m_TooMany_NoName, i_TooMany_NoNumber, m_TooMany_NoNumber, i_TooMany_NoPlace, m_TooMany_NoPlace, i_TooMany_NoRow, m_TooMany_NoRow, i_TooMany_NoRule, m_TooMany_NoRule, i_TooMany_NoText, m_TooMany_NoText, i_TooMany_NotSteady, m_TooMany_NotSteady, i_TooMany_Tied, m_TooMany_Tied, i_TooMany_TierError, m_TooMany_TierError, i_TooMany_TooMany, m_TooMany_TooMany, v_TooMany⟩
 have D_kinds_of : DefAt K mg "kinds_of" s_kinds_of := DefAt.mk' X G a0 l0 c0 k0
 have D_wanted : DefAt K mg "wanted" s_wanted := DefAt.mk' X G a1 l1 c1 k1
 have D_check_place : DefAt K mg "check_place" s_check_place := DefAt.mk' X G a2 l2 c2 k2
 have D_check_plain : DefAt K mg "check_plain" s_check_plain := DefAt.mk' X G a3 l3 c3 k3
 have D_many_of : DefAt K mg "many_of" s_many_of := DefAt.mk' X G a4 l4 c4 k4
 have D_with_places : DefAt K mg "with_places" s_with_places := DefAt.mk' X G a5 l5 c5 k5
 have D_unrolled : DefAt K mg "unrolled" s_unrolled := DefAt.mk' X G a6 l6 c6 k6
 have D_bodies_of : DefAt K mg "bodies_of" s_bodies_of := DefAt.mk' X G a7 l7 c7 k7
 have D_opened : DefAt K mg "opened" s_opened := DefAt.mk' X G a8 l8 c8 k8
 have D__law_cell_at : DefAt K mg "_law_cell_at" s__law_cell_at := DefAt.mk' X G a9 l9 c9 k9
 have D__law_mixed : DefAt K mg "_law_mixed" s__law_mixed := DefAt.mk' X G a10 l10 c10 k10
 have D__law_digits : DefAt K mg "_law_digits" s__law_digits := DefAt.mk' X G a11 l11 c11 k11
 have D__law_names : DefAt K mg "_law_names" s__law_names := DefAt.mk' X G a12 l12 c12 k12
 have D__law_lowest : DefAt K mg "_law_lowest" s__law_lowest := DefAt.mk' X G a13 l13 c13 k13
 have D__law_amount : DefAt K mg "_law_amount" s__law_amount := DefAt.mk' X G a14 l14 c14 k14
 have D__law_share : DefAt K mg "_law_share" s__law_share := DefAt.mk' X G a15 l15 c15 k15
 have D__law_number_text : DefAt K mg "_law_number_text" s__law_number_text := DefAt.mk' X G a16 l16 c16 k16
 have D__law_house : DefAt K mg "_law_house" s__law_house := DefAt.mk' X G a17 l17 c17 k17
 have D__law_words : DefAt K mg "_law_words" s__law_words := DefAt.mk' X G a18 l18 c18 k18
 have D__law_plain : DefAt K mg "_law_plain" s__law_plain := DefAt.mk' X G a19 l19 c19 k19
 have D__law_put_in : DefAt K mg "_law_put_in" s__law_put_in := DefAt.mk' X G a20 l20 c20 k20
 have D__law_do : DefAt K mg "_law_do" s__law_do := DefAt.mk' X G a21 l21 c21 k21
 have D__law_so_often : DefAt K mg "_law_so_often" s__law_so_often := DefAt.mk' X G a22 l22 c22 k22
 have D__law_added : DefAt K mg "_law_added" s__law_added := DefAt.mk' X G a23 l23 c23 k23
 have D__law_never_none : DefAt K mg "_law_never_none" s__law_never_none := DefAt.mk' X G a24 l24 c24 k24
 have D__law_shut : DefAt K mg "_law_shut" s__law_shut := DefAt.mk' X G a25 l25 c25 k25
 have D__law_deeds : DefAt K mg "_law_deeds" s__law_deeds := DefAt.mk' X G a26 l26 c26 k26
 have D__law_script : DefAt K mg "_law_script" s__law_script := DefAt.mk' X G a27 l27 c27 k27
 have D__law_fits : DefAt K mg "_law_fits" s__law_fits := DefAt.mk' X G a28 l28 c28 k28
 have D__law_alike : DefAt K mg "_law_alike" s__law_alike := DefAt.mk' X G a29 l29 c29 k29
 have D__law_told : DefAt K mg "_law_told" s__law_told := DefAt.mk' X G a30 l30 c30 k30
 have D__law_only : DefAt K mg "_law_only" s__law_only := DefAt.mk' X G a31 l31 c31 k31
 have e := hfa.symm.trans (PySem.W.mg_of X G a32)
 cases e
 refine ⟨PySem.W.fnOf "law" "law" (defArgs s_law) (defBody s_law) (defScope s_law) .none kV32 dc32 pm32 an32 cd32 ct32, fun s v => .of_eq rfl, fun base _ _ => ?_⟩
 have G_kinds_of := ok_kinds_of (P := l.prog) (w := w) (base := base) D_kinds_of T 
 have G_wanted := ok_wanted (P := l.prog) (w := w) (base := base) D_wanted T 
 have G_check_place := ok_check_place (P := l.prog) (w := w) (base := base) D_check_place T 
 have G_check_plain := ok_check_plain (P := l.prog) (w := w) (base := base) D_check_plain T G_wanted G_check_place
 have G_many_of := ok_many_of (P := l.prog) (w := w) (base := base) D_many_of T  9
 have G_with_places := ok_with_places (P := l.prog) (w := w) (base := base) D_with_places T 
 have G_unrolled := ok_unrolled (P := l.prog) (w := w) (base := base) D_unrolled T G_with_places 9
 have G_bodies_of := ok_bodies_of (P := l.prog) (w := w) (base := base) D_bodies_of T G_unrolled
 have G_opened := ok_opened (P := l.prog) (w := w) (base := base) D_opened T G_many_of G_unrolled G_bodies_of G_kinds_of G_check_plain
 have G__law_cell_at := ok__law_cell_at (P := l.prog) (w := w) (base := base) D__law_cell_at T 
 have G__law_mixed := ok__law_mixed (P := l.prog) (w := w) (base := base) D__law_mixed T 
 have G__law_digits := ok__law_digits (P := l.prog) (w := w) (base := base) D__law_digits T 
 have G__law_names := ok__law_names (P := l.prog) (w := w) (base := base) D__law_names T G__law_digits
 have G__law_lowest := ok__law_lowest (P := l.prog) (w := w) (base := base) D__law_lowest T 
 have G__law_amount := ok__law_amount (P := l.prog) (w := w) (base := base) D__law_amount T G__law_lowest
 have G__law_share := ok__law_share (P := l.prog) (w := w) (base := base) D__law_share T G__law_lowest
 have G__law_number_text := ok__law_number_text (P := l.prog) (w := w) (base := base) D__law_number_text T 
 have G__law_house := ok__law_house (P := l.prog) (w := w) (base := base) D__law_house T G__law_mixed G__law_cell_at G__law_names
 have G__law_words := ok__law_words (P := l.prog) (w := w) (base := base) D__law_words T 
 have G__law_plain := ok__law_plain (P := l.prog) (w := w) (base := base) D__law_plain T G__law_names G__law_amount G__law_number_text G__law_share
 have G__law_put_in := ok__law_put_in (P := l.prog) (w := w) (base := base) D__law_put_in T 
 have G__law_do := ok__law_do (P := l.prog) (w := w) (base := base) D__law_do T G__law_put_in
 have G__law_so_often := ok__law_so_often (P := l.prog) (w := w) (base := base) D__law_so_often T 
 have G__law_added := ok__law_added (P := l.prog) (w := w) (base := base) D__law_added T G__law_so_often
 have G__law_never_none := ok__law_never_none (P := l.prog) (w := w) (base := base) D__law_never_none T G__law_added
 have G__law_shut := ok__law_shut (P := l.prog) (w := w) (base := base) D__law_shut T G__law_never_none G__law_added G__law_so_often
 have G__law_deeds := ok__law_deeds (P := l.prog) (w := w) (base := base) D__law_deeds T G__law_mixed G__law_shut G__law_do G__law_added G__law_plain G__law_never_none
 have G__law_script := ok__law_script (P := l.prog) (w := w) (base := base) D__law_script T G__law_mixed G__law_cell_at G__law_names G__law_deeds G__law_words
 have G__law_fits := ok__law_fits (P := l.prog) (w := w) (base := base) D__law_fits T 
 have G__law_alike := ok__law_alike (P := l.prog) (w := w) (base := base) D__law_alike T  4
 have G__law_told := ok__law_told (P := l.prog) (w := w) (base := base) D__law_told T G_opened
 have G__law_only := ok__law_only (P := l.prog) (w := w) (base := base) D__law_only T 
 exact ok_law (fun_mk (st := s_law) l32 c32 k32) T G__law_house G__law_script G__law_told G__law_only G__law_fits G__law_alike
end T09
namespace PySem.W.Fast
def tw9376119431664998124 := 0
def tw7231379812104682232 := 0
def tw11929901344394008316 := 0
def tw5656575148878190374 := 0
def tw12227097764045571805 := 0
def tw3972892501852411727 := 0
def tw17992436889502434518 := 0
def tw5761030839603327340 := 0
def tw5430285938712787241 := 0
def tw4736296244273809747 := 0
def tw14864945158823312641 := 0
def tw10403744203378129651 := 0
def tw17583837654000429341 := 0
def tw8690334130062574672 := 0
def tw11024383167724577878 := 0
def tw1537994477067563980 := 0
def tw12727470076396466222 := 0
def tw18411432376017907269 := 0
def tw117399239047222805 := 0
def tw17682301820271140249 := 0
def tw8979778375603199493 := 0
def tw556147227626200176 := 0
def tw3185461994386932446 := 0
def tw18279640387429601878 := 0
def tw5007422500658274036 := 0
def tw8820584610589932555 := 0
def tw1402639494968476877 := 0
def tw16890367116515345376 := 0
def tw3458553641987380070 := 0
def tw15458279031027945960 := 0
def tw12662348594357167020 := 0
def tw17250992144859020560 := 0
def tw3701228749399923718 := 0
def tw15370848244506040567 := 0
def tw6254334930942847208 := 0
def tw1852284548916113177 := 0
def tw1619274245657776612 := 0
def tw631749935429646457 := 0
def tw3508124515872990580 := 0
def tw1889119873908641613 := 0
def tw3905918849521892710 := 0
def tw9474079294790473621 := 0
def tw13897425105910290164 := 0
def tw13848847501469272100 := 0
def tw11494912517963170396 := 0
def tw2996976001010556303 := 0
def tw8187799900612220549 := 0
end PySem.W.Fast
open PySem PySem.W PyProof.Rows
set_option maxRecDepth 100000 in
set_option maxHeartbeats 0 in
theorem PySem.Challenge.cw_tiercask_k09_opened_holds : PySem.Challenge.rw_tiercask_k09_opened.Holds := by
 w_on; o_law; k_head; (case hw => w_witness2)
 k_fill
 refine L2.walk_ofK (l := PySem.Challenge.rw_tiercask_k09_opened) (n := 63) (k := 15) (x := "_law_script_here") (CX := L2.CX0) (sp := Tc.spLaw) rfl (by decide) rfl ⟨rfl, by decide, by decide⟩ (fun w h Y => PySem.W.kIn_of Y) ?F ?S ?C
 case F =>
  intro w mg fa h KX G hmg
  refine' T09.all_mk KX G hmg ?a0 ?l0 ?c0 ?k0 ?a1 ?l1 ?c1 ?k1 ?a2 ?l2 ?c2 ?k2 ?a3 ?l3 ?c3 ?k3 ?a4 ?l4 ?c4 ?k4 ?a5 ?l5 ?c5 ?k5 ?a6 ?l6 ?c6 ?k6 ?a7 ?l7 ?c7 ?k7 ?a8 ?l8 ?c8 ?k8 ?a9 ?l9 ?c9 ?k9 ?a10 ?l10 ?c10 ?k10 ?a11 ?l11 ?c11 ?k11 ?a12 ?l12 ?c12 ?k12 ?a13 ?l13 ?c13 ?k13 ?a14 ?l14 ?c14 ?k14 ?a15 ?l15 ?c15 ?k15 ?a16 ?l16 ?c16 ?k16 ?a17 ?l17 ?c17 ?k17 ?a18 ?l18 ?c18 ?k18 ?a19 ?l19 ?c19 ?k19 ?a20 ?l20 ?c20 ?k20 ?a21 ?l21 ?c21 ?k21 ?a22 ?l22 ?c22 ?k22 ?a23 ?l23 ?c23 ?k23 ?a24 ?l24 ?c24 ?k24 ?a25 ?l25 ?c25 ?k25 ?a26 ?l26 ?c26 ?k26 ?a27 ?l27 ?c27 ?k27 ?a28 ?l28 ?c28 ?k28 ?a29 ?l29 ?c29 ?k29 ?a30 ?l30 ?c30 ?k30 ?a31 ?l31 ?c31 ?k31 ?a32 ?l32 ?c32 ?k32 ?z_ValueError ?z_all ?z_bool ?z_dict ?z_enumerate ?z_int ?z_isinstance ?z_len ?z_list ?z_range ?z_str ?z_tuple ?z_zip ?w_MOST_DEEDS ?y_Full ?y_Lacking ?y_NoCask ?y_NoChange ?y_NoDeed ?y_NoName ?y_NoNumber ?y_NoPlace ?y_NoRow ?y_NoRule ?y_NoText ?y_NotSteady ?y_Tied ?y_TierError ?y_TooMany ?e_NoCask ?x_NoCask ?i_NoCask_Full ?m_NoCask_Full ?i_NoCask_Lacking ?m_NoCask_Lacking ?i_NoCask_NoCask ?m_NoCask_NoCask ?i_NoCask_NoChange ?m_NoCask_NoChange ?i_NoCask_NoDeed ?m_NoCask_NoDeed ?i_NoCask_NoName ?m_NoCask_NoName ?i_NoCask_NoNumber ?m_NoCask_NoNumber ?i_NoCask_NoPlace ?m_NoCask_NoPlace ?i_NoCask_NoRow ?m_NoCask_NoRow ?i_NoCask_NoRule ?m_NoCask_NoRule ?i_NoCask_NoText ?m_NoCask_NoText ?i_NoCask_NotSteady ?m_NoCask_NotSteady ?i_NoCask_Tied ?m_NoCask_Tied ?i_NoCask_TierError ?m_NoCask_TierError ?i_NoCask_TooMany ?m_NoCask_TooMany ?v_NoCask ?e_NoPlace ?x_NoPlace ?i_NoPlace_Full ?m_NoPlace_Full ?i_NoPlace_Lacking ?m_NoPlace_Lacking ?i_NoPlace_NoCask ?m_NoPlace_NoCask ?i_NoPlace_NoChange ?m_NoPlace_NoChange ?i_NoPlace_NoDeed ?m_NoPlace_NoDeed ?i_NoPlace_NoName ?m_NoPlace_NoName ?i_NoPlace_NoNumber ?m_NoPlace_NoNumber ?i_NoPlace_NoPlace ?m_NoPlace_NoPlace ?i_NoPlace_NoRow ?m_NoPlace_NoRow ?i_NoPlace_NoRule ?m_NoPlace_NoRule ?i_NoPlace_NoText ?m_NoPlace_NoText ?i_NoPlace_NotSteady ?m_NoPlace_NotSteady ?i_NoPlace_Tied ?m_NoPlace_Tied ?i_NoPlace_TierError ?m_NoPlace_TierError ?i_NoPlace_TooMany ?m_NoPlace_TooMany ?v_NoPlace ?e_TooMany ?x_TooMany ?i_TooMany_Full ?m_TooMany_Full ?i_TooMany_Lacking ?m_TooMany_Lacking ?i_TooMany_NoCask ?m_TooMany_NoCask ?i_TooMany_NoChange ?m_TooMany_NoChange ?i_TooMany_NoDeed ?m_TooMany_NoDeed ?i_TooMany_NoName ?m_TooMany_NoName ?i_TooMany_NoNumber ?m_TooMany_NoNumber ?i_TooMany_NoPlace ?m_TooMany_NoPlace ?i_TooMany_NoRow ?m_TooMany_NoRow ?i_TooMany_NoRule ?m_TooMany_NoRule ?i_TooMany_NoText ?m_TooMany_NoText ?i_TooMany_NotSteady ?m_TooMany_NotSteady ?i_TooMany_Tied ?m_TooMany_Tied ?i_TooMany_TierError ?m_TooMany_TierError ?i_TooMany_TooMany ?m_TooMany_TooMany ?v_TooMany
  (case a0 => k_is); (case l0 => k_is); (case c0 => k_is); (case k0 => k_is); (case a1 => k_is); (case l1 => k_is); (case c1 => k_is); (case k1 => k_is)
  (case a2 => k_is); (case l2 => k_is); (case c2 => k_is); (case k2 => k_is); (case a3 => k_is); (case l3 => k_is); (case c3 => k_is); (case k3 => k_is)
  (case a4 => k_is); (case l4 => k_is); (case c4 => k_is); (case k4 => k_is); (case a5 => k_is); (case l5 => k_is); (case c5 => k_is); (case k5 => k_is)
  (case a6 => k_is); (case l6 => k_is); (case c6 => k_is); (case k6 => k_is); (case a7 => k_is); (case l7 => k_is); (case c7 => k_is); (case k7 => k_is)
  (case a8 => k_is); (case l8 => k_is); (case c8 => k_is); (case k8 => k_is); (case a9 => k_is); (case l9 => k_is); (case c9 => k_is); (case k9 => k_is)
  (case a10 => k_is); (case l10 => k_is); (case c10 => k_is); (case k10 => k_is); (case a11 => k_is); (case l11 => k_is); (case c11 => k_is); (case k11 => k_is)
  (case a12 => k_is); (case l12 => k_is); (case c12 => k_is); (case k12 => k_is); (case a13 => k_is); (case l13 => k_is); (case c13 => k_is); (case k13 => k_is)
  (case a14 => k_is); (case l14 => k_is); (case c14 => k_is); (case k14 => k_is); (case a15 => k_is); (case l15 => k_is); (case c15 => k_is); (case k15 => k_is)
  (case a16 => k_is); (case l16 => k_is); (case c16 => k_is); (case k16 => k_is); (case a17 => k_is); (case l17 => k_is); (case c17 => k_is); (case k17 => k_is)
  (case a18 => k_is); (case l18 => k_is); (case c18 => k_is); (case k18 => k_is); (case a19 => k_is); (case l19 => k_is); (case c19 => k_is); (case k19 => k_is)
  (case a20 => k_is); (case l20 => k_is); (case c20 => k_is); (case k20 => k_is); (case a21 => k_is); (case l21 => k_is); (case c21 => k_is); (case k21 => k_is)
  (case a22 => k_is); (case l22 => k_is); (case c22 => k_is); (case k22 => k_is); (case a23 => k_is); (case l23 => k_is); (case c23 => k_is); (case k23 => k_is)
  (case a24 => k_is); (case l24 => k_is); (case c24 => k_is); (case k24 => k_is); (case a25 => k_is); (case l25 => k_is); (case c25 => k_is); (case k25 => k_is)
  (case a26 => k_is); (case l26 => k_is); (case c26 => k_is); (case k26 => k_is); (case a27 => k_is); (case l27 => k_is); (case c27 => k_is); (case k27 => k_is)
  (case a28 => k_is); (case l28 => k_is); (case c28 => k_is); (case k28 => k_is); (case a29 => k_is); (case l29 => k_is); (case c29 => k_is); (case k29 => k_is)
  (case a30 => k_is); (case l30 => k_is); (case c30 => k_is); (case k30 => k_is); (case a31 => k_is); (case l31 => k_is); (case c31 => k_is); (case k31 => k_is)
  (case a32 => k_is); (case l32 => k_is); (case c32 => k_is); (case k32 => k_is); (case z_ValueError => k_is); (case z_all => k_is); (case z_bool => k_is); (case z_dict => k_is)
  (case z_enumerate => k_is); (case z_int => k_is); (case z_isinstance => k_is); (case z_len => k_is); (case z_list => k_is); (case z_range => k_is); (case z_str => k_is); (case z_tuple => k_is)
  (case z_zip => k_is); (case w_MOST_DEEDS => k_is); (case y_Full => k_is); (case y_Lacking => k_is); (case y_NoCask => k_is); (case y_NoChange => k_is); (case y_NoDeed => k_is); (case y_NoName => k_is)
  (case y_NoNumber => k_is); (case y_NoPlace => k_is); (case y_NoRow => k_is); (case y_NoRule => k_is); (case y_NoText => k_is); (case y_NotSteady => k_is); (case y_Tied => k_is); (case y_TierError => k_is)
  (case y_TooMany => k_is)
  (case e_NoCask => k_exc)
  (case x_NoCask => refine ⟨?_, ?_, ?_, ?_, ?_⟩ <;> k_is)
  (case i_NoCask_Full => kit_is)
  (case m_NoCask_Full => kts_exm)
  (case i_NoCask_Lacking => kit_is)
  (case m_NoCask_Lacking => kts_exm)
  (case i_NoCask_NoCask => kit_is)
  (case m_NoCask_NoCask => kts_exm)
  (case i_NoCask_NoChange => kit_is)
  (case m_NoCask_NoChange => kts_exm)
  (case i_NoCask_NoDeed => kit_is)
  (case m_NoCask_NoDeed => kts_exm)
  (case i_NoCask_NoName => kit_is)
  (case m_NoCask_NoName => kts_exm)
  (case i_NoCask_NoNumber => kit_is)
  (case m_NoCask_NoNumber => kts_exm)
  (case i_NoCask_NoPlace => kit_is)
  (case m_NoCask_NoPlace => kts_exm)
  (case i_NoCask_NoRow => kit_is)
  (case m_NoCask_NoRow => kts_exm)
  (case i_NoCask_NoRule => kit_is)
  (case m_NoCask_NoRule => kts_exm)
  (case i_NoCask_NoText => kit_is)
  (case m_NoCask_NoText => kts_exm)
  (case i_NoCask_NotSteady => kit_is)
  (case m_NoCask_NotSteady => kts_exm)
  (case i_NoCask_Tied => kit_is)
  (case m_NoCask_Tied => kts_exm)
  (case i_NoCask_TierError => kit_is)
  (case m_NoCask_TierError => kts_exm)
  (case i_NoCask_TooMany => kit_is)
  (case m_NoCask_TooMany => kts_exm)
  (case v_NoCask => kit_is)
  (case e_NoPlace => k_exc)
  (case x_NoPlace => refine ⟨?_, ?_, ?_, ?_, ?_⟩ <;> k_is)
  (case i_NoPlace_Full => kit_is)
  (case m_NoPlace_Full => kts_exm)
  (case i_NoPlace_Lacking => kit_is)
  (case m_NoPlace_Lacking => kts_exm)
  (case i_NoPlace_NoCask => kit_is)
  (case m_NoPlace_NoCask => kts_exm)
  (case i_NoPlace_NoChange => kit_is)
  (case m_NoPlace_NoChange => kts_exm)
  (case i_NoPlace_NoDeed => kit_is)
  (case m_NoPlace_NoDeed => kts_exm)
  (case i_NoPlace_NoName => kit_is)
  (case m_NoPlace_NoName => kts_exm)
  (case i_NoPlace_NoNumber => kit_is)
  (case m_NoPlace_NoNumber => kts_exm)
  (case i_NoPlace_NoPlace => kit_is)
  (case m_NoPlace_NoPlace => kts_exm)
  (case i_NoPlace_NoRow => kit_is)
  (case m_NoPlace_NoRow => kts_exm)
  (case i_NoPlace_NoRule => kit_is)
  (case m_NoPlace_NoRule => kts_exm)
  (case i_NoPlace_NoText => kit_is)
  (case m_NoPlace_NoText => kts_exm)
  (case i_NoPlace_NotSteady => kit_is)
  (case m_NoPlace_NotSteady => kts_exm)
  (case i_NoPlace_Tied => kit_is)
  (case m_NoPlace_Tied => kts_exm)
  (case i_NoPlace_TierError => kit_is)
  (case m_NoPlace_TierError => kts_exm)
  (case i_NoPlace_TooMany => kit_is)
  (case m_NoPlace_TooMany => kts_exm)
  (case v_NoPlace => kit_is)
  (case e_TooMany => k_exc)
  (case x_TooMany => refine ⟨?_, ?_, ?_, ?_, ?_⟩ <;> k_is)
  (case i_TooMany_Full => kit_is)
  (case m_TooMany_Full => kts_exm)
  (case i_TooMany_Lacking => kit_is)
  (case m_TooMany_Lacking => kts_exm)
  (case i_TooMany_NoCask => kit_is)
  (case m_TooMany_NoCask => kts_exm)
  (case i_TooMany_NoChange => kit_is)
  (case m_TooMany_NoChange => kts_exm)
  (case i_TooMany_NoDeed => kit_is)
  (case m_TooMany_NoDeed => kts_exm)
  (case i_TooMany_NoName => kit_is)
  (case m_TooMany_NoName => kts_exm)
  (case i_TooMany_NoNumber => kit_is)
  (case m_TooMany_NoNumber => kts_exm)
  (case i_TooMany_NoPlace => kit_is)
  (case m_TooMany_NoPlace => kts_exm)
  (case i_TooMany_NoRow => kit_is)
  (case m_TooMany_NoRow => kts_exm)
  (case i_TooMany_NoRule => kit_is)
  (case m_TooMany_NoRule => kts_exm)
  (case i_TooMany_NoText => kit_is)
  (case m_TooMany_NoText => kts_exm)
  (case i_TooMany_NotSteady => kit_is)
  (case m_TooMany_NotSteady => kts_exm)
  (case i_TooMany_Tied => kit_is)
  (case m_TooMany_Tied => kts_exm)
  (case i_TooMany_TierError => kit_is)
  (case m_TooMany_TierError => kts_exm)
  (case i_TooMany_TooMany => kit_is)
  (case m_TooMany_TooMany => kts_exm)
  (case v_TooMany => kit_is)
 case S => exact fun K H a ns hl hO hS => ⟨a, ns, rfl, hS, hl, fun _ => rfl⟩
 case C => exact fun H s e s' z => z

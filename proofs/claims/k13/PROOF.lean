import PyProof.Rows.All
import Wide.All
import OpenK.AllK
import Wide.FinOn
import Lean
import PyProof.EqAt
import PyProof.EqKinds
import PyProof.TupleCall
import PySem.Challenge.RW_tiercask_k13_no_script
set_option Elab.async false
set_option linter.all false
set_option maxRecDepth 100000
set_option genSizeOf false
set_option maxHeartbeats 4000000
set_option exponentiation.threshold 100000
/-! THE HAND LAYER, for ints, bools, texts, own classes, LISTS and tuples (index, slices, in, append, pop ..), calls, loops. Paste it whole ahead of your own text; what your proof does not reach may be deleted. -/
namespace L2
open PySem PySem.Spec PyProof.Rows

noncomputable abbrev Key := Sum Int Str
noncomputable def keyIs : Key → Value → Bool
 | .inl k, v => Value.isInt k v
 | .inr x, v => Value.isStrOf x v
noncomputable def keyH (w : World) : Key → Int
 | .inl k => hashInt k
 | .inr x => hashStr w x
theorem keyIs_shape : ∀ {k : Key} {v : Value}, keyIs k v = true → (∃ i t, k = Sum.inl i ∧ v = Value.int i t) ∨ (∃ x t, k = Sum.inr x ∧ v = Value.str x t)
 | .inl i, v, h => by
  obtain ⟨t, e⟩ := Value.isInt_shape (k := i) (v := v) h
  exact .inl ⟨i, t, rfl, e⟩
 | .inr x, v, h => by
  obtain ⟨t, e⟩ := Value.isStrOf_shape (x := x) (v := v) h
  exact .inr ⟨x, t, rfl, e⟩
theorem keyIs_str (x : Str) (t : Tok) : keyIs (.inr x) (.str x t) = true := by simp [keyIs, Value.isStrOf]
theorem key_ll (a b : Int) : decide ((Sum.inl a : Key) = Sum.inl b) = (a == b) := by
 by_cases e : a = b
 ·subst e; simp
 ·have h : ¬ (Sum.inl a : Key) = Sum.inl b := fun q => e (Sum.inl.inj q)
  rw [decide_eq_false h]
  exact (beq_eq_false_iff_ne.mpr e).symm
theorem key_rr (a b : Str) : decide ((Sum.inr a : Key) = Sum.inr b) = decide (a = b) := by
 by_cases e : a = b
 ·subst e; simp
 ·have h : ¬ (Sum.inr a : Key) = Sum.inr b := fun q => e (Sum.inr.inj q)
  rw [decide_eq_false h, decide_eq_false e]
theorem key_lr (a : Int) (b : Str) : decide ((Sum.inl a : Key) = Sum.inr b) = false := decide_eq_false (fun q => nomatch q)
theorem key_rl (a : Str) (b : Int) : decide ((Sum.inr a : Key) = Sum.inl b) = false := decide_eq_false (fun q => nomatch q)

noncomputable def mixKind (prog : Program) (w : World) : PySem.KeyKind prog w Key where
 is := keyIs
 hash := keyH w
 inj := fun v a b ha hb => by
  rcases keyIs_shape ha with ⟨i, t, rfl, rfl⟩ | ⟨x, t, rfl, rfl⟩
  ·rcases keyIs_shape hb with ⟨j, u, rfl, e⟩ | ⟨y, u, rfl, e⟩
   ·injection e with e1 _; rw [e1]
   ·exact nomatch e
  ·rcases keyIs_shape hb with ⟨j, u, rfl, e⟩ | ⟨y, u, rfl, e⟩
   ·exact nomatch e
   ·injection e with e1 _; rw [e1]
 byValue := fun k v h => by
  rcases keyIs_shape h with ⟨i, t, rfl, rfl⟩ | ⟨x, t, rfl, rfl⟩ <;> rfl
 pyHash := fun hv h => by
  rcases keyIs_shape hv with ⟨i, t, rfl, rfl⟩ | ⟨x, t, rfl, rfl⟩
  ·exact wpAny_pyHash_int h
  ·exact wpAny_pyHash_str h
 eqBool := fun hu hv h => by
  rcases keyIs_shape hu with ⟨i, t, rfl, rfl⟩ | ⟨x, t, rfl, rfl⟩
  ·rcases keyIs_shape hv with ⟨j, u, rfl, rfl⟩ | ⟨y, u, rfl, rfl⟩
   ·rw [key_ll] at h; exact wpAny_eqBool_int h
   ·rw [key_lr] at h; exact SeqAt.EqAt.int_str i t y u _ _ _ _ h
  ·rcases keyIs_shape hv with ⟨j, u, rfl, rfl⟩ | ⟨y, u, rfl, rfl⟩
   ·rw [key_rl] at h; exact SeqAt.EqAt.str_int x t j u _ _ _ _ h
   ·rw [key_rr] at h; exact wpAny_eqBool_str h
 «strs» := fun k x t v h => by
  rcases keyIs_shape h with ⟨i, u, rfl, e⟩ | ⟨y, u, rfl, e⟩
  ·exact nomatch e
  ·injection e with e1 _
   subst e1
   cases v <;> rfl

end L2

namespace L2
open PySem PySem.Spec PyProof.Rows

inductive V where
 | non | bl (b : Bool) | int (i : Int) | str (x : Str) | byt (b : Array UInt8) | flt (b : UInt64) | ref (a : Addr) | ty (n : String)
 deriving DecidableEq

noncomputable def RelV : V → Value → Prop
 | .non, u => u = Value.none
 | .bl b, u => u = Value.bool b
 | .int i, u => ∃ t, u = Value.int i t
 | .str x, u => ∃ t, u = Value.str x t
 | .byt b, u => ∃ t, u = Value.bytes b t
 | .flt b, u => ∃ t, u = Value.float b t
 | .ref a, u => u = Value.ref a
 | .ty n, u => u = Value.type n

noncomputable abbrev Vals : List V → List Value → Prop := Paired RelV
theorem Vals.length {xs : List V} {us : List Value} (r : Vals xs us) : xs.length = us.length := Paired.length r
theorem Vals.get : ∀ {xs : List V} {us : List Value} {i : Nat} {x : V}, Vals xs us → xs[i]? = some x → ∃ u, us[i]? = some u ∧ RelV x u
 | _, _, _, _, .nil, e => by simp at e
 | _, _, 0, _, .cons r _, e => by simp at e; subst e; exact ⟨_, rfl, r⟩
 | _, _, i + 1, x, .cons _ t, e => by
  obtain ⟨u, h1, h2⟩ := Vals.get (i := i) (x := x) t (by simpa using e)
  exact ⟨u, by simpa using h1, h2⟩
theorem Vals.set {x : V} {u : Value} (r : RelV x u) : ∀ {xs : List V} {us : List Value} (i : Nat), Vals xs us → Vals (xs.set i x) (us.set i u)
 | _, _, _, .nil => .nil
 | _, _, 0, .cons _ t => .cons r t
 | _, _, i + 1, .cons q t => .cons q (Vals.set r i t)
theorem Vals.append : ∀ {xs ys : List V} {us ws : List Value}, Vals xs us → Vals ys ws → Vals (xs ++ ys) (us ++ ws)
 | _, _, _, _, .nil, s => s
 | _, _, _, _, .cons r t, s => .cons r (Vals.append t s)
theorem Vals.take : ∀ {xs : List V} {us : List Value} (n : Nat), Vals xs us → Vals (xs.take n) (us.take n)
 | _, _, 0, _ => .nil
 | _, _, _ + 1, .nil => .nil
 | _, _, n + 1, .cons r t => .cons r (Vals.take n t)
theorem Vals.drop : ∀ {xs : List V} {us : List Value} (n : Nat), Vals xs us → Vals (xs.drop n) (us.drop n)
 | _, _, 0, r => r
 | _, _, _ + 1, .nil => .nil
 | _, _, n + 1, .cons _ t => Vals.drop n t
noncomputable def RelO : Option V → Option Value → Prop
 | some v, some u => RelV v u
 | none, none => True
 | _, _ => False
noncomputable def KV {κ : Type} : List (κ × V) → List (κ × Value) → Prop := Paired fun (p : κ × V) (q : κ × Value) => p.1 = q.1 ∧ RelV p.2 q.2

noncomputable def kV : Key → V
 | .inl i => .int i
 | .inr x => .str x

inductive HO where
 | lst (xs : List V)
 | tup (xs : List V)
 | dK (kvs : List (Key × V)) | dT (kvs : List (List Key × V))
 | set (S : Int → Bool) (n : Nat)
 | ins (C dx : Addr) (fs : List (Str × V))
 | own (x : Addr)
 | xd (fs : List (Str × V))
 | met (f x : Addr)
 | rng (lo hi : Int)
 | frz (o : Obj) (u : HO)
 | tbl (ps : Array Value)
 | ext (φ : Heap → Prop)

noncomputable abbrev Hp := Addr → Option HO
noncomputable def upd (H : Hp) (a : Addr) (o : HO) : Hp := fun b => if b = a then some o else H b
theorem upd_same {H : Hp} {a : Addr} {o : HO} : upd H a o a = some o := by unfold upd; rw [if_pos rfl]
theorem upd_ne {H : Hp} {a b : Addr} {o : HO} (h : b ≠ a) : upd H a o b = H b := by unfold upd; rw [if_neg h]
theorem ne_of_none {H : Hp} {a b : Addr} {o : HO} (h : H a = some o) (h' : H b = none) : a ≠ b := by
 intro e; subst e; rw [h] at h'; cases h'

section
variable (P : Program) (w : World)
noncomputable def ObjOk (H : Hp) (h : Heap) (a : Addr) : HO → Prop
 | .lst xs => xs.length ≤ sizeLine ∧ ∃ (its : List Value) (n : Nat), Vals xs its ∧ h.get? a = some { cls := .type "list", data := .seq its.toArray n }
 | .tup xs => xs.length ≤ sizeLine ∧ ∃ its : List Value, Vals xs its ∧ IsTup h a its.toArray
 | .dK kvs => kvs.length ≤ sizeLine ∧ (a == sysModules) = false ∧ ∃ vs, KV kvs vs ∧ h.DictOf (mixKind P w) a vs
 | .dT kvs => kvs.length ≤ sizeLine ∧ (a == sysModules) = false ∧ ∃ xs : List (List Key × Addr × Value),
   Paired (fun (p : List Key × V) (q : List Key × Addr × Value) => p.1 = q.1 ∧ H q.2.1 = some (.tup (p.1.map kV)) ∧ RelV p.2 q.2.2) kvs xs ∧
   ∃ o es ep, h.get? a = some o ∧ o.ExactDict ∧ o.data = .dict es ep ∧ es.toList = xs.map (entryOfKey (tupleKind (mixKind P w))) ∧ (xs.map (·.1)).Nodup
 | .set S n => h.SetOf (intKind P w) a S n
 | .ins C dx fs => H dx = some (.own a) ∧ fs.length ≤ 1000 ∧ dx ≠ a ∧ h.get? a = some (PySem.W.instObj C dx) ∧
   ∃ mA, h.Ns1 dx mA ∧ (∀ f, RelO (fs.lookup f) (mA f)) ∧ PySem.Within mA (fs.map (·.1))
 | .own _ => ∃ o, h.get? a = some o
 | .xd fs => ∃ mA, h.Ns1 a mA ∧ ∀ f, RelO (fs.lookup f) (mA f)
 | .rng lo hi => ∃ t u v, h.get? a = some { cls := .type "range", data := .fields #[.int lo t, .int hi u, .int 1 v] }
 | .frz o u => h.get? a = some o ∧ ObjOk H h a u
 | .tbl ps => h.get? a = some { cls := .none, data := .fields ps }
 | .met f x => h.get? a = some (PySem.W.methodObj (.ref f) (.ref x))
 | .ext φ => φ h ∧ (∃ o, h.get? a = some o) ∧ ∀ h1 h2 : Heap, φ h1 → (∀ o, h1.get? a = some o → h2.get? a = some o) → φ h2
noncomputable def HOk (H : Hp) (h : Heap) : Prop := ∀ a o, H a = some o → ObjOk P w H h a o
end

section
variable {P : Program} {w : World} {H H' : Hp} {h h' : Heap} {a : Addr} {o : HO}
theorem ObjOk.lt (x : ObjOk P w H h a o) : a < h.objs.size := by
 cases o with
 | lst xs => obtain ⟨_, _, _, _, e⟩ := x; exact Heap.lt_size e
 | tup xs => obtain ⟨_, _, _, p⟩ := x; exact p.lt
 | dK kvs => obtain ⟨_, _, _, _, o, _, _, e, _⟩ := x; exact Heap.lt_size e
 | dT kvs => obtain ⟨_, _, _, _, o, _, _, e, _⟩ := x; exact Heap.lt_size e
 | set S n => obtain ⟨o, _, _, _, e, _⟩ := x; exact Heap.lt_size e
 | ins C dx fs => obtain ⟨_, _, _, e, _⟩ := x; exact Heap.lt_size e
 | own y => obtain ⟨_, e⟩ := x; exact Heap.lt_size e
 | xd fs => obtain ⟨_, ⟨_, _, _, e, _⟩, _⟩ := x; exact Heap.lt_size e
 | rng lo hi => obtain ⟨_, _, _, e⟩ := x; exact Heap.lt_size e
 | frz ob u => obtain ⟨e, _⟩ := x; exact Heap.lt_size e
 | tbl ps => exact Heap.lt_size (show h.get? a = some _ from x)
 | met f y => exact Heap.lt_size (show h.get? a = some _ from x)
 | ext φ => obtain ⟨_, ⟨_, e⟩, _⟩ := x; exact Heap.lt_size e
theorem Paired.mapP {α β : Type} {F G : α → β → Prop} : ∀ {l₁ : List α} {l₂ : List β}, Paired F l₁ l₂ → (∀ a b, F a b → G a b) → Paired G l₁ l₂
 | _, _, .nil, _ => .nil
 | _, _, .cons r t, f => .cons (f _ _ r) (Paired.mapP t f)
theorem ObjOk.stay (x : ObjOk P w H h a o) (k : ∀ b u, (b = a ∨ H b = some (.own a)) → h.get? b = some u → h'.get? b = some u)
  (ho : ∀ b, H b = some (.own a) → H' b = some (.own a)) (ht : ∀ b xs, H b = some (.tup xs) → H' b = some (.tup xs)) : ObjOk P w H' h' a o := by
 induction o with
 | lst xs => obtain ⟨z, its, n, r, e⟩ := x; exact ⟨z, its, n, r, k _ _ (.inl rfl) e⟩
 | tup xs => obtain ⟨z, its, r, ob, e, c⟩ := x; exact ⟨z, its, r, ob, k _ _ (.inl rfl) e, c⟩
 | dK kvs => obtain ⟨z, y, vs, r, ob, es, ep, e, c⟩ := x; exact ⟨z, y, vs, r, ob, es, ep, k _ _ (.inl rfl) e, c⟩
 | dT kvs =>
  obtain ⟨z, y, xs, r, ob, es, ep, e, c⟩ := x
  exact ⟨z, y, xs, Paired.mapP r fun p q z => ⟨z.1, ht _ _ z.2.1, z.2.2⟩, ob, es, ep, k _ _ (.inl rfl) e, c⟩
 | set S n => obtain ⟨ob, es, ep, t, e, c⟩ := x; exact ⟨ob, es, ep, t, k _ _ (.inl rfl) e, c⟩
 | ins C dx fs =>
  obtain ⟨d, z, ne, e, mA, ⟨od, es, ep, e2, c⟩, r⟩ := x
  exact ⟨ho _ d, z, ne, k _ _ (.inl rfl) e, mA, ⟨od, es, ep, k _ _ (.inr d) e2, c⟩, r⟩
 | own y => obtain ⟨ob, e⟩ := x; exact ⟨ob, k _ _ (.inl rfl) e⟩
 | xd fs => obtain ⟨mA, ⟨od, es, ep, e, c⟩, r⟩ := x; exact ⟨mA, ⟨od, es, ep, k _ _ (.inl rfl) e, c⟩, r⟩
 | rng lo hi => obtain ⟨t, u, v, e⟩ := x; exact ⟨t, u, v, k _ _ (.inl rfl) e⟩
 | frz ob u ih => obtain ⟨e, q⟩ := x; exact ⟨k _ _ (.inl rfl) e, ih q⟩
 | tbl ps =>
  have e : h.get? a = some { cls := .none, data := .fields ps } := x
  show h'.get? a = some { cls := .none, data := .fields ps }
  exact k a _ (.inl rfl) e
 | met f y =>
  have e : h.get? a = some (PySem.W.methodObj (.ref f) (.ref y)) := x
  show h'.get? a = some (PySem.W.methodObj (.ref f) (.ref y))
  exact k a _ (.inl rfl) e
 | ext φ => obtain ⟨p, ⟨o, e⟩, st⟩ := x; exact ⟨st _ _ p fun o q => k _ _ (.inl rfl) q, ⟨o, k _ _ (.inl rfl) e⟩, st⟩
theorem HOk.lt (x : HOk P w H h) (e : H a = some o) : a < h.objs.size := (x a o e).lt
theorem HOk.fresh (x : HOk P w H h) (e : h.objs.size ≤ a) : H a = none := by
 cases q : H a with
 | none => rfl
 | some u => exact absurd (Nat.lt_of_lt_of_le (x.lt q) e) (Nat.lt_irrefl _)
theorem HOk.kept (x : HOk P w H h) (k : ∀ b u, h.get? b = some u → h'.get? b = some u) : HOk P w H h' := fun a o e =>
 (x a o e).stay (fun b u _ q => k b u q) (fun _ q => q) fun _ _ q => q
theorem HOk.laid (x : HOk P w H h) (k : ∀ b u, h.get? b = some u → h'.get? b = some u) (hp : h.objs.size ≤ a) (new : ObjOk P w (upd H a o) h' a o) : HOk P w (upd H a o) h' := fun b u e => by
 have hn := x.fresh hp
 by_cases hb : b = a
 ·subst hb; rw [upd_same] at e; cases e; exact new
 ·rw [upd_ne hb] at e
  exact (x b u e).stay (fun c v _ q => k c v q) (fun c q => by rw [upd_ne (ne_of_none q hn)]; exact q) fun c xs q => by rw [upd_ne (ne_of_none q hn)]; exact q
end

noncomputable def Rd (H : Hp) (a : Addr) (u : HO) : Prop := H a = some u ∨ ∃ o, H a = some (.frz o u)
theorem Rd.ok {P : Program} {w : World} {H : Hp} {h : Heap} {a : Addr} {u : HO} (r : Rd H a u) (x : HOk P w H h) : ObjOk P w H h a u := by
 rcases r with r | ⟨o, r⟩
 ·exact x a u r
 ·obtain ⟨_, q⟩ := x a _ r
  exact q
noncomputable def Mut : Option HO → Prop
 | some (.lst _) => True
 | some (.dK _) => True
 | some (.dT _) => True
 | some (.set _ _) => True
 | some (.ins _ _ _) => True
 | some (.ext _) => True
 | _ => False
section
variable {P : Program} {w : World} {H : Hp} {h h' : Heap} {x e : Addr} {o' : HO}
theorem HOk.write (ok : HOk P w H h) (mu : Mut (H x)) (he : e = x ∨ H e = some (.own x)) (k : ∀ b u, b ≠ e → h.get? b = some u → h'.get? b = some u) (heo : ∃ u, h'.get? e = some u)
  (new : ObjOk P w (upd H x o') h' x o') : HOk P w (upd H x o') h' := fun b u q => by
 have nown : ∀ c y, H c = some (.own y) → c ≠ x := fun c y r z => by subst z; rw [r] at mu; exact mu
 have ntup : ∀ c xs, H c = some (.tup xs) → c ≠ x := fun c xs r z => by subst z; rw [r] at mu; exact mu
 by_cases hb : b = x
 ·subst hb; rw [upd_same] at q; cases q; exact new
 ·rw [upd_ne hb] at q
  by_cases hbe : b = e
  ·have q' : H b = some (.own x) := by
    rcases he with z | z
    ·exact absurd (hbe.trans z) hb
    ·rw [hbe]; exact z
   rw [q] at q'; cases q'
   obtain ⟨v, hv⟩ := heo
   exact ⟨v, by rw [hbe]; exact hv⟩
  ·refine (ok b u q).stay (fun c v hc r => k c v ?_ r) (fun c r => by rw [upd_ne (nown c b r)]; exact r) fun c xs r => by rw [upd_ne (ntup c xs r)]; exact r
   rcases hc with rfl | hc
   ·exact hbe
   ·rintro rfl
    rcases he with z | z
    ·exact nown c b hc z
    ·rw [hc] at z; cases z; exact hb rfl
end

/-! ### kept unless tracked; of the frames at fs (the callers') the slots may change (an exception that passes writes there); of the records at ex (iterators) nothing is said -/
structure Un (fs ex : List Addr) (H H' : Hp) (h h' : Heap) : Prop where
 keep : ∀ b o, h.get? b = some o → H b = none → b ∉ fs → b ∉ ex → h'.get? b = some o
 slot : ∀ b o, h.get? b = some o → H b = none → b ∈ fs → b ∉ ex → ∃ sl, h'.get? b = some { o with slots := sl }
 free : ∀ b o, h.get? b = some o → H b = none → b ∉ ex → H' b = none
 there : ∀ b o, h.get? b = some o → b ∉ ex → ∃ o', h'.get? b = some o'
 tups : ∀ b xs, H b = some (.tup xs) → H' b = some (.tup xs)
 frzs : ∀ b o u, H b = some (.frz o u) → H' b = some (.frz o u)
 tbls : ∀ b ps, H b = some (.tbl ps) → ∃ more, H' b = some (.tbl (ps ++ more))
section
variable {fs fs' ex ex' : List Addr} {H H1 H2 : Hp} {h h1 h2 h' : Heap} {a x e : Addr} {o : HO}
theorem Un.any (u : Un fs ex H H1 h h1) {b : Addr} {ob : Obj} (q : h.get? b = some ob) (n : H b = none) (hx : b ∉ ex) : ∃ sl, h1.get? b = some { ob with slots := sl } := by
 by_cases hb : b ∈ fs
 ·exact u.slot b ob q n hb hx
 ·exact ⟨ob.slots, u.keep b ob q n hb hx⟩
theorem Un.kept (k : ∀ b u, h.get? b = some u → h'.get? b = some u) : Un fs ex H H h h' :=
 ⟨fun b ob q _ _ _ => k b ob q, fun b ob q _ _ _ => ⟨ob.slots, k b ob q⟩, fun _ _ _ n _ => n, fun b ob q _ => ⟨ob, k b ob q⟩, fun _ _ q => q, fun _ _ _ q => q, fun _ ps q => ⟨#[], by rw [q]; simp⟩⟩
theorem Un.refl : Un fs ex H H h h := Un.kept fun _ _ q => q
theorem Un.laid (k : ∀ b u, h.get? b = some u → h'.get? b = some u) (hp : h.objs.size ≤ a) (hn : H a = none) : Un fs ex H (upd H a o) h h' where
 keep := fun b u q _ _ _ => k b u q
 slot := fun b u q _ _ _ => ⟨u.slots, k b u q⟩
 free := fun b u q n _ => by rw [upd_ne (Nat.ne_of_lt (Nat.lt_of_lt_of_le (Heap.lt_size q) hp))]; exact n
 there := fun b u q _ => ⟨u, k b u q⟩
 tups := fun b xs q => by rw [upd_ne (ne_of_none q hn)]; exact q
 frzs := fun b u xs q => by rw [upd_ne (ne_of_none q hn)]; exact q
 tbls := fun b ps q => ⟨#[], by rw [upd_ne (ne_of_none q hn), q]; simp⟩
theorem Un.write (mu : Mut (H x)) (he : e = x ∨ H e = some (.own x)) (k : ∀ b u, b ≠ e → h.get? b = some u → h'.get? b = some u) (heo : ∃ u, h'.get? e = some u) : Un fs ex H (upd H x o) h h' := by
 have hx : ∀ b, H b = none → b ≠ x := fun b n z => by subst z; rw [n] at mu; exact mu
 have hb : ∀ b, H b = none → b ≠ e := fun b n z => by
  subst z
  rcases he with r | r
  ·exact hx b n r
  ·rw [n] at r; cases r
 have hm : ∀ b u, H b = some u → ¬ Mut (some u) → b ≠ x := fun b u q nm z => by subst z; rw [q] at mu; exact nm mu
 refine ⟨fun b u q n _ _ => k b u (hb b n) q, fun b u q n _ _ => ⟨u.slots, k b u (hb b n) q⟩, fun b u q n _ => by rw [upd_ne (hx b n)]; exact n, fun b u q _ => ?_,
  fun b xs q => by rw [upd_ne (hm b _ q fun z => z)]; exact q, fun b u xs q => by rw [upd_ne (hm b _ q fun z => z)]; exact q, fun b ps q => ⟨#[], by rw [upd_ne (hm b _ q fun z => z), q]; simp⟩⟩
 by_cases hbe : b = e
 ·subst hbe; exact heo
 ·exact ⟨u, k b u hbe q⟩
end

/-! ### the heap without what is tracked -/
noncomputable def trk (h : Heap) (H : Hp) : List Addr := (List.range h.objs.size).filter fun a => (H a).isSome
noncomputable def hidT (h : Heap) (H : Hp) : Heap := PySem.W.hideAll h (trk h H)
theorem hidT_size (h : Heap) (H : Hp) : (hidT h H).objs.size = h.objs.size := PySem.W.hideAll_size _ _
theorem hidT_get {h : Heap} {H : Hp} {b : Addr} {o : Obj} (e : h.get? b = some o) (n : H b = none) : (hidT h H).get? b = some o :=
 PySem.W.hideAll_get _ e fun hm => by
  have q : (H b).isSome = true := (List.mem_filter.mp hm).2
  rw [n] at q; simp at q
theorem of_hidT {h : Heap} {H : Hp} {b : Addr} {o : Obj} (e : (hidT h H).get? b = some o) : h.get? b = some o ∧ H b = none := by
 have e' : h.get? b = some o := PySem.W.of_hideAll (trk h H) e
 refine ⟨e', ?_⟩
 cases q : H b with
 | none => rfl
 | some x =>
  have hm : b ∈ trk h H := List.mem_filter.mpr ⟨List.mem_range.mpr (Heap.lt_size e'), by simp [q]⟩
  have z : (hidT h H).get? b = none := PySem.W.hideAll_none (trk h H) hm
  rw [z] at e; cases e

/-! ### OpenK's ledger, filled with every new object but one -/
noncomputable def allNews (g h : Heap) (L : Addr) : List (Addr × Obj) := (List.range h.objs.size).filterMap fun a => if a = L ∨ (g.get? a).isSome = true then none else (h.get? a).map fun o => (a, o)
theorem mem_allNews {g h : Heap} {L a : Addr} {o : Obj} (h1 : a ≠ L) (h2 : g.get? a = none) (h3 : h.get? a = some o) : (a, o) ∈ allNews g h L :=
 List.mem_filterMap.mpr ⟨a, List.mem_range.mpr (Heap.lt_size h3), by simp [h1, h2, h3]⟩
theorem of_mem_allNews {g h : Heap} {L : Addr} {p : Addr × Obj} (hp : p ∈ allNews g h L) : p.1 ≠ L ∧ g.get? p.1 = none ∧ h.get? p.1 = some p.2 := by
 obtain ⟨b, _, e⟩ := List.mem_filterMap.mp hp
 split at e
 ·cases e
 ·rename_i hn
  cases q : h.get? b with
  | none => rw [q] at e; simp at e
  | some u =>
   rw [q] at e
   simp only [Option.map_some, Option.some.injEq] at e
   subst e
   refine ⟨fun z => hn (.inl z), ?_, q⟩
   show g.get? b = none
   cases r : g.get? b with
   | none => rfl
   | some v => exact (hn (.inr (by simp [r]))).elim
theorem news_all {g h : Heap} {L : Addr} : News g L h (allNews g h L) := fun p hp => let ⟨a, b, c⟩ := of_mem_allNews hp; ⟨c, a, b⟩
end L2

namespace L2
open PySem PySem.Spec PyProof.Rows

structure Mod (K : PySem.W.Frag) (mg : Str → Option Value) (base : Heap) : Prop where
 kin : K.In base
 glob : base.Ns mainGlobals mg
 blt : ∃ mb, base.Ns builtinsNs mb ∧ ∀ x : Str, x ≠ "__name__" → mb x = bootBuiltins x
 nolimit : base.NoLimit

set_option genInjectivity false in
structure Cx where
 prog : Program
 w : World
 K : PySem.W.Frag
 mg : Str → Option Value
 base : Heap
 A : Around
 N : List Str
 s₀ : Shared
 H₀ : Hp
 env : Env
 outer : List Env
 stack : List Env
 ex : List Addr
 fn : Str → Bool
 calm : Bool
 pn : List (Addr × Obj)
 xe : Value → Shared → Prop
noncomputable def frs (l : List Env) : List Addr := l.filterMap (·.frame)
noncomputable abbrev Cx.fs (X : Cx) : List Addr := frs X.outer

noncomputable def Vis (sc : Scope) (x : Str) : Prop := sc.names.lookup x = some .local ∨ sc.names.lookup x = some .cell ∨ sc.names.lookup x = some .free
noncomputable def Loc (sc : Scope) (x : Str) : Prop := sc.names.lookup x = some .local ∨ sc.names.lookup x = some .cell
noncomputable def Look (env : Env) (h : Heap) (m : Str → Option Value) (x : Str) (u : Value) : Prop :=
 (env.kindOf x = some .local ∧ m x = some u) ∨ ((env.kindOf x = some .cell ∨ env.kindOf x = some .free) ∧ ∃ c, env.cells.lookup x = some c ∧ h.IsCell c (some u))

structure Cx.Ok (X : Cx) : Prop where
 mod : Mod X.K X.mg X.base
 kind : X.env.scope.kind = .function
 glob : X.env.globals = mainGlobals
 blt : X.env.builtins = builtinsNs
 above : X.s₀.heap.objs.size ≤ X.env.locals
 inj : ∀ x y c, X.env.cells.lookup x = some c → X.env.cells.lookup y = some c → x = y
 has : ∀ x, (X.env.kindOf x = some .cell ∨ X.env.kindOf x = some .free) → ∃ c, X.env.cells.lookup x = some c
 cab : ∀ x c, X.fn x = true → X.env.cells.lookup x = some c → X.s₀.heap.objs.size ≤ c
 hd : X.calm = true → X.A.handled = none
 frames : X.A.frames = some X.stack
 stk : X.stack = X.outer ∨ (X.stack = X.env :: X.outer ∧ X.env.frame = some X.env.locals)
 exf : ∀ b ∈ X.ex, b ≠ X.env.locals ∧ ∀ x c, X.env.cells.lookup x = some c → c ≠ b
 bs : ∀ b o, X.base.get? b = some o → X.s₀.heap.get? b = some o ∧ X.H₀ b = none
 bsz : X.base.objs.size ≤ X.s₀.heap.objs.size
 noex : ∀ b o, X.base.get? b = some o → b ∉ X.ex
 exfs : ∀ b ∈ X.ex, b ∉ X.fs
 funs : X.s₀.heap.FunFrames X.base X.outer
 frf : ∀ b ∈ X.fs, X.H₀ b = none

structure Inv (X : Cx) (pins : List (Addr × Obj)) (σ : List (Option V)) (H : Hp) (s : Shared) : Prop where
 ok : X.Ok
 os : s.os = X.s₀.os
 bare : AllBare s.gens
 base : Un X.fs X.ex X.H₀ H X.s₀.heap s.heap
 loc : ∃ m, s.heap.Ns X.env.locals m ∧ ∀ (i : Nat) (x : Str) (v : V), X.N[i]? = some x → σ[i]? = some (some v) → Vis X.env.scope x → ∃ u, RelV v u ∧ Look X.env s.heap m x u
 cell : ∀ x c, X.env.cells.lookup x = some c → ∃ v, s.heap.IsCell c v
 free : H X.env.locals = none
 freeC : ∀ x c, X.env.cells.lookup x = some c → H c = none
 pin : ∀ p ∈ X.pn ++ pins, s.heap.get? p.1 = some p.2 ∧ H p.1 = none ∧ p.1 ≠ X.env.locals ∧ p.1 ∉ X.fs ∧ ∀ v, p.2.data ≠ .cell v
 hok : HOk X.prog X.w H s.heap
 len : σ.length = X.N.length

section
variable {X : Cx} {pins : List (Addr × Obj)} {σ : List (Option V)} {H H' : Hp} {s : Shared} {h' : Heap}

theorem Cx.Ok.nofr (ok : X.Ok) {b : Addr} {o : Obj} (e : X.base.get? b = some o) : b ∉ X.fs := fun hb => by
 have := (ok.funs.mem hb).1
 rw [e] at this; cases this
theorem Inv.bs (I : Inv X pins σ H s) : ∀ b o, X.base.get? b = some o → s.heap.get? b = some o ∧ H b = none := fun b o e =>
 ⟨I.base.keep b o (I.ok.bs b o e).1 (I.ok.bs b o e).2 (I.ok.nofr e) (I.ok.noex b o e), I.base.free b o (I.ok.bs b o e).1 (I.ok.bs b o e).2 (I.ok.noex b o e)⟩
theorem Inv.bk (I : Inv X pins σ H s) : ∀ b o, X.base.get? b = some o → s.heap.get? b = some o := fun b o e => (I.bs b o e).1
theorem Inv.mod (I : Inv X pins σ H s) : Mod X.K X.mg X.base := I.ok.mod
theorem Inv.kIn (I : Inv X pins σ H s) : X.K.In s.heap := I.ok.mod.kin.keeps I.bk
theorem Inv.lt (I : Inv X pins σ H s) : X.env.locals < s.heap.objs.size := let ⟨_, hn, _⟩ := I.loc; hn.lt
theorem Inv.sz (I : Inv X pins σ H s) : X.s₀.heap.objs.size ≤ s.heap.objs.size := Nat.le_trans I.ok.above (Nat.le_of_lt I.lt)
theorem Inv.nofs (I : Inv X pins σ H s) {a : Addr} (h : s.heap.objs.size ≤ a) : a ∉ X.fs := fun hb => by
 obtain ⟨_, o, ho, _⟩ := I.ok.funs.mem hb
 exact absurd (Nat.lt_of_lt_of_le (Heap.lt_size ho) (Nat.le_trans I.sz h)) (Nat.lt_irrefl _)
theorem Inv.cne (I : Inv X pins σ H s) : ∀ x c, X.env.cells.lookup x = some c → c ≠ X.env.locals := fun x c e z => by
 obtain ⟨v, o, ho, hd⟩ := I.cell x c e
 obtain ⟨m, ⟨o', es, ep, ho', hd', _⟩, _⟩ := I.loc
 rw [z, ho'] at ho; cases ho; rw [hd'] at hd; cases hd
theorem Inv.funs (I : Inv X pins σ H s) : s.heap.FunFrames X.base X.outer := by
 have all : ∀ (l : List Env), (∀ b ∈ frs l, b ∈ X.fs) → X.s₀.heap.FunFrames X.base l → s.heap.FunFrames X.base l := by
  intro l
  induction l with
  | nil => intro _ _; trivial
  | cons env r ih =>
   intro hs hl
   obtain ⟨hk, ⟨L, o, hf, hn, ho, hd⟩, hr⟩ := hl
   have hL : L ∈ X.fs := hs L (by unfold frs; rw [List.filterMap_cons, hf]; exact List.mem_cons_self)
   obtain ⟨sl, e⟩ := I.base.slot L o ho (I.ok.frf L hL) hL fun z => I.ok.exfs L z hL
   exact ⟨hk, ⟨L, _, hf, hn, e, hd⟩, ih (fun b hb => hs b (by unfold frs; rw [List.filterMap_cons, hf]; exact List.mem_cons_of_mem _ hb)) hr⟩
 exact all X.outer (fun _ hb => hb) I.ok.funs

theorem Inv.stack (I : Inv X pins σ H s) : s.heap.FunFrames X.base X.stack := by
 rcases I.ok.stk with e | ⟨e, hf⟩
 ·rw [e]; exact I.funs
 ·rw [e]
  obtain ⟨m, hn, _⟩ := I.loc
  refine .cons (by rw [I.ok.kind]; decide) hf hn ?_ I.funs
  exact Heap.get?_none_of_le (Nat.le_trans I.ok.bsz I.ok.above)
theorem Inv.stkSub (I : Inv X pins σ H s) : ∀ b ∈ frs X.stack, b ∈ X.env.locals :: X.fs := fun b hb => by
 rcases I.ok.stk with e | ⟨e, hf⟩
 ·rw [e] at hb; exact List.mem_cons_of_mem _ hb
 ·rw [e] at hb
  unfold frs at hb
  rw [List.filterMap_cons, hf] at hb
  exact hb
theorem Inv.stkFree (I : Inv X pins σ H s) : ∀ b ∈ frs X.stack, H b = none := fun b hb => by
 rcases List.mem_cons.mp (I.stkSub b hb) with e | hb
 ·rw [e]; exact I.free
 ·obtain ⟨_, o, ho, _⟩ := I.ok.funs.mem hb
  exact I.base.free b o ho (I.ok.frf b hb) fun z => I.ok.exfs b z hb

theorem Inv.step {g' : Array GenState} {t' : Nat} {d' : Drawn} {ch : List Addr} (I : Inv X pins σ H s)
  (hch : ∀ b ∈ ch, (b ∈ X.ex ∨ X.s₀.heap.objs.size ≤ b) ∧ b ≠ X.env.locals ∧ (∀ x c, X.env.cells.lookup x = some c → c ≠ b) ∧ ∀ p ∈ X.pn ++ pins, p.1 ≠ b)
  (keep : ∀ b o, b ≠ X.env.locals → b ∉ X.fs → b ∉ ch → s.heap.get? b = some o → H b = none → h'.get? b = some o)
  (slot : ∀ b o, b ≠ X.env.locals → b ∈ X.fs → b ∉ ch → s.heap.get? b = some o → H b = none → ∃ sl, h'.get? b = some { o with slots := sl }) (free : ∀ b o, b ∉ ch → s.heap.get? b = some o → H b = none → H' b = none)
  (there : ∀ b o, b ∉ ch → s.heap.get? b = some o → ∃ o', h'.get? b = some o')
  (tups : ∀ b xs, H b = some (.tup xs) → H' b = some (.tup xs)) (frzs : ∀ b o u, H b = some (.frz o u) → H' b = some (.frz o u)) (tbls : ∀ b ps, H b = some (.tbl ps) → ∃ more, H' b = some (.tbl (ps ++ more)))
  (ns : ∀ m, s.heap.Ns X.env.locals m → h'.Ns X.env.locals m) (hok : HOk X.prog X.w H' h') (hg : AllBare g') :
  Inv X pins σ H' { s with heap := h', gens := g', drawn := d', toks := t' } := by
 have neL : ∀ b o, X.s₀.heap.get? b = some o → b ≠ X.env.locals := fun b o e => Nat.ne_of_lt (Nat.lt_of_lt_of_le (Heap.lt_size e) I.ok.above)
 have neC : ∀ b o, X.s₀.heap.get? b = some o → b ∉ X.ex → b ∉ ch := fun b o e hx hb => by
  rcases (hch b hb).1 with z | z
  ·exact hx z
  ·exact absurd (Nat.lt_of_lt_of_le (Heap.lt_size e) z) (Nat.lt_irrefl _)
 have cellK : ∀ x c, X.env.cells.lookup x = some c → ∀ v, s.heap.IsCell c v → h'.IsCell c v := fun x c e v ⟨o, ho, hd⟩ => by
  have nch : c ∉ ch := fun z => (hch c z).2.2.1 x c e rfl
  by_cases hc : c ∈ X.fs
  ·obtain ⟨sl, q⟩ := slot c o (I.cne x c e) hc nch ho (I.freeC x c e)
   exact ⟨_, q, hd⟩
  ·exact ⟨o, keep c o (I.cne x c e) hc nch ho (I.freeC x c e), hd⟩
 refine ⟨I.ok, I.os, hg, ⟨fun b o e n hb hx => ?_, fun b o e n hb hx => ?_, fun b o e n hx => ?_, fun b o e hx => ?_, fun b xs e => tups b xs (I.base.tups b xs e), fun b o xs e => frzs b o xs (I.base.frzs b o xs e), fun b ps e => ?_⟩, ?_, fun x c e => ?_, ?_, fun x c e => ?_, fun p hp => ?_, hok, I.len⟩
 ·exact keep b o (neL b o e) hb (neC b o e hx) (I.base.keep b o e n hb hx) (I.base.free b o e n hx)
 ·obtain ⟨sl, e1⟩ := I.base.slot b o e n hb hx
  obtain ⟨sl', e2⟩ := slot b _ (neL b o e) hb (neC b o e hx) e1 (I.base.free b o e n hx)
  exact ⟨sl', e2⟩
 ·obtain ⟨o', e1⟩ := I.base.there b o e hx
  exact free b o' (neC b o e hx) e1 (I.base.free b o e n hx)
 ·obtain ⟨o', e1⟩ := I.base.there b o e hx
  exact there b o' (neC b o e hx) e1
 ·obtain ⟨m1, e1⟩ := I.base.tbls b ps e
  obtain ⟨m2, e2⟩ := tbls b _ e1
  exact ⟨m1 ++ m2, by rw [e2, Array.append_assoc]⟩
 ·obtain ⟨m, hn, hl⟩ := I.loc
  refine ⟨m, ns m hn, fun i x v e1 e2 e3 => ?_⟩
  obtain ⟨u, r, l⟩ := hl i x v e1 e2 e3
  refine ⟨u, r, ?_⟩
  rcases l with l | ⟨k, c, e, z⟩
  ·exact .inl l
  ·exact .inr ⟨k, c, e, cellK x c e _ z⟩
 ·obtain ⟨v, z⟩ := I.cell x c e
  exact ⟨v, cellK x c e v z⟩
 ·obtain ⟨m, ⟨o, _, _, ho, _⟩, _⟩ := I.loc
  exact free _ o (fun z => (hch _ z).2.1 rfl) ho I.free
 ·obtain ⟨v, o, ho, hd⟩ := I.cell x c e
  exact free c o (fun z => (hch c z).2.2.1 x c e rfl) ho (I.freeC x c e)
 ·obtain ⟨e, n, ne, nf, d⟩ := I.pin p hp
  have nch : p.1 ∉ ch := fun z => (hch p.1 z).2.2.2 p hp rfl
  exact ⟨keep p.1 p.2 ne nf nch e n, free p.1 p.2 nch e n, ne, nf, d⟩
theorem Inv.un {t' : Nat} (I : Inv X pins σ H s) (u : Un X.fs [] H H' s.heap h') (hok : HOk X.prog X.w H' h') : Inv X pins σ H' { s with heap := h', toks := t' } := by
 obtain ⟨m, ⟨o, es, ep, ho, r⟩, _⟩ := id I.loc
 obtain ⟨sl, hL⟩ := u.any ho I.free (by simp)
 exact I.step (g' := s.gens) (d' := s.drawn) (ch := []) (fun _ z => nomatch z) (fun b o _ hb _ e n => u.keep b o e n hb (by simp)) (fun b o _ hb _ e n => u.slot b o e n hb (by simp)) (fun b o _ e n => u.free b o e n (by simp)) (fun b o _ e => u.there b o e (by simp)) u.tups u.frzs u.tbls (fun m' hm => by
  obtain ⟨o', es', ep', ho', r'⟩ := hm
  rw [ho] at ho'; cases ho'
  exact ⟨_, es', ep', hL, r'⟩) hok I.bare
theorem Inv.call {g' : Array GenState} {t' : Nat} {d' : Drawn} {ch : List Addr} (I : Inv X pins σ H s) (u : Un (frs X.stack) ch H H' s.heap h') (hok : HOk X.prog X.w H' h') (hg : AllBare g')
  (hch : ∀ b ∈ ch, (b ∈ X.ex ∨ X.s₀.heap.objs.size ≤ b) ∧ b ≠ X.env.locals ∧ (∀ x c, X.env.cells.lookup x = some c → c ≠ b) ∧ ∀ p ∈ X.pn ++ pins, p.1 ≠ b) :
  Inv X pins σ H' { s with heap := h', gens := g', drawn := d', toks := t' } := by
 obtain ⟨m, ⟨o, es, ep, ho, r⟩, _⟩ := id I.loc
 obtain ⟨sl, hL⟩ := u.any ho I.free fun z => (hch _ z).2.1 rfl
 exact I.step (ch := ch) hch (fun b o hL hb hc e n => u.keep b o e n (fun z => (List.mem_cons.mp (I.stkSub b z)).elim hL hb) hc) (fun b o _ _ hc e n => u.any e n hc) (fun b o hc e n => u.free b o e n hc) (fun b o hc e => u.there b o e hc) u.tups u.frzs u.tbls (fun m' hm => by
  obtain ⟨o', es', ep', ho', r'⟩ := hm
  rw [ho] at ho'; cases ho'
  exact ⟨_, es', ep', hL, r'⟩) hok hg
theorem Inv.turned {t' : Nat} {it : Addr} (I : Inv X pins σ H s) (k : ∀ b o, b ≠ it → s.heap.get? b = some o → h'.get? b = some o) (hn : H it = none) (hL : it ≠ X.env.locals)
  (h1 : it ∈ X.ex ∨ X.s₀.heap.objs.size ≤ it) (h2 : ∀ x c, X.env.cells.lookup x = some c → c ≠ it) (h3 : ∀ p ∈ X.pn ++ pins, p.1 ≠ it) : Inv X pins σ H { s with heap := h', toks := t' } := by
 have nit : ∀ b u, H b = some u → b ≠ it := fun b u e z => by rw [z, hn] at e; cases e
 refine I.step (g' := s.gens) (d' := s.drawn) (ch := [it]) (fun b hb => ?_) (fun b o _ _ hc e _ => k b o (fun z => hc (by simp [z])) e) (fun b o _ _ hc e _ => ⟨o.slots, k b o (fun z => hc (by simp [z])) e⟩) (fun _ _ _ _ n => n)
  (fun b o hc e => ⟨o, k b o (fun z => hc (by simp [z])) e⟩) (fun _ _ e => e) (fun _ _ _ e => e) (fun b ps e => ⟨#[], by rw [e]; simp⟩) (fun m hm => ?_) (fun b u e => ?_) I.bare
 ·have e : b = it := by simpa using hb
  subst e
  exact ⟨h1, hL, h2, h3⟩
 ·obtain ⟨o, es, ep, ho, r⟩ := hm
  exact ⟨o, es, ep, k _ o (Ne.symm hL) ho, r⟩
 ·refine (I.hok b u e).stay (fun c v hc q => k c v ?_ q) (fun _ q => q) fun _ _ q => q
  rcases hc with z | z
  ·rw [z]; exact nit b u e
  ·exact nit c _ z
theorem Inv.tok (I : Inv X pins σ H s) (t : Nat) : Inv X pins σ H { s with toks := t } := I.un (h' := s.heap) (t' := t) Un.refl I.hok
theorem Inv.kept {t' : Nat} (I : Inv X pins σ H s) (k : ∀ b u, s.heap.get? b = some u → h'.get? b = some u) : Inv X pins σ H { s with heap := h', toks := t' } := I.un (Un.kept k) (I.hok.kept k)
theorem Inv.laid {a : Addr} {o : HO} {t' : Nat} (I : Inv X pins σ H s) (k : ∀ b u, s.heap.get? b = some u → h'.get? b = some u) (hp : s.heap.objs.size ≤ a) (new : ObjOk X.prog X.w (upd H a o) h' a o) :
  Inv X pins σ (upd H a o) { s with heap := h', toks := t' } := I.un (Un.laid k hp (I.hok.fresh hp)) (I.hok.laid k hp new)
theorem Inv.write {x e : Addr} {o : HO} {t' : Nat} (I : Inv X pins σ H s) (mu : Mut (H x)) (he : e = x ∨ H e = some (.own x)) (k : ∀ b u, b ≠ e → s.heap.get? b = some u → h'.get? b = some u) (heo : ∃ u, h'.get? e = some u)
  (new : ObjOk X.prog X.w (upd H x o) h' x o) : Inv X pins σ (upd H x o) { s with heap := h', toks := t' } := I.un (Un.write mu he k heo) (I.hok.write mu he k heo new)
theorem Inv.pins_of {pins' : List (Addr × Obj)} (I : Inv X pins σ H s) (h : ∀ p ∈ pins', s.heap.get? p.1 = some p.2 ∧ H p.1 = none ∧ p.1 ≠ X.env.locals ∧ p.1 ∉ X.fs ∧ ∀ v, p.2.data ≠ .cell v) : Inv X pins' σ H s :=
 ⟨I.ok, I.os, I.bare, I.base, I.loc, I.cell, I.free, I.freeC, fun p hp => (List.mem_append.mp hp).elim (fun z => I.pin p (List.mem_append_left _ z)) (h p), I.hok, I.len⟩

theorem nodup_ix {N : List Str} (hN : N.Nodup) {i j : Nat} {x : Str} (a : N[i]? = some x) (b : N[j]? = some x) : i = j := by
 obtain ⟨h1, e1⟩ := List.getElem?_eq_some_iff.mp a
 obtain ⟨h2, e2⟩ := List.getElem?_eq_some_iff.mp b
 exact (List.getElem_inj hN).mp (e1.trans e2.symm)

theorem store_ok2 {M : Model} {A : Around} {E : Value → Shared → Prop} {i : Nat} {x : Str} {v : V} {u : Value} {Q : Unit → Shared → Prop} (I : Inv X pins σ H s) (hN : X.N.Nodup) (hi : X.N[i]? = some x) (hx : Loc X.env.scope x) (r : RelV v u)
  (h : ∀ s', Inv X pins (σ.set i (some v)) H s' → (∃ a, Heap.SameBut a s.heap s'.heap ∧ (a = X.env.locals ∨ X.env.cells.lookup x = some a)) → Q () s') (hf : X.fn x = true ∨ X.env.scope.names.lookup x = some .local := by first | exact .inl rfl | exact .inr rfl | assumption) : wpAny M A (storeName X.env x u) Q E s := by
 obtain ⟨m, hn, hl⟩ := id I.loc
 have hcls : (X.env.scope.kind == .class || (X.env.scope.kind == .module && X.env.locals != X.env.globals)) = false := by rw [I.ok.kind]; rfl
 have hiσ : i < σ.length := by rw [I.len]; exact (List.getElem?_eq_some_iff.mp hi).1
 have cne := I.cne
 have tracked : ∀ {a : Addr} {h' : Heap}, (∃ o, s.heap.get? a = some o ∧ H a = none) → Heap.SameBut a s.heap h' → HOk X.prog X.w H h' := fun {a h'} ha hs b ob e => by
  obtain ⟨_, _, hfree⟩ := ha
  refine (I.hok b ob e).stay (fun c w' hc q => (hs.2 c ?_).trans q) (fun _ q => q) fun _ _ q => q
  rintro rfl
  rcases hc with rfl | hc
  ·rw [hfree] at e; cases e
  ·rw [hfree] at hc; cases hc
 rcases hx with hk | hk
 ·refine wpAny_storeName_local hk hn (fun h' hn' hs => ?_) hcls
  obtain ⟨oL, _, _, hoL, _⟩ := id hn
  refine h _ ⟨I.ok, I.os, I.bare, ⟨fun b o e n hb hx => ?_, fun b o e n hb hx => ?_, I.base.free, fun b o e hx => ?_, I.base.tups, I.base.frzs, I.base.tbls⟩, ⟨_, hn', fun j y v' e1 e2 e3 => ?_⟩, fun y c e => ?_, I.free, I.freeC, fun p hp => ?_, tracked ⟨oL, hoL, I.free⟩ hs, by simpa using I.len⟩ ⟨_, hs, .inl rfl⟩
  ·exact (hs.2 b (Nat.ne_of_lt (Nat.lt_of_lt_of_le (Heap.lt_size e) I.ok.above))).trans (I.base.keep b o e n hb hx)
  ·obtain ⟨sl, e1⟩ := I.base.slot b o e n hb hx
   exact ⟨sl, (hs.2 b (Nat.ne_of_lt (Nat.lt_of_lt_of_le (Heap.lt_size e) I.ok.above))).trans e1⟩
  ·obtain ⟨o', e1⟩ := I.base.there b o e hx
   exact ⟨o', (hs.2 b (Nat.ne_of_lt (Nat.lt_of_lt_of_le (Heap.lt_size e) I.ok.above))).trans e1⟩
  ·by_cases hj : j = i
   ·subst hj
    rw [hi] at e1; cases e1
    rw [List.getElem?_set_self hiσ] at e2
    cases e2
    exact ⟨u, r, .inl ⟨hk, by simp⟩⟩
   ·rw [List.getElem?_set_ne (Ne.symm hj)] at e2
    obtain ⟨u', r', q⟩ := hl j y v' e1 e2 e3
    refine ⟨u', r', ?_⟩
    rcases q with ⟨k, e⟩ | ⟨k, c, e, z⟩
    ·refine .inl ⟨k, ?_⟩
     have : y ≠ x := fun e => hj (nodup_ix hN e1 (e ▸ hi))
     simp [this, e]
    ·exact .inr ⟨k, c, e, z.sameBut hs (cne y c e)⟩
  ·obtain ⟨w', z⟩ := I.cell y c e
   exact ⟨w', z.sameBut hs (cne y c e)⟩
  ·obtain ⟨e, n, ne, nf, d⟩ := I.pin p hp
   exact ⟨(hs.2 p.1 ne).trans e, n, ne, nf, d⟩
 ·have hfn : X.fn x = true := by
   rcases hf with z | z
   ·exact z
   ·rw [z] at hk; cases hk
  obtain ⟨c, hc⟩ := I.ok.has x (.inl hk)
  obtain ⟨w', z⟩ := I.cell x c hc
  refine wpAny_storeName_cell I.ok.kind hk hc z (fun h' hc' hs => ?_)
  obtain ⟨oc, hoc, hocd⟩ := id z
  refine h { s with heap := h' } ⟨I.ok, I.os, I.bare, ⟨fun b o e n hb hx => ?_, fun b o e n hb hx => ?_, I.base.free, fun b o e hx => ?_, I.base.tups, I.base.frzs, I.base.tbls⟩, ⟨m, hn.sameBut hs (Ne.symm (cne x c hc)), fun j y v' e1 e2 e3 => ?_⟩, fun y c' e => ?_, I.free, I.freeC, fun p hp => ?_, tracked ⟨oc, hoc, I.freeC x c hc⟩ hs, by simpa using I.len⟩ ⟨c, hs, .inr hc⟩
  ·exact (hs.2 b (Nat.ne_of_lt (Nat.lt_of_lt_of_le (Heap.lt_size e) (I.ok.cab x c hfn hc)))).trans (I.base.keep b o e n hb hx)
  ·obtain ⟨sl, e1⟩ := I.base.slot b o e n hb hx
   exact ⟨sl, (hs.2 b (Nat.ne_of_lt (Nat.lt_of_lt_of_le (Heap.lt_size e) (I.ok.cab x c hfn hc)))).trans e1⟩
  ·obtain ⟨o', e1⟩ := I.base.there b o e hx
   exact ⟨o', (hs.2 b (Nat.ne_of_lt (Nat.lt_of_lt_of_le (Heap.lt_size e) (I.ok.cab x c hfn hc)))).trans e1⟩
  ·by_cases hj : j = i
   ·subst hj
    rw [hi] at e1; cases e1
    rw [List.getElem?_set_self hiσ] at e2
    cases e2
    exact ⟨u, r, .inr ⟨.inl hk, c, hc, hc'⟩⟩
   ·rw [List.getElem?_set_ne (Ne.symm hj)] at e2
    obtain ⟨u', r', q⟩ := hl j y v' e1 e2 e3
    refine ⟨u', r', ?_⟩
    rcases q with q | ⟨k, c', e, z'⟩
    ·exact .inl q
    ·refine .inr ⟨k, c', e, z'.sameBut hs ?_⟩
     rintro rfl
     exact hj (nodup_ix hN e1 (I.ok.inj _ _ _ e hc ▸ hi))
  ·by_cases hcc : c' = c
   ·subst hcc; exact ⟨_, hc'⟩
   ·obtain ⟨w2, z2⟩ := I.cell y c' e
    exact ⟨w2, z2.sameBut hs hcc⟩
  ·obtain ⟨e, n, ne, nf, d⟩ := I.pin p hp
   refine ⟨(hs.2 p.1 ?_).trans e, n, ne, nf, d⟩
   intro q
   rw [q, hoc] at e
   have q' : oc = p.2 := Option.some.inj e
   exact d w' (by rw [← q']; exact hocd)
theorem store_ok {M : Model} {A : Around} {E : Value → Shared → Prop} {i : Nat} {x : Str} {v : V} {u : Value} {Q : Unit → Shared → Prop} (I : Inv X pins σ H s) (hN : X.N.Nodup) (hi : X.N[i]? = some x) (hx : Loc X.env.scope x) (r : RelV v u)
  (h : ∀ s', Inv X pins (σ.set i (some v)) H s' → Q () s') (hf : X.fn x = true ∨ X.env.scope.names.lookup x = some .local := by first | exact .inl rfl | exact .inr rfl | assumption) : wpAny M A (storeName X.env x u) Q E s :=
 store_ok2 I hN hi hx r (fun s' I' _ => h s' I') hf
theorem Inv.call' {s' : Shared} {ch : List Addr} (I : Inv X pins σ H s) (ho : s'.os = s.os) (u : Un (frs X.stack) ch H H' s.heap s'.heap) (hok : HOk X.prog X.w H' s'.heap) (hg : AllBare s'.gens)
  (hch : ∀ b ∈ ch, (b ∈ X.ex ∨ X.s₀.heap.objs.size ≤ b) ∧ b ≠ X.env.locals ∧ (∀ x c, X.env.cells.lookup x = some c → c ≠ b) ∧ ∀ p ∈ X.pn ++ pins, p.1 ≠ b) : Inv X pins σ H' s' := by
 obtain ⟨h', g', d', t', o'⟩ := s'
 have e : o' = s.os := ho
 subst e
 exact I.call (g' := g') (t' := t') (d' := d') u hok hg hch
end

/-! ### the judgements -/
noncomputable abbrev XK := Value → Option Addr → Hp → Prop
noncomputable abbrev St := List (Option V)
noncomputable abbrev VK := V → Hp → Prop
noncomputable abbrev TE := St → Hp → VK → Prop
noncomputable abbrev TT := St → Hp → (Bool → Hp → Prop) → Prop
noncomputable abbrev TA := St → Hp → (List V → Hp → Prop) → Prop
set_option genInjectivity false in
structure Ends where
 nx : St → Hp → Prop
 rt : VK
 bk : St → Hp → Prop := fun _ _ => False
 ct : St → Hp → Prop := fun _ _ => False
noncomputable abbrev TS := Ends → St → Hp → Prop

noncomputable def EP (X : Cx) (pins : List (Addr × Obj)) (σ : St) (Q : VK) (u : Value) (s' : Shared) : Prop := ∃ v H', Inv X pins σ H' s' ∧ RelV v u ∧ Q v H'
noncomputable def TP (X : Cx) (pins : List (Addr × Obj)) (σ : St) (Q : Bool → Hp → Prop) (b : Bool) (s' : Shared) : Prop := ∃ H', Inv X pins σ H' s' ∧ Q b H'
noncomputable def AP (X : Cx) (pins : List (Addr × Obj)) (σ : St) (Q : List V → Hp → Prop) (us : List Value) (s' : Shared) : Prop := ∃ vs H', Inv X pins σ H' s' ∧ Vals vs us ∧ Q vs H'
noncomputable def SP (X : Cx) (pins : List (Addr × Obj)) (D : Ends) (f : Flow) (s' : Shared) : Prop :=
 match f with
 | .next => ∃ σ' H', Inv X pins σ' H' s' ∧ D.nx σ' H'
 | .brk => ∃ σ' H', Inv X pins σ' H' s' ∧ D.bk σ' H'
 | .cont => ∃ σ' H', Inv X pins σ' H' s' ∧ D.ct σ' H'
 | .ret u => ∃ v σ' H', Inv X pins σ' H' s' ∧ RelV v u ∧ D.rt v H'

noncomputable def PE (X : Cx) (e : Expr) (t : TE) : Prop :=
 ∀ (pins : List (Addr × Obj)) (s : Shared) (σ : St) (H : Hp) (Q : VK), Inv X pins σ H s → t σ H Q → wpAny (model X.prog X.w) X.A (eval e X.env) (EP X pins σ Q) X.xe s
noncomputable def PT (X : Cx) (e : Expr) (t : TT) : Prop :=
 ∀ (pins : List (Addr × Obj)) (s : Shared) (σ : St) (H : Hp) (Q : Bool → Hp → Prop), Inv X pins σ H s → t σ H Q → wpAny (model X.prog X.w) X.A (isTrue e X.env (eval e X.env)) (TP X pins σ Q) X.xe s
noncomputable def PW (X : Cx) (e : Expr) (t : TT) : Prop :=
 ∀ (whole : Sem Value) (pins : List (Addr × Obj)) (s : Shared) (σ : St) (H : Hp) (Q : Bool → Hp → Prop), Inv X pins σ H s → t σ H Q → wpAny (model X.prog X.w) X.A (isTrue e X.env whole) (TP X pins σ Q) X.xe s
theorem PW.pt {X : Cx} {e : Expr} {t : TT} (h : PW X e t) : PT X e t := h _
noncomputable def PA (X : Cx) (es : List Expr) (t : TA) : Prop :=
 ∀ (pos : Pos) (pins : List (Addr × Obj)) (s : Shared) (σ : St) (H : Hp) (Q : List V → Hp → Prop), Inv X pins σ H s → t σ H Q → wpAny (model X.prog X.w) X.A (spliced (backTo pos (starEach es X.env))) (AP X pins σ Q) X.xe s
noncomputable def PS (X : Cx) (st : Stmt) (t : TS) : Prop :=
 ∀ (pins : List (Addr × Obj)) (s : Shared) (σ : St) (H : Hp) (D : Ends), Inv X pins σ H s → t D σ H → wpAny (model X.prog X.w) X.A (exec st X.env) (SP X pins D) X.xe s
noncomputable def PSs (X : Cx) (st : List Stmt) (t : TS) : Prop :=
 ∀ (pins : List (Addr × Obj)) (s : Shared) (σ : St) (H : Hp) (D : Ends), Inv X pins σ H s → t D σ H → wpAny (model X.prog X.w) X.A (execs st X.env) (SP X pins D) X.xe s
theorem thn {α : Type} {t : Sem α} {Q Q' : α → Shared → Prop} {M : Model} {A : Around} {E : Value → Shared → Prop} {s : Shared} (h : wpAny M A t Q E s) (hQ : ∀ a s, Q a s → Q' a s) : wpAny M A t Q' E s := wpAny_mono h hQ fun _ _ x => x
end L2

namespace L2
open PySem PySem.Spec PyProof.Rows
section
variable {X : Cx}

/-! ### names and constants -/
noncomputable def tVar (i : Nat) : TE := fun σ H Q => ∃ v, σ[i]? = some (some v) ∧ Q v H
noncomputable def tC (v : V) : TE := fun _ H Q => Q v H
theorem pe_var {i : Nat} {x : Str} {pos : Pos} (hN : X.N[i]? = some x) (hv : Vis X.env.scope x) (hd : (x == ("__debug__" : Str)) = false := by decide) (hcd : (x == ("__classdict__" : Str)) = false := by decide) : PE X (.Name x pos) (tVar i) := by
 intro pins s σ H Q I h
 obtain ⟨v, e, h⟩ := h
 obtain ⟨m, hn, hl⟩ := I.loc
 obtain ⟨u, r, l⟩ := hl i x v hN e hv
 have fin : EP X pins σ Q u s := ⟨v, H, I, r, h⟩
 rcases l with ⟨hk, hm⟩ | ⟨hk, c, hc, hcell⟩
 ·exact wpAny_Name (wpAny_loadName_local I.ok.kind hk hn hm fin) hd
 ·rcases hk with hk | hk
  ·exact wpAny_Name (wpAny_loadName_cell I.ok.kind hk hc hcell fin) hd
  ·exact wpAny_Name (wpAny_loadName_free I.ok.kind hk hc hcell fin hcd) hd
theorem pe_int {i j pos} : PE X (.Constant (.int i) j pos) (tC (.int i)) := fun _ _ _ H _ I h => wpAny_Constant_int ⟨.int i, H, I.tok _, ⟨_, rfl⟩, h⟩
theorem pe_bl {b j pos} : PE X (.Constant (.bool b) j pos) (tC (.bl b)) := fun _ _ _ H _ I h => Constant_bool ⟨.bl b, H, I, rfl, h⟩
theorem pe_non {j pos} : PE X (.Constant .none j pos) (tC .non) := fun _ _ _ H _ I h => Constant_none ⟨.non, H, I, rfl, h⟩
theorem pe_str {x j pos} : PE X (.Constant (.str x) j pos) (tC (.str x)) := fun _ _ _ H _ I h => Calls.Constant_str ⟨.str x, H, I.tok _, ⟨_, rfl⟩, h⟩

noncomputable def Gl (X : Cx) (x : Str) : Prop := X.env.kindOf x = some .globalImplicit
theorem ld_glob {E : Value → Shared → Prop} {pins : List (Addr × Obj)} {s : Shared} {σ : St} {H : Hp} {x : Str} {u : Value} {pos : Pos} {Q : Value → Shared → Prop} (I : Inv X pins σ H s) (hg : Gl X x) (hm : X.mg x = some u) (h : Q u s)
  (hd : (x == ("__debug__" : Str)) = false := by decide) : wpAny (model X.prog X.w) X.A (eval (.Name x pos) X.env) Q E s :=
 Calls.Name_function_global I.ok.kind hg (Calls.loadGlobal_global (by rw [I.ok.glob]; exact I.mod.glob.keeps I.bk) hm h) hd
theorem ld_blt {E : Value → Shared → Prop} {pins : List (Addr × Obj)} {s : Shared} {σ : St} {H : Hp} {x : Str} {u : Value} {pos : Pos} {Q : Value → Shared → Prop} (I : Inv X pins σ H s) (hg : Gl X x) (hm : X.mg x = none) (hv : bootBuiltins x = some u) (h : Q u s)
  (hn : x ≠ "__name__" := by decide) (hd : (x == ("__debug__" : Str)) = false := by decide) : wpAny (model X.prog X.w) X.A (eval (.Name x pos) X.env) Q E s := by
 obtain ⟨mb, h1, h2⟩ := I.mod.blt
 exact Calls.Name_function_global I.ok.kind hg (Calls.loadGlobal_builtin (by rw [I.ok.glob]; exact I.mod.glob.keeps I.bk) hm (by rw [I.ok.blt]; exact h1.keeps I.bk) ((h2 x hn).trans hv) h) hd
theorem pe_glob {x : Str} {v : V} {u : Value} {pos : Pos} (hg : Gl X x) (hm : X.mg x = some u) (r : RelV v u) (hd : (x == ("__debug__" : Str)) = false := by decide) : PE X (.Name x pos) (tC v) :=
 fun _ _ _ H _ I h => ld_glob I hg hm ⟨v, H, I, r, h⟩ hd
theorem pe_bltn {x : Str} {v : V} {u : Value} {pos : Pos} (hg : Gl X x) (hm : X.mg x = none) (hv : bootBuiltins x = some u) (r : RelV v u) (hn : x ≠ "__name__" := by decide) (hd : (x == ("__debug__" : Str)) = false := by decide) : PE X (.Name x pos) (tC v) :=
 fun _ _ _ H _ I h => ld_blt I hg hm hv ⟨v, H, I, r, h⟩ hn hd

/-! ### arithmetic -/
variable {a b : Expr} {ta tb : TE} {pos : Pos}
/-! ### comparisons -/
noncomputable def tB (t : TE) : TT := fun σ H Q => t σ H fun x H1 => ∃ c, x = .bl c ∧ Q c H1
theorem pt_val {e : Expr} {t : TE} (h : PE X e t) (he : ∀ whole, isTrue e X.env whole = (do let v ← whole; standAt e.pos; holding [v] (truthy v)) := by intro _; rfl) : PT X e (tB t) := by
 intro pins s σ H Q I hw
 refine isTrue_plain (thn (h pins s σ H _ I hw) fun v s1 ⟨x, H1, I1, r1, q1⟩ => ?_) (he _)
 obtain ⟨d, rfl, q⟩ := q1
 cases r1
 exact wpAny_truthy_bool ⟨H1, I1, q⟩

/-! ### and, or, not -/
variable {tA tB' : TT} {rest : List Expr}
noncomputable def tAnd (t u : TT) : TT := fun σ H Q => t σ H fun c H1 => if c = true then u σ H1 Q else Q false H1
noncomputable def tOr (t u : TT) : TT := fun σ H Q => t σ H fun c H1 => if c = true then Q true H1 else u σ H1 Q
noncomputable def tNot (t : TT) : TT := fun σ H Q => t σ H fun c H1 => Q (!c) H1
theorem pw_and1 (ha : PT X a tA) : PW X (.BoolOp .And [a] pos) tA := by
 intro wh pins s σ H Q I h
 refine isTrue_and (thn (ha pins s σ H Q I h) fun c s1 e => ?_)
 cases c with
 | true => exact isTrue_and_nil e
 | false => exact e
theorem pw_or1 (ha : PT X a tA) : PW X (.BoolOp .Or [a] pos) tA := by
 intro wh pins s σ H Q I h
 refine isTrue_or (thn (ha pins s σ H Q I h) fun c s1 e => ?_)
 cases c with
 | false => exact isTrue_or_nil e
 | true => exact e
theorem pw_and (ha : PT X a tA) (hb : PW X (.BoolOp .And (b :: rest) pos) tB') : PW X (.BoolOp .And (a :: b :: rest) pos) (tAnd tA tB') := by
 intro wh pins s σ H Q I h
 refine isTrue_and (thn (ha pins s σ H _ I h) fun c s1 ⟨H1, I1, q1⟩ => ?_)
 cases c with
 | true => exact hb wh pins s1 σ H1 Q I1 q1
 | false => exact ⟨H1, I1, q1⟩
theorem pw_or (ha : PT X a tA) (hb : PW X (.BoolOp .Or (b :: rest) pos) tB') : PW X (.BoolOp .Or (a :: b :: rest) pos) (tOr tA tB') := by
 intro wh pins s σ H Q I h
 refine isTrue_or (thn (ha pins s σ H _ I h) fun c s1 ⟨H1, I1, q1⟩ => ?_)
 cases c with
 | true => exact ⟨H1, I1, q1⟩
 | false => exact hb wh pins s1 σ H1 Q I1 q1
theorem pt_not (ha : PT X a tA) : PT X (.UnaryOp .Not a pos) (tNot tA) := by
 intro pins s σ H Q I h
 exact isTrue_not (ha pins s σ H (fun c H1 => Q (!c) H1) I h)
noncomputable def tAndV (ta tb : TE) : TE := fun σ H Q => ta σ H fun x H1 => ∃ c, x = .bl c ∧ if c = true then tb σ H1 Q else Q (.bl false) H1
noncomputable def tOrV (ta tb : TE) : TE := fun σ H Q => ta σ H fun x H1 => ∃ c, x = .bl c ∧ if c = true then Q (.bl true) H1 else tb σ H1 Q
noncomputable def tNotV (ta : TE) : TE := fun σ H Q => ta σ H fun x H1 => ∃ c, x = .bl c ∧ Q (.bl (!c)) H1
theorem pe_one {op} {t : TE} (h : PE X a t) : PE X (.BoolOp op [a] pos) t := fun pins s σ H Q I hw => BoolOp_one (h pins s σ H Q I hw)
theorem pe_and (ha : PE X a ta) (hb : PE X (.BoolOp .And (b :: rest) pos) tb) : PE X (.BoolOp .And (a :: b :: rest) pos) (tAndV ta tb) := by
 intro pins s σ H Q I h
 refine BoolOp_and (thn (ha pins s σ H _ I h) fun v s1 ⟨x, H1, I1, r1, q1⟩ => ?_)
 obtain ⟨c, rfl, q1⟩ := q1
 cases r1
 refine wpAny_truthy_bool ?_
 cases c with
 | true => exact hb pins s1 σ H1 Q I1 q1
 | false => exact ⟨.bl false, H1, I1, rfl, q1⟩
theorem pe_or (ha : PE X a ta) (hb : PE X (.BoolOp .Or (b :: rest) pos) tb) : PE X (.BoolOp .Or (a :: b :: rest) pos) (tOrV ta tb) := by
 intro pins s σ H Q I h
 refine BoolOp_or (thn (ha pins s σ H _ I h) fun v s1 ⟨x, H1, I1, r1, q1⟩ => ?_)
 obtain ⟨c, rfl, q1⟩ := q1
 cases r1
 refine wpAny_truthy_bool ?_
 cases c with
 | false => exact hb pins s1 σ H1 Q I1 q1
 | true => exact ⟨.bl true, H1, I1, rfl, q1⟩
theorem pe_not (ha : PE X a ta) : PE X (.UnaryOp .Not a pos) (tNotV ta) := by
 intro pins s σ H Q I h
 refine UnaryOp_ (thn (ha pins s σ H _ I h) fun v s1 ⟨x, H1, I1, r1, q1⟩ => ?_)
 obtain ⟨c, rfl, q1⟩ := q1
 cases r1
 exact not_of (wpAny_truthy_bool ⟨.bl (!c), H1, I1, rfl, q1⟩)
noncomputable def tIf (t : TT) (ta tb : TE) : TE := fun σ H Q => t σ H fun c H1 => if c = true then ta σ H1 Q else tb σ H1 Q
theorem pe_ifExp {c : Expr} (hc : PT X c tA) (ha : PE X a ta) (hb : PE X b tb) : PE X (.IfExp c a b pos) (tIf tA ta tb) := by
 intro pins s σ H Q I h
 refine wpAny_IfExp (thn (hc pins s σ H _ I h) fun d s1 ⟨H1, I1, q1⟩ => ?_)
 cases d with
 | true => exact ha pins s1 σ H1 Q I1 q1
 | false => exact hb pins s1 σ H1 Q I1 q1
end
end L2

namespace L2
open PySem PySem.Spec PyProof.Rows

/-! ### a list, a tuple that is read: tracked, frozen, or an object of the module -/
noncomputable def SqL (K : PySem.W.Frag) (H : Hp) (a : Addr) (xs : List V) : Prop :=
 Rd H a (.lst xs) ∨
  ∃ (o : Obj) (its : Array Value) (n : Nat), K.lookup a = some o ∧ o.cls = .type "list" ∧ o.dict = none ∧ o.data = .seq its n ∧ its.size ≤ sizeLine ∧ Vals xs its.toList
noncomputable def SqT (K : PySem.W.Frag) (H : Hp) (a : Addr) (xs : List V) : Prop :=
 Rd H a (.tup xs) ∨
  ∃ (o : Obj) (its : Array Value) (n : Nat), K.lookup a = some o ∧ o.cls = .type "tuple" ∧ o.data = .seq its n ∧ its.size ≤ sizeLine ∧ Vals xs its.toList
noncomputable def absV : Value → Option V
 | .none => some .non
 | .bool b => some (.bl b)
 | .int i _ => some (.int i)
 | .str x _ => some (.str x)
 | .bytes b _ => some (.byt b)
 | .float b _ => some (.flt b)
 | .ref a => some (.ref a)
 | .type n => some (.ty n)
 | _ => none
theorem RelV.abs {x : V} {u : Value} (r : RelV x u) : absV u = some x := by
 cases x with
 | non => cases r; rfl
 | bl _ => cases r; rfl
 | int _ => obtain ⟨t, rfl⟩ := r; rfl
 | str _ => obtain ⟨t, rfl⟩ := r; rfl
 | byt _ => obtain ⟨t, rfl⟩ := r; rfl
 | flt _ => obtain ⟨t, rfl⟩ := r; rfl
 | ref _ => cases r; rfl
 | ty _ => cases r; rfl
theorem RelV.inj {x y : V} {u : Value} (r : RelV x u) (q : RelV y u) : x = y := Option.some.inj (r.abs.symm.trans q.abs)
theorem Vals.inj : ∀ {xs ys : List V} {us : List Value}, Vals xs us → Vals ys us → xs = ys
 | _, _, _, .nil, .nil => rfl
 | _, _, _, .cons r t, .cons r' t' => by rw [r.inj r', Vals.inj t t']
section
variable {X : Cx} {pins : List (Addr × Obj)} {σ : St} {H : Hp} {s : Shared} {a : Addr} {xs ys : List V}
theorem SqL.of {K : PySem.W.Frag} (h : H a = some (.lst xs)) : SqL K H a xs := .inl (.inl h)
theorem SqT.of {K : PySem.W.Frag} (h : H a = some (.tup xs)) : SqT K H a xs := .inl (.inl h)
theorem Inv.list (I : Inv X pins σ H s) (h : SqL X.K H a xs) : ∃ its : List Value, Vals xs its ∧ PlainL s.heap a its.toArray ∧ xs.length ≤ sizeLine := by
 rcases h with h | ⟨o, its, n, hk, hc, hd, hs, hz, r⟩
 ·obtain ⟨z, its, n, r, e⟩ := h.ok I.hok
  exact ⟨its, r, ⟨_, n, e, rfl, rfl, rfl⟩, z⟩
 ·refine ⟨its.toList, r, ⟨o, n, I.kIn a o hk, hc, hd, by simpa using hs⟩, ?_⟩
  have e := r.length
  simp only [Array.length_toList] at e
  omega
theorem Inv.tuple (I : Inv X pins σ H s) (h : SqT X.K H a xs) : ∃ its : List Value, Vals xs its ∧ IsTup s.heap a its.toArray ∧ xs.length ≤ sizeLine := by
 rcases h with h | ⟨o, its, n, hk, hc, hs, hz, r⟩
 ·obtain ⟨z, its, r, p⟩ := h.ok I.hok
  exact ⟨its, r, p, z⟩
 ·refine ⟨its.toList, r, ⟨o, I.kIn a o hk, hc, n, by simpa using hs⟩, ?_⟩
  have e := r.length
  simp only [Array.length_toList] at e
  omega
theorem Inv.list_inj (I : Inv X pins σ H s) (h : SqL X.K H a xs) (h' : SqL X.K H a ys) : xs = ys := by
 obtain ⟨its, r, ⟨o, n, e, _, _, d⟩, _⟩ := I.list h
 obtain ⟨its', r', ⟨o', n', e', _, _, d'⟩, _⟩ := I.list h'
 rw [e] at e'; cases e'
 rw [d] at d'
 injection d' with d1 _
 have : its = its' := by simpa using congrArg Array.toList d1
 subst this
 exact r.inj r'
theorem Inv.tuple_inj (I : Inv X pins σ H s) (h : SqT X.K H a xs) (h' : SqT X.K H a ys) : xs = ys := by
 obtain ⟨its, r, ⟨o, e, _, n, d⟩, _⟩ := I.tuple h
 obtain ⟨its', r', ⟨o', e', _, n', d'⟩, _⟩ := I.tuple h'
 rw [e] at e'; cases e'
 rw [d] at d'
 injection d' with d1 _
 have : its = its' := by simpa using congrArg Array.toList d1
 subst this
 exact r.inj r'
end

/-! ### another wish about exceptions -/
noncomputable abbrev Cx.wish (X : Cx) (E : Value → Shared → Prop) : Cx := { X with xe := E }
noncomputable abbrev Cx.nox (X : Cx) : Cx := X.wish fun _ _ => False
theorem Cx.Ok.wish {X : Cx} (ok : X.Ok) (E : Value → Shared → Prop) : (X.wish E).Ok :=
 ⟨ok.mod, ok.kind, ok.glob, ok.blt, ok.above, ok.inj, ok.has, ok.cab, ok.hd, ok.frames, ok.stk, ok.exf, ok.bs, ok.bsz, ok.noex, ok.exfs, ok.funs, ok.frf⟩
theorem Cx.Ok.unwish {X : Cx} {E : Value → Shared → Prop} (ok : (X.wish E).Ok) : X.Ok :=
 ⟨ok.mod, ok.kind, ok.glob, ok.blt, ok.above, ok.inj, ok.has, ok.cab, ok.hd, ok.frames, ok.stk, ok.exf, ok.bs, ok.bsz, ok.noex, ok.exfs, ok.funs, ok.frf⟩
section
variable {X : Cx} {pins : List (Addr × Obj)} {σ : St} {H : Hp} {s : Shared} {E : Value → Shared → Prop}
theorem Inv.wish (I : Inv X pins σ H s) (E : Value → Shared → Prop) : Inv (X.wish E) pins σ H s := ⟨I.ok.wish E, I.os, I.bare, I.base, I.loc, I.cell, I.free, I.freeC, I.pin, I.hok, I.len⟩
theorem Inv.unwish (I : Inv (X.wish E) pins σ H s) : Inv X pins σ H s := ⟨I.ok.unwish, I.os, I.bare, I.base, I.loc, I.cell, I.free, I.freeC, I.pin, I.hok, I.len⟩
theorem SP.unwish {D : Ends} {f : Flow} {s' : Shared} (h : SP (X.wish E) pins D f s') : SP X pins D f s' := by
 cases f with
 | next => obtain ⟨σ', H', I, q⟩ := h; exact ⟨σ', H', I.unwish, q⟩
 | brk => obtain ⟨σ', H', I, q⟩ := h; exact ⟨σ', H', I.unwish, q⟩
 | cont => obtain ⟨σ', H', I, q⟩ := h; exact ⟨σ', H', I.unwish, q⟩
 | ret u => obtain ⟨v, σ', H', I, r, q⟩ := h; exact ⟨v, σ', H', I.unwish, r, q⟩
theorem PSs.nox {st : List Stmt} {t : TS} (h : PSs X.nox st t) : PSs X st t := fun pins s σ H D I hw =>
 wpAny_mono (h pins s σ H D (I.wish _) hw) (fun _ _ q => q.unwish) fun _ _ z => False.elim z
end

/-! ### blocks and small statements -/
section
variable {X : Cx} {st : Stmt} {rest : List Stmt} {t u : TS} {e : Expr} {te : TE} {pos : Pos}
noncomputable def tNext : TS := fun D σ H => D.nx σ H
noncomputable def tSeq (t u : TS) : TS := fun D σ H => t { D with nx := u D } σ H
theorem pss_nil : PSs X [] tNext := fun _ _ σ H _ I h => wpAny_execs_nil ⟨σ, H, I, h⟩
theorem pss_cons (h1 : PS X st t) (h2 : PSs X rest u) : PSs X (st :: rest) (tSeq t u) := by
 intro pins s σ H D I h
 refine wpAny_execs_cons (thn (h1 pins s σ H { D with nx := u D } I h) fun f s1 q => ?_)
 cases f with
 | next =>
  obtain ⟨σ', H', I', q⟩ := q
  exact h2 pins s1 σ' H' D I' q
 | ret v => exact q
 | brk => exact q
 | cont => exact q
theorem pss_one (h1 : PS X st t) : PSs X [st] t := by
 intro pins s σ H D I h
 refine wpAny_execs_cons (thn (h1 pins s σ H D I h) fun f s1 q => ?_)
 cases f with
 | next => exact wpAny_execs_nil q
 | ret v => exact q
 | brk => exact q
 | cont => exact q
theorem Inv.quiet {pins : List (Addr × Obj)} {σ : St} {H : Hp} {s : Shared} (I : Inv X pins σ H s) : interactive X.env = false := by simp [interactive, I.ok.kind]
noncomputable def tDrop (te : TE) : TS := fun D σ H => te σ H fun _ H1 => D.nx σ H1
theorem ps_expr (he : PE X e te) (hs : swapsWith e none pos.line X.env = pure false := by rfl) : PS X (.Expr e pos) (tDrop te) := by
 intro pins s σ H D I h
 exact wpAny_Expr_any (thn (he pins s σ H _ I h) fun v s1 ⟨x, H1, I1, r1, q1⟩ => ⟨σ, H1, I1, q1⟩) I.quiet hs
noncomputable def tRet (te : TE) : TS := fun D σ H => te σ H D.rt
theorem ps_ret (he : PE X e te) : PS X (.Return (some e) pos) (tRet te) := by
 intro pins s σ H D I h
 exact wpAny_Return_some (thn (he pins s σ H _ I h) fun v s1 ⟨x, H1, I1, r1, q1⟩ => ⟨x, σ, H1, I1, r1, q1⟩)
noncomputable def tIfS (c : TT) (t u : TS) : TS := fun D σ H => c σ H fun b H1 => if b = true then t D σ H1 else u D σ H1
theorem ps_if {c : Expr} {a b : List Stmt} {tc : TT} (hc : PT X c tc) (ha : PSs X a t) (hb : PSs X b u) : PS X (.If c a b pos) (tIfS tc t u) := by
 intro pins s σ H D I h
 refine wpAny_If (thn (hc pins s σ H _ I h) fun d s1 ⟨H1, I1, q1⟩ => ?_)
 cases d with
 | true => exact ha pins s1 σ H1 D I1 q1
 | false => exact hb pins s1 σ H1 D I1 q1
noncomputable def tNever : TS := fun _ _ _ => False
end

/-! ### targets -/
noncomputable abbrev TG := V → St → Hp → (St → Hp → Prop) → Prop
noncomputable abbrev TGs := List V → St → Hp → (St → Hp → Prop) → Prop
noncomputable def PG (X : Cx) (target : Expr) (t : TG) : Prop :=
 ∀ (pins : List (Addr × Obj)) (s : Shared) (σ : St) (H : Hp) (v : V) (u : Value) (Q : St → Hp → Prop), Inv X pins σ H s → RelV v u → t v σ H Q →
  wpAny (model X.prog X.w) X.A (assign target X.env u) (fun _ s' => ∃ σ' H', Inv X pins σ' H' s' ∧ Q σ' H') X.xe s
noncomputable def PGs (X : Cx) (ts : List Expr) (t : TGs) : Prop :=
 ∀ (pins : List (Addr × Obj)) (s : Shared) (σ : St) (H : Hp) (vs : List V) (us : List Value) (Q : St → Hp → Prop), Inv X pins σ H s → Vals vs us → t vs σ H Q →
  wpAny (model X.prog X.w) X.A (assignInOrder ((assignEach ts X.env).map (·.2)) us) (fun _ s' => ∃ σ' H', Inv X pins σ' H' s' ∧ Q σ' H') X.xe s
noncomputable abbrev TSet := V → V → V → Hp → (Hp → Prop) → Prop
noncomputable def PSet (X : Cx) (t : TSet) : Prop :=
 ∀ (pins : List (Addr × Obj)) (s : Shared) (σ : St) (H : Hp) (o i v : V) (ov iv u : Value) (Q : Hp → Prop), Inv X pins σ H s → RelV o ov → RelV i iv → RelV v u → t o i v H Q →
  wpAny (model X.prog X.w) X.A (setItem ov iv u) (fun _ s' => ∃ H', Inv X pins σ H' s' ∧ Q H') X.xe s
section
variable {X : Cx} {pos : Pos}
noncomputable def gName (i : Nat) : TG := fun v σ H Q => Q (σ.set i (some v)) H
theorem pg_name {i : Nat} {x : Str} (hN : X.N.Nodup) (hi : X.N[i]? = some x) (hx : Loc X.env.scope x) (hf : X.fn x = true ∨ X.env.scope.names.lookup x = some .local := by first | exact .inl rfl | exact .inr rfl | assumption) : PG X (.Name x pos) (gName i) := by
 intro pins s σ H v u Q I r h
 exact wpAny_assign_Name (store_ok I hN hi hx r (fun s' I' => ⟨_, H, I', h⟩) hf)
noncomputable def gNil : TGs := fun vs σ H Q => vs = [] ∧ Q σ H
noncomputable def gCons (t : TG) (u : TGs) : TGs := fun vs σ H Q => ∃ v r, vs = v :: r ∧ t v σ H fun σ' H' => u r σ' H' Q
theorem pgs_nil : PGs X [] gNil := by
 intro pins s σ H vs us Q I r h
 obtain ⟨e, h⟩ := h
 subst e
 cases r
 exact assignInOrder_nil ⟨σ, H, I, h⟩
theorem pgs_cons {e : Expr} {es : List Expr} {t : TG} {u : TGs} (h1 : PG X e t) (h2 : PGs X es u)
  (hs : (assignEach (e :: es) X.env).map (·.2) = assign e X.env :: (assignEach es X.env).map (·.2) := by rfl) : PGs X (e :: es) (gCons t u) := by
 intro pins s σ H vs us Q I r h
 obtain ⟨v, vr, e1, h⟩ := h
 subst e1
 cases r with
 | cons r rr =>
  rw [hs]
  refine assignInOrder_cons (thn (h1 pins s σ H _ _ _ I r h) fun _ s1 ⟨σ1, H1, I1, q1⟩ => ?_)
  exact h2 pins s1 σ1 H1 _ _ Q I1 rr q1
noncomputable def gTup (K : PySem.W.Frag) (n : Nat) (t : TGs) : TG := fun v σ H Q => ∃ a xs, v = .ref a ∧ SqT K H a xs ∧ xs.length = n ∧ t xs σ H Q
theorem pg_tup {es : List Expr} {k : Nat} {t : TGs} {n : Nat} (hc : X.calm = true) (h : PGs X es t)
  (hn : (assignEach es X.env).length = n := by rfl) (hst : (assignEach es X.env).findIdx? (·.1) = none := by rfl) : PG X (.Tuple es k pos) (gTup X.K n t) := by
 intro pins s σ H v u Q I r hw
 obtain ⟨a, xs, e1, hq, hl, hw⟩ := hw
 subst e1
 cases r
 obtain ⟨its, rv, ht, hz⟩ := I.tuple hq
 refine assign_Tuple_tuple (I.ok.hd hc) ht (by simp [hn, ← hl, rv.length]) hst fun h' hx => ?_
 have I1 : Inv X pins σ H { s with heap := h' } := I.kept (t' := s.toks) fun b o e => hx b o (Nat.ne_of_lt (Heap.lt_size e)) e
 exact h pins _ σ H xs _ Q I1 (by simpa using rv) hw
noncomputable def gSub (to ti : TE) (t : TSet) : TG := fun v σ H Q => to σ H fun o H1 => ti σ H1 fun i H2 => t o i v H2 fun H3 => Q σ H3
theorem pg_sub {o i : Expr} {to ti : TE} {t : TSet} (ho : PE X o to) (hi : PE X i ti) (hs : PSet X t)
  (ha : ∀ v, assign (.Subscript o i pos) X.env v = (do
   let ov ← holding [v] (eval o X.env)
   let iv ← holding [v, ov] (eval i X.env)
   standAt pos
   holding [v, ov, iv] (setItem ov iv v)
   release [v, ov, iv] []) := by intro _; rfl) : PG X (.Subscript o i pos) (gSub to ti t) := by
 intro pins s σ H v u Q I r h
 rw [ha]
 refine wpAny_bind (wpAny_holding (thn (ho pins s σ H _ I h) fun ov s1 ⟨x, H1, I1, r1, q1⟩ => ?_))
 refine wpAny_bind (wpAny_holding (thn (hi pins s1 σ H1 _ I1 q1) fun iv s2 ⟨y, H2, I2, r2, q2⟩ => ?_))
 refine wpAny_bind (wpAny_standAt (wpAny_bind (wpAny_holding (thn (hs pins s2 σ H2 x y v ov iv u _ I2 r1 r2 r q2) fun _ s3 ⟨H3, I3, q3⟩ => ?_))))
 exact wpAny_release ⟨σ, H3, I3, q3⟩
noncomputable def tAsg (te : TE) (g : TG) : TS := fun D σ H => te σ H fun x H1 => g x σ H1 D.nx
theorem ps_asg {tg e : Expr} {te : TE} {g : TG} (he : PE X e te) (hg : PG X tg g) (hs : swapsWithSole [tg] e pos.line X.env = pure false := by rfl) (hw : swappedStores [tg] e X.env = pure none := by rfl)
  (h1 : (assignEach [tg] X.env).map (·.2) = [assign tg X.env] := by rfl) : PS X (.Assign [tg] e pos) (tAsg te g) := by
 intro pins s σ H D I h
 refine wpAny_Assign_stores (thn (he pins s σ H _ I h) fun v s1 ⟨x, H1, I1, r1, q1⟩ => ?_) hs hw
 rw [h1]
 exact thn (hg pins s1 σ H1 x v _ I1 r1 q1) fun _ s2 q => q
theorem ps_set {i : Nat} {x : Str} {e : Expr} {te : TE} {pos' : Pos} (hN : X.N.Nodup) (hi : X.N[i]? = some x) (hx : Loc X.env.scope x) (he : PE X e te) (hs : swapsWith e (some (.Name x pos')) pos.line X.env = pure false := by rfl) (hf : X.fn x = true ∨ X.env.scope.names.lookup x = some .local := by first | exact .inl rfl | exact .inr rfl | assumption) :
  PS X (.Assign [.Name x pos'] e pos) (tAsg te (gName i)) := by
 intro pins s σ H D I h
 refine wpAny_Assign_Name (thn (he pins s σ H _ I h) fun v s1 ⟨y, H1, I1, r1, q1⟩ => ?_) hs
 exact store_ok I1 hN hi hx r1 (fun s2 I2 => ⟨_, H1, I2, q1⟩) hf
noncomputable def tPar (i j : Nat) (ta : TA) : TS := fun D σ H => ta σ H fun vs H1 => ∃ v w, vs = [v, w] ∧ D.nx ((σ.set i (some v)).set j (some w)) H1
theorem ps_par {i j : Nat} {x y : Str} {a b : Expr} {ta : TA} {px py pt : Pos} {kt k2 pt2} (hc : X.calm = true) (hN : X.N.Nodup) (hi : X.N[i]? = some x) (hj : X.N[j]? = some y) (hij : i ≠ j)
  (hx : X.env.scope.names.lookup x = some .local) (hy : X.env.scope.names.lookup y = some .local) (ha : PA X [a, b] ta)
  (hw : swappedStores [.Tuple [.Name x px, .Name y py] kt pt] (.Tuple [a, b] k2 pt2) X.env = pure (some [x, y]))
  (hs : swapsWithSole [.Tuple [.Name x px, .Name y py] kt pt] (.Tuple [a, b] k2 pt2) pos.line X.env = pure false := by rfl) :
  PS X (.Assign [.Tuple [.Name x px, .Name y py] kt pt] (.Tuple [a, b] k2 pt2) pos) (tPar i j ta) := by
 intro pins s σ H D I h
 rw [exec_Assign_arm]
 refine wpAny_bind (wpAny_standAt ?_)
 rw [hs]
 refine wpAny_bind (wpAny_pure ?_)
 rw [if_neg (by decide)]
 refine wpAny_bind (Tuple_ (thn (ha _ pins s σ H _ I h) fun us s1 ⟨vs, H1, I1, r1, q1⟩ => ?_))
 obtain ⟨v, w, e1, q1⟩ := q1
 subst e1
 obtain ⟨u1, u2, rfl, rv, rw'⟩ : ∃ u1 u2, us = [u1, u2] ∧ RelV v u1 ∧ RelV w u2 := by
  cases r1 with
  | cons p q =>
   cases q with
   | cons p' q' =>
    cases q'
    exact ⟨_, _, rfl, p, p'⟩
 refine wpAny_newObj_type ?_ (by show 2 ≤ sizeLine; decide)
 have I2 : Inv X pins σ H1 { s1 with heap := s1.heap.push { cls := .type "tuple", data := .seq [u1, u2].toArray } } := I1.kept (t' := s1.toks) fun b o e => Heap.get?_push_of_some _ e
 rw [hw]
 refine wpAny_bind (wpAny_pure ?_)
 show wpAny (model X.prog X.w) X.A (do rule "assign.swapped-stores"; let items ← unpackItems (.ref s1.heap.objs.size) 2 none; assignInOrder [fun v => bindName X.env y v, fun v => bindName X.env x v] items.reverse; pure Flow.next) _ _ _
 refine wpAny_bind (wpAny_rule (wpAny_bind (unpackItems_tuple (items := #[u1, u2]) (I.ok.hd hc) (IsTup.new s1.heap _) fun h' hx' => ?_)))
 have I3 := I2.kept (h' := h') (t' := s1.toks) fun b o e => hx' b o (Nat.ne_of_lt (Heap.lt_size e)) e
 show wpAny _ _ (assignInOrder [fun v => bindName X.env y v, fun v => bindName X.env x v] [u2, u1] >>= fun _ => pure Flow.next) _ _ _
 refine wpAny_bind (assignInOrder_cons (wpAny_bindName (store_ok I3 hN hj (.inl hy) rw' (fun s2 I4 => ?_) (.inr hy))))
 refine assignInOrder_cons (wpAny_bindName (store_ok I4 hN hi (.inl hx) rv (fun s3 I5 => assignInOrder_nil (wpAny_pure ?_)) (.inr hx)))
 rw [List.set_comm _ _ (Ne.symm hij)] at I5
 exact ⟨_, H1, I5, q1⟩
end

/-! ### while -/
section
variable {X : Cx} {pos : Pos}
noncomputable def tWhile (c : TT) (tb : TS) : TS := fun D σ H => ∃ W : Nat → St → Hp → Prop, (∃ m, W m σ H) ∧ ∀ m σ H, W m σ H →
 c σ H fun b H1 => if b = true then ∃ N : St → Hp → Prop, (∀ σ' H', N σ' H' → ∃ m', m' < m ∧ W m' σ' H') ∧ tb { D with nx := N, ct := N, bk := D.nx } σ H1 else D.nx σ H1
theorem ps_while {c : Expr} {body : List Stmt} {tc : TT} {tb : TS} (hp : PassesOwn (model X.prog X.w) X.A X.env X.xe) (hc : PT X c tc) (hb : PSs X body tb) : PS X (.While c body [] pos) (tWhile tc tb) := by
 intro pins s σ H D I h
 obtain ⟨W, ⟨m0, w0⟩, turn⟩ := h
 refine wpAny_While (codeAny_whileLoop (fun n s' => ∃ σ' H', Inv X pins σ' H' s' ∧ W n σ' H') ?_ m0 ⟨σ, H, I, w0⟩)
 rintro n s1 ⟨σ1, H1, I1, w1⟩
 refine wpAny_passesOwn hp (thn (hc pins s1 σ1 H1 _ I1 (turn n σ1 H1 w1)) fun b s2 ⟨H2, I2, q2⟩ => ?_)
 cases b with
 | true =>
  obtain ⟨N, hN, q2⟩ := q2
  rw [if_pos rfl]
  refine wpAny_passesOwn hp (thn (hb pins s2 σ1 H2 _ I2 q2) fun f s3 q3 => ?_)
  cases f with
  | next =>
   obtain ⟨σ3, H3, I3, n3⟩ := q3
   obtain ⟨m', hm, w3⟩ := hN σ3 H3 n3
   exact ⟨m', hm, σ3, H3, I3, w3⟩
  | cont =>
   obtain ⟨σ3, H3, I3, n3⟩ := q3
   obtain ⟨m', hm, w3⟩ := hN σ3 H3 n3
   exact ⟨m', hm, σ3, H3, I3, w3⟩
  | brk => exact q3
  | ret v => exact q3
 | false =>
  rw [if_neg Bool.false_ne_true]
  exact wpAny_execs_nil ⟨σ1, H2, I2, q2⟩
end

/-! ### what a loop or a comprehension walks -/
set_option genInjectivity false in
structure It where
 go : Nat → Hp → Prop
 yld : Nat → Hp → V → Hp → Prop
 stop : Nat → Hp → Prop
noncomputable def FpOk (X : Cx) (pins : List (Addr × Obj)) (H : Hp) (b : Addr) : Prop :=
 H b = none ∧ b ≠ X.env.locals ∧ b ∉ X.fs ∧ (b ∈ X.ex ∨ X.s₀.heap.objs.size ≤ b) ∧ (∀ x c, X.env.cells.lookup x = some c → c ≠ b) ∧ ∀ p ∈ X.pn ++ pins, p.1 ≠ b
theorem Inv.fpOk {X : Cx} {pins : List (Addr × Obj)} {σ : St} {H H' : Hp} {s : Shared} {b : Addr} (I : Inv X pins σ H s) (hb : s.heap.objs.size ≤ b) (hn : H' b = none) : FpOk X pins H' b := by
 refine ⟨hn, Nat.ne_of_gt (Nat.lt_of_lt_of_le I.lt hb), I.nofs hb, .inr (Nat.le_trans I.sz hb), fun x c e z => ?_, fun p hp z => ?_⟩
 ·obtain ⟨v, q⟩ := I.cell x c e
  exact absurd (Nat.lt_of_lt_of_le q.lt (by rw [z]; exact hb)) (Nat.lt_irrefl _)
 ·exact absurd (Nat.lt_of_lt_of_le (Heap.lt_size (I.pin p hp).1) (by rw [z]; exact hb)) (Nat.lt_irrefl _)
structure Turn (P : Program) (w : World) (K : PySem.W.Frag) (tg : Expr) (J : It) (fp : List Addr) (it : Addr) (tn : Nat → Heap → Prop) : Prop where
 mem : it ∈ fp
 obj : ∀ i h, tn i h → ∀ b ∈ fp, ∃ o, h.get? b = some o ∧ ∀ v, o.data ≠ .cell v
 keep : ∀ i h h', tn i h → (∀ b ∈ fp, ∀ o, h.get? b = some o → h'.get? b = some o) → tn i h'
 item : ∀ (X : Cx), X.prog = P → X.w = w → X.K = K → X.calm = true → ∀ (i : Nat) (pins : List (Addr × Obj)) (s : Shared) (σ : St) (H : Hp) (E : Value → Shared → Prop), Inv X pins σ H s → (∀ b ∈ fp, FpOk X pins H b) → tn i s.heap → J.go i H →
  wpAny (model P w) X.A (pyNext (.ref it)) (fun r s1 => ∃ u, r = some u ∧
   wpAny (model P w) X.A (letOwnedTupleGo tg (.ref it) u) (fun _ s2 => ∃ x H', Inv X pins σ H' s2 ∧ RelV x u ∧ J.yld i H x H' ∧ tn (i + 1) s2.heap ∧ ∀ b ∈ fp, H' b = none) E s1) E s
 done : ∀ (X : Cx), X.prog = P → X.w = w → X.K = K → X.calm = true → ∀ (i : Nat) (pins : List (Addr × Obj)) (s : Shared) (σ : St) (H : Hp) (E : Value → Shared → Prop), Inv X pins σ H s → (∀ b ∈ fp, FpOk X pins H b) → tn i s.heap → J.stop i H →
  wpAny (model P w) X.A (pyNext (.ref it)) (fun r s1 => r = none ∧ Inv X pins σ H s1) E s
 self : ∀ (A : Around) (i : Nat) (s : Shared) (Q : Value → Shared → Prop) (E : Value → Shared → Prop), tn i s.heap → Q (.ref it) s → wpAny (model P w) A (pyIter (.ref it)) Q E s
noncomputable abbrev TI := St → Hp → (It → Hp → Prop) → Prop
noncomputable def PIE (X : Cx) (pins : List (Addr × Obj)) (σ : St) (tg : Expr) (R : It → Hp → Prop) (itv : Value) (s2 : Shared) : Prop :=
 ∃ (it : Addr) (fp : List Addr) (tn : Nat → Heap → Prop) (J : It) (H' : Hp), itv = .ref it ∧ Inv X pins σ H' s2 ∧ Turn X.prog X.w X.K tg J fp it tn ∧ tn 0 s2.heap ∧ (∀ b ∈ fp, FpOk X pins H' b) ∧ R J H'
noncomputable def PI (X : Cx) (tg iter : Expr) (wi : TI) : Prop :=
 ∀ (pins : List (Addr × Obj)) (s : Shared) (σ : St) (H : Hp) (R : It → Hp → Prop), Inv X pins σ H s → wi σ H R →
  wpAny (model X.prog X.w) X.A (eval iter X.env) (fun v s1 => wpAny (model X.prog X.w) X.A (pyIter v) (PIE X pins σ tg R) X.xe s1) X.xe s

theorem go_of {M : Model} {A : Around} {E : Value → Shared → Prop} {s : Shared} {tg : Expr} {it : Addr} {u : Value} {o : Obj} {n : String} {vs : Array Value} {Q : Unit → Shared → Prop} (ho : s.heap.get? it = some o) (hc : o.cls = .type n) (hd : o.data = .fields vs)
    (hn : ["enumerate", "zip", "dict_itemiterator", "dict_reverseitemiterator", "odict_iterator", "itertools.zip_longest", "itertools.pairwise"].contains n = false) (hQ : Q () s) : wpAny M A (letOwnedTupleGo tg (.ref it) u) Q E s := by
  unfold letOwnedTupleGo
  cases tg <;> first
    | exact wpAny_pure hQ
    | (cases u <;> first
        | exact wpAny_pure hQ
        | (refine wpAny_bind (wpAny_load ho ?_)
           rw [hc, hd]
           show wpAny M A (if (["enumerate", "zip", "dict_itemiterator", "dict_reverseitemiterator", "odict_iterator", "itertools.zip_longest", "itertools.pairwise"].contains n && vs[0]? == some (rawInt _)) = true then _ else _) Q E s
           rw [if_neg (by intro h; rw [hn, Bool.false_and] at h; cases h)]
           exact wpAny_pure hQ))

noncomputable def Itl (K : PySem.W.Frag) (a : Addr) : It :=
 ⟨fun i H => ∃ xs x, SqL K H a xs ∧ xs[i]? = some x, fun i H x H' => H' = H ∧ ∀ xs, SqL K H a xs → xs[i]? = some x, fun i H => ∃ xs, SqL K H a xs ∧ xs.length ≤ i⟩
noncomputable def Itt (K : PySem.W.Frag) (a : Addr) : It :=
 ⟨fun i H => ∃ xs x, SqT K H a xs ∧ xs[i]? = some x, fun i H x H' => H' = H ∧ ∀ xs, SqT K H a xs → xs[i]? = some x, fun i H => ∃ xs, SqT K H a xs ∧ xs.length ≤ i⟩
noncomputable def Itr (lo : Int) (n : Nat) : It := ⟨fun i _ => i < n, fun i H x H' => H' = H ∧ x = .int (lo + i), fun i _ => n ≤ i⟩
theorem turn_list {P : Program} {w : World} {K : PySem.W.Frag} {tg : Expr} (a it : Addr) : Turn P w K tg (Itl K a) [it] it (fun i h => h.IsListIter it a i) where
 mem := by simp
 obj := fun i h st b hb => by
  have e : b = it := by simpa using hb
  subst e
  obtain ⟨o, e, c, d⟩ := st
  exact ⟨o, e, fun v z => by rw [d] at z; cases z⟩
 keep := fun i h h' st k => st.at fun o e => k it (by simp) o e
 item := by
  intro X hP hw hK hc i pins s σ H E I hf st hg
  subst hP hw hK
  obtain ⟨xs, x, hq, hx⟩ := hg
  obtain ⟨its, rv, p, hz⟩ := I.list hq
  obtain ⟨u, hu, ru⟩ := rv.get hx
  obtain ⟨f0, f1, f2, f3, f4, f5⟩ := hf it (by simp)
  refine wpAny_pyNext_list_item st p.isList (x := u) (by simpa using hu) fun h' st' sb => ?_
  have I1 : Inv X pins σ H { s with heap := h' } := I.turned (t' := s.toks) (fun b o hb e => (sb.2 b hb).trans e) f0 f1 f3 f4 f5
  obtain ⟨o, e, c, d⟩ := id st'
  exact ⟨u, rfl, go_of (s := { s with heap := h' }) e c d (by decide) ⟨x, H, I1, ru, ⟨rfl, fun ys hy => by rw [I.list_inj hy hq]; exact hx⟩, st', fun b hb => (hf b hb).1⟩⟩
 done := by
  intro X hP hw hK hc i pins s σ H E I hf st hg
  subst hP hw hK
  obtain ⟨xs, hq, hx⟩ := hg
  obtain ⟨its, rv, p, hz⟩ := I.list hq
  obtain ⟨f0, f1, f2, f3, f4, f5⟩ := hf it (by simp)
  have hl := rv.length
  exact wpAny_pyNext_list_end (I.ok.hd hc) st p.isList (by simp; omega) fun h' eb => ⟨rfl, I.turned (t' := s.toks) (fun b o hb e => eb b o hb e) f0 f1 f3 f4 f5⟩
 self := fun _ _ _ _ _ st h => wpAny_pyIter_listiter st h
theorem turn_tuple {P : Program} {w : World} {K : PySem.W.Frag} {tg : Expr} (a it : Addr) : Turn P w K tg (Itt K a) [it] it (fun i h => h.IsTupleIter it a i) where
 mem := by simp
 obj := fun i h st b hb => by
  have e : b = it := by simpa using hb
  subst e
  obtain ⟨o, e, c, d⟩ := st
  exact ⟨o, e, fun v z => by rw [d] at z; cases z⟩
 keep := fun i h h' st k => st.at fun o e => k it (by simp) o e
 item := by
  intro X hP hw hK hc i pins s σ H E I hf st hg
  subst hP hw hK
  obtain ⟨xs, x, hq, hx⟩ := hg
  obtain ⟨its, rv, p, hz⟩ := I.tuple hq
  obtain ⟨u, hu, ru⟩ := rv.get hx
  obtain ⟨f0, f1, f2, f3, f4, f5⟩ := hf it (by simp)
  refine wpAny_pyNext_tuple_item st (show s.heap.IsTuple a its.toArray from p) (x := u) (by simpa using hu) fun h' st' sb => ?_
  have I1 : Inv X pins σ H { s with heap := h' } := I.turned (t' := s.toks) (fun b o hb e => (sb.2 b hb).trans e) f0 f1 f3 f4 f5
  obtain ⟨o, e, c, d⟩ := id st'
  exact ⟨u, rfl, go_of (s := { s with heap := h' }) e c d (by decide) ⟨x, H, I1, ru, ⟨rfl, fun ys hy => by rw [I.tuple_inj hy hq]; exact hx⟩, st', fun b hb => (hf b hb).1⟩⟩
 done := by
  intro X hP hw hK hc i pins s σ H E I hf st hg
  subst hP hw hK
  obtain ⟨xs, hq, hx⟩ := hg
  obtain ⟨its, rv, p, hz⟩ := I.tuple hq
  obtain ⟨f0, f1, f2, f3, f4, f5⟩ := hf it (by simp)
  have hl := rv.length
  exact wpAny_pyNext_tuple_end (I.ok.hd hc) st (show s.heap.IsTuple a its.toArray from p) (by simp; omega) fun h' eb => ⟨rfl, I.turned (t' := s.toks) (fun b o hb e => eb b o hb e) f0 f1 f3 f4 f5⟩
 self := fun _ _ _ _ _ st h => wpAny_pyIter_tupleiter st h
theorem turn_range {P : Program} {w : World} {K : PySem.W.Frag} {tg : Expr} (it : Addr) (lo : Int) (n : Nat) : Turn P w K tg (Itr lo n) [it] it (fun i h => IsRangeIter h it (lo + (i : Nat) * 1) ((n : Int) - (i : Nat)) 1) where
 mem := by simp
 obj := fun i h st b hb => by
  have e : b = it := by simpa using hb
  subst e
  exact ⟨_, st, fun v z => by
   have z' : Data.fields _ = Data.cell v := z
   cases z'⟩
 keep := fun i h h' st k => k it (by simp) _ st
 item := by
  intro X hP hw hK hc i pins s σ H E I hf st hg
  subst hP hw hK
  obtain ⟨f0, f1, f2, f3, f4, f5⟩ := hf it (by simp)
  have W := Walks.range (prog := X.prog) (w := X.w) (I.ok.hd hc) it lo 1 n
  refine W.item i s _ _ hg st fun v h' tk hv st' kk => ?_
  obtain ⟨t, rfl⟩ := hv
  have I1 : Inv X pins σ H { s with heap := h', toks := tk } := I.turned (fun b o hb e => kk b o (by simpa using hb) e) f0 f1 f3 f4 f5
  refine ⟨_, rfl, go_of (s := { s with heap := h', toks := tk }) (n := "range_iterator") st' rfl rfl (by decide) ⟨.int (lo + i), H, I1, ⟨t, ?_⟩, ⟨rfl, rfl⟩, st', fun b hb => (hf b hb).1⟩⟩
  rw [Int.mul_one]
 done := by
  intro X hP hw hK hc i pins s σ H E I hf st hg
  subst hP hw hK
  obtain ⟨f0, f1, f2, f3, f4, f5⟩ := hf it (by simp)
  exact wpAny_pyNext_range_end (I.ok.hd hc) st (by have : n ≤ i := hg; omega) fun h' eb => ⟨rfl, I.turned (t' := s.toks) (fun b o hb e => eb b o hb e) f0 f1 f3 f4 f5⟩
 self := fun _ _ _ _ _ st h => wpAny_pyIter_rangeiter st h
end L2

namespace L2
open PySem PySem.Spec PyProof.Rows
section
variable {X : Cx} {tg : Expr}
noncomputable def iList (K : PySem.W.Frag) (tl : TE) : TI := fun σ H R => tl σ H fun x H1 => ∃ a, x = .ref a ∧ (∃ xs, SqL K H1 a xs) ∧ R (Itl K a) H1
noncomputable def iTup (K : PySem.W.Frag) (tl : TE) : TI := fun σ H R => tl σ H fun x H1 => ∃ a, x = .ref a ∧ (∃ xs, SqT K H1 a xs) ∧ R (Itt K a) H1
theorem pi_list {l : Expr} {tl : TE} (hl : PE X l tl) : PI X tg l (iList X.K tl) := by
 intro pins s σ H R I h
 refine thn (hl pins s σ H _ I h) fun v s1 ⟨x, H1, I1, r1, q1⟩ => ?_
 obtain ⟨a, e, ⟨xs, hq⟩, q⟩ := q1
 subst e
 cases r1
 obtain ⟨its, rv, p, hz⟩ := I1.list hq
 refine wpAny_pyIter_list p.isList ?_
 refine ⟨s1.heap.objs.size, [s1.heap.objs.size], _, _, H1, rfl, I1.kept (t' := s1.toks) fun b o e => Heap.get?_push_of_some _ e, turn_list a _, ⟨_, Heap.get?_push_size _ rfl, rfl, rfl⟩, fun b hb => ?_, q⟩
 have e : b = s1.heap.objs.size := by simpa using hb
 subst e
 exact I1.fpOk (Nat.le_refl _) (I1.hok.fresh (Nat.le_refl _))
theorem pi_tup {l : Expr} {tl : TE} (hl : PE X l tl) : PI X tg l (iTup X.K tl) := by
 intro pins s σ H R I h
 refine thn (hl pins s σ H _ I h) fun v s1 ⟨x, H1, I1, r1, q1⟩ => ?_
 obtain ⟨a, e, ⟨xs, hq⟩, q⟩ := q1
 subst e
 cases r1
 obtain ⟨its, rv, p, hz⟩ := I1.tuple hq
 refine wpAny_pyIter_tuple (show s1.heap.IsTuple a its.toArray from p) ?_
 refine ⟨s1.heap.objs.size, [s1.heap.objs.size], _, _, H1, rfl, I1.kept (t' := s1.toks) fun b o e => Heap.get?_push_of_some _ e, turn_tuple a _, ⟨_, Heap.get?_push_size _ rfl, rfl, rfl⟩, fun b hb => ?_, q⟩
 have e : b = s1.heap.objs.size := by simpa using hb
 subst e
 exact I1.fpOk (Nat.le_refl _) (I1.hok.fresh (Nat.le_refl _))
theorem range_it {pins : List (Addr × Obj)} {σ : St} {H : Hp} {s : Shared} {R : It → Hp → Prop} {E : Value → Shared → Prop} {lo hi : Int} {t u v : Tok} {tk : Nat} (I : Inv X pins σ H s) (h1 : -(2 ^ 62) ≤ lo) (h2 : lo < 2 ^ 62) (h3 : -(2 ^ 62) ≤ hi) (h4 : hi < 2 ^ 62)
  (q : R (Itr lo (hi - lo).toNat) H) : wpAny (model X.prog X.w) X.A (pyIter (.ref s.heap.objs.size)) (PIE X pins σ tg R) E { s with heap := s.heap.push { cls := .type "range", data := .fields #[.int lo t, .int hi u, .int 1 v] }, toks := tk } := by
 refine wpAny_pyIter_range (IsRange.new ..) (small_one h1 h2 h3 h4) ?_
 have I1 : Inv X pins σ H { s with heap := s.heap.push { cls := .type "range", data := .fields #[.int lo t, .int hi u, .int 1 v] }, toks := tk } := I.kept fun b o e => Heap.get?_push_of_some _ e
 refine ⟨(s.heap.push { cls := .type "range", data := .fields #[.int lo t, .int hi u, .int 1 v] }).objs.size, [(s.heap.push { cls := .type "range", data := .fields #[.int lo t, .int hi u, .int 1 v] }).objs.size], _, _, H, rfl,
  I1.kept (t' := tk) fun b o e => Heap.get?_push_of_some _ e, turn_range _ lo (hi - lo).toNat, ?_, fun b hb => ?_, q⟩
 ·have e1 : lo + ((0 : Nat) : Int) * 1 = lo := by simp
  have e2 : (((hi - lo).toNat : Nat) : Int) - ((0 : Nat) : Int) = Builtin.Range.rangeSize lo hi 1 := by rw [rangeSize_one]; split <;> omega
  show IsRangeIter _ _ (lo + ((0 : Nat) : Int) * 1) ((((hi - lo).toNat : Nat) : Int) - ((0 : Nat) : Int)) 1
  rw [e1, e2]
  exact Heap.get?_push_size _ rfl
 ·have e : b = (s.heap.push { cls := .type "range", data := .fields #[.int lo t, .int hi u, .int 1 v] }).objs.size := by simpa using hb
  subst e
  exact I1.fpOk (Nat.le_refl _) (I1.hok.fresh (Nat.le_refl _))
noncomputable def iRng1 (ta : TA) : TI := fun σ H R => ta σ H fun vs H1 => ∃ j : Int, vs = [.int j] ∧ -(2 ^ 62) ≤ j ∧ j < 2 ^ 62 ∧ R (Itr 0 j.toNat) H1
theorem pi_range1 {a : Expr} {ta : TA} {p pos : Pos} (hg : Gl X "range") (hm : X.mg "range" = none) (ha : PA X [a] ta) (hs : starEach [a] X.env = [(false, eval a X.env)] := by rfl) : PI X tg (.Call (.Name "range" p) [a] [] pos) (iRng1 ta) := by
 intro pins s σ H R I h
 refine Call_ (ld_blt I hg hm boot_range (PyProof.Rows.callWith_type1 (thn (ha pos pins s σ H _ I h) fun us s1 ⟨vs, H1, I1, r1, q1⟩ => ?_) hs rfl))
 obtain ⟨j, e, q1, q2, q⟩ := q1
 subst e
 cases r1 with
 | cons r rr =>
  cases rr
  obtain ⟨t, rfl⟩ := r
  exact call_range_1 (range_it I1 (by omega) (by omega) q1 q2 (by simpa using q))
/-! ### for -/
noncomputable def tFor (wi : TI) (g : TG) (tb : TS) : TS := fun D σ H => wi σ H fun J H1 => ∃ W : Nat → Nat → St → Hp → Prop, (∃ m, W 0 m σ H1) ∧ ∀ i m σ H, W i m σ H →
 (J.stop i H ∧ D.nx σ H) ∨ (J.go i H ∧ ∃ N : St → Hp → Prop, (∀ σ' H', N σ' H' → ∃ m', m' < m ∧ W (i + 1) m' σ' H') ∧ ∀ x H', J.yld i H x H' → g x σ H' fun σ2 H2 => tb { D with nx := N, ct := N, bk := D.nx } σ2 H2)
noncomputable def pinsAt (fp : List Addr) (h : Heap) : List (Addr × Obj) := fp.filterMap fun b => (h.get? b).map fun o => (b, o)
theorem mem_pinsAt {fp : List Addr} {h : Heap} {b : Addr} {o : Obj} (hb : b ∈ fp) (e : h.get? b = some o) : (b, o) ∈ pinsAt fp h := List.mem_filterMap.mpr ⟨b, hb, by rw [e]; rfl⟩
theorem of_pinsAt {fp : List Addr} {h : Heap} {p : Addr × Obj} (hp : p ∈ pinsAt fp h) : p.1 ∈ fp ∧ h.get? p.1 = some p.2 := by
 obtain ⟨b, hb, e⟩ := List.mem_filterMap.mp hp
 cases q : h.get? b with
 | none => rw [q] at e; cases e
 | some o =>
  rw [q] at e
  have e' : (b, o) = p := Option.some.inj e
  subst e'
  exact ⟨hb, q⟩
theorem Inv.pinned {pins : List (Addr × Obj)} {σ : St} {H : Hp} {s : Shared} {fp : List Addr} (I : Inv X pins σ H s) (hf : ∀ b ∈ fp, FpOk X pins H b) (ho : ∀ b ∈ fp, ∃ o, s.heap.get? b = some o ∧ ∀ v, o.data ≠ .cell v) : Inv X (pins ++ pinsAt fp s.heap) σ H s :=
 I.pins_of fun p hp => (List.mem_append.mp hp).elim (fun z => I.pin p (List.mem_append_right _ z)) fun z => by
  obtain ⟨hb, e⟩ := of_pinsAt z
  obtain ⟨f0, f1, f2, _⟩ := hf p.1 hb
  obtain ⟨o, e', d⟩ := ho p.1 hb
  rw [e] at e'; cases e'
  exact ⟨e, f0, f1, f2, d⟩
theorem Inv.unpinned {pins pl : List (Addr × Obj)} {σ : St} {H : Hp} {s : Shared} (I : Inv X (pins ++ pl) σ H s) : Inv X pins σ H s := I.pins_of fun p hp => I.pin p (List.mem_append_right _ (List.mem_append_left _ hp))
theorem ps_for {iter : Expr} {body : List Stmt} {wi : TI} {g : TG} {tb : TS} {pos : Pos} (hp : PassesOwn (model X.prog X.w) X.A X.env X.xe) (hc : X.calm = true) (hi : PI X tg iter wi) (hg : PG X tg g) (hb : PSs X body tb)
  (hs : ∀ x, foldedSetIterable iter X.env x = pure x := by intro _; rfl) : PS X (.For tg iter body [] pos) (tFor wi g tb) := by
 intro pins s σ H D I h
 refine wpAny_For (thn (hi pins s σ H _ I h) fun v s1 h1 => thn h1 fun itv s2 h2 => ?_) hs
 obtain ⟨it, fp, tn, J, H2, e, I2, T, st2, f2, W, ⟨m0, w0⟩, turn⟩ := h2
 subst e
 -- what stays true of the iterator's objects through the loop
 have stat : ∀ {H' : Hp}, (∀ b ∈ fp, H' b = none) → ∀ b ∈ fp, FpOk X pins H' b := fun hn b hb => ⟨hn b hb, (f2 b hb).2⟩
 refine codeAny_forLoop_any (fun n s' => ∃ i σ' H', Inv X pins σ' H' s' ∧ tn i s'.heap ∧ (∀ b ∈ fp, H' b = none) ∧ W i n σ' H') ?_ m0 ⟨0, σ, H2, I2, st2, fun b hb => (f2 b hb).1, w0⟩
 rintro n s3 ⟨i, σ3, H3, I3, st3, fr3, w3⟩
 rcases turn i n σ3 H3 w3 with ⟨stop, qn⟩ | ⟨go, N, hN, step⟩
 ·refine wpAny_passesOwn hp (thn (T.done X rfl rfl rfl hc i pins s3 σ3 H3 X.xe I3 (stat fr3) st3 stop) fun r s4 ⟨hr, I4⟩ => ?_)
  subst hr
  exact wpAny_execs_nil ⟨σ3, H3, I4, qn⟩
 ·refine wpAny_passesOwn hp (thn (T.item X rfl rfl rfl hc i pins s3 σ3 H3 X.xe I3 (stat fr3) st3 go) fun r s4 ⟨u, hr, h4⟩ => ?_)
  subst hr
  refine wpAny_passesOwn hp (thn h4 fun _ s5 ⟨x, H5, I5, r5, y5, st5, fr5⟩ => ?_)
  have I5' := I5.pinned (stat fr5) (T.obj _ _ st5)
  refine wpAny_passesOwn hp (thn (hg _ s5 σ3 H5 x u _ I5' r5 (step x H5 y5)) fun _ s6 ⟨σ6, H6, I6, q6⟩ => ?_)
  refine wpAny_passesOwn hp (thn (hb _ s6 σ6 H6 _ I6 q6) fun f s7 q7 => ?_)
  have again : ∀ {σ7 : St} {H7 : Hp}, Inv X (pins ++ pinsAt fp s5.heap) σ7 H7 s7 → N σ7 H7 → ∃ m, m < n ∧ ∃ i σ' H', Inv X pins σ' H' s7 ∧ tn i s7.heap ∧ (∀ b ∈ fp, H' b = none) ∧ W i m σ' H' := fun {σ7 H7} I7 n7 => by
   obtain ⟨m', hm, w7⟩ := hN σ7 H7 n7
   refine ⟨m', hm, i + 1, σ7, H7, I7.unpinned, T.keep _ _ _ st5 fun b hb o e => (I7.pin (b, o) (List.mem_append_right _ (List.mem_append_right _ (mem_pinsAt hb e)))).1, fun b hb => ?_, w7⟩
   obtain ⟨o, e, d⟩ := T.obj _ _ st5 b hb
   exact (I7.pin (b, o) (List.mem_append_right _ (List.mem_append_right _ (mem_pinsAt hb e)))).2.1
  cases f with
  | next => obtain ⟨σ7, H7, I7, n7⟩ := q7; exact again I7 n7
  | cont => obtain ⟨σ7, H7, I7, n7⟩ := q7; exact again I7 n7
  | brk => obtain ⟨σ7, H7, I7, q7⟩ := q7; exact ⟨σ7, H7, I7.unpinned, q7⟩
  | ret v => obtain ⟨x7, σ7, H7, I7, r7, q7⟩ := q7; exact ⟨x7, σ7, H7, I7.unpinned, r7, q7⟩
end

/-! ### the forms one uses -/
theorem for_list {K : PySem.W.Frag} {a : Addr} {xs : List V} {g : TG} {tb : TS} {D : Ends} {σ : St} {H : Hp} (Pv : Nat → St → Hp → Prop) (h0 : Pv 0 σ H) (hl : ∀ i σ H, i ≤ xs.length → Pv i σ H → SqL K H a xs)
  (hs : ∀ i x σ H, xs[i]? = some x → Pv i σ H → g x σ H fun σ2 H2 => tb { D with nx := Pv (i + 1), ct := Pv (i + 1), bk := D.nx } σ2 H2) (hd : ∀ σ H, Pv xs.length σ H → D.nx σ H) :
  ∃ W : Nat → Nat → St → Hp → Prop, (∃ m, W 0 m σ H) ∧ ∀ i m σ H, W i m σ H →
   ((Itl K a).stop i H ∧ D.nx σ H) ∨ ((Itl K a).go i H ∧ ∃ N : St → Hp → Prop, (∀ σ' H', N σ' H' → ∃ m', m' < m ∧ W (i + 1) m' σ' H') ∧ ∀ x H', (Itl K a).yld i H x H' → g x σ H' fun σ2 H2 => tb { D with nx := N, ct := N, bk := D.nx } σ2 H2) := by
 refine ⟨fun i m σ H => m = xs.length - i ∧ i ≤ xs.length ∧ Pv i σ H, ⟨xs.length, by simp, Nat.zero_le _, h0⟩, ?_⟩
 rintro i m σ H ⟨rfl, hi, p⟩
 have q := hl i σ H hi p
 by_cases hlt : i < xs.length
 ·refine .inr ⟨⟨xs, xs[i], q, by simp [hlt]⟩, Pv (i + 1), fun σ' H' p' => ⟨xs.length - (i + 1), by omega, rfl, hlt, p'⟩, fun x H' y => ?_⟩
  obtain ⟨e, y⟩ := y
  subst e
  exact hs i x σ _ (y xs q) p
 ·have e : i = xs.length := by omega
  subst e
  exact .inl ⟨⟨xs, q, Nat.le_refl _⟩, hd σ H p⟩
theorem for_tup {K : PySem.W.Frag} {a : Addr} {xs : List V} {g : TG} {tb : TS} {D : Ends} {σ : St} {H : Hp} (Pv : Nat → St → Hp → Prop) (h0 : Pv 0 σ H) (hl : ∀ i σ H, i ≤ xs.length → Pv i σ H → SqT K H a xs)
  (hs : ∀ i x σ H, xs[i]? = some x → Pv i σ H → g x σ H fun σ2 H2 => tb { D with nx := Pv (i + 1), ct := Pv (i + 1), bk := D.nx } σ2 H2) (hd : ∀ σ H, Pv xs.length σ H → D.nx σ H) :
  ∃ W : Nat → Nat → St → Hp → Prop, (∃ m, W 0 m σ H) ∧ ∀ i m σ H, W i m σ H →
   ((Itt K a).stop i H ∧ D.nx σ H) ∨ ((Itt K a).go i H ∧ ∃ N : St → Hp → Prop, (∀ σ' H', N σ' H' → ∃ m', m' < m ∧ W (i + 1) m' σ' H') ∧ ∀ x H', (Itt K a).yld i H x H' → g x σ H' fun σ2 H2 => tb { D with nx := N, ct := N, bk := D.nx } σ2 H2) := by
 refine ⟨fun i m σ H => m = xs.length - i ∧ i ≤ xs.length ∧ Pv i σ H, ⟨xs.length, by simp, Nat.zero_le _, h0⟩, ?_⟩
 rintro i m σ H ⟨rfl, hi, p⟩
 have q := hl i σ H hi p
 by_cases hlt : i < xs.length
 ·refine .inr ⟨⟨xs, xs[i], q, by simp [hlt]⟩, Pv (i + 1), fun σ' H' p' => ⟨xs.length - (i + 1), by omega, rfl, hlt, p'⟩, fun x H' y => ?_⟩
  obtain ⟨e, y⟩ := y
  subst e
  exact hs i x σ _ (y xs q) p
 ·have e : i = xs.length := by omega
  subst e
  exact .inl ⟨⟨xs, q, Nat.le_refl _⟩, hd σ H p⟩
theorem for_range {lo : Int} {n : Nat} {g : TG} {tb : TS} {D : Ends} {σ : St} {H : Hp} (Pv : Nat → St → Hp → Prop) (h0 : Pv 0 σ H)
  (hs : ∀ i σ H, i < n → Pv i σ H → g (.int (lo + i)) σ H fun σ2 H2 => tb { D with nx := Pv (i + 1), ct := Pv (i + 1), bk := D.nx } σ2 H2) (hd : ∀ σ H, Pv n σ H → D.nx σ H) :
  ∃ W : Nat → Nat → St → Hp → Prop, (∃ m, W 0 m σ H) ∧ ∀ i m σ H, W i m σ H →
   ((Itr lo n).stop i H ∧ D.nx σ H) ∨ ((Itr lo n).go i H ∧ ∃ N : St → Hp → Prop, (∀ σ' H', N σ' H' → ∃ m', m' < m ∧ W (i + 1) m' σ' H') ∧ ∀ x H', (Itr lo n).yld i H x H' → g x σ H' fun σ2 H2 => tb { D with nx := N, ct := N, bk := D.nx } σ2 H2) := by
 refine ⟨fun i m σ H => m = n - i ∧ i ≤ n ∧ Pv i σ H, ⟨n, by simp, Nat.zero_le _, h0⟩, ?_⟩
 rintro i m σ H ⟨rfl, hi, p⟩
 by_cases hlt : i < n
 ·refine .inr ⟨hlt, Pv (i + 1), fun σ' H' p' => ⟨n - (i + 1), by omega, rfl, hlt, p'⟩, fun x H' y => ?_⟩
  obtain ⟨e, y⟩ := y
  subst e y
  exact hs i σ _ hlt p
 ·have e : i = n := by omega
  subst e
  exact .inl ⟨Nat.le_refl _, hd σ H p⟩
theorem while_by {c : TT} {tb : TS} {D : Ends} {σ : St} {H : Hp} (Pv : St → Hp → Prop) (μ : St → Hp → Nat) (h0 : Pv σ H)
  (hs : ∀ σ H, Pv σ H → c σ H fun b H1 => if b = true then tb { D with nx := fun σ' H' => Pv σ' H' ∧ μ σ' H' < μ σ H, ct := fun σ' H' => Pv σ' H' ∧ μ σ' H' < μ σ H, bk := D.nx } σ H1 else D.nx σ H1)
  (mono : ∀ σ H Q Q', (∀ b H1, Q b H1 → Q' b H1) → c σ H Q → c σ H Q') : tWhile c tb D σ H := by
 refine ⟨fun m σ H => m = μ σ H ∧ Pv σ H, ⟨_, rfl, h0⟩, ?_⟩
 rintro m σ H ⟨rfl, p⟩
 refine mono σ H _ _ (fun b H1 q => ?_) (hs σ H p)
 cases b with
 | true => exact ⟨_, fun σ' H' ⟨p', l⟩ => ⟨_, l, rfl, p'⟩, q⟩
 | false => exact q
end L2

namespace L2
open PySem PySem.Spec PyProof.Rows

noncomputable abbrev R2 := V → V → Hp → VK → Prop
noncomputable def OpR (X : Cx) (f : Value → Value → Sem Value) (r : R2) : Prop :=
 ∀ (pins : List (Addr × Obj)) (s : Shared) (σ : St) (H : Hp) (x y : V) (v u : Value) (Q : VK), Inv X pins σ H s → RelV x v → RelV y u → r x y H Q →
  wpAny (model X.prog X.w) X.A (f v u) (EP X pins σ Q) X.xe s
noncomputable def UnR (X : Cx) (f : Value → Sem Value) (r : V → Hp → VK → Prop) : Prop :=
 ∀ (pins : List (Addr × Obj)) (s : Shared) (σ : St) (H : Hp) (x : V) (v : Value) (Q : VK), Inv X pins σ H s → RelV x v → r x H Q →
  wpAny (model X.prog X.w) X.A (f v) (EP X pins σ Q) X.xe s
noncomputable def CallR (X : Cx) (f : Value) (r : List V → Hp → VK → Prop) : Prop :=
 ∀ (pins : List (Addr × Obj)) (s : Shared) (σ : St) (H : Hp) (xs : List V) (us : List Value) (Q : VK), Inv X pins σ H s → Vals xs us → r xs H Q →
  wpAny (model X.prog X.w) X.A (call f us) (EP X pins σ Q) X.xe s
noncomputable def tOp (r : R2) (ta tb : TE) : TE := fun σ H Q => ta σ H fun x H1 => tb σ H1 fun y H2 => r x y H2 Q
noncomputable def tUn (r : V → Hp → VK → Prop) (ta : TE) : TE := fun σ H Q => ta σ H fun x H1 => r x H1 Q
noncomputable def rI (C : Int → Int → Prop) (g : Int → Int → V) : R2 := fun x y H Q => ∃ i j, x = .int i ∧ y = .int j ∧ C i j ∧ Q (g i j) H
noncomputable def rI0 (g : Int → Int → V) : R2 := fun x y H Q => ∃ i j, x = .int i ∧ y = .int j ∧ Q (g i j) H
noncomputable def rU (g : Int → V) : V → Hp → VK → Prop := fun x H Q => ∃ i, x = .int i ∧ Q (g i) H

section
variable {X : Cx} {a b c : Expr} {ta tb tc : TE} {pos : Pos}

theorem binT (ha : PE X a ta) (hb : PE X b tb) {pins : List (Addr × Obj)} {s : Shared} {σ : St} {H : Hp} {R : V → V → Hp → Prop} (I : Inv X pins σ H s)
  (h : ta σ H fun x H1 => tb σ H1 fun y H2 => R x y H2) {Q : Value → Shared → Prop} {f : Value → Value → Sem Value}
  (hf : ∀ v u s2 x y H2, Inv X pins σ H2 s2 → RelV x v → RelV y u → R x y H2 → wpAny (model X.prog X.w) X.A (f v u) Q X.xe s2) :
  wpAny (model X.prog X.w) X.A (eval a X.env) (fun v s₁ => wpAny (model X.prog X.w) X.A (eval b X.env) (fun u s₂ => wpAny (model X.prog X.w) X.A (f v u) Q X.xe s₂) X.xe s₁) X.xe s := by
 refine thn (ha pins s σ H _ I h) fun v s1 ⟨x, H1, I1, r1, q1⟩ => ?_
 refine thn (hb pins s1 σ H1 _ I1 q1) fun u s2 ⟨y, H2, I2, r2, q2⟩ => ?_
 exact hf v u s2 x y H2 I2 r1 r2 q2

theorem pe_op {op : Operator} {r : R2} (ho : OpR X (binaryOp op) r) (ha : PE X a ta) (hb : PE X b tb) : PE X (.BinOp a op b pos) (tOp r ta tb) := by
 intro pins s σ H Q I h
 exact wpAny_BinOp (binT ha hb I h fun v u s2 x y H2 I2 rx ry q => ho pins s2 σ H2 x y v u Q I2 rx ry q)
theorem pe_un {op : UnaryOp} {r : V → Hp → VK → Prop} (ho : UnR X (unaryOp op) r) (ha : PE X a ta) : PE X (.UnaryOp op a pos) (tUn r ta) := by
 intro pins s σ H Q I h
 exact UnaryOp_ (thn (ha pins s σ H _ I h) fun v s1 ⟨x, H1, I1, r1, q1⟩ => ho pins s1 σ H1 x v Q I1 r1 q1)
/-! ### ints -/
theorem opI {f : Value → Value → Sem Value} {C : Int → Int → Prop} {g : Int → Int → Int}
  (rule : ∀ (i j : Int) (t u : Tok) (s : Shared) (Q : Value → Shared → Prop) (E : Value → Shared → Prop), C i j → Q (.int (g i j) s.toks) { s with toks := s.toks + 1 } → wpAny (model X.prog X.w) X.A (f (.int i t) (.int j u)) Q E s) :
  OpR X f (rI C fun i j => .int (g i j)) := by
 intro pins s σ H x y v u Q I rx ry h
 obtain ⟨i, j, rfl, rfl, hc, q⟩ := h
 obtain ⟨t, rfl⟩ := rx
 obtain ⟨t', rfl⟩ := ry
 exact rule i j t t' s _ _ hc ⟨.int (g i j), H, I.tok _, ⟨_, rfl⟩, q⟩
theorem opI0 {f : Value → Value → Sem Value} {g : Int → Int → Int}
  (rule : ∀ (i j : Int) (t u : Tok) (s : Shared) (Q : Value → Shared → Prop) (E : Value → Shared → Prop), Q (.int (g i j) s.toks) { s with toks := s.toks + 1 } → wpAny (model X.prog X.w) X.A (f (.int i t) (.int j u)) Q E s) :
  OpR X f (rI0 fun i j => .int (g i j)) := by
 intro pins s σ H x y v u Q I rx ry h
 obtain ⟨i, j, rfl, rfl, q⟩ := h
 obtain ⟨t, rfl⟩ := rx
 obtain ⟨t', rfl⟩ := ry
 exact rule i j t t' s _ _ ⟨.int (g i j), H, I.tok _, ⟨_, rfl⟩, q⟩
theorem opB0 {f : Value → Value → Sem Value} {g : Int → Int → Bool}
  (rule : ∀ (i j : Int) (t u : Tok) (s : Shared) (Q : Value → Shared → Prop) (E : Value → Shared → Prop), Q (.bool (g i j)) s → wpAny (model X.prog X.w) X.A (f (.int i t) (.int j u)) Q E s) :
  OpR X f (rI0 fun i j => .bl (g i j)) := by
 intro pins s σ H x y v u Q I rx ry h
 obtain ⟨i, j, rfl, rfl, q⟩ := h
 obtain ⟨t, rfl⟩ := rx
 obtain ⟨t', rfl⟩ := ry
 exact rule i j t t' s _ _ ⟨.bl (g i j), H, I, rfl, q⟩

noncomputable def CPow (i j : Int) : Prop := 0 ≤ j ∧ j ≤ 1000000 ∧ i.natAbs < 2 ^ 64
theorem op_add : OpR X (binaryOp .Add) (rI0 fun i j => .int (i + j)) := opI0 fun _ _ _ _ _ _ _ q => add_int q
theorem op_sub : OpR X (binaryOp .Sub) (rI0 fun i j => .int (i - j)) := opI0 fun _ _ _ _ _ _ _ q => sub_int q
theorem op_modN : OpR X (binaryOp .Mod) (rI (fun _ j => j ≠ 0) fun i j => .int (i.fmod j)) := opI fun _ _ _ _ _ _ _ hc q => mod_int' hc q
theorem op_pow : OpR X (binaryOp .Pow) (rI CPow fun i j => .int (i ^ j.toNat)) := opI fun _ _ _ _ _ _ _ hc q => pow_int_small hc.1 hc.2.1 hc.2.2 q
theorem unI {f : Value → Sem Value} {g : Int → Int}
  (rule : ∀ (i : Int) (t : Tok) (s : Shared) (Q : Value → Shared → Prop) (E : Value → Shared → Prop), Q (.int (g i) s.toks) { s with toks := s.toks + 1 } → wpAny (model X.prog X.w) X.A (f (.int i t)) Q E s) :
  UnR X f (rU fun i => .int (g i)) := by
 intro pins s σ H x v Q I rx h
 obtain ⟨i, rfl, q⟩ := h
 obtain ⟨t, rfl⟩ := rx
 exact rule i t s _ _ ⟨.int (g i), H, I.tok _, ⟨_, rfl⟩, q⟩
theorem un_neg : UnR X (unaryOp .USub) (rU fun i => .int (-i)) := unI fun _ _ _ _ _ q => neg_int q
/-! ### bools among ints: n += (a < b) -/
end

/-! ### comparisons -/
noncomputable def scal : V → V → Bool
 | .non, .non => true | .non, .int _ => true | .int _, .non => true | .non, .bl _ => true | .bl _, .non => true | .non, .str _ => true | .str _, .non => true
 | .int _, .int _ => true | .bl _, .bl _ => true | .str _, .str _ => true | .byt _, .byt _ => true
 | .int _, .str _ => true | .str _, .int _ => true | .bl _, .str _ => true | .str _, .bl _ => true
 | _, _ => false
noncomputable def rEq : R2 := fun x y H Q => scal x y = true ∧ Q (.bl (decide (x = y))) H
noncomputable def rNe : R2 := fun x y H Q => scal x y = true ∧ Q (.bl (!decide (x = y))) H

theorem dec_int {i j : Int} : decide (V.int i = V.int j) = (i == j) := by
 rw [Bool.eq_iff_iff]
 simp
theorem dec_bl {i j : Bool} : decide (V.bl i = V.bl j) = (i == j) := by
 rw [Bool.eq_iff_iff]
 simp
theorem dec_str {i j : Str} : decide (V.str i = V.str j) = (i == j) := by
 rw [Bool.eq_iff_iff]
 simp
theorem dec_byt {i j : Array UInt8} : decide (V.byt i = V.byt j) = (i.toList == j.toList) := by
 rw [Bool.eq_iff_iff]
 cases i
 cases j
 simp

section
variable {X : Cx} {a b c : Expr} {ta tb tc : TE} {pos : Pos}
theorem fin_bl {pins : List (Addr × Obj)} {σ : St} {H : Hp} {s : Shared} {Q : VK} {k k' : Bool} (I : Inv X pins σ H s) (q : Q (.bl k) H) (e : k = k') : EP X pins σ Q (.bool k') s := by
 subst e
 exact ⟨.bl k, H, I, rfl, q⟩
theorem op_eq : OpR X (compareOp .Eq) rEq := by
 intro pins s σ H x y v u Q I rx ry h
 obtain ⟨hs, q⟩ := h
 cases x with
 | non =>
  cases rx
  cases y with
  | non => cases ry; exact PySem.EqNone.eq_none_none (fin_bl I q (by simp))
  | bl j => cases ry; exact PySem.EqNone.eq_none_bool (fin_bl I q (by simp))
  | int j => obtain ⟨t', rfl⟩ := ry; exact PySem.EqNone.eq_none_int (fin_bl I q (by simp))
  | str j => obtain ⟨t', rfl⟩ := ry; exact PySem.EqNone.eq_none_str (fin_bl I q (by simp))
  | _ => exact absurd (show false = true from hs) Bool.false_ne_true
 | bl i =>
  cases rx
  cases y with
  | non => cases ry; exact PySem.EqNone.eq_bool_none (fin_bl I q (by simp))
  | bl j => cases ry; exact eq_bool (fin_bl I q dec_bl)
  | str j => obtain ⟨t', rfl⟩ := ry; exact PySem.EqMixed.eq_bool_str (fin_bl I q (by simp))
  | _ => exact absurd (show false = true from hs) Bool.false_ne_true
 | int i =>
  obtain ⟨t, rfl⟩ := rx
  cases y with
  | non => cases ry; exact PySem.EqNone.eq_int_none (fin_bl I q (by simp))
  | int j => obtain ⟨t', rfl⟩ := ry; exact eq_int (fin_bl I q dec_int)
  | str j => obtain ⟨t', rfl⟩ := ry; exact PySem.EqMixed.eq_int_str (fin_bl I q (by simp))
  | _ => exact absurd (show false = true from hs) Bool.false_ne_true
 | str i =>
  obtain ⟨t, rfl⟩ := rx
  cases y with
  | non => cases ry; exact PySem.EqNone.eq_str_none (fin_bl I q (by simp))
  | bl j => cases ry; exact PySem.EqMixed.eq_str_bool (fin_bl I q (by simp))
  | int j => obtain ⟨t', rfl⟩ := ry; exact PySem.EqMixed.eq_str_int (fin_bl I q (by simp))
  | str j => obtain ⟨t', rfl⟩ := ry; exact eq_str (fin_bl I q dec_str)
  | _ => exact absurd (show false = true from hs) Bool.false_ne_true
 | byt i =>
  obtain ⟨t, rfl⟩ := rx
  cases y with
  | byt j => obtain ⟨t', rfl⟩ := ry; exact PySem.W.eq_bytes (fin_bl I q dec_byt)
  | _ => exact absurd (show false = true from hs) Bool.false_ne_true
 | _ => cases y <;> exact absurd (show false = true from hs) Bool.false_ne_true
theorem op_ne : OpR X (compareOp .NotEq) rNe := by
 intro pins s σ H x y v u Q I rx ry h
 obtain ⟨hs, q⟩ := h
 cases x with
 | non =>
  cases rx
  cases y with
  | non => cases ry; exact PySem.EqNone.ne_none_none (fin_bl I q (by simp))
  | bl j => cases ry; exact PySem.EqNone.ne_none_bool (fin_bl I q (by simp))
  | int j => obtain ⟨t', rfl⟩ := ry; exact PySem.EqNone.ne_none_int (fin_bl I q (by simp))
  | str j => obtain ⟨t', rfl⟩ := ry; exact PySem.EqNone.ne_none_str (fin_bl I q (by simp))
  | _ => exact absurd (show false = true from hs) Bool.false_ne_true
 | bl i =>
  cases rx
  cases y with
  | non => cases ry; exact PySem.EqNone.ne_bool_none (fin_bl I q (by simp))
  | bl j => cases ry; exact ne_bool (fin_bl I q (congrArg not dec_bl))
  | str j => obtain ⟨t', rfl⟩ := ry; exact PySem.EqMixed.ne_bool_str (fin_bl I q (by simp))
  | _ => exact absurd (show false = true from hs) Bool.false_ne_true
 | int i =>
  obtain ⟨t, rfl⟩ := rx
  cases y with
  | non => cases ry; exact PySem.EqNone.ne_int_none (fin_bl I q (by simp))
  | int j => obtain ⟨t', rfl⟩ := ry; exact ne_int (fin_bl I q (congrArg not dec_int))
  | str j => obtain ⟨t', rfl⟩ := ry; exact PySem.EqMixed.ne_int_str (fin_bl I q (by simp))
  | _ => exact absurd (show false = true from hs) Bool.false_ne_true
 | str i =>
  obtain ⟨t, rfl⟩ := rx
  cases y with
  | non => cases ry; exact PySem.EqNone.ne_str_none (fin_bl I q (by simp))
  | bl j => cases ry; exact PySem.EqMixed.ne_str_bool (fin_bl I q (by simp))
  | int j => obtain ⟨t', rfl⟩ := ry; exact PySem.EqMixed.ne_str_int (fin_bl I q (by simp))
  | str j => obtain ⟨t', rfl⟩ := ry; exact ne_str (fin_bl I q (congrArg not dec_str))
  | _ => exact absurd (show false = true from hs) Bool.false_ne_true
 | byt i =>
  obtain ⟨t, rfl⟩ := rx
  cases y with
  | byt j => obtain ⟨t', rfl⟩ := ry; exact PySem.W.ne_bytes (fin_bl I q (congrArg not dec_byt))
  | _ => exact absurd (show false = true from hs) Bool.false_ne_true
 | _ => cases y <;> exact absurd (show false = true from hs) Bool.false_ne_true

theorem op_lt : OpR X (compareOp .Lt) (rI0 fun i j => .bl (decide (i < j))) := opB0 fun _ _ _ _ _ _ _ q => lt_int q
theorem op_le : OpR X (compareOp .LtE) (rI0 fun i j => .bl (decide (i ≤ j))) := opB0 fun _ _ _ _ _ _ _ q => le_int q
theorem op_gt : OpR X (compareOp .Gt) (rI0 fun i j => .bl (decide (j < i))) := opB0 fun _ _ _ _ _ _ _ q => gt_int q
theorem op_in_str : OpR X (compareOp .In) (fun x y H Q => ∃ i j, x = .str i ∧ y = .str j ∧ Q (.bl (!(Builtin.Str.occurrences j i 0 j.length 1).isEmpty)) H) := by
 intro pins s σ H x y v u Q I rx ry h
 obtain ⟨i, j, rfl, rfl, q⟩ := h
 obtain ⟨t, rfl⟩ := rx
 obtain ⟨t', rfl⟩ := ry
 exact in_str (fin_bl I q rfl)

theorem op_isN : OpR X (compareOp .Is) (fun x y H Q => y = .non ∧ Q (.bl (decide (x = .non))) H) := by
 intro pins s σ H x y v u Q I rx ry h
 obtain ⟨rfl, q⟩ := h
 cases ry
 refine is_none_gen (fin_bl I q ?_)
 cases x <;> first
  | (cases rx; rfl)
  | (obtain ⟨t, rfl⟩ := rx; rfl)
theorem nomark (b : Expr) {op : CmpOp} (h : op ≠ .In := by decide) (h2 : op ≠ .NotIn := by decide) : behindInMarks op b = false := by
 have e1 : (op == CmpOp.In) = false := by cases op <;> first | rfl | exact absurd rfl h
 have e2 : (op == CmpOp.NotIn) = false := by cases op <;> first | rfl | exact absurd rfl h2
 cases b <;> simp [behindInMarks, e1, e2]
theorem pe_cmpR {op : CmpOp} {r : R2} (ho : OpR X (compareOp op) r) (ha : PE X a ta) (hb : PE X b tb) (hm : behindInMarks op b = false) : PE X (.Compare a [op] [b] pos) (tOp r ta tb) := by
 intro pins s σ H Q I h
 exact wpAny_Compare1 (binT ha hb I h fun v u s2 x y H2 I2 rx ry q => ho pins s2 σ H2 x y v u Q I2 rx ry q) hm
noncomputable def tTest (t : TE) : TT := fun σ H Q => t σ H fun x H' => ∃ k, x = .bl k ∧ Q k H'
theorem pt_cmpR {op : CmpOp} {r : R2} (ho : OpR X (compareOp op) r) (ha : PE X a ta) (hb : PE X b tb) (hm : behindInMarks op b = false) : PT X (.Compare a [op] [b] pos) (tTest (tOp r ta tb)) := by
 intro pins s σ H Q I h
 refine wpAny_isTrue_Compare1 (thn (ha pins s σ H _ I h) fun v s1 ⟨x, H1, I1, r1, q1⟩ => thn (hb pins s1 σ H1 _ I1 q1) fun u s2 ⟨y, H2, I2, r2, q2⟩ =>
  thn (ho pins s2 σ H2 x y v u _ I2 r1 r2 q2) fun c s3 ⟨z, H3, I3, r3, k, e, q3⟩ => ?_) hm
 subst e
 cases r3
 exact wpAny_truthy_bool ⟨H3, I3, q3⟩
/-! ### truth -/
theorem line63 : (sizeLine : Nat) < 2 ^ 63 := by rw [sizeLine_eq]; decide
/-! ### strs and bytes -/
theorem op_add_str : OpR X (binaryOp .Add) (fun x y H Q => ∃ i j, x = .str i ∧ y = .str j ∧ i.length + j.length ≤ sizeLine ∧ Q (.str (i ++ j)) H) := by
 intro pins s σ H x y v u Q I rx ry h
 obtain ⟨i, j, rfl, rfl, hz, q⟩ := h
 obtain ⟨t, rfl⟩ := rx
 obtain ⟨t', rfl⟩ := ry
 exact add_str (fun t' tk => ⟨.str (i ++ j), H, I.tok _, ⟨_, rfl⟩, q⟩) hz
/-! ### scalar builtins, by CallR -/
theorem vals1 {x : V} {us : List Value} (r : Vals [x] us) : ∃ u, us = [u] ∧ RelV x u := by
 cases r with
 | cons r1 r2 => cases r2; exact ⟨_, rfl, r1⟩
theorem vals2 {x y : V} {us : List Value} (r : Vals [x, y] us) : ∃ u w', us = [u, w'] ∧ RelV x u ∧ RelV y w' := by
 cases r with
 | cons r1 r2 =>
  cases r2 with
  | cons r3 r4 => cases r4; exact ⟨_, _, rfl, r1, r3⟩
theorem call_int1 : CallR X (.type "int") (fun xs H Q => (∃ i, xs = [.int i] ∧ Q (.int i) H) ∨ ∃ k, xs = [.bl k] ∧ Q (.int (if k then 1 else 0)) H) := by
 intro pins s σ H xs us Q I r h
 rcases h with ⟨i, rfl, q⟩ | ⟨k, rfl, q⟩
 ·obtain ⟨u, rfl, t, rfl⟩ := vals1 r
  exact call_int_int ⟨.int i, H, I, ⟨_, rfl⟩, q⟩
 ·obtain ⟨u, rfl, r1⟩ := vals1 r
  cases r1
  exact call_int_bool ⟨.int (if k then 1 else 0), H, I.tok _, ⟨_, rfl⟩, q⟩
theorem call_str_int : CallR X (.type "str") (fun xs H Q => ∃ i, xs = [.int i] ∧ i.natAbs.log2 < 1920 ∧ Q (.str (toString i)) H) := by
 intro pins s σ H xs us Q I r h
 obtain ⟨i, rfl, hz, q⟩ := h
 obtain ⟨u, rfl, t, rfl⟩ := vals1 r
 exact PySem.P.str_of_int hz ⟨.str _, H, I.tok _, ⟨_, rfl⟩, q⟩
noncomputable def LenV (K : PySem.W.Frag) (x : V) (H : Hp) (n : Nat) : Prop :=
 match x with
 | .str y => y.length ≤ sizeLine ∧ n = y.length
 | .byt y => y.size ≤ sizeLine ∧ n = y.size
 | .ref p => (∃ xs, SqL K H p xs ∧ n = xs.length) ∨ ∃ xs, SqT K H p xs ∧ n = xs.length
 | _ => False
theorem call_len : CallR X (.builtin "len") (fun xs H Q => ∃ x n, xs = [x] ∧ LenV X.K x H n ∧ Q (.int n) H) := by
 intro pins s σ H xs us Q I r h
 obtain ⟨x, n, rfl, e, q⟩ := h
 obtain ⟨u, rfl, rx⟩ := vals1 r
 have hl := line63
 have hs : sizeLine = 16777216 := sizeLine_eq
 cases x with
 | str y =>
  obtain ⟨t, rfl⟩ := rx
  obtain ⟨hy, e'⟩ : y.length ≤ sizeLine ∧ n = y.length := e
  subst e'
  exact len_str (by omega) ⟨.int _, H, I.tok _, ⟨_, rfl⟩, q⟩
 | byt y =>
  obtain ⟨t, rfl⟩ := rx
  obtain ⟨hy, e'⟩ : y.size ≤ sizeLine ∧ n = y.size := e
  subst e'
  exact PySem.W.len_bytes (by omega) ⟨.int _, H, I.tok _, ⟨_, rfl⟩, q⟩
 | ref p =>
  cases rx
  have e' : (∃ xs, SqL X.K H p xs ∧ n = xs.length) ∨ ∃ xs, SqT X.K H p xs ∧ n = xs.length := e
  rcases e' with ⟨xs, hx, e'⟩ | ⟨xs, hx, e'⟩
  ·subst e'
   obtain ⟨its, r', pl, hz⟩ := I.list hx
   have hlen := r'.length
   exact Calls.call_len_list pl.isList (by simp only [List.size_toArray]; omega) ⟨.int xs.length, H, I.tok _, ⟨_, by simp only [List.size_toArray]; rw [hlen]⟩, q⟩
  ·subst e'
   obtain ⟨its, r', pl, hz⟩ := I.tuple hx
   have hlen := r'.length
   exact len_tuple pl (by simp only [List.size_toArray]; omega) ⟨.int xs.length, H, I.tok _, ⟨_, by simp only [List.size_toArray]; rw [hlen]⟩, q⟩
 | _ => exact (show False from e).elim
end
end L2

namespace L2
open PySem PySem.Spec PyProof.Rows

/-! ### an instance, its attributes a map -/
structure ObjM (h : Heap) (x dx C : Addr) (mA : Str → Option Value) : Prop where
 obj : h.get? x = some (PySem.W.instObj C dx)
 ns : h.Ns1 dx mA
 ne : dx ≠ x

theorem lookIn_ns {h : Heap} {dx : Addr} {mA : Str → Option Value} (n : h.Ns1 dx mA) : ∃ od, h.get? dx = some od ∧ ∀ name, PySem.W.lookIn name od = some (mA name) := by
 obtain ⟨o, es, ep, ho, hd, hk, _, hm⟩ := n
 refine ⟨o, ho, fun name => ?_⟩
 have e := hm name
 unfold nsFind findBy at e
 rw [← Array.find?_toList] at e
 unfold PySem.W.lookIn
 rw [hd]
 dsimp only
 split
 ·rename_i y q
  rw [q] at e
  exact congrArg some e
 ·rename_i q
  rw [q] at e
  have a : es.toList.any (·.refKey) = false := by
   rw [List.any_eq_false]
   intro y hy
   obtain ⟨z, t, hkey⟩ := hk y (Array.mem_toList_iff.mp hy)
   simp [DictEntry.refKey, hkey]
  have a' : ¬ es.toList.any (·.refKey) = true := by rw [a]; exact Bool.false_ne_true
  rw [if_neg a']
  exact congrArg some e

theorem ObjM.look {h : Heap} {x dx C : Addr} {mA : Str → Option Value} (I : ObjM h x dx C mA) : ∃ od, PySem.W.InstAt h x (PySem.W.instObj C dx) C (some od) ∧ ∀ name, PySem.W.lookIn name od = some (mA name) :=
 let ⟨od, ho, hl⟩ := lookIn_ns I.ns
 ⟨od, ⟨I.obj, rfl, rfl, ho⟩, hl⟩

section
variable {prog : Program} {w : World} {A : Around} {E : Value → Shared → Prop} {s : Shared} {K : PySem.W.Frag} {x dx C f : Addr} {mA : Str → Option Value} {name : Str} {v : Value}

end

/-! ### the attributes as a list of pairs -/
section
variable {P : Program} {w : World} {H H' : Hp} {h h' : Heap} {a C dx : Addr} {fs fs' : List (Str × V)}
theorem ins_get (hok : HOk P w H h) (e : H a = some (.ins C dx fs)) : ∃ mA, ObjM h a dx C mA ∧ (∀ f, RelO (fs.lookup f) (mA f)) ∧ PySem.Within mA (fs.map (·.1)) ∧ fs.length ≤ 1000 ∧ H dx = some (.own a) := by
 obtain ⟨d, z, ne, ob, mA, n, r, q⟩ := (show ObjOk P w H h a (.ins C dx fs) from hok a _ e)
 exact ⟨mA, ⟨ob, n, ne⟩, r, q, z, d⟩
end

/-! ### what of the text a class must have -/
structure Cls (K : PySem.W.Frag) (C : Addr) : Prop where
 pg : PySem.W.plainGet K C Str.empty = true
 hd : PySem.W.hasDictIn K C = true
 po : PySem.W.plainOver K C = true
 sa : PySem.W.findIn K (.ref C) "__setattr__" = some (some (.builtin "object.__setattr__"))
theorem Cls.get {K : PySem.W.Frag} {C : Addr} (c : Cls K C) (f : Str) : PySem.W.plainGet K C f = true := c.pg
section
variable {X : Cx} {pins : List (Addr × Obj)} {σ : St} {H : Hp} {s : Shared} {a C dx : Addr} {fs : List (Str × V)} {f : Str} {v : V} {A : Around} {E : Value → Shared → Prop}

end

/-! ### readings and rules -/
section
variable {X : Cx} {o e value : Expr} {f : Str} {pos pos' tpos : Pos} {ta tv : TE}
end

/-! ### isinstance -/
section
variable {X : Cx} {pins : List (Addr × Obj)} {σ : St} {H : Hp} {s : Shared} {A : Around} {E : Value → Shared → Prop} {Q : Value → Shared → Prop} {c : Value} {b : Bool}
inductive TyOf (K : PySem.W.Frag) (H : Hp) : V → Value → Prop where
 | non : TyOf K H .non (.type "NoneType")
 | bl (x : Bool) : TyOf K H (.bl x) (.type "bool")
 | int (i : Int) : TyOf K H (.int i) (.type "int")
 | str (x : Str) : TyOf K H (.str x) (.type "str")
 | flt (x : UInt64) : TyOf K H (.flt x) (.type "float")
 | lst {a : Addr} {xs : List V} (e : H a = some (.lst xs)) : TyOf K H (.ref a) (.type "list")
 | frz {a : Addr} {o : Obj} {xs : List V} (e : H a = some (.frz o (.lst xs))) : TyOf K H (.ref a) (.type "list")
 | tup {a : Addr} {xs : List V} (e : H a = some (.tup xs)) : TyOf K H (.ref a) (.type "tuple")
 | dK {a : Addr} {kvs : List (Key × V)} (e : H a = some (.dK kvs)) : TyOf K H (.ref a) (.type "dict")
 | dT {a : Addr} {kvs : List (List Key × V)} (e : H a = some (.dT kvs)) : TyOf K H (.ref a) (.type "dict")
 | ins {a C dx : Addr} {fs : List (Str × V)} (e : H a = some (.ins C dx fs)) (cl : Cls K C) (ha : PySem.W.findIn K (.ref C) "__class__" = some (some (.builtin "object.__class__")))
   (hn : PySem.W.specialIn K (.builtin "object.__class__") "__get__" = some (some (.builtin "getset_descriptor.__get__"))) (htk : PySem.W.takesIn K (.builtin "object.__class__") = some true)
   (hm : PySem.W.mroIn K C (.type "object") = some true) : TyOf K H (.ref a) (.ref C)
theorem isinst_ok {x : V} {u t : Value} (I : Inv X pins σ H s) (rx : RelV x u) (ty : TyOf X.K H x t) (e : PySem.W.kitOne X.K t c = some b) (h : ∀ tk, Q (.bool b) { s with toks := tk }) :
  wpAny (model X.prog X.w) A (call (.builtin "isinstance") [u, c]) Q E s := by
 cases ty with
 | non => cases (show u = Value.none from rx); exact PySem.W.kia_one PySem.W.kitx_none I.kIn True.intro e (fun z => nomatch z) h
 | bl y => cases (show u = Value.bool y from rx); exact PySem.W.kia_one PySem.W.kitx_bool I.kIn True.intro e (fun z => nomatch z) h
 | int i => obtain ⟨t, q⟩ := (show ∃ t, u = Value.int i t from rx); cases q; exact PySem.W.kia_one PySem.W.kitx_int I.kIn True.intro e (fun z => nomatch z) h
 | str y => obtain ⟨t, q⟩ := (show ∃ t, u = Value.str y t from rx); cases q; exact PySem.W.kia_one PySem.W.kitx_str I.kIn True.intro e (fun z => nomatch z) h
 | flt y => obtain ⟨t, q⟩ := (show ∃ t, u = Value.float y t from rx); cases q; exact PySem.W.kia_one PySem.W.kitx_float I.kIn True.intro e (fun z => nomatch z) h
 | @lst a xs ea =>
  cases (show u = Value.ref a from rx)
  obtain ⟨_, _, n, _, h1⟩ := (show ObjOk X.prog X.w H s.heap a (.lst xs) from I.hok a _ ea)
  exact PySem.W.kia_one PySem.W.kitx_list I.kIn ⟨_, h1, rfl⟩ e (fun z => nomatch z) h
 | @frz a ob xs ea =>
  cases (show u = Value.ref a from rx)
  obtain ⟨_, _, _, n, _, h1⟩ := (show ObjOk X.prog X.w H s.heap a (.frz ob (.lst xs)) from I.hok a _ ea)
  exact PySem.W.kia_one PySem.W.kitx_list I.kIn ⟨_, h1, rfl⟩ e (fun z => nomatch z) h
 | @tup a xs ea =>
  cases (show u = Value.ref a from rx)
  obtain ⟨_, _, _, p⟩ := (show ObjOk X.prog X.w H s.heap a (.tup xs) from I.hok a _ ea)
  obtain ⟨o, h1, h2, _⟩ := p
  exact PySem.W.kia_one PySem.W.kitx_tuple I.kIn ⟨o, h1, h2⟩ e (fun z => nomatch z) h
 | @dK a kvs ea =>
  cases (show u = Value.ref a from rx)
  obtain ⟨_, _, vs, _, p⟩ := (show ObjOk X.prog X.w H s.heap a (.dK kvs) from I.hok a _ ea)
  obtain ⟨o, es, ep, h1, h2, _⟩ := p
  exact PySem.W.kia_one PySem.W.kitx_dict I.kIn ⟨o, h1, h2.1⟩ e (fun z => nomatch z) h
 | @dT a kvs ea =>
  cases (show u = Value.ref a from rx)
  obtain ⟨_, _, xs, _, o, es, ep, h1, h2, _⟩ := (show ObjOk X.prog X.w H s.heap a (.dT kvs) from I.hok a _ ea)
  exact PySem.W.kia_one PySem.W.kitx_dict I.kIn ⟨o, h1, h2.1⟩ e (fun z => nomatch z) h
 | @ins a C dx fs ea cl ha hn htk hm =>
  cases (show u = Value.ref a from rx)
  obtain ⟨mA, O, _⟩ := ins_get I.hok ea
  obtain ⟨od, J, _⟩ := O.look
  exact PySem.W.kia_one (PySem.W.kitx_own (cl.get _) cl.hd ha hn htk hm) I.kIn J e (fun z => nomatch z) h
end
end L2

namespace L2
open PySem PySem.Spec PyProof.Rows

/-! ### room -/
structure Room (k : Nat) (A : Around) : Prop where
 hd : A.handled = none
 dp : A.depth + 3 * k + 5 < recursionLimit
 un : A.units + 16 * k + 200 < cLine
theorem Room.mono {j k : Nat} {A : Around} (r : Room k A) (h : j ≤ k) : Room j A := ⟨r.hd, by have := r.dp; omega, by have := r.un; omega⟩
theorem Room.deeper {k : Nat} {A : Around} (r : Room (k + 1) A) (env : Env) : Room k (A.deeper env) :=
 ⟨r.hd, by have := r.dp; show A.depth + 1 + 3 * k + 5 < _; omega, by have := r.un; show A.units + 3 + 16 * k + 200 < _; omega⟩
theorem Room.depth {k : Nat} {A : Around} (r : Room k A) : A.depth < recursionLimit := by have := r.dp; omega
theorem Room.units {k : Nat} {A : Around} (r : Room k A) : A.units + 64 < cLine := by have := r.un; omega
theorem Room.units0 {k : Nat} {A : Around} (r : Room k A) : A.units < cLine := by have := r.un; omega

/-! ### argument lists and displays -/
noncomputable def tNil : TA := fun _ H Q => Q [] H
noncomputable def tCons (ta : TE) (tr : TA) : TA := fun σ H Q => ta σ H fun x H1 => tr σ H1 fun xs H2 => Q (x :: xs) H2
section
variable {X : Cx} {e : Expr} {es : List Expr} {te : TE} {t : TA} {pos : Pos}
theorem pa_nil : PA X [] tNil := fun _ _ _ _ H Q I h => Calls.spliced_nil ⟨[], H, I, .nil, h⟩
theorem pa_cons (ha : PE X e te) (hr : PA X es t) (hs : starEach (e :: es) X.env = (false, eval e X.env) :: starEach es X.env := by rfl) : PA X (e :: es) (tCons te t) := by
 intro pos pins s σ H Q I h
 rw [hs]
 show wpAny _ _ (spliced ((false, eval e X.env) :: backTo pos (starEach es X.env))) _ _ s
 refine Calls.spliced_cons (thn (ha pins s σ H _ I h) fun u s1 ⟨x, H1, I1, r1, q1⟩ => ?_)
 exact thn (hr pos pins s1 σ H1 _ I1 q1) fun us s2 ⟨xs, H2, I2, r2, q2⟩ => ⟨x :: xs, H2, I2, .cons r1 r2, q2⟩

noncomputable def tTup (t : TA) : TE := fun σ H Q => t σ H fun xs H1 => xs.length ≤ sizeLine ∧ ∀ p, H1 p = none → Q (.ref p) (upd H1 p (.tup xs))
noncomputable def tLst (t : TA) : TE := fun σ H Q => t σ H fun xs H1 => xs.length ≤ sizeLine ∧ ∀ p, H1 p = none → Q (.ref p) (upd H1 p (.lst xs))
theorem pe_tup {x1} (h : PA X es t) : PE X (.Tuple es x1 pos) (tTup t) := by
 intro pins s σ H Q I hq
 refine wpAny_Tuple_spliced (thn (h pos pins s σ H _ I hq) fun us s1 ⟨xs, H1, I1, r, z, q⟩ => ⟨by rw [← r.length]; exact z, ?_⟩)
 have hf : H1 s1.heap.objs.size = none := I1.hok.fresh (Nat.le_refl _)
 refine ⟨.ref s1.heap.objs.size, upd H1 s1.heap.objs.size (.tup xs), I1.laid (t' := s1.toks) (fun b u e => Heap.get?_push_of_some _ e) (Nat.le_refl _) ?_, rfl, q _ hf⟩
 exact ⟨z, us, r, ⟨_, Heap.get?_push_size _ rfl, rfl, _, rfl⟩⟩
theorem pe_lst (h : PA X es t) : PE X (.List es pos) (tLst t) := by
 intro pins s σ H Q I hq
 refine wpAny_List_spliced (thn (h pos pins s σ H _ I hq) fun us s1 ⟨xs, H1, I1, r, z, q⟩ => ⟨by rw [← r.length]; exact z, ?_⟩)
 have hf : H1 s1.heap.objs.size = none := I1.hok.fresh (Nat.le_refl _)
 refine ⟨.ref s1.heap.objs.size, upd H1 s1.heap.objs.size (.lst xs), I1.laid (t' := s1.toks) (fun b u e => Heap.get?_push_of_some _ e) (Nat.le_refl _) ?_, rfl, q _ hf⟩
 exact ⟨z, us, 0, r, Heap.get?_push_size _ rfl⟩
end

/-! ### what a def promises -/
noncomputable abbrev Sp := List V → Hp → VK → XK → Prop
noncomputable abbrev CXT := List Env → Hp → Shared → XK → Value → Shared → Prop

structure Env0 (P : Program) (w : World) (K : PySem.W.Frag) (mg : Str → Option Value) (base : Heap) (A : Around) (outer : List Env) (s : Shared) (H : Hp) : Prop where
 frames : A.frames = some outer
 mod : Mod K mg base
 bs : ∀ b o, base.get? b = some o → s.heap.get? b = some o ∧ H b = none
 bsz : base.objs.size ≤ s.heap.objs.size
 funs : s.heap.FunFrames base outer
 frf : ∀ b ∈ frs outer, H b = none
 hok : HOk P w H s.heap
 bare : AllBare s.gens
noncomputable def CE (outer : List Env) (P : Program) (w : World) (H : Hp) (s : Shared) (Q : VK) (u : Value) (s' : Shared) : Prop :=
 ∃ v H', s'.os = s.os ∧ AllBare s'.gens ∧ Un (frs outer) [] H H' s.heap s'.heap ∧ HOk P w H' s'.heap ∧ RelV v u ∧ Q v H'
noncomputable def CR (CX : CXT) (outer : List Env) (P : Program) (w : World) (H : Hp) (s : Shared) (Q : VK) (E : XK) (r : Result) (s' : Shared) : Prop :=
 match r with
 | .ok (.ret u) => CE outer P w H s Q u s'
 | .ok _ => False
 | .error e => CX outer H s E e s'
structure FnOk (P : Program) (w : World) (K : PySem.W.Frag) (mg : Str → Option Value) (base : Heap) (CX : CXT) (k : Nat) (f : Addr) (fd : FuncData) (ps : List Str) (sp : Sp) : Prop where
 len : ∀ vs H Q E, sp vs H Q E → vs.length = ps.length
 run : ∀ (A : Around) (outer : List Env) (s : Shared) (H : Hp) (args : Args) (us : List Value) (vs : List V) (Q : VK) (E : XK), Room k A → Env0 P w K mg base A outer s H → BindsTo s fd args (ps.zip us) → Vals vs us → sp vs H Q E →
  codeAny (model P w) A (.call (.ref f) args) (CR CX outer P w H s Q E) s
section
variable {X : Cx} {pins : List (Addr × Obj)} {σ : St} {H : Hp} {s s' : Shared}
theorem Inv.env0 (I : Inv X pins σ H s) : Env0 X.prog X.w X.K X.mg X.base X.A X.stack s H :=
 ⟨I.ok.frames, I.ok.mod, I.bs, Nat.le_trans I.ok.bsz I.sz, I.stack, I.stkFree, I.hok, I.bare⟩
theorem Inv.after {Q : VK} {u : Value} (I : Inv X pins σ H s) (h : CE X.stack X.prog X.w H s Q u s') : EP X pins σ Q u s' := by
 obtain ⟨v, H', os, bare, un, hok, r, q⟩ := h
 obtain ⟨hh, g, d, t, os'⟩ := s'
 obtain rfl : os' = s.os := os
 exact ⟨v, H', I.call (h' := hh) (g' := g) (d' := d) (t' := t) (ch := []) un hok bare (fun b z => absurd z (by simp)), r, q⟩
end

/-! ### calls -/
noncomputable def tCall (sp : Sp) (dvs : List V) (E : XK) (t : TA) : TE := fun σ H Q => t σ H fun vs H1 => sp (vs ++ dvs) H1 Q E
noncomputable def Binds (K : PySem.W.Frag) (fd : FuncData) (ps : List Str) (ds : List Value) : Prop :=
 ∀ (s : Shared) (us : List Value), K.In s.heap → (us ++ ds).length = ps.length → BindsTo s fd ⟨us, []⟩ (ps.zip (us ++ ds))
theorem Binds.all {K : PySem.W.Frag} {fd : FuncData} {ps : List Str} (h : ∀ us : List Value, us.length = ps.length → bindArgs fd ⟨us, []⟩ = pure (ps.zip us)) : Binds K fd ps [] := fun s us _ hl => by
 rw [List.append_nil] at hl ⊢
 exact .of_eq (h us hl)

noncomputable def Passes (CX : CXT) (X : Cx) (E : XK) : Prop := ∀ (pins : List (Addr × Obj)) (σ : St) (H : Hp) (s : Shared) (e : Value) (s' : Shared), Inv X pins σ H s → CX X.stack H s E e s' → X.xe e s'

section
variable {X : Cx} {CX : CXT} {k : Nat} {f C : Addr} {fd : FuncData} {ps : List Str} {sp : Sp} {dvs : List V} {ds : List Value} {E : XK} {x m : Str} {p pos apos : Pos} {e o : Expr} {es : List Expr} {ta : TE} {t : TA}

theorem run_fn {pins : List (Addr × Obj)} {σ : St} {H : Hp} {s : Shared} {Q : VK} {us : List Value} {vs : List V} (F : FnOk X.prog X.w X.K X.mg X.base CX k f fd ps sp) (hr : Room k X.A) (hb : Binds X.K fd ps ds) (hd : Vals dvs ds) (hx : Passes CX X E)
  (I : Inv X pins σ H s) (r : Vals vs us) (h : sp (vs ++ dvs) H Q E) : wpAny (model X.prog X.w) X.A (call (.ref f) us) (EP X pins σ Q) X.xe s := by
 have r2 : Vals (vs ++ dvs) (us ++ ds) := r.append hd
 have hl : (us ++ ds).length = ps.length := by rw [← r2.length]; exact F.len _ _ _ _ h
 refine wpAny_call (codeAny_mono (F.run X.A X.stack s H ⟨us, []⟩ (us ++ ds) (vs ++ dvs) Q E hr I.env0 (hb s us I.kIn hl) r2 h) fun r s' hq => ?_)
 cases r with
 | error e => exact hx pins σ H s e s' I hq
 | ok fl =>
  cases fl with
  | ret u => exact I.after hq
  | next => exact False.elim hq
  | brk => exact False.elim hq
  | cont => exact False.elim hq

theorem pe_call (F : FnOk X.prog X.w X.K X.mg X.base CX k f fd ps sp) (hr : Room k X.A) (hg : Gl X x) (hm : X.mg x = some (.ref f)) (hk : PySem.W.keepIn X.K (.ref f) = true) (hb : Binds X.K fd ps ds) (hd : Vals dvs ds) (hx : Passes CX X E)
  (ha : PA X (e :: es) t) (hdb : (x == ("__debug__" : Str)) = false := by decide) (he : starEach (e :: es) X.env = (false, eval e X.env) :: starEach es X.env := by rfl) (hpl : (backTo pos (starEach es X.env)).any (·.1) = false := by rfl) :
  PE X (.Call (.Name x p) (e :: es) [] pos) (tCall sp dvs E t) := by
 intro pins s σ H Q I h
 refine wpAny_Call_Name_kw (ld_glob I hg hm ?_ hdb)
 refine PySem.W.callWith_K (h₀ := X.base) I.ok.mod.kin hk (thn (ha pos pins s σ H _ I h) fun us s1 ⟨vs, H1, I1, r, q⟩ => ⟨I1.kIn, ?_⟩) he hpl
 exact run_fn F hr hb hd hx I1 r q
end

/-! ### keywords -/
section
variable {X : Cx} {CX : CXT} {k : Nat} {f C : Addr} {fd : FuncData} {ps ks : List Str} {sp : Sp} {E : XK} {x m : Str} {p pos apos kpos : Pos} {e o : Expr} {es : List Expr} {kws : List Keyword} {te ta : TE} {t tk : TA} {nm : Option Str}
variable {g : List Value → List Value → List Value} {gV : List V → List V → List V}
end

/-! ### a def's body keeps its promise -/
structure FnScope (N P : List Str) (sc : Scope) : Prop where
 kind : sc.kind = .function
 co : sc.isCoroutine = false
 gen : sc.isGenerator = false
 nd : N.Nodup
 pre : N.take P.length = P
 par : ∀ x ∈ P, sc.names.lookup x = some .local ∨ sc.names.lookup x = some .cell
 nofree : ∀ y ∈ sc.names, y.2 ≠ .free

theorem bindL_out {kindOf : Str → Option NameKind} {x : Str} : ∀ {binds : List (Str × Value)} {m : Str → Option Value}, (∀ v, (x, v) ∉ binds) → bindL kindOf binds m x = m x
 | [], _, _ => rfl
 | (n, v) :: r, m, h => by
  unfold bindL
  rw [bindL_out fun w hw => h w (List.mem_cons_of_mem _ hw)]
  split
  ·have : x ≠ n := by rintro rfl; exact h v List.mem_cons_self
   simp [this]
  ·rfl
theorem bindC_out {kindOf : Str → Option NameKind} {x : Str} : ∀ {binds : List (Str × Value)} {m : Str → Option Value}, (∀ v, (x, v) ∉ binds) → bindC kindOf binds m x = m x
 | [], _, _ => rfl
 | (n, v) :: r, m, h => by
  unfold bindC
  rw [bindC_out fun w hw => h w (List.mem_cons_of_mem _ hw)]
  split
  ·rfl
  ·have : x ≠ n := by rintro rfl; exact h v List.mem_cons_self
   simp [this]
theorem bindL_get {kindOf : Str → Option NameKind} {x : Str} {v : Value} : ∀ {P : List Str} {vs : List Value} {i : Nat} {m : Str → Option Value}, P.Nodup → P[i]? = some x → vs[i]? = some v → kindOf x = some .local →
  bindL kindOf (P.zip vs) m x = some v
 | [], _, _, _, _, h, _, _ => by simp at h
 | _ :: _, [], _, _, _, _, h, _ => by simp at h
 | p :: P, w :: vs, 0, m, nd, h1, h2, hk => by
  simp at h1 h2; subst h1; subst h2
  show bindL kindOf ((p, w) :: P.zip vs) m p = _
  unfold bindL
  rw [bindL_out fun v hv => (List.nodup_cons.mp nd).1 (List.of_mem_zip hv).1, if_pos hk]
  simp
 | p :: P, w :: vs, i + 1, m, nd, h1, h2, hk => by
  show bindL kindOf ((p, w) :: P.zip vs) m x = _
  unfold bindL
  exact bindL_get (i := i) (List.nodup_cons.mp nd).2 (by simpa using h1) (by simpa using h2) hk
theorem bindC_get {kindOf : Str → Option NameKind} {x : Str} {v : Value} : ∀ {P : List Str} {vs : List Value} {i : Nat} {m : Str → Option Value}, P.Nodup → P[i]? = some x → vs[i]? = some v → kindOf x ≠ some .local →
  bindC kindOf (P.zip vs) m x = some v
 | [], _, _, _, _, h, _, _ => by simp at h
 | _ :: _, [], _, _, _, _, h, _ => by simp at h
 | p :: P, w :: vs, 0, m, nd, h1, h2, hk => by
  simp at h1 h2; subst h1; subst h2
  show bindC kindOf ((p, w) :: P.zip vs) m p = _
  unfold bindC
  rw [bindC_out fun v hv => (List.nodup_cons.mp nd).1 (List.of_mem_zip hv).1, if_neg hk]
  simp
 | p :: P, w :: vs, i + 1, m, nd, h1, h2, hk => by
  show bindC kindOf ((p, w) :: P.zip vs) m x = _
  unfold bindC
  exact bindC_get (i := i) (List.nodup_cons.mp nd).2 (by simpa using h1) (by simpa using h2) hk

noncomputable def start (N : List Str) (vs : List V) : St := vs.map some ++ List.replicate (N.length - vs.length) none

noncomputable def cxOf (CX : CXT) (P : Program) (w : World) (K : PySem.W.Frag) (mg : Str → Option Value) (base : Heap) (N : List Str) (qual : Str) (scope : Scope) (f : Addr) (cd : Value) (A : Around) (outer : List Env) (s : Shared) (H : Hp) (E : XK) : Cx where
 prog := P
 w := w
 K := K
 mg := mg
 base := base
 A := A.deeper (envOfC qual scope s.heap.objs.size f cd)
 N := N
 s₀ := s
 H₀ := H
 env := envOfC qual scope s.heap.objs.size f cd
 outer := outer
 stack := envOfC qual scope s.heap.objs.size f cd :: outer
 ex := []
 calm := true
 fn := fun _ => true
 pn := []
 xe := fun e s' => wpAny (model P w) (A.deeper (envOfC qual scope s.heap.objs.size f cd)) (leaving (envOfC qual scope s.heap.objs.size f cd) e) (fun _ s'' => CX outer H s E e s'') (fun e' s'' => CX outer H s E e' s'') s'

theorem cell_has {sc : Scope} {n : Nat} {x : Str} (h : sc.names.lookup x = some .cell) : ∃ c, (cellsFrom n sc.names []).lookup x = some c := by
 have q := PySem.W.cellsFrom_some sc.names n [] (.inl h)
 exact Option.isSome_iff_exists.mp q

theorem inv_start {CX : CXT} {P : Program} {w : World} {K : PySem.W.Frag} {mg : Str → Option Value} {base : Heap} {N ps : List Str} {qual : Str} {scope : Scope} {f : Addr} {cd : Value} {A : Around} {outer : List Env} {s s1 : Shared} {H : Hp} {E : XK} {us : List Value} {vs : List V}
  (S : FnScope N ps scope) (hd : A.handled = none) (e0 : Env0 P w K mg base A outer s H) (hl : vs.length = ps.length) (r : Vals vs us)
  (x : InCallC s s.heap.objs.size (bindL (envOfC qual scope s.heap.objs.size f cd).kindOf (ps.zip us) fun _ => none) (cellsFrom (s.heap.objs.size + 1) scope.names []) (bindC (envOfC qual scope s.heap.objs.size f cd).kindOf (ps.zip us) fun _ => none) s1) :
  Inv (cxOf CX P w K mg base N qual scope f cd A outer s H E) [] (start N vs) H s1 := by
 have hpl : ps.length ≤ N.length := by have := congrArg List.length S.pre; rw [List.length_take] at this; omega
 obtain ⟨h1, tk, rfl, hk⟩ := x.done
 have noA : ∀ b : Addr, b ∉ (cxOf CX P w K mg base N qual scope f cd A outer s H E).ex := fun b z => absurd (show b ∈ ([] : List Addr) from z) (by simp)
 refine ⟨⟨e0.mod, S.kind, rfl, rfl, Nat.le_refl _, fun y z c h1 h2 => ?_, fun y hy => ?_, fun y c _ h => ?_, fun _ => hd, Around.frames_deeper e0.frames, .inr ⟨rfl, rfl⟩, fun b z => absurd z (noA b), e0.bs, e0.bsz, fun b _ _ => noA b, fun b z => absurd z (noA b), e0.funs, e0.frf⟩,
  rfl, e0.bare, Un.kept hk, ⟨_, x.toInCall.ns, fun i y v h1 h2 h3 => ?_⟩, fun y c h => ⟨_, x.cell y c h⟩, e0.hok.fresh (Nat.le_refl _), fun y c h => ?_, fun p hp => absurd (show p ∈ ([] : List (Addr × Obj)) from hp) (by simp), e0.hok.kept hk, ?_⟩
 ·exact name_of_addr x.apart (PySem.mem_of_lookup h1) (PySem.mem_of_lookup h2)
 ·have hy : scope.names.lookup y = some .cell ∨ scope.names.lookup y = some .free := hy
  rcases hy with hy | hy
  ·exact cell_has hy
  ·exact absurd rfl (S.nofree _ (PySem.mem_of_lookup hy))
 ·exact Nat.le_of_lt (x.above y c (PySem.mem_of_lookup h))
 ·have hi : i < vs.length := by
   unfold start at h2
   by_cases hi : i < vs.length
   ·exact hi
   ·rw [List.getElem?_append_right (by simpa using hi)] at h2
    rw [List.getElem?_replicate] at h2
    split at h2 <;> cases h2
  have ha : vs[i]? = some v := by
   unfold start at h2
   rw [List.getElem?_append_left (by simpa using hi), List.getElem?_map] at h2
   cases e : vs[i]? with
   | none => rw [e] at h2; cases h2
   | some a => rw [e] at h2; cases h2; rfl
  obtain ⟨u, hu, rv⟩ := r.get ha
  have hp : ps[i]? = some y := by
   rw [← S.pre, List.getElem?_take_of_lt (by omega)]; exact h1
  have ndP : ps.Nodup := by rw [← S.pre]; exact S.nd.sublist (List.take_sublist _ _)
  refine ⟨u, rv, ?_⟩
  rcases S.par y (List.mem_of_getElem? hp) with k | k
  ·exact .inl ⟨k, bindL_get ndP hp hu k⟩
  ·obtain ⟨c, e⟩ := cell_has (n := s.heap.objs.size + 1) k
   refine .inr ⟨.inl k, c, e, ?_⟩
   have q := x.cell y c e
   rw [bindC_get ndP hp hu (by show scope.names.lookup y ≠ _; rw [k]; decide)] at q
   exact q
 ·exact e0.hok.fresh (Nat.le_of_lt (x.above y c (PySem.mem_of_lookup h)))
 ·unfold start
  show _ = N.length
  rw [List.length_append, List.length_map, List.length_replicate]
  omega

theorem fn_of {CX : CXT} {P : Program} {w : World} {K : PySem.W.Frag} {mg : Str → Option Value} {base : Heap} {k : Nat} {f : Addr} {name qual : Str} {params : Arguments} {body : List Stmt} {scope : Scope} {dV kV doc pm cdv ct oc : Value} {an od : Option Addr}
  {osl : Array (Option Value)} {N ps : List Str} {sp : Sp} (lk : K.lookup f = some ⟨oc, od, .func (PySem.W.fnOf name qual params body scope dV kV doc pm an cdv ct), osl⟩) (hcd : PySem.W.codeIn K cdv qual = true) (S : FnScope N ps scope)
  (len : ∀ vs H Q E, sp vs H Q E → vs.length = ps.length)
  (hbody : ∀ (A : Around) (outer : List Env) (s : Shared) (H : Hp) (vs : List V) (Q : VK) (E : XK), Room k (A.deeper (envOfC qual scope s.heap.objs.size f cdv)) → sp vs H Q E →
   ∃ t, PSs (cxOf CX P w K mg base N qual scope f cdv A outer s H E) body t ∧ t { nx := fun _ H' => Q .non H', rt := Q } (start N vs) H) :
  FnOk P w K mg base CX (k + 1) f (PySem.W.fnOf name qual params body scope dV kV doc pm an cdv ct) ps sp := by
 refine ⟨len, fun A outer s H args us vs Q E hr e0 hb r hsp => ?_⟩
 have hl := len _ _ _ _ hsp
 have KX : K.In s.heap := e0.mod.kin.keeps fun b o e => (e0.bs b o e).1
 have lim : s.heap.NoLimit := e0.mod.nolimit.keeps fun b o e => (e0.bs b o e).1
 have hkind : ∀ y ∈ ps.zip us, scope.names.lookup y.1 = some .local ∨ (scope.names.lookup y.1 = some .cell ∧ ((cellsFrom (s.heap.objs.size + 1) scope.names []).lookup y.1).isSome = true) := fun ⟨n, v⟩ hy => by
  rcases S.par n (List.of_mem_zip hy).1 with q | q
  ·exact .inl q
  ·exact .inr ⟨q, PySem.W.cellsFrom_some _ _ _ (.inl q)⟩
 refine codeAny_call_function hr.depth (KX _ _ lk) rfl S.co S.gen rfl (PySem.W.codeRec_of KX hcd) (hb _ _ _ _ ?_)
 refine wpAny_newFunctionEnv_cells S.kind hkind fun env he s1 x => ?_
 subst he
 refine ⟨lim.keeps x.toInCall.keep, codeAny_func ?_⟩
 obtain ⟨t, ht, hq⟩ := hbody A outer s H vs Q E (hr.deeper _) hsp
 have I : Inv (cxOf CX P w K mg base N qual scope f cdv A outer s H E) [] (start N vs) H s1 := inv_start S hr.hd e0 hl r x
 refine wpAny_mono (ht [] s1 (start N vs) H _ I hq) (fun fl s' hs => ?_) fun e s' hs => hs
 have fin : ∀ {σ' : St} {H' : Hp} {v : V} {u : Value}, Inv (cxOf CX P w K mg base N qual scope f cdv A outer s H E) [] σ' H' s' → RelV v u → Q v H' → CE outer P w H s Q u s' :=
  fun {σ' H' v u} J rv q => ⟨v, H', J.os, J.bare, J.base, J.hok, rv, q⟩
 cases fl with
 | ret u =>
  obtain ⟨v, σ', H', J, rv, q⟩ := hs
  exact fin J rv q
 | next =>
  obtain ⟨σ', H', J, q⟩ := hs
  exact fin (v := V.non) (u := Value.none) J rfl q
 | brk =>
  obtain ⟨_, _, _, q⟩ := hs
  exact False.elim q
 | cont =>
  obtain ⟨_, _, _, q⟩ := hs
  exact False.elim q
end L2

namespace L2
open PySem PySem.Spec PyProof.Rows
section
variable {X : Cx} {x : Str} {p pos : Pos} {e : Expr} {es : List Expr} {t : TA} {id T : String} {r : List V → Hp → VK → Prop}

noncomputable def tCB (r : List V → Hp → VK → Prop) (t : TA) : TE := fun σ H Q => t σ H fun vs H1 => r vs H1 Q
theorem pe_callB (hc : CallR X (.builtin id) r) (hg : Gl X x) (hm : X.mg x = none) (hv : bootBuiltins x = some (.builtin id)) (ha : PA X (e :: es) t) (hn : x ≠ "__name__" := by decide) (hdb : (x == ("__debug__" : Str)) = false := by decide)
  (he : starEach (e :: es) X.env = (false, eval e X.env) :: starEach es X.env := by rfl) (hpl : (backTo pos (starEach es X.env)).any (·.1) = false := by rfl) : PE X (.Call (.Name x p) (e :: es) [] pos) (tCB r t) := by
 intro pins s σ H Q I h
 refine wpAny_Call_Name_kw (ld_blt I hg hm hv ?_ hn hdb)
 exact PyProof.Rows.callWith_builtin1 (thn (ha pos pins s σ H _ I h) fun us s1 ⟨vs, H1, I1, r1, q1⟩ => hc pins s1 σ H1 vs us Q I1 r1 q1) he hpl
theorem pe_callTy (hc : CallR X (.type T) r) (hg : Gl X x) (hm : X.mg x = none) (hv : bootBuiltins x = some (.type T)) (ha : PA X (e :: es) t) (hn : x ≠ "__name__" := by decide) (hdb : (x == ("__debug__" : Str)) = false := by decide)
  (he : starEach (e :: es) X.env = (false, eval e X.env) :: starEach es X.env := by rfl) (hpl : (backTo pos (starEach es X.env)).any (·.1) = false := by rfl) : PE X (.Call (.Name x p) (e :: es) [] pos) (tCB r t) := by
 intro pins s σ H Q I h
 refine wpAny_Call_Name_kw (ld_blt I hg hm hv ?_ hn hdb)
 exact PyProof.Rows.callWith_type1 (thn (ha pos pins s σ H _ I h) fun us s1 ⟨vs, H1, I1, r1, q1⟩ => hc pins s1 σ H1 vs us Q I1 r1 q1) he hpl
end
end L2

namespace L2
open PySem PySem.Spec PyProof.Rows

/-! ### lists of pairs as tables -/
section
variable {κ : Type} [DecidableEq κ]
end


/-! ### a tracked dict, its keys ints and texts or tuples of these -/
section
variable {P : Program} {w : World} {H : Hp} {h : Heap} {a : Addr}
end

section
variable {X : Cx} {pins : List (Addr × Obj)} {σ : St} {H : Hp} {s : Shared} {a : Addr} {y v : V} {u r : Value} {o : Option V} {A : Around} {E : Value → Shared → Prop}

theorem Inv.big (I : Inv X pins σ H s) : sysModules < s.heap.objs.size := by
 have h : mainGlobals < s.heap.objs.size := (I.mod.glob.keeps I.bk).lt
 exact Nat.lt_trans (by decide) h

end

section
variable {X : Cx} {pins : List (Addr × Obj)} {σ : St} {H : Hp} {s : Shared} {a : Addr} {kvs : List (Key × V)} {k : Key} {u : Value} {A : Around} {E : Value → Shared → Prop}
end


/-! ### readings and rules -/
section
variable {X : Cx} {o i e value : Expr} {pos pos' tpos : Pos} {td ty tv : TE}
end


/-! ### displays -/
theorem dt_empty {P : Program} {w : World} {H : Hp} (h : Heap) (hb : sysModules < h.objs.size) : ObjOk P w H (h.push { cls := .type "dict", data := .dict #[] }) h.objs.size (.dT []) :=
 ⟨Nat.zero_le _, beq_eq_false_iff_ne.mpr (Ne.symm (Nat.ne_of_lt hb)), [], .nil, _, #[], 0, Heap.get?_push_size _ rfl, ⟨rfl, rfl, rfl⟩, rfl, rfl, List.nodup_nil⟩
noncomputable def tDNewT : TE := fun _ H Q => ∀ p, H p = none → Q (.ref p) (upd H p (.dT []))
section
variable {X : Cx} {pos : Pos}
theorem pe_dnewT : PE X (.Dict [] [] pos) tDNewT := fun pins s σ H Q I h =>
 wpAny_Dict_empty ⟨.ref s.heap.objs.size, _, I.laid (a := s.heap.objs.size) (o := .dT []) (t' := s.toks) (fun _ _ q => Heap.get?_push_of_some _ q) (Nat.le_refl _) (dt_empty s.heap I.big), rfl, h _ (I.hok.fresh (Nat.le_refl _))⟩
end

/-! ### methods -/
section
variable {X : Cx} {pins : List (Addr × Obj)} {σ : St} {H : Hp} {s : Shared} {a : Addr} {y d : V} {u r : Value} {o : Option V} {A : Around} {E : Value → Shared → Prop}
end

section
variable {X : Cx} {o e f : Expr} {apos cpos : Pos} {td ty tx : TE}
end

/-! ### dict(d): a copy -/
section
variable {X : Cx} {pins : List (Addr × Obj)} {σ : St} {H : Hp} {s : Shared} {a : Addr} {kvs : List (Key × V)} {A : Around} {E : Value → Shared → Prop}
end


section
variable {X : Cx} {pins : List (Addr × Obj)} {σ : St} {H : Hp} {s : Shared} {a : Addr} {y : V} {u : Value} {A : Around} {E : Value → Shared → Prop}
end
end L2

namespace HT
open PySem PyProof.Rows

section
open PySem.SeqAt
open PySem.AutoSeq1 (wpAny_loadPart')
open PySem.MeetsSeq PySem.MeetsSeq2 PySem.MeetsSeq3

end

section
variable {prog : Program} {w : World} {A : Around} {E : Value → Shared → Prop} {s : Shared}

theorem cat_tup {t b : Addr} {vs ws : List Value} {Q : Value → Shared → Prop} (ht : IsTup s.heap t vs.toArray) (hb : IsTup s.heap b ws.toArray) (hv : vs ≠ [])
  (h1 : ws = [] → Q (.ref t) s) (h2 : ws ≠ [] → Q (.ref s.heap.objs.size) { s with heap := s.heap.push { cls := .type "tuple", data := .seq (vs ++ ws).toArray } })
  (hsz : vs.length + ws.length ≤ sizeLine) : wpAny (model prog w) A (binaryOp .Add (.ref t) (.ref b)) Q E s := by
 obtain ⟨⟨cls, dd, data, sl⟩, ho, hc, n, hd⟩ := id ht
 obtain ⟨⟨cls2, dd2, data2, sl2⟩, ho2, hc2, n2, hd2⟩ := id hb
 simp only at hc hd hc2 hd2
 subst hc hd hc2 hd2
 have e : vs.toArray ++ ws.toArray = (vs ++ ws).toArray := by simp
 by_cases hw : ws = []
 ·exact concat_meets ⟨_, ho, rfl⟩ ⟨_, ho2, rfl⟩ noFill_tuple_add seq_tuple_add PySem.F.slot_tuple_add PySem.F.entry_tuple_add (PySem.F.args_tuple_add_2 _ _)
   (tuple_addW1 t b vs.toArray ws.toArray n n2 dd dd2 sl sl2 (by simpa using hv) (by simp [hw])) ⟨ho, ho2, h1 hw⟩
 ·refine concat_meets ⟨_, ho, rfl⟩ ⟨_, ho2, rfl⟩ noFill_tuple_add seq_tuple_add PySem.F.slot_tuple_add PySem.F.entry_tuple_add (PySem.F.args_tuple_add_2 _ _)
   (tuple_addW2 t b vs.toArray ws.toArray n n2 dd dd2 sl sl2 (by simpa using hv) (by simpa using hw) (by rw [List.size_toArray, List.size_toArray]; exact hsz)) ⟨ho, ho2, ?_⟩
  rw [e]
  exact h2 hw

/-! ### t[a:b], not the whole -/
noncomputable def sIx (n d : Nat) : Option Int → Nat
 | none => d
 | some v => if v < 0 then (v + (n : Int)).toNat else min v.toNat n
theorem sIx_none (n d : Nat) : sIx n d none = d := rfl
theorem sIx_nat (n d k : Nat) : sIx n d (some (k : Int)) = min k n := by
 show (if (k : Int) < 0 then ((k : Int) + (n : Int)).toNat else min (k : Int).toNat n) = min k n
 rw [if_neg (by omega), Int.toNat_natCast]
end
end HT

namespace L2
open PySem PySem.Spec PyProof.Rows

/-! ### the parts of a slice -/
noncomputable abbrev TO := St → Hp → (Option Int → Hp → Prop) → Prop
noncomputable def PO (X : Cx) (e : Option Expr) (t : TO) : Prop :=
 ∀ (pins : List (Addr × Obj)) (s : Shared) (σ : St) (H : Hp) (Q : Option Int → Hp → Prop), Inv X pins σ H s → t σ H Q →
  wpAny (model X.prog X.w) X.A (evalPart e X.env) (fun u s' => ∃ o H', Inv X pins σ H' s' ∧ IsPart u o ∧ Q o H') X.xe s
noncomputable def tNoPart : TO := fun _ H Q => Q none H
noncomputable def tPart (t : TE) : TO := fun σ H Q => t σ H fun x H1 => ∃ i, x = .int i ∧ Q (some i) H1

section
variable {X : Cx} {e : Expr} {te : TE} {lo hi : Option Expr} {tl th : TO} {pos p2 : Pos}

theorem po_none : PO X none tNoPart := by
 intro pins s σ H Q I h
 rw [evalPart_none]
 exact wpAny_pure ⟨none, H, I, .none, h⟩
theorem po_some (h : PE X e te) : PO X (some e) (tPart te) := by
 intro pins s σ H Q I hw
 rw [evalPart_some]
 refine thn (h pins s σ H _ I hw) fun u s1 ⟨x, H1, I1, r1, q1⟩ => ?_
 obtain ⟨i, rfl, q⟩ := q1
 obtain ⟨t, rfl⟩ := r1
 exact ⟨some i, H1, I1, .int i t, q⟩

noncomputable def SlR (X : Cx) (r : V → Option Int → Option Int → Hp → VK → Prop) : Prop :=
 ∀ (pins : List (Addr × Obj)) (s : Shared) (σ : St) (H : Hp) (x : V) (v vl vu : Value) (lo hi : Option Int) (sl : Addr) (Q : VK), Inv X pins σ H s → RelV x v → s.heap.IsSliceOf sl vl vu .none → IsPart vl lo → IsPart vu hi → r x lo hi H Q →
  ∃ T id, typeLookup (.type T) "__getitem__" = pure (some (.builtin id)) ∧ s.TypeIs v T ∧ wpAny (model X.prog X.w) X.A (getItem v (.ref sl)) (EP X pins σ Q) X.xe s
noncomputable def tSl (r : V → Option Int → Option Int → Hp → VK → Prop) (te : TE) (tl th : TO) : TE := fun σ H Q => te σ H fun x H1 => tl σ H1 fun l H2 => th σ H2 fun u H3 => r x l u H3 Q
theorem pe_slice {r : V → Option Int → Option Int → Hp → VK → Prop} (hr : SlR X r) (he : PE X e te) (hl : PO X lo tl) (hu : PO X hi th) : PE X (.Subscript e (.Slice lo hi none p2) pos) (tSl r te tl th) := by
 intro pins s σ H Q I h
 refine Subscript_ (thn (he pins s σ H _ I h) fun v s1 ⟨x, H1, I1, r1, q1⟩ => ?_)
 refine wpAny_Slice (thn (hl pins s1 σ H1 _ I1 q1) fun vl s2 ⟨l, H2, I2, pl, q2⟩ => thn (hu pins s2 σ H2 _ I2 q2) fun vu s3 ⟨u, H3, I3, pu, q3⟩ => ?_)
 rw [evalPart_none]
 refine wpAny_pure ?_
 have I4 : Inv X pins σ H3 { s3 with heap := s3.heap.push { cls := .type "slice", data := .fields #[vl, vu, .none] } } := I3.kept (t' := s3.toks) fun b ob q => Heap.get?_push_of_some _ q
 obtain ⟨T, id, hT, ht, hg⟩ := hr pins { s3 with heap := s3.heap.push { cls := .type "slice", data := .fields #[vl, vu, .none] } } σ H3 x v vl vu l u s3.heap.objs.size Q I4 r1 (Heap.IsSliceOf.new ..) pl pu q3
 show wpAny (model X.prog X.w) X.A (subscriptTail e (.Slice lo hi none p2) v (.ref s3.heap.objs.size)) (EP X pins σ Q) X.xe { s3 with heap := s3.heap.push { cls := .type "slice", data := .fields #[vl, vu, .none] } }
 exact tail_any (ops := [.ref s3.heap.objs.size, v]) ht hT hg (by with_unfolding_all rfl)

noncomputable def cutV (xs : List V) (lo hi : Option Int) : List V := (xs.drop (HT.sIx xs.length 0 lo)).take (HT.sIx xs.length xs.length hi - HT.sIx xs.length 0 lo)
theorem cutV_length (xs : List V) (lo hi : Option Int) : (cutV xs lo hi).length ≤ xs.length := by
 unfold cutV
 rw [List.length_take, List.length_drop]
 omega
/-! ### t < u, t + u -/
noncomputable def rCatT (K : PySem.W.Frag) : R2 := fun x y H Q => ∃ a b xs ys, x = .ref a ∧ y = .ref b ∧ SqT K H a xs ∧ SqT K H b ys ∧ xs ≠ [] ∧ xs.length + ys.length ≤ sizeLine ∧
 (ys = [] → Q (.ref a) H) ∧ (ys ≠ [] → ∀ p, H p = none → Q (.ref p) (upd H p (.tup (xs ++ ys))))
theorem Vals.nil_iff {xs : List V} {us : List Value} (r : Vals xs us) : us = [] ↔ xs = [] := by
 cases r with
 | nil => simp
 | cons _ _ => simp
theorem op_catT : OpR X (binaryOp .Add) (rCatT X.K) := by
 intro pins s σ H x y v u Q I rx ry h
 obtain ⟨a, b, xs, ys, rfl, rfl, ha, hb, hx, hz, q1, q2⟩ := h
 cases rx
 cases ry
 obtain ⟨its, r1, p1, _⟩ := I.tuple ha
 obtain ⟨its2, r2, p2, _⟩ := I.tuple hb
 refine HT.cat_tup p1 p2 (fun z => hx (r1.nil_iff.mp z)) (fun z => ⟨.ref a, H, I, rfl, q1 (r2.nil_iff.mp z)⟩) (fun z => ?_) (by rw [← r1.length, ← r2.length]; exact hz)
 refine ⟨.ref s.heap.objs.size, _, I.laid (t' := s.toks) (o := .tup (xs ++ ys)) (fun b ob q => Heap.get?_push_of_some _ q) (Nat.le_refl _) ?_, rfl, q2 (fun w => z (r2.nil_iff.mpr w)) _ (I.hok.fresh (Nat.le_refl _))⟩
 exact ⟨by rw [List.length_append]; exact hz, _, r1.append r2, IsTup.new _ _⟩
end
end L2

namespace L2
open PySem PySem.Spec PyProof.Rows

/-! ### places -/
noncomputable def ixN (n : Nat) (i : Int) : Option Nat := if 0 ≤ i then (if i < n then some i.toNat else none) else if -(n : Int) ≤ i then some (i + n).toNat else none
noncomputable def atI {α : Type} (xs : List α) (i : Int) : Option α := (ixN xs.length i).bind fun j => xs[j]?
theorem ixN_seq {n : Nat} {i : Int} {j : Nat} (h : ixN n i = some j) : seqIndex? i n = some j ∧ j < n ∧ -(n : Int) ≤ i ∧ i < n := by
 unfold ixN at h
 by_cases h0 : 0 ≤ i
 ·rw [if_pos h0] at h
  by_cases h1 : i < n
  ·rw [if_pos h1] at h
   have e : i.toNat = j := Option.some.inj h
   exact ⟨by rw [seqIndex_of h0 h1, e], by omega, by omega, h1⟩
  ·rw [if_neg h1] at h; cases h
 ·rw [if_neg h0] at h
  by_cases h1 : -(n : Int) ≤ i
  ·rw [if_pos h1] at h
   have e : (i + n).toNat = j := Option.some.inj h
   exact ⟨by rw [seqIndex_neg (by omega) h1, e], by omega, h1, by omega⟩
  ·rw [if_neg h1] at h; cases h
theorem atI_get {α : Type} {xs : List α} {i : Int} {v : α} (h : atI xs i = some v) : ∃ j, seqIndex? i xs.length = some j ∧ xs[j]? = some v ∧ j < xs.length ∧ -(xs.length : Int) ≤ i ∧ i < xs.length := by
 unfold atI at h
 cases e : ixN xs.length i with
 | none => rw [e] at h; cases h
 | some j =>
  rw [e] at h
  obtain ⟨h1, h2, h3, h4⟩ := ixN_seq e
  exact ⟨j, h1, h, h2, h3, h4⟩
theorem atI_nat {α : Type} {xs : List α} {j : Nat} {v : α} (h : xs[j]? = some v) : atI xs (j : Int) = some v := by
 have hj : j < xs.length := (List.getElem?_eq_some_iff.mp h).1
 have e : ixN xs.length (j : Int) = some j := by
  unfold ixN
  rw [if_pos (by omega), if_pos (by omega)]; simp
 unfold atI; rw [e]; exact h
theorem atI_last {α : Type} (xs : List α) (v : α) : atI (xs ++ [v]) (-1) = some v := by
 have hl : (xs ++ [v]).length = xs.length + 1 := by simp
 have e : ixN (xs ++ [v]).length (-1) = some xs.length := by
  unfold ixN
  rw [hl, if_neg (by decide), if_pos (by omega)]
  congr 1
  omega
 unfold atI
 rw [e]
 show (xs ++ [v])[xs.length]? = some v
 simp

/-! ### what may be subscripted -/
noncomputable def PlainIx (b : Expr) : Prop := ∀ o i, subscripted b false o i = operate [o, i] (getItem o i)
noncomputable def IxR (X : Cx) (r : R2) : Prop :=
 ∀ (value slice : Expr) (pins : List (Addr × Obj)) (s : Shared) (σ : St) (H : Hp) (x y : V) (v u : Value) (Q : VK), Inv X pins σ H s → RelV x v → RelV y u → r x y H Q →
  subscripted slice false v u = operate [v, u] (getItem v u) → wpAny (model X.prog X.w) X.A (subscriptTail value slice v u) (EP X pins σ Q) X.xe s
noncomputable def MtR (X : Cx) (id : String) (r : V → List V → Hp → VK → Prop) : Prop :=
 ∀ (pins : List (Addr × Obj)) (s : Shared) (σ : St) (H : Hp) (x : V) (xs : List V) (v : Value) (us : List Value) (Q : VK), Inv X pins σ H s → RelV x v → Vals xs us → r x xs H Q →
  wpAny (model X.prog X.w) X.A (call (.builtin id) (v :: us)) (EP X pins σ Q) X.xe s
section
variable {X : Cx} {a b : Expr} {ta tb : TE} {pos : Pos}
theorem pe_ix {r : R2} (hr : IxR X r) (ha : PE X a ta) (hb : PE X b tb) (hs : PlainIx b) : PE X (.Subscript a b pos) (tOp r ta tb) := by
 intro pins s σ H Q I h
 exact Subscript_ (binT ha hb I h fun v u s2 x y H2 I2 rx ry q => hr a b pins s2 σ H2 x y v u Q I2 rx ry q (hs _ _))

noncomputable def rIxL (K : PySem.W.Frag) : R2 := fun x y H Q => ∃ p xs i v, x = .ref p ∧ y = .int i ∧ SqL K H p xs ∧ atI xs i = some v ∧ Q v H
noncomputable def rIxT (K : PySem.W.Frag) : R2 := fun x y H Q => ∃ p xs i v, x = .ref p ∧ y = .int i ∧ SqT K H p xs ∧ atI xs i = some v ∧ Q v H
noncomputable def rIxS : R2 := fun x y H Q => ∃ z i c, x = .str z ∧ y = .int i ∧ z.length ≤ sizeLine ∧ atI z.cps.toList i = some c ∧ Q (.str ⟨#[c]⟩) H
theorem ix_list : IxR X (rIxL X.K) := by
 intro value slice pins s σ H x y v u Q I rx ry h hs
 obtain ⟨p, xs, i, z, rfl, rfl, hq, he, q⟩ := h
 cases rx
 obtain ⟨t, rfl⟩ := ry
 obtain ⟨its, r, pl, hz⟩ := I.list hq
 obtain ⟨j, h1, h2, h3, h4, h5⟩ := atI_get he
 obtain ⟨w, ew, rw'⟩ := r.get h2
 have hl := r.length
 have hn := line63
 have fin : EP X pins σ Q w s := ⟨z, H, I, rw', q⟩
 by_cases h0 : 0 ≤ i
 ·have hj : i.toNat = j := by
   rw [seqIndex_of h0 h5] at h1
   exact Option.some.inj h1
  exact item_listR pl.isList h0 (by omega) (by rw [hj]; simpa using ew) fin hs
 ·have hj : (i + (its.toArray.size : Int)).toNat = j := by
   rw [seqIndex_neg (by omega) h4] at h1
   rw [List.size_toArray, ← hl]
   exact Option.some.inj h1
  exact subscriptTail_builtinR (x := w) pl.isList.typeIs slot_list_getitem.lookup
   (wpAny_getItem_list_neg (Q := fun r s' => r = w ∧ EP X pins σ Q r s') pl.isList (by omega) (by rw [List.size_toArray] <;> omega) (by omega) (by rw [hj]; simpa using ew) ⟨rfl, fin⟩) hs
theorem ix_tup : IxR X (rIxT X.K) := by
 intro value slice pins s σ H x y v u Q I rx ry h hs
 obtain ⟨p, xs, i, z, rfl, rfl, hq, he, q⟩ := h
 cases rx
 obtain ⟨t, rfl⟩ := ry
 obtain ⟨its, r, pl, hz⟩ := I.tuple hq
 obtain ⟨j, h1, h2, h3, h4, h5⟩ := atI_get he
 obtain ⟨w, ew, rw'⟩ := r.get h2
 have hl := r.length
 have hn := line63
 have fin : EP X pins σ Q w s := ⟨z, H, I, rw', q⟩
 exact subscriptTail_builtinR (x := w) pl.typeIs slot_tuple_getitem.lookup
  (getItem_tuple (j := j) (Q := fun r s' => r = w ∧ EP X pins σ Q r s') pl (by omega) (by omega) (by rw [List.size_toArray, ← hl]; exact h1) (by simpa using ew) ⟨rfl, fin⟩) hs
theorem ix_str : IxR X rIxS := by
 intro value slice pins s σ H x y v u Q I rx ry h hs
 obtain ⟨z, i, c, rfl, rfl, hz, he, q⟩ := h
 obtain ⟨t, rfl⟩ := rx
 obtain ⟨t', rfl⟩ := ry
 obtain ⟨j, h1, h2, h3, h4, h5⟩ := atI_get he
 have hl : z.cps.toList.length = z.length := by simp [Str.length]
 rw [hl] at h1 h4 h5
 have hn := line63
 exact tail_any (typeIs_str s z t) slot_str_getitem.lookup (getItem_str (c := c) (by
  have e1 : decide (i < -(2 ^ 63 : Int)) = false := decide_eq_false (by omega)
  have e2 : decide (i ≥ 2 ^ 63) = false := decide_eq_false (by omega)
  rw [e1, e2, Bool.or_false]) (by rw [h1]; simpa using h2) ⟨.str ⟨#[c]⟩, H, I.tok _, ⟨_, rfl⟩, q⟩) hs
/-! ### xs[i] = v, any sign -/
theorem mapSeq_set (its : List Value) (n j : Nat) (u : Value) : Obj.mapSeq (·.setIfInBounds j u) { cls := .type "list", data := .seq its.toArray n } = { cls := .type "list", data := .seq (its.set j u).toArray n } := by
 simp [Obj.mapSeq]
theorem Inv.lst {pins : List (Addr × Obj)} {σ : St} {H : Hp} {s : Shared} {p : Addr} {xs : List V} (I : Inv X pins σ H s) (h : H p = some (.lst xs)) :
  ∃ (its : List Value) (n : Nat), Vals xs its ∧ s.heap.get? p = some { cls := .type "list", data := .seq its.toArray n } ∧ xs.length ≤ sizeLine := by
 obtain ⟨z, its, n, r, e⟩ := I.hok p _ h
 exact ⟨its, n, r, e, z⟩
theorem Inv.lstUpd {pins : List (Addr × Obj)} {σ : St} {H : Hp} {s : Shared} {p : Addr} {xs ys : List V} {its its' : List Value} {n n' : Nat} {f : Obj → Obj} (I : Inv X pins σ H s) (h : H p = some (.lst xs))
  (ho : s.heap.get? p = some { cls := .type "list", data := .seq its.toArray n }) (hf : f { cls := .type "list", data := .seq its.toArray n } = { cls := .type "list", data := .seq its'.toArray n' }) (r : Vals ys its') (hz : ys.length ≤ sizeLine) (t : Nat) :
  Inv X pins σ (upd H p (.lst ys)) { s with heap := s.heap.update p f, toks := t } := by
 have e : (s.heap.update p f).get? p = some { cls := .type "list", data := .seq its'.toArray n' } := by
  rw [Heap.get?_update_self f ho (by rw [hf] <;> rfl), hf]
 refine I.write (x := p) (e := p) (by rw [h]; trivial) (.inl rfl) (fun b u hb q => (Heap.get?_update_other _ _ (Ne.symm hb)).trans q) ⟨_, e⟩ ?_
 exact ⟨hz, its', n', r, e⟩
noncomputable def rSetL : V → V → V → Hp → (Hp → Prop) → Prop := fun o i v H Q => ∃ p xs k j, o = .ref p ∧ i = .int k ∧ H p = some (.lst xs) ∧ ixN xs.length k = some j ∧ Q (upd H p (.lst (xs.set j v)))
theorem set_list : PSet X rSetL := by
 intro pins s σ H o i v ov iv u Q I ro ri rv h
 obtain ⟨p, xs, k, j, rfl, rfl, hp, hj, q⟩ := h
 cases ro
 obtain ⟨t, rfl⟩ := ri
 obtain ⟨its, n, r, ho, hz⟩ := I.lst hp
 obtain ⟨h1, h2, h3, h4⟩ := ixN_seq hj
 have hl := r.length
 have hn := line63
 have I' : Inv X pins σ (upd H p (.lst (xs.set j v))) { s with heap := s.heap.update p (Obj.mapSeq (·.setIfInBounds j u)) } :=
  I.lstUpd hp ho (mapSeq_set its n j u) (r.set rv j) (by rw [List.length_set]; exact hz) s.toks
 by_cases h0 : 0 ≤ k
 ·have hk : k.toNat = j := by
   rw [seqIndex_of h0 h4] at h1
   exact Option.some.inj h1
  exact PySem.W.ki_setAt ho h0 (by omega) (by rw [List.size_toArray, ← hl]; exact h4) (by rw [hk]; exact ⟨_, I', q⟩)
 ·have hk : (k + (its.toArray.size : Int)).toNat = j := by
   rw [seqIndex_neg (by omega) h3] at h1
   rw [List.size_toArray, ← hl]
   exact Option.some.inj h1
  exact PySem.W.ki_setBack ho (by omega) (by rw [List.size_toArray, ← hl]; exact h3) (by omega) (by rw [hk]; exact ⟨_, I', q⟩)

/-! ### slices -/
theorem slice_bounds (lo hi : Option Int) (n : Nat) : (sliceBounds lo hi none n).1 = ((HT.sIx n 0 lo : Nat) : Int) ∧ (sliceBounds lo hi none n).2.1 = ((HT.sIx n n hi : Nat) : Int) ∧ (sliceBounds lo hi none n).2.2 = 1 := by
 refine ⟨?_, ?_, rfl⟩
 ·cases lo with
  | none => simp [sliceBounds, HT.sIx]
  | some i =>
   simp only [sliceBounds, HT.sIx, Option.getD_none, show (1 : Int) > 0 by decide, if_true]
   by_cases h : i < 0
   ·simp only [h, if_true] <;> omega
   ·simp only [h, if_false] <;> omega
 ·cases hi with
  | none => simp [sliceBounds, HT.sIx]
  | some i =>
   simp only [sliceBounds, HT.sIx, Option.getD_none, show (1 : Int) > 0 by decide, if_true]
   by_cases h : i < 0
   ·simp only [h, if_true] <;> omega
   ·simp only [h, if_false] <;> omega
theorem slicePick_cut (its : List Value) (lo hi : Option Int) : slicePick its.toArray lo hi none = ((its.drop (HT.sIx its.length 0 lo)).take (HT.sIx its.length its.length hi - HT.sIx its.length 0 lo)).toArray := by
 obtain ⟨h1, h2, h3⟩ := slice_bounds lo hi its.toArray.size
 unfold slicePick
 rw [h1, h2, h3]
 simp only [sliceRange_one, pick_run, List.size_toArray] <;> rfl
noncomputable def rSlL (K : PySem.W.Frag) : V → Option Int → Option Int → Hp → VK → Prop := fun x lo hi H Q => ∃ a xs, x = .ref a ∧ SqL K H a xs ∧ ∀ p, H p = none → Q (.ref p) (upd H p (.lst (cutV xs lo hi)))
theorem sl_list : SlR X (rSlL X.K) := by
 intro pins s σ H x v vl vu lo hi sl Q I rx hs pl pu h
 obtain ⟨a, xs, rfl, hx, q⟩ := h
 cases rx
 obtain ⟨its, r, ht, hz⟩ := I.list hx
 have hlen := r.length
 refine ⟨"list", _, slot_list_getitem.lookup, ht.isList.typeIs, ?_⟩
 refine wpAny_getItem_list_slice ht.isList hs pl pu .none (by simp) ?_ (by rw [List.size_toArray] <;> omega)
 rw [slicePick_cut, ← hlen]
 refine ⟨.ref s.heap.objs.size, _, I.laid (t' := s.toks) (o := .lst (cutV xs lo hi)) (fun b ob q => Heap.get?_push_of_some _ q) (Nat.le_refl _) ?_, rfl, q _ (I.hok.fresh (Nat.le_refl _))⟩
 exact ⟨Nat.le_trans (cutV_length xs lo hi) hz, _, 0, (r.drop (HT.sIx xs.length 0 lo)).take (HT.sIx xs.length xs.length hi - HT.sIx xs.length 0 lo), Heap.get?_push_size _ rfl⟩

/-! ### in, not in: flat items -/
noncomputable def flatV : V → Bool
 | .non => true
 | .bl _ => true
 | .int _ => true
 | .str _ => true
 | _ => false
noncomputable def eqV : V → V → Bool
 | .non, .non => true
 | .bl a, .bl b => a == b
 | .bl a, .int b => (if a then 1 else 0) == b
 | .int a, .bl b => a == (if b then 1 else 0)
 | .int a, .int b => a == b
 | .str a, .str b => a == b
 | _, _ => false
theorem eqAt_V {A : Around} {s : Shared} {y x : V} {u v : Value} (ry : RelV y u) (rx : RelV x v) (fy : flatV y = true) (fx : flatV x = true) : SeqAt.EqAt A s u v (eqV y x) := by
 cases y with
 | non =>
  cases ry
  cases x with
  | non => cases rx; exact SeqAt.EqAt.same _
  | bl b => cases rx; exact SeqAt.EqAt.none_bool b
  | int b => obtain ⟨t, rfl⟩ := rx; exact SeqAt.EqAt.none_int b t
  | str b => obtain ⟨t, rfl⟩ := rx; exact SeqAt.EqAt.none_str b t
  | _ => exact absurd (show false = true from fx) Bool.false_ne_true
 | bl a =>
  cases ry
  cases x with
  | non => cases rx; exact SeqAt.EqAt.bool_none a
  | bl b => cases rx; exact SeqAt.EqAt.bool_bool a b
  | int b => obtain ⟨t, rfl⟩ := rx; exact SeqAt.EqAt.bool_int a b t
  | str b => obtain ⟨t, rfl⟩ := rx; exact SeqAt.EqAt.bool_str a b t
  | _ => exact absurd (show false = true from fx) Bool.false_ne_true
 | int a =>
  obtain ⟨t', rfl⟩ := ry
  cases x with
  | non => cases rx; exact SeqAt.EqAt.int_none a t'
  | bl b => cases rx; exact SeqAt.EqAt.int_bool a t' b
  | int b => obtain ⟨t, rfl⟩ := rx; exact SeqAt.EqAt.int_int a t' b t
  | str b => obtain ⟨t, rfl⟩ := rx; exact SeqAt.EqAt.int_str a t' b t
  | _ => exact absurd (show false = true from fx) Bool.false_ne_true
 | str a =>
  obtain ⟨t', rfl⟩ := ry
  cases x with
  | non => cases rx; exact SeqAt.EqAt.str_none a t'
  | bl b => cases rx; exact SeqAt.EqAt.str_bool a t' b
  | int b => obtain ⟨t, rfl⟩ := rx; exact SeqAt.EqAt.str_int a t' b t
  | str b => obtain ⟨t, rfl⟩ := rx; exact SeqAt.EqAt.str_str a t' b t
  | _ => exact absurd (show false = true from fx) Bool.false_ne_true
 | _ => exact absurd (show false = true from fy) Bool.false_ne_true
noncomputable def eqU (x : V) (u : Value) : Bool := match u with
 | .none => eqV .non x
 | .bool b => eqV (.bl b) x
 | .int i _ => eqV (.int i) x
 | .str z _ => eqV (.str z) x
 | _ => false
theorem eqU_of {x y : V} {u : Value} (r : RelV y u) (f : flatV y = true) : eqU x u = eqV y x := by
 cases y with
 | non => cases r; rfl
 | bl b => cases r; rfl
 | int i => obtain ⟨t, rfl⟩ := r; rfl
 | str z => obtain ⟨t, rfl⟩ := r; rfl
 | _ => exact absurd (show false = true from f) Bool.false_ne_true
theorem any_eqU {x : V} : ∀ {xs : List V} {us : List Value}, Vals xs us → xs.all flatV = true → us.any (eqU x) = xs.any fun y => eqV y x
 | _, _, .nil, _ => rfl
 | y :: xs, u :: us, .cons r t, f => by
  rw [List.all_cons, Bool.and_eq_true] at f
  rw [List.any_cons, List.any_cons, eqU_of r f.1, any_eqU t f.2]
theorem mem_eqAt {A : Around} {s : Shared} {x : V} {v : Value} (rx : RelV x v) (fx : flatV x = true) : ∀ {xs : List V} {us : List Value}, Vals xs us → xs.all flatV = true → ∀ u ∈ us, SeqAt.EqAt A s u v (eqU x u)
 | _, _, .nil, _ => fun u hu => by cases hu
 | y :: xs, u :: us, .cons r t, f => fun u' hu => by
  rw [List.all_cons, Bool.and_eq_true] at f
  rcases List.mem_cons.mp hu with rfl | hu
  ·rw [eqU_of r f.1]; exact eqAt_V r rx f.1 fx
  ·exact mem_eqAt rx fx t f.2 u' hu
noncomputable def inV (x : V) (xs : List V) : Bool := xs.any fun y => eqV y x
noncomputable def rIn (K : PySem.W.Frag) (neg : Bool) : R2 := fun x y H Q => ∃ p xs, y = .ref p ∧ (SqL K H p xs ∨ SqT K H p xs) ∧ flatV x = true ∧ xs.all flatV = true ∧ Q (.bl (if neg then !inV x xs else inV x xs)) H
theorem op_in_seq : OpR X (compareOp .In) (rIn X.K false) := by
 intro pins s σ H x y v u Q I rx ry h
 obtain ⟨p, xs, rfl, hq, fx, fs, q⟩ := h
 cases ry
 rcases hq with hq | hq
 ·obtain ⟨its, r, pl, hz⟩ := I.list hq
  refine SeqAt.in_listAt (eqU x) pl.isList (fun w hw => mem_eqAt rx fx r fs w (by simpa using hw)) ⟨.bl _, H, I, rfl, ?_⟩
  rw [show its.toArray.any (eqU x) = its.any (eqU x) by simp, any_eqU r fs]
  exact q
 ·obtain ⟨its, r, pl, hz⟩ := I.tuple hq
  refine SeqAt.in_tupleAt (eqU x) pl (fun w hw => mem_eqAt rx fx r fs w (by simpa using hw)) ⟨.bl _, H, I, rfl, ?_⟩
  rw [show its.toArray.any (eqU x) = its.any (eqU x) by simp, any_eqU r fs]
  exact q
/-! ### len, list(x), tuple(x) of any list or tuple that is read -/
theorem call_list_of : CallR X (.type "list") (fun xs H Q => ∃ p ys, xs = [.ref p] ∧ (SqL X.K H p ys ∨ SqT X.K H p ys) ∧ ∀ l, H l = none → Q (.ref l) (upd H l (.lst ys))) := by
 intro pins s σ H xs us Q I r h
 obtain ⟨p, ys, rfl, hq, q⟩ := h
 obtain ⟨u, rfl, rx⟩ := vals1 r
 cases rx
 have fin : ∀ (its : List Value), Vals ys its → ys.length ≤ sizeLine → ∀ (h' : Heap) (c' : Nat), (∀ b o', s.heap.get? b = some o' → h'.get? b = some o') →
   h'.get? s.heap.objs.size = some { cls := .type "list", dict := none, data := .seq its.toArray c', slots := #[] } → EP X pins σ Q (.ref s.heap.objs.size) { s with heap := h' } := fun its r' hz h' c' kp e =>
  ⟨.ref s.heap.objs.size, _, I.laid (t' := s.toks) kp (Nat.le_refl _) (show ObjOk X.prog X.w _ h' _ (.lst ys) from ⟨hz, its, c', r', e⟩), rfl, q _ (I.hok.fresh (Nat.le_refl _))⟩
 rcases hq with hq | hq
 ·obtain ⟨its, r', pl, hz⟩ := I.list hq
  have hlen := r'.length
  obtain ⟨o, ho, hc, n, hd⟩ := pl.isList
  exact call_list_seq p (.inl rfl) ho hc hd (fun h' c' kp e => fin its r' hz h' c' kp e) (by simp only [List.size_toArray] <;> omega)
 ·obtain ⟨its, r', pl, hz⟩ := I.tuple hq
  have hlen := r'.length
  obtain ⟨o, ho, hc, n, hd⟩ := pl
  exact call_list_seq p (.inr rfl) ho hc hd (fun h' c' kp e => fin its r' hz h' c' kp e) (by simp only [List.size_toArray] <;> omega)
theorem call_tuple_of : CallR X (.type "tuple") (fun xs H Q => ∃ p ys, xs = [.ref p] ∧ ((SqL X.K H p ys ∧ ∀ l, H l = none → Q (.ref l) (upd H l (.tup ys))) ∨ (SqT X.K H p ys ∧ Q (.ref p) H))) := by
 intro pins s σ H xs us Q I r h
 obtain ⟨p, ys, rfl, h⟩ := h
 obtain ⟨u, rfl, rx⟩ := vals1 r
 cases rx
 rcases h with ⟨hq, q⟩ | ⟨hq, q⟩
 ·obtain ⟨its, r', pl, hz⟩ := I.list hq
  have hlen := r'.length
  refine call_tuple_list pl.isList (fun h' kp => ?_) (by simp only [List.size_toArray] <;> omega)
  have I1 : Inv X pins σ H { s with heap := h' } := I.kept (t' := s.toks) kp
  have I2 : Inv X pins σ (upd H h'.objs.size (.tup ys)) { s with heap := h'.push { cls := .type "tuple", data := .seq its.toArray } } :=
   I1.laid (t' := s.toks) (fun b o e => Heap.get?_push_of_some _ e) (Nat.le_refl _) (show ObjOk X.prog X.w _ _ _ (.tup ys) from ⟨hz, its, r', IsTup.new _ _⟩)
  exact ⟨.ref h'.objs.size, _, I2, rfl, q _ (I1.hok.fresh (Nat.le_refl _))⟩
 ·obtain ⟨its, r', pl, hz⟩ := I.tuple hq
  exact call_tuple_same pl ⟨.ref p, H, I, rfl, q⟩

/-! ### the call of a builtin's method: o.m(..) -/
noncomputable def tyV (K : PySem.W.Frag) (T : String) (x : V) (H : Hp) : Prop := match x with
 | .str _ => T = "str"
 | .int _ => T = "int"
 | .ref p => (T = "list" ∧ ∃ xs, SqL K H p xs) ∨ (T = "tuple" ∧ ∃ o, K.lookup p = some o ∧ o.cls = .type "tuple" ∧ o.dict = none) ∨
   (T = "dict" ∧ ((∃ kvs, H p = some (.dK kvs)) ∨ ∃ kvs, H p = some (.dT kvs))) ∨ (T = "set" ∧ ∃ S n, H p = some (.set S n))
 | _ => False
theorem tyV_is {pins : List (Addr × Obj)} {σ : St} {H : Hp} {s : Shared} {T : String} {x : V} {v : Value} (I : Inv X pins σ H s) (r : RelV x v) (ty : tyV X.K T x H) :
  s.TypeIs v T ∧ ∀ a, v = .ref a → ∃ ob, s.heap.get? a = some ob ∧ ob.dict = none := by
 cases x with
 | str z =>
  obtain ⟨t, rfl⟩ := r
  cases (show T = "str" from ty)
  exact ⟨typeIs_str s z t, fun _ e => nomatch e⟩
 | int i =>
  obtain ⟨t, rfl⟩ := r
  cases (show T = "int" from ty)
  exact ⟨typeIs_int s i t, fun _ e => nomatch e⟩
 | ref p =>
  cases r
  rcases ty with ⟨rfl, xs, hq⟩ | ⟨rfl, o, hk, hc, hd⟩ | ⟨rfl, hk⟩ | ⟨rfl, S, n, hk⟩
  ·obtain ⟨its, _, pl, _⟩ := I.list hq
   refine ⟨pl.isList.typeIs, fun a e => ?_⟩
   cases e
   obtain ⟨o, n, e, c, hd, _⟩ := pl
   exact ⟨o, e, hd⟩
  ·refine ⟨⟨o, I.kIn p o hk, hc⟩, fun a e => ?_⟩
   cases e
   exact ⟨o, I.kIn _ o hk, hd⟩
  ·have z : ∃ o, s.heap.get? p = some o ∧ o.ExactDict := by
    rcases hk with ⟨kvs, hk⟩ | ⟨kvs, hk⟩
    ·obtain ⟨_, _, _, _, o, _, _, e, ex, _⟩ := I.hok p _ hk
     exact ⟨o, e, ex⟩
    ·obtain ⟨_, _, _, _, o, _, _, e, ex, _⟩ := I.hok p _ hk
     exact ⟨o, e, ex⟩
   obtain ⟨o, e, ex⟩ := z
   refine ⟨⟨o, e, ex.1⟩, fun a e2 => ?_⟩
   cases e2
   exact ⟨o, e, ex.2.1⟩
  ·obtain ⟨o, _, _, _, e, ex, _⟩ := I.hok p _ hk
   refine ⟨⟨o, e, ex.1⟩, fun a e2 => ?_⟩
   cases e2
   exact ⟨o, e, ex.2.1⟩
 | _ => exact False.elim ty
noncomputable def tBM0 (K : PySem.W.Frag) (T : String) (r : V → List V → Hp → VK → Prop) (to : TE) : TE := fun σ H Q => to σ H fun x H1 => tyV K T x H1 ∧ r x [] H1 Q
noncomputable def tBM (K : PySem.W.Frag) (T : String) (r : V → List V → Hp → VK → Prop) (to : TE) (t : TA) : TE := fun σ H Q => to σ H fun x H1 => tyV K T x H1 ∧ t σ H1 fun xs H2 => r x xs H2 Q
variable {o e : Expr} {es : List Expr} {to : TE} {t : TA} {name : Str} {apos cpos : Pos} {T id : String} {r : V → List V → Hp → VK → Prop}
theorem pe_bm0 (pa : PlainAttrs T) (slot : Slot T name id) (hty : typeOf (.builtin id) = pure (.type "method_descriptor")) (hm : MtR X id r) (ho : PE X o to)
  (hbase : attributeBase o name X.env (eval o X.env) = eval o X.env := by rfl) (hline : (apos.endLine == cpos.line) = true := by rfl) : PE X (.Call (.Attribute o name apos) [] [] cpos) (tBM0 X.K T r to) := by
 intro pins s σ H Q I h
 refine wpAny_Call_method0_late hbase hline (thn (ho pins s σ H _ I h) fun v s1 ⟨x, H1, I1, r1, ty, q1⟩ => ?_)
 obtain ⟨h1, h2⟩ := tyV_is I1 r1 ty
 exact ⟨T, id, pa, slot, hty, h1, h2, Calls.callWith_builtin rfl (PySem.evalArgs_none (hm pins s1 σ H1 x [] v [] Q I1 r1 .nil q1))⟩
theorem pe_bm (pa : PlainAttrs T) (slot : Slot T name id) (hty : typeOf (.builtin id) = pure (.type "method_descriptor")) (hm : MtR X id r) (ho : PE X o to) (ha : PA X (e :: es) t)
  (hbase : attributeBase o name X.env (eval o X.env) = eval o X.env := by rfl)
  (hfew : ((backTo cpos (starEach (e :: es) X.env)).all (fun x => !x.1) && (backToKw cpos (keywordEach [] X.env)).all (fun x => x.1.isSome)
   && decide ((e :: es).length + ([] : List Keyword).length + (if ([] : List Keyword).isEmpty then 0 else 1) < 30)) = true := by rfl)
  (hline : (apos.endLine == cpos.line) = true := by rfl) (hs : starEach (e :: es) X.env = (false, eval e X.env) :: starEach es X.env := by rfl) (hplain : (backTo cpos (starEach es X.env)).any (·.1) = false := by rfl) :
  PE X (.Call (.Attribute o name apos) (e :: es) [] cpos) (tBM X.K T r to t) := by
 intro pins s σ H Q I h
 refine wpAny_Call_method_late hbase hfew hline rfl (thn (ho pins s σ H _ I h) fun v s1 ⟨x, H1, I1, r1, ty, q1⟩ => ?_)
 obtain ⟨h1, h2⟩ := tyV_is I1 r1 ty
 refine ⟨T, id, pa, slot, hty, h1, h2, ?_⟩
 have hA := ha cpos pins s1 σ H1 _ I1 q1
 rw [hs] at hA ⊢
 refine Calls.callWith_builtin (by show (false || (backTo cpos (starEach es X.env)).any (·.1)) = false; rw [hplain] <;> rfl) (Calls.evalArgs_plain ?_)
 exact thn hA fun us s2 ⟨vs, H2, I2, r2, q2⟩ => hm pins s2 σ H2 x vs v us Q I2 r1 r2 q2
/- xs.append(e), list.index on a module's tuple .. are MtR facts of 06m -/
end
end L2

namespace L2
open PySem PySem.Spec PyProof.Rows

noncomputable def MtM (X : Cx) (id : String) (r : V → List V → Hp → VK → Prop) : Prop :=
 ∀ (pins : List (Addr × Obj)) (s : Shared) (σ : St) (H : Hp) (x : V) (xs : List V) (v : Value) (us : List Value) (Q : VK), Inv X pins σ H s → RelV x v → Vals xs us → r x xs H Q →
  wpAny (model X.prog X.w) X.A (call (.builtin id) (v :: us)) (EP X pins σ Q) X.xe s

/-! ### lists of values -/
theorem Vals.one : ∀ {x : V} {us : List Value}, Vals [x] us → ∃ u, us = [u] ∧ RelV x u
 | _, _, .cons r .nil => ⟨_, rfl, r⟩
theorem Vals.zero : ∀ {us : List Value}, Vals [] us → us = []
 | _, .nil => rfl
theorem Vals.dropLast {xs : List V} {us : List Value} (h : Vals xs us) : Vals xs.dropLast us.dropLast := by
 induction h with
 | nil => exact .nil
 | cons r t ih =>
  cases t with
  | nil => exact .nil
  | cons q t' => exact .cons r ih
theorem Vals.rep {xs : List V} {us : List Value} (h : Vals xs us) : ∀ k : Nat, Vals (List.replicate k xs).flatten (List.replicate k us).flatten
 | 0 => .nil
 | k + 1 => by
  rw [List.replicate_succ, List.replicate_succ, List.flatten_cons, List.flatten_cons]
  exact Vals.append h (Vals.rep h k)
theorem erase_last {α : Type} (l : List α) : l.eraseIdx (l.length - 1) = l.dropLast := by
 induction l with
 | nil => rfl
 | cons a r ih =>
  cases r with
  | nil => rfl
  | cons b r =>
   have e : (a :: b :: r).length - 1 = ((b :: r).length - 1) + 1 := by
    have h1 : (a :: b :: r).length = r.length + 2 := rfl
    have h2 : (b :: r).length = r.length + 1 := rfl
    omega
   rw [e, List.eraseIdx_cons_succ, ih]
   all_goals rfl
theorem foldl_rep (its : List Value) : ∀ (k : Nat) (acc : List Value),
  List.foldl (fun x1 x2 => x1 ++ x2) acc.toArray (List.replicate k its.toArray) = (acc ++ (List.replicate k its).flatten).toArray
 | 0, acc => by simp
 | k + 1, acc => by
  have e : acc.toArray ++ its.toArray = (acc ++ its).toArray := by simp
  have e2 : (acc ++ its) ++ (List.replicate k its).flatten = acc ++ (List.replicate (k + 1) its).flatten := by
   rw [List.replicate_succ, List.flatten_cons, List.append_assoc]
  rw [← e2, ← foldl_rep its k (acc ++ its), ← e, List.replicate_succ, List.foldl_cons]

section
variable {X : Cx} {pins : List (Addr × Obj)} {σ : St} {H : Hp} {s : Shared} {l b : Addr} {xs ys zs : List V}

/-! ### the two steps: a tracked list is rewritten, a new list is laid -/
theorem Inv.lset {its its' : List Value} {n : Nat} {f : Array Value → Array Value} {t' : Nat} (I : Inv X pins σ H s) (hH : H l = some (.lst xs))
  (e : s.heap.get? l = some { cls := .type "list", data := .seq its.toArray n }) (hf : f its.toArray = its'.toArray) (hv : Vals ys its') (hz : ys.length ≤ sizeLine) :
  Inv X pins σ (upd H l (.lst ys)) { s with heap := s.heap.update l (Obj.mapSeq f), toks := t' } := by
 have q := PySem.IsL.update e f
 rw [hf] at q
 refine I.write (x := l) (e := l) (by rw [hH]; exact trivial) (.inl rfl) (fun b' u hb hu => (Heap.get?_update_other s.heap (Obj.mapSeq f) (Ne.symm hb)).trans hu) ⟨_, q⟩ ?_
 exact ⟨hz, its', _, hv, q⟩
theorem Inv.lnew {its : List Value} {t' : Nat} (I : Inv X pins σ H s) (hv : Vals ys its) (hz : ys.length ≤ sizeLine) :
  Inv X pins σ (upd H s.heap.objs.size (.lst ys)) { s with heap := s.heap.push { cls := .type "list", data := .seq its.toArray }, toks := t' } :=
 I.laid (fun _ _ q => Heap.get?_push_of_some _ q) (Nat.le_refl _) ⟨hz, its, 0, hv, Heap.get?_push_size _ rfl⟩
theorem Inv.fresh (I : Inv X pins σ H s) : H s.heap.objs.size = none := I.hok.fresh (Nat.le_refl _)
theorem Inv.lstM (I : Inv X pins σ H s) (hH : H l = some (.lst xs)) : xs.length ≤ sizeLine ∧ ∃ (its : List Value) (n : Nat), Vals xs its ∧ xs.length = its.length ∧ s.heap.get? l = some { cls := .type "list", data := .seq its.toArray n } := by
 obtain ⟨z, its, n, r, e⟩ := I.hok l _ hH
 exact ⟨z, its, n, r, r.length, e⟩

theorem notLongL {n : Nat} (h : n ≤ sizeLine) : Builtin.List.listTooLong n = false := by
 unfold Builtin.List.listTooLong
 exact decide_eq_false (by omega)
end

section
variable {X : Cx}

/-! ### methods -/
noncomputable def rAppend : V → List V → Hp → VK → Prop := fun x vs H Q => ∃ l xs y, x = .ref l ∧ vs = [y] ∧ H l = some (.lst xs) ∧ xs.length < sizeLine ∧ Q .non (upd H l (.lst (xs ++ [y])))
theorem mt_append : MtM X "list.append" rAppend := by
 intro pins s σ H x vs v us Q I rx rv h
 obtain ⟨l, xs, y, rfl, rfl, hH, hz, q⟩ := h
 cases rx
 obtain ⟨u, rfl, ru⟩ := rv.one
 obtain ⟨z, its, n, r, hl, e⟩ := I.lstM hH
 refine call_meets F.slot_list_append ⟨_, e, rfl⟩ F.entry_list_append (F.args_list_append_2 _ _) (PySem.list_append l its.toArray n u (by rw [List.size_toArray]; omega)) ⟨e, ?_⟩
 refine ⟨.non, _, I.lset (its' := its ++ [u]) hH e (by simp) (r.append (.cons ru .nil)) ?_, rfl, q⟩
 rw [List.length_append, List.length_singleton]
 omega

noncomputable def rExtend : V → List V → Hp → VK → Prop := fun x vs H Q => ∃ l b xs zs, x = .ref l ∧ vs = [.ref b] ∧ H l = some (.lst xs) ∧ H b = some (.lst zs) ∧ xs.length + zs.length ≤ sizeLine ∧ Q .non (upd H l (.lst (xs ++ zs)))
theorem mt_extend : MtM X "list.extend" rExtend := by
 intro pins s σ H x vs v us Q I rx rv h
 obtain ⟨l, b, xs, zs, rfl, rfl, hH, hB, hz, q⟩ := h
 cases rx
 obtain ⟨u, rfl, ru⟩ := rv.one
 cases ru
 obtain ⟨z, its, n, r, hl, e⟩ := I.lstM hH
 obtain ⟨z2, its2, n2, r2, hl2, e2⟩ := I.lstM hB
 have hsz : its.toArray.size + its2.toArray.size ≤ sizeLine := by rw [List.size_toArray, List.size_toArray]; omega
 have hlong : ¬ (!its.toArray.isEmpty && Builtin.List.listTooLong (its.toArray.size + its2.toArray.size)) = true := by
  rw [notLongL hsz, Bool.and_false]
  exact Bool.false_ne_true
 refine call_meets F.slot_list_extend ⟨_, e, rfl⟩ F.entry_list_extend (F.args_list_extend_2 _ _)
  (AutoSeq1.list_extend_list_list_0 l its.toArray n b its2.toArray n2 hlong (by rw [List.size_toArray]; omega) (by omega)) ⟨e, e2, ?_⟩
 refine ⟨.non, _, I.lset (its' := its ++ its2) hH e (by simp) (r.append r2) ?_, rfl, q⟩
 rw [List.length_append]
 omega

noncomputable def rPop : V → List V → Hp → VK → Prop := fun x vs H Q => ∃ l xs y, x = .ref l ∧ vs = [] ∧ H l = some (.lst xs) ∧ xs[xs.length - 1]? = some y ∧ Q y (upd H l (.lst xs.dropLast))
theorem mt_pop : MtM X "list.pop" rPop := by
 intro pins s σ H x vs v us Q I rx rv h
 obtain ⟨l, xs, y, rfl, rfl, hH, hy, q⟩ := h
 cases rx
 have hus := rv.zero
 subst hus
 obtain ⟨z, its, n, r, hl, e⟩ := I.lstM hH
 obtain ⟨u, hu, ru⟩ := r.get hy
 have hy' : its.toArray[its.toArray.size - 1]? = some u := by
  show its.toArray[its.length - 1]? = some u
  rw [← Array.getElem?_toList, ← hl]
  exact hu
 refine call_meets F.slot_list_pop ⟨_, e, rfl⟩ F.entry_list_pop (F.args_list_pop_1 _) (MeetsSeq.list_pop_last l its.toArray n u hy' (by rw [List.size_toArray]; omega)) ⟨e, ?_⟩
 refine ⟨y, _, I.lset (its' := its.dropLast) hH e ?_ r.dropLast ?_, ru, q⟩
 ·show its.toArray.eraseIdxIfInBounds (its.toArray.size - 1) = its.dropLast.toArray
  rw [List.size_toArray, List.eraseIdxIfInBounds_toArray, erase_last]
 ·rw [List.length_dropLast]
  omega

/-! ### list + list, list += list, list * int -/
noncomputable def rCat : R2 := fun x y H Q => ∃ l b xs zs, x = .ref l ∧ y = .ref b ∧ H l = some (.lst xs) ∧ H b = some (.lst zs) ∧ xs.length + zs.length ≤ sizeLine ∧ ∀ p, H p = none → Q (.ref p) (upd H p (.lst (xs ++ zs)))
theorem op_cat : OpR X (binaryOp .Add) rCat := by
 intro pins s σ H x y v u Q I rx ry h
 obtain ⟨l, b, xs, zs, rfl, rfl, hH, hB, hz, q⟩ := h
 cases rx
 cases ry
 obtain ⟨z, its, n, r, hl, e⟩ := I.lstM hH
 obtain ⟨z2, its2, n2, r2, hl2, e2⟩ := I.lstM hB
 refine PySem.P.add_list e e2 ?_ (by rw [List.size_toArray, List.size_toArray]; omega)
 have ea : its.toArray ++ its2.toArray = (its ++ its2).toArray := by simp
 rw [ea]
 exact ⟨.ref _, _, I.lnew (t' := s.toks) (r.append r2) (by rw [List.length_append]; omega), rfl, q _ I.fresh⟩
noncomputable def rRep : R2 := fun x y H Q => ∃ l k xs, x = .ref l ∧ y = .int k ∧ H l = some (.lst xs) ∧ -(2 ^ 63) ≤ k ∧ k < 2 ^ 63 ∧ xs.length * k.toNat ≤ sizeLine ∧
 ∀ p, H p = none → Q (.ref p) (upd H p (.lst (List.replicate k.toNat xs).flatten))
theorem len_rep {α : Type} (xs : List α) (k : Nat) : (List.replicate k xs).flatten.length = k * xs.length := by
 induction k with
 | zero => simp
 | succ k ih => rw [List.replicate_succ, List.flatten_cons, List.length_append, ih, Nat.succ_mul, Nat.add_comm]
theorem op_rep : OpR X (binaryOp .Mult) rRep := by
 intro pins s σ H x y v u Q I rx ry h
 obtain ⟨l, k, xs, rfl, rfl, hH, h1, h2, hz, q⟩ := h
 cases rx
 obtain ⟨t, rfl⟩ := ry
 obtain ⟨z, its, n, r, hl, e⟩ := I.lstM hH
 have hlen : its.toArray.size * k.toNat ≤ sizeLine := by rw [List.size_toArray, ← hl]; exact hz
 have hcap : ¬ its.toArray.size * k.toNat > (2 ^ 63 - 1) / 8 := by
  have : (sizeLine : Nat) ≤ (2 ^ 63 - 1) / 8 := by decide
  omega
 have hfit : ¬ (!Builtin.List.listFitsIndex k) = true := by
  rw [fitsIndex_both h1 h2]
  exact Bool.false_ne_true
 have hlong : ¬ Builtin.List.listTooLong (its.toArray.size * k.toNat) = true := by
  rw [notLongL hlen]
  exact Bool.false_ne_true
 have hnew : List.foldl (fun x1 x2 => x1 ++ x2) #[] (List.replicate (if its.toArray.isEmpty = true then 0 else k.toNat) its.toArray) = (List.replicate k.toNat its).flatten.toArray := by
  have f0 : ∀ m : Nat, List.foldl (fun x1 x2 => x1 ++ x2) #[] (List.replicate m its.toArray) = (List.replicate m its).flatten.toArray := fun m => by
   have := foldl_rep its m []
   rw [List.nil_append] at this
   exact this
  rw [f0]
  cases its with
  | nil => simp
  | cons a r' => rw [if_neg (by simp)]
 refine wpAny_binaryOp_repeat_ref (T := "list") (U := "int") (by decide) ⟨_, e, rfl⟩ (fun s' => typeIs_int s' k t) noFill_list_mul F.fills_int_mul F.slot_int_rmul repeat_list F.slot_int_index.lookup
  (call_meets F.slot_int_rmul (typeIs_int s k t) F.entry_int_rmul (F.args_int_rmul_2 _ _) (int___rmul___int_list k t l its.toArray n)
   ⟨e, rfl, ⟨_, e, rfl⟩, call_meets F.slot_list_mul ⟨_, e, rfl⟩ F.entry_list_mul (F.args_list_mul_2 _ _) (AutoListH.list___mul___list_int_3 l its.toArray n k t hfit hcap hlong) ⟨e, ?_⟩⟩)
 rw [hnew]
 exact ⟨.ref _, _, I.lnew (t' := s.toks) (r.rep k.toNat) (by rw [len_rep, Nat.mul_comm]; exact hz), rfl, q _ I.fresh⟩

/-! ### del xs[i] -/
end

/-! ### xs[a:b] = ys -/
section
variable {prog : Program} {w : World} {A : Around} {E : Value → Shared → Prop} {s : Shared}
end

section
variable {X : Cx}
end
end L2

namespace Att
open PySem PySem.W PySem.Calls PyProof.Rows

/-! ### the script -/
theorem ints_of_wellAll {P : Params} {h : Heap} : ∀ (ns : List Int) (vs : List Value), WellAll P h vs (ns.map WData.int) → IntsAre vs ns := by
 intro ns
 induction ns with
 | nil =>
  intro vs w
  rw [List.map_nil] at w
  cases w
  exact .nil
 | cons n ns ih =>
  intro vs w
  rw [List.map_cons] at w
  cases w with
  | cons a b =>
   cases a
   exact .cons _ _ (ih _ b)

theorem script_of {l : OpenLaw} {n : Nat} (hn : l.most = some n) {P : Params} {h : Heap} {args : List WData} {vals : List Value}
  (hpre : l.row.toRowW.claim.pre args = true) (hwl : WellAll P h vals args) :
  ∃ a vs ns, vals = [Value.ref a] ∧ args = [WData.list (ns.map WData.int)] ∧ h.get? a = some { cls := .type "list", data := .seq vs.toArray } ∧ IntsAre vs ns ∧ ns.length ≤ n := by
 have hsh : WShape.hasAll [] args [.list .int] = true := (pre_splitW hpre).1
 have hc : l.pre.holds [] { args := args } = true := (pre_splitW hpre).2
 obtain ⟨d, r, rfl, h1, h2⟩ := hasAllW_cons hsh
 obtain rfl := hasAllW_nil h2
 obtain ⟨xs, rfl, h3⟩ := hasW_list h1
 obtain ⟨ns, rfl⟩ := items_int h3
 have hlen : ns.length ≤ n := by
  unfold OpenLaw.pre at hc
  have h4 : (WTm.not (.lt (.lit (.int (n : Int))) (.len (.arg 0)))).holds [] { args := [.list (ns.map .int)] } = true := by
   have h4 := (holds_andW hc).1
   rw [hn] at h4
   exact h4
  have h5 := condW_of h4 (w_not (w_lt w_lit (w_len_list (w_arg rfl))))
  rw [List.length_map] at h5
  refine Nat.le_of_not_lt fun q => ?_
  have q' : (n : Int) < ((ns.length : Nat) : Int) := by omega
  first
   | (rw [decide_eq_true q'] at h5; exact absurd h5 (by decide))
   | (simp at h5; omega)
 cases hwl with
 | cons w1 w2 =>
  cases w2
  cases w1 with
  | list ho hall => exact ⟨_, _, ns, rfl, rfl, ho, ints_of_wellAll ns _ hall, hlen⟩

theorem post_true (l : OpenLaw) (args : List WData) : l.row.toRowW.claim.post args (.bool true) args = true :=
 postW_of (r := l.row.toRowW) (X := (true == true))
  (show WShape.has [] (.bool true) .bool = true by first | rfl | decide | simp [WShape.has, WShape.arms, WShape.armsAll])
  (show (WTm.eq .res (.lit (.bool true))).value [] { args := args, res := some (.bool true), after := args } = some (.bool (true == true)) from w_eq_bool (w_res rfl) w_lit) rfl

/-! ### the attachment: holds_open's last premise (the goal 'hc' behind k_head) from a wpAny of the law's body -/
theorem attach_call {l : OpenLaw} {n : Nat} {q : Program} {loose : List Str} {XP : (Str → Option Value) → Heap → Prop} {YP : World → Heap → Prop} {d : DefRec}
  (hn : l.most = some n) (hdf : d.params.defaults = [])
  (call : ∀ (w : World) (s₀ s₁ : Shared) (mg mb : Str → Option Value) (fa : Addr) (o : Obj) (pm cd doc : Value) (a : Addr) (vs : List Value) (ns : List Int),
   Ground q loose [] XP w s₀ mg mb s₁.heap → YP w s₁.heap →
   s₁.heap.get? fa = some o → o.data = .func (docDef d.name d.params d.body d.scope pm cd doc) → s₁.heap.CodeRec cd d.name → mg d.name = some (.ref fa) →
   s₁.heap.get? a = some { cls := .type "list", data := .seq vs.toArray } → IntsAre vs ns → ns.length ≤ n → s₁.gens = #[] →
   codeAny (model l.prog w) callerA (.call (.ref fa) ⟨[.ref a], []⟩) (fun r s' => r = .ok (.ret (.bool true)) ∧ OldK s₁.heap s'.heap ∧ s'.os = s₁.os ∧ AllBare s'.gens) s₁) :
  WalkO q loose XP YP l.row.toRowW d [] (fun f vs => PySem.call f vs) := by
 intro w s₀ s₁ mg mb G Y fa o pm cd doc dV kV ho hd hcd hD hmg hg args vals as hpre hlay hrd hwl hlo
 obtain rfl : dV = .none := Dflts.none hD hdf
 obtain rfl : kV = .none := Dflts.noKw hD
 obtain ⟨a, vs, ns, rfl, rfl, hobj, hints, hlen⟩ := script_of hn hpre hwl
 refine enter_call (codeAny_mono (call w s₀ s₁ mg mb fa o pm cd doc a vs ns G Y ho (fd_plain hd) hcd hmg hobj hints hlen hg) fun r s' hq => ?_)
 obtain ⟨rfl, h2, h3, h4⟩ := hq
 exact ⟨.inl ⟨.bool true, .bool true, [], rfl, fun _ => rfl, .bool true, post_true l _, fun _ => ⟨List.Pairwise.nil, fun _ hm => (nomatch hm)⟩⟩, h2, h3, h4⟩

/-! ### rules over ANY heap (no ledger) from facts about the written part K: the library's own take a ledger (News) for what they write -/
section
variable {prog : Program} {w : World} {A : Around} {E : Value → Shared → Prop} {s : Shared} {K : Frag}

/-! the whole heap as the ledger: makes every rule that writes through a ledger a rule over any heap -/
end
end Att

namespace L2
open PySem PySem.Spec PyProof.Rows

theorem vals_ints : ∀ {vs : List Value} {ns : List Int}, IntsAre vs ns → Vals (ns.map V.int) vs
 | _, _, .nil => .nil
 | _, _, .cons n t h => .cons ⟨t, rfl⟩ (vals_ints h)

noncomputable def Only (H : Hp) : Prop := ∀ b, H b = none ∨ ∃ o xs, H b = some (.frz o (.lst xs))

theorem law_call {P : Program} {w : World} {K : PySem.W.Frag} {mg mb : Str → Option Value} {CX : CXT} {k : Nat} {fa a : Addr} {fd : FuncData} {x : Str} {sp : Sp} {s₁ : Shared} {vs : List Value} {ns : List Int}
  (KX : K.In s₁.heap) (hns : s₁.heap.Ns mainGlobals mg) (hb : s₁.heap.Ns builtinsNs mb) (hbb : ∀ x : Str, x ≠ "__name__" → mb x = bootBuiltins x) (hlim : s₁.heap.NoLimit) (hg : s₁.gens = #[])
  (ha : s₁.heap.get? a = some { cls := .type "list", data := .seq vs.toArray }) (hi : IntsAre vs ns) (hl : ns.length ≤ sizeLine) (hr : Room k callerA)
  (F : ∀ base : Heap, K.In base → base.Ns mainGlobals mg → FnOk P w K mg base CX k fa fd [x] sp) (hbind : ∀ (s : Shared) (u : Value), BindsTo s fd ⟨[u], []⟩ [(x, u)])
  (hsp : ∀ H : Hp, Only H → SqL K H a (ns.map V.int) → sp [.ref a] H (fun v _ => v = .bl true) fun _ _ _ => False)
  (hCX : ∀ H e s', CX [] H s₁ (fun _ _ _ => False) e s' → False) :
  codeAny (model P w) callerA (.call (.ref fa) ⟨[.ref a], []⟩) (fun r s' => r = .ok (.ret (.bool true)) ∧ OldK s₁.heap s'.heap ∧ s'.os = s₁.os ∧ AllBare s'.gens) s₁ := by
 have rv := vals_ints hi
 have lenV := hi.length
 -- from an abstract heap in which nothing but the script may be tracked
 have core : ∀ H : Hp, Only H → SqL K H a (ns.map V.int) → HOk P w H s₁.heap → (∀ b, H b ≠ none → b = a) → (H a ≠ none → K.lookup a = none) →
   codeAny (model P w) callerA (.call (.ref fa) ⟨[.ref a], []⟩) (fun r s' => r = .ok (.ret (.bool true)) ∧ OldK s₁.heap s'.heap ∧ s'.os = s₁.os ∧ AllBare s'.gens) s₁ := by
  intro H hO hS hok hA hK
  have base_of : ∀ {b : Addr} {o : Obj}, s₁.heap.get? b = some o → H b = none → (hidT s₁.heap H).get? b = some o := fun e n => hidT_get e n
  have noA : ∀ {b : Addr} {o : Obj} {es : Array DictEntry} {ep : Nat}, s₁.heap.get? b = some o → o.data = .dict es ep → H b = none := fun {b o es ep} e d => by
   cases q : H b with
   | none => rfl
   | some u =>
    have e' : b = a := hA b (by rw [q]; simp)
    subst e'
    rw [ha] at e; cases e
    have d' : Data.seq vs.toArray _ = Data.dict es ep := d
    cases d'
  have nsK : ∀ {b : Addr} {m : Str → Option Value}, s₁.heap.Ns b m → (hidT s₁.heap H).Ns b m := fun {b m} ⟨o, es, ep, e, d, r⟩ => ⟨o, es, ep, base_of e (noA e d), d, r⟩
  have hKb : K.In (hidT s₁.heap H) := fun b o e => base_of (KX b o e) (by
   cases q : H b with
   | none => rfl
   | some u =>
    have e' : b = a := hA b (by rw [q]; simp)
    subst e'
    rw [hK (by rw [q]; simp)] at e; cases e)
  have hM : Mod K mg (hidT s₁.heap H) := ⟨hKb, nsK hns, ⟨mb, nsK hb, hbb⟩, let ⟨mc, h1, h2⟩ := hlim; ⟨mc, nsK h1, h2⟩⟩
  have e0 : Env0 P w K mg (hidT s₁.heap H) callerA [] s₁ H := ⟨rfl, hM, fun b o e => of_hidT e, Nat.le_of_eq (hidT_size _ _), trivial, fun b hb => absurd (show b ∈ ([] : List Addr) from hb) (by simp), hok, .of_eq hg⟩
  refine codeAny_mono ((F _ hKb (nsK hns)).run callerA [] s₁ H ⟨[.ref a], []⟩ [.ref a] [.ref a] _ _ hr e0 (hbind s₁ (.ref a)) (.cons rfl .nil) (hsp H hO hS)) fun r s' h => ?_
  cases r with
  | error e => exact (hCX H e s' h).elim
  | ok fl =>
   cases fl with
   | next => exact False.elim h
   | brk => exact False.elim h
   | cont => exact False.elim h
   | ret u =>
    obtain ⟨v, H', os, bare, un, hok', r', q⟩ := h
    have q' : v = .bl true := q
    subst q'
    obtain rfl : u = Value.bool true := r'
    refine ⟨rfl, OldK.of_keep fun b o e => ?_, os, bare⟩
    cases q : H b with
    | none => exact un.keep b o e q (by intro z; exact absurd (show b ∈ ([] : List Addr) from z) (by simp)) (by simp)
    | some u =>
     rcases hO b with z | ⟨ob, xs, z⟩
     ·rw [q] at z; cases z
     ·have z2 := un.frzs b ob _ z
      obtain ⟨e1, _⟩ := hok b _ z
      obtain ⟨e2, _⟩ := hok' b _ z2
      rw [e] at e1; cases e1
      exact e2
 cases hk : K.lookup a with
 | some o =>
  -- the script is one of the module's own objects
  have e := KX a o hk
  rw [ha] at e
  cases e
  refine core (fun _ => none) (fun _ => .inl rfl) (.inr ⟨_, vs.toArray, _, hk, rfl, rfl, rfl, by rw [List.size_toArray, lenV]; exact hl, by simpa using rv⟩) (fun b u z => by have z' : (none : Option HO) = some u := z; cases z') (fun b z => absurd rfl z) fun z => absurd rfl z
 | none =>
  refine core (fun b => if b = a then some (.frz { cls := .type "list", data := .seq vs.toArray } (.lst (ns.map V.int))) else none) (fun b => ?_) (.inl (.inr ⟨{ cls := .type "list", data := .seq vs.toArray }, if_pos rfl⟩)) (fun b u z => ?_) (fun b z => ?_) fun _ => hk
  ·by_cases hb : b = a
   ·exact .inr ⟨_, _, if_pos hb⟩
   ·exact .inl (if_neg hb)
  ·by_cases hb : b = a
   ·have z' := (if_pos hb).symm.trans z
    cases z'
    subst hb
    exact ⟨ha, by rw [List.length_map]; exact hl, vs, _, rv, ha⟩
   ·have z' := (if_neg hb).symm.trans z
    cases z'
  ·by_cases hb : b = a
   ·exact hb
   ·exact absurd (if_neg hb) z
end L2

namespace L2
open PySem PySem.Spec PyProof.Rows

theorem walk_of {l : PySem.W.OpenLaw} {n k : Nat} {q : Program} {loose : List Str} {XP : (Str → Option Value) → Heap → Prop} {YP : World → Heap → Prop} {d : DefRec} {K : Params → PySem.W.Frag} {CX : World → CXT} {sp : World → Sp} {x : Str}
  (hn : l.most = some n) (hn2 : n ≤ sizeLine) (hdf : d.params.defaults = []) (hr : Room k callerA)
  (hY : ∀ (w : World) (h : Heap), YP w h → (K w.params).In h)
  (F : ∀ (w : World) (mg : Str → Option Value) (fa : Addr) (h : Heap), (K w.params).In h → h.Ns mainGlobals mg → mg d.name = some (.ref fa) →
   ∃ fd : FuncData, (∀ (s : Shared) (u : Value), BindsTo s fd ⟨[u], []⟩ [(x, u)]) ∧
    ∀ base : Heap, (K w.params).In base → base.Ns mainGlobals mg → FnOk l.prog w (K w.params) mg base (CX w) k fa fd [x] (sp w))
  (hsp : ∀ (w : World) (H : Hp) (a : Addr) (ns : List Int), ns.length ≤ n → Only H → SqL (K w.params) H a (ns.map V.int) → sp w [.ref a] H (fun v _ => v = .bl true) fun _ _ _ => False)
  (hCX : ∀ (w : World) (H : Hp) (s : Shared) (e : Value) (s' : Shared), CX w [] H s (fun _ _ _ => False) e s' → False) :
  PySem.W.WalkO q loose XP YP l.row.toRowW d [] (fun f vs => PySem.call f vs) := by
 refine Att.attach_call hn hdf fun w s₀ s₁ mg mb fa o pm cd doc a vs ns G Y ho hd hcd hmg hobj hints hlen hg => ?_
 have KX := hY w _ Y
 obtain ⟨fd, hb, hF⟩ := F w mg fa _ KX G.T.g hmg
 exact law_call KX G.T.g G.T.b G.T.builtins G.T.nolimit hg hobj hints (Nat.le_trans hlen hn2) hr hF hb (fun H hO hS => hsp w H a ns hlen hO hS) fun H e s' => hCX w H s₁ e s'
theorem walk_ofK {l : PySem.W.OpenLaw} {n k : Nat} {q : Program} {loose : List Str} {XP : (Str → Option Value) → Heap → Prop} {YP : World → Heap → Prop} {d : DefRec} {K : Params → PySem.W.Frag} {CX : CXT} {sp : PySem.W.Frag → Sp} {x : Str}
  (hn : l.most = some n) (hn2 : n ≤ sizeLine) (hdf : d.params.defaults = []) (hr : Room k callerA)
  (hY : ∀ (w : World) (h : Heap), YP w h → (K w.params).In h)
  (F : ∀ (w : World) (mg : Str → Option Value) (fa : Addr) (h : Heap), (K w.params).In h → h.Ns mainGlobals mg → mg d.name = some (.ref fa) →
   ∃ fd : FuncData, (∀ (s : Shared) (u : Value), BindsTo s fd ⟨[u], []⟩ [(x, u)]) ∧
    ∀ base : Heap, (K w.params).In base → base.Ns mainGlobals mg → FnOk l.prog w (K w.params) mg base CX k fa fd [x] (sp (K w.params)))
  (hsp : ∀ (K : PySem.W.Frag) (H : Hp) (a : Addr) (ns : List Int), ns.length ≤ n → Only H → SqL K H a (ns.map V.int) → sp K [.ref a] H (fun v _ => v = .bl true) fun _ _ _ => False)
  (hCX : ∀ (H : Hp) (s : Shared) (e : Value) (s' : Shared), CX [] H s (fun _ _ _ => False) e s' → False) :
  PySem.W.WalkO q loose XP YP l.row.toRowW d [] (fun f vs => PySem.call f vs) :=
 walk_of (K := K) (CX := fun _ => CX) (sp := fun w => sp (K w.params)) hn hn2 hdf hr hY F (fun w H a ns h1 h2 h3 => hsp (K w.params) H a ns h1 h2 h3) fun _ H s e s' => hCX H s e s'
end L2

/- THE LAST THEOREM (shape; LID, My.* are yours):
   My.Adr: a structure of the addresses that your layer names (classes, functions); My.Txt K t: a structure (Prop) of the equations over K;
   My.txt_mk : {K} {implicit addresses ..} (e1 : nsIn K mainGlobals "law" = some (some (.ref f))) (e2 : K.lookup f = some ⟨oc, od, .func (fnOf "law" "law" params body scope dV kV doc pm an cdv ct), sl⟩) (e3 : codeIn K cdv "law" = true) .. : ∃ t, My.Txt K t

set_option maxRecDepth 100000 in
set_option maxHeartbeats 0 in
theorem PySem.Challenge.cw_LID_holds : PySem.Challenge.rw_LID.Holds := by
 w_on; o_law; k_head; (case hw => w_witness2)
 k_fill
 refine L2.walk_of (l := PySem.Challenge.rw_LID) (n := 63) (k := 40) (x := "script") (CX := fun w => ..) (sp := fun _ => My.sp_law) rfl (by decide) rfl ⟨rfl, by decide, by decide⟩ (fun w h Y => PySem.W.kIn_of Y) ?F ?S ?C
 case F =>
  intro w mg fa h KX G hmg
  have T : ∃ t, My.Txt (L2.KOf KX) t := by
   dsimp only [L2.KOf]                          -- K must stand as «<heap const> w.params» for k_is
   refine' My.txt_mk ?e1 ?e2 ?e3 ..
   (case e1 => PySem.W.k_is)                    -- in the order: a name -> its address -> its object -> its parts
   (case e2 => PySem.W.k_is)
   ..
  obtain ⟨t, T⟩ := T
  have e0 := hmg.symm.trans (PySem.W.mg_of KX G T.law)
  cases e0                                       -- fa is the law's own address
  exact ⟨_, fun s u => .of_eq rfl, fun base kb nb => My.law_fn T kb nb⟩     -- if «.of_eq rfl» comes too early: refine' ⟨_, ?b, fun base kb nb => My.law_fn T kb nb⟩; exact fun s u => .of_eq rfl
 case S => exact fun w H a ns hl hO hS => ..
 case C => exact ..
(the tactic k_is has no namespace: write k_is) -/

/-! SHORT WORDS over the layer: a def of the text, its body, what a loop and a test want. -/
namespace L2
open PySem PySem.Spec PyProof.Rows

/-! ### the text by places -/
noncomputable def defArgs (s : Stmt) : Arguments := match s with
 | .FunctionDef _ a _ _ _ _ _ _ _ _ => a
 | _ => { posonlyargs := [], args := [], vararg := none, kwonlyargs := [], kw_defaults := [], kwarg := none, defaults := [] }
noncomputable def defBody (s : Stmt) : List Stmt := match s with
 | .FunctionDef _ _ b _ _ _ _ _ _ _ => b
 | _ => []
noncomputable def defScope (s : Stmt) : Scope := match s with
 | .FunctionDef _ _ _ _ _ _ sc _ _ _ => sc
 | _ => { kind := .function, names := [], isGenerator := false, isCoroutine := false }

/-! ### no exception leaves a def -/
noncomputable abbrev CX0 : CXT := fun _ _ _ _ _ _ => False
noncomputable abbrev E0 : XK := fun _ _ _ => False
theorem pass0 {X : Cx} : Passes CX0 X E0 := fun _ _ _ _ _ _ _ h => h.elim

/-! ### a def (or method) of the text as it stands behind the top -/
structure Fun (K : PySem.W.Frag) (x qual : Str) (st : Stmt) (f : Addr) (fd : FuncData) : Prop where
 ex : ∃ (oc : Value) (od : Option Addr) (kV doc pm : Value) (an : Option Addr) (cdv ct : Value) (osl : Array (Option Value)),
  fd = PySem.W.fnOf x qual (defArgs st) (defBody st) (defScope st) .none kV doc pm an cdv ct ∧ K.lookup f = some ⟨oc, od, .func fd, osl⟩ ∧ PySem.W.codeIn K cdv qual = true
 kp : PySem.W.keepIn K (.ref f) = true
section
variable {P : Program} {w : World} {K : PySem.W.Frag} {mg : Str → Option Value} {base : Heap}
theorem Fun.ok {x qual : Str} {st : Stmt} {f : Addr} {fd : FuncData} {N ps : List Str} {k : Nat} {sp : Sp} (F : Fun K x qual st f fd) (S : FnScope N ps (defScope st)) (len : ∀ vs H Q E, sp vs H Q E → vs.length = ps.length)
  (hbody : ∀ (cdv : Value) (A : Around) (outer : List Env) (s : Shared) (H : Hp) (vs : List V) (Q : VK) (E : XK), Room k (A.deeper (envOfC qual (defScope st) s.heap.objs.size f cdv)) → sp vs H Q E →
   ∃ t, PSs (cxOf CX0 P w K mg base N qual (defScope st) f cdv A outer s H E).nox (defBody st) t ∧ t { nx := fun _ H' => Q .non H', rt := Q } (start N vs) H) : FnOk P w K mg base CX0 (k + 1) f fd ps sp := by
 obtain ⟨oc, od, kV, doc, pm, an, cdv, ct, osl, rfl, lk, hcd⟩ := F.ex
 refine fn_of lk hcd S len fun A outer s H vs Q E hr hsp => ?_
 obtain ⟨t, h, q⟩ := hbody cdv A outer s H vs Q E hr hsp
 exact ⟨t, h.nox, q⟩
theorem Fun.binds {x qual : Str} {st : Stmt} {f : Addr} {fd : FuncData} {ps : List Str} (F : Fun K x qual st f fd)
  (h : ∀ (kV doc pm : Value) (an : Option Addr) (cdv ct : Value) (us : List Value), us.length = ps.length → bindArgs (PySem.W.fnOf x qual (defArgs st) (defBody st) (defScope st) .none kV doc pm an cdv ct) ⟨us, []⟩ = pure (ps.zip us)) : Binds K fd ps [] := by
 obtain ⟨oc, od, kV, doc, pm, an, cdv, ct, osl, rfl, lk, hcd⟩ := F.ex
 exact .all (h kV doc pm an cdv ct)
theorem fun_mk {x qual : Str} {st : Stmt} {f : Addr} {oc : Value} {od an : Option Addr} {osl : Array (Option Value)} {kV doc pm cdv ct : Value} (l : K.lookup f = some ⟨oc, od, .func (PySem.W.fnOf x qual (defArgs st) (defBody st) (defScope st) .none kV doc pm an cdv ct), osl⟩)
  (c : PySem.W.codeIn K cdv qual = true) (k : PySem.W.keepIn K (.ref f) = true) : Fun K x qual st f (PySem.W.fnOf x qual (defArgs st) (defBody st) (defScope st) .none kV doc pm an cdv ct) := ⟨⟨oc, od, kV, doc, pm, an, cdv, ct, osl, rfl, l, c⟩, k⟩
end
theorem small1000 {n : Nat} (h : n ≤ 1000) : n < sizeLine := Nat.lt_of_le_of_lt h (by decide)

/-! ### expressions in short: the name that stands in the i-th slot -/
section
variable {X : Cx}
theorem pv (i : Nat) {x : Str} {pos : Pos} (hN : X.N[i]? = some x := by rfl) (hv : Vis X.env.scope x := by first | exact Or.inl rfl | exact Or.inr (Or.inl rfl) | exact Or.inr (Or.inr rfl)) (hd : (x == ("__debug__" : Str)) = false := by decide)
  (hcd : (x == ("__classdict__" : Str)) = false := by decide) : PE X (.Name x pos) (tVar i) := pe_var hN hv hd hcd
end

/-! ### tests -/
theorem iteF {A B : Prop} (h : B) : if false = true then A else B := by
 rw [if_neg Bool.false_ne_true]
 exact h
theorem iteT {A B : Prop} (h : A) : if true = true then A else B := by
 rw [if_pos rfl]
 exact h
theorem ite2 {c A B : Prop} [Decidable c] (h1 : c → A) (h2 : ¬ c → B) : if c then A else B := by
 by_cases h : c
 ·rw [if_pos h]
  exact h1 h
 ·rw [if_neg h]
  exact h2 h
/-! ### heaps -/
noncomputable def Same (H H' : Hp) : Prop := ∀ b o, H b = some o → H' b = some o
theorem Same.refl (H : Hp) : Same H H := fun _ _ h => h
theorem Same.trans {H H1 H2 : Hp} (a : Same H H1) (b : Same H1 H2) : Same H H2 := fun c o h => b c o (a c o h)
theorem Same.free {H H' : Hp} (e : Same H H') {l : Addr} (h : H' l = Option.none) : H l = Option.none := by
 cases q : H l with
 | none => rfl
 | some o =>
  rw [e l o q] at h
  cases h
theorem Same.seq {K : PySem.W.Frag} {H H' : Hp} {a : Addr} {xs : List V} (e : Same H H') (h : SqL K H a xs) : SqL K H' a xs := by
 rcases h with (h | ⟨o, h⟩) | h
 ·exact .inl (.inl (e _ _ h))
 ·exact .inl (.inr ⟨o, e _ _ h⟩)
 ·exact .inr h

/-! ### a dict's pairs: keys that differ -/
section
variable {κ : Type} [DecidableEq κ]
end
end L2

namespace Tc
noncomputable def dv (t b : Int) : Int := if b < 0 then -(Int.gcd t b : Int) else (Int.gcd t b : Int)

theorem fmod_pos {t b : Int} (h : 0 < b) : 0 ≤ t.fmod b ∧ t.fmod b < b := by
 rw [Int.fmod_eq_emod_of_nonneg _ (Int.le_of_lt h)]
 exact ⟨Int.emod_nonneg _ (by omega), Int.emod_lt_of_pos _ h⟩
theorem fmod_neg {t b : Int} (h : b < 0) : b < t.fmod b ∧ t.fmod b ≤ 0 := by
 have e : t.fmod b = -((-t).fmod (-b)) := by
  have h1 := Int.mul_fdiv_add_fmod t b
  have h2 := Int.mul_fdiv_add_fmod (-t) (-b)
  rw [Int.neg_fdiv_neg] at h2
  have h3 : -b * t.fdiv b = -(b * t.fdiv b) := Int.neg_mul _ _
  rw [h3] at h2
  omega
 have p := fmod_pos (t := -t) (b := -b) (by omega)
 omega
theorem gcd_fmod (t b : Int) : Int.gcd b (t.fmod b) = Int.gcd t b := by
 have h1 := Int.mul_fdiv_add_fmod t b
 have e : t.fmod b = t + b * (-(t.fdiv b)) := by
  rw [Int.mul_neg]; omega
 rw [e, Int.gcd_comm, Int.gcd_add_mul_left_left]
structure Dv (t₀ b₀ t b : Int) : Prop where
 g : Int.gcd t b = Int.gcd t₀ b₀
 p : 0 < b₀ → 0 ≤ b ∧ (b = 0 → 0 < t)
 n : b₀ < 0 → b ≤ 0 ∧ (b = 0 → t < 0)
theorem Dv.start {t b : Int} (h : b ≠ 0) : Dv t b t b := ⟨rfl, fun p => ⟨Int.le_of_lt p, fun e => absurd e h⟩, fun p => ⟨Int.le_of_lt p, fun e => absurd e h⟩⟩
theorem Dv.turn {t₀ b₀ t b : Int} (d : Dv t₀ b₀ t b) (h : b ≠ 0) : Dv t₀ b₀ b (t.fmod b) := by
 refine ⟨(gcd_fmod t b).trans d.g, fun p => ?_, fun p => ?_⟩
 ·have q := d.p p
  have r := fmod_pos (t := t) (b := b) (by omega)
  exact ⟨r.1, fun _ => by omega⟩
 ·have q := d.n p
  have r := fmod_neg (t := t) (b := b) (by omega)
  exact ⟨r.2, fun _ => by omega⟩
theorem Dv.less {t b : Int} (h : b ≠ 0) : (t.fmod b).natAbs < b.natAbs := by
 rcases Int.lt_or_gt_of_ne h with q | q
 ·have r := fmod_neg (t := t) q; omega
 ·have r := fmod_pos (t := t) q; omega
theorem Dv.done {t₀ b₀ t b : Int} (d : Dv t₀ b₀ t b) (h : b = 0) (h0 : b₀ ≠ 0) : t = dv t₀ b₀ := by
 subst h
 have g := d.g
 rw [Int.gcd_zero_right] at g
 unfold dv
 rw [← g]
 split
 ·rename_i q; have := (d.n q).2 rfl; omega
 ·have := (d.p (by omega)).2 rfl; omega
end Tc
namespace Tc
theorem dv_pos {t b : Int} (h : 0 < b) : dv t b = (Int.gcd t b : Int) := by unfold dv; rw [if_neg (by omega)]
end Tc
namespace L2
open PySem PySem.Spec PyProof.Rows
/-! ### own rules: large ints, isinstance, steps of a range, calls by a bundled fact -/
theorem bt_isinstance : bootBuiltins "isinstance" = some (.builtin "isinstance") := by decide +kernel
theorem bt_int : bootBuiltins "int" = some (.type "int") := by decide +kernel
theorem bt_bool : bootBuiltins "bool" = some (.type "bool") := by decide +kernel
theorem bt_str : bootBuiltins "str" = some (.type "str") := by decide +kernel
theorem bt_list : bootBuiltins "list" = some (.type "list") := by decide +kernel
theorem bt_tuple : bootBuiltins "tuple" = some (.type "tuple") := by decide +kernel
theorem bt_ValueError : bootBuiltins "ValueError" = some (.type "ValueError") := by decide +kernel
section
variable {X : Cx}
theorem op_mulB : OpR X (binaryOp .Mult) (rI IntMulOk fun i j => .int (i * j)) := opI fun _ _ _ _ _ _ _ hc q => mul_int q hc
noncomputable def CDivB (_ j : Int) : Prop := j ≠ 0 ∧ j.natAbs.log2 < 9000
theorem op_fdivB : OpR X (binaryOp .FloorDiv) (rI CDivB fun i j => .int (i.fdiv j)) := opI fun _ _ _ _ _ _ _ hc q => floordiv_int hc.1 q (.inl (PyProof.noPylong_of_log2 hc.2))
theorem log2_lt {n k : Nat} (h : n < 2 ^ k) (hk : 0 < k) : n.log2 < k := by
 rcases Nat.eq_zero_or_pos n with h0 | hp
 ·subst h0
  have : Nat.log2 0 = 0 := by decide
  omega
 ·exact (Nat.log2_lt (Nat.ne_of_gt hp)).mpr h
theorem mulOk_of {a b : Int} (k : Nat) (ha : a.natAbs < 2 ^ k) (hb : b.natAbs < 2 ^ k) (h : k ≤ 67108864) : IntMulOk a b := by
 have bits : ∀ x : Int, x.natAbs < 2 ^ k → Builtin.Int.intBits x ≤ k := fun x hx => by
  unfold Builtin.Int.intBits
  split
  ·exact Nat.zero_le _
  ·rename_i hx0
   rcases Nat.eq_zero_or_pos k with h0 | hp
   ·subst h0
    have : x = 0 := by
     have : x.natAbs < 1 := hx
     omega
    simp [this] at hx0
   ·have := log2_lt hx hp
    omega
 exact IntMulOk.of_le (bits a ha) (bits b hb) (by omega)
theorem divB_of {i j : Int} (h : j ≠ 0) (hb : j.natAbs < 2 ^ 9000) : CDivB i j := ⟨h, log2_lt hb (by decide)⟩

theorem call_isi : CallR X (.builtin "isinstance") (fun xs H Q => ∃ x n t b, xs = [x, .ty n] ∧ TyOf X.K H x t ∧ PySem.W.kitOne X.K t (.type n) = some b ∧ Q (.bl b) H) := by
 intro pins s σ H xs us Q I r h
 obtain ⟨x, n, t, b, rfl, ty, e, q⟩ := h
 obtain ⟨u, u', rfl, ru, ru'⟩ := vals2 r
 cases ru'
 exact isinst_ok I ru ty e fun tk => ⟨.bl b, H, I.tok tk, rfl, q⟩
/-! ### a range with a step -/
end

/-! ### a def of the top, as a caller wants it -/
structure FnAt (P : Program) (w : World) (K : PySem.W.Frag) (mg : Str → Option Value) (base : Heap) (CX : CXT) (k : Nat) (x : Str) (ps : List Str) (sp : Sp) : Prop where
 ex : ∃ (f : Addr) (fd : FuncData), FnOk P w K mg base CX k f fd ps sp ∧ mg x = some (.ref f) ∧ PySem.W.keepIn K (.ref f) = true ∧ Binds K fd ps []
structure DefAt (K : PySem.W.Frag) (mg : Str → Option Value) (x : Str) (st : Stmt) : Prop where
 ex : ∃ (f : Addr) (fd : FuncData), Fun K x x st f fd ∧ mg x = some (.ref f)
theorem DefAt.mk' {K : PySem.W.Frag} {h : Heap} {mg : Str → Option Value} {x : Str} {st : Stmt} {f : Addr} {oc : Value} {od an : Option Addr} {osl : Array (Option Value)} {kV doc pm cdv ct : Value} (X : K.In h) (G : h.Ns mainGlobals mg)
  (a : PySem.W.nsIn K mainGlobals x = some (some (.ref f))) (l : K.lookup f = some ⟨oc, od, .func (PySem.W.fnOf x x (defArgs st) (defBody st) (defScope st) .none kV doc pm an cdv ct), osl⟩)
  (c : PySem.W.codeIn K cdv x = true) (k : PySem.W.keepIn K (.ref f) = true) : DefAt K mg x st := ⟨f, _, fun_mk (st := st) l c k, PySem.W.mg_of X G a⟩
section
variable {P : Program} {w : World} {K : PySem.W.Frag} {mg : Str → Option Value} {base : Heap}
theorem DefAt.ok {x : Str} {st : Stmt} {N ps : List Str} {k : Nat} {sp : Sp} (D : DefAt K mg x st) (S : FnScope N ps (defScope st)) (len : ∀ vs H Q E, sp vs H Q E → vs.length = ps.length)
  (hb : ∀ (kV doc pm : Value) (an : Option Addr) (cdv ct : Value) (us : List Value), us.length = ps.length → bindArgs (PySem.W.fnOf x x (defArgs st) (defBody st) (defScope st) .none kV doc pm an cdv ct) ⟨us, []⟩ = pure (ps.zip us))
  (hbody : ∀ (f : Addr) (cdv : Value) (A : Around) (outer : List Env) (s : Shared) (H : Hp) (vs : List V) (Q : VK) (E : XK), Room k (A.deeper (envOfC x (defScope st) s.heap.objs.size f cdv)) → sp vs H Q E →
   ∃ t, PSs (cxOf CX0 P w K mg base N x (defScope st) f cdv A outer s H E).nox (defBody st) t ∧ t { nx := fun _ H' => Q .non H', rt := Q } (start N vs) H) : FnAt P w K mg base CX0 (k + 1) x ps sp := by
 obtain ⟨f, fd, F, m⟩ := D.ex
 exact ⟨f, fd, F.ok S len fun cdv A outer s H vs Q E hr h => hbody f cdv A outer s H vs Q E hr h, m, F.kp, F.binds hb⟩
end
section
variable {X : Cx} {CX : CXT} {k j : Nat} {ps : List Str} {sp : Sp} {E : XK} {x : Str} {p pos : Pos} {e : Expr} {es : List Expr} {t : TA}
theorem pe_fn (F : FnAt X.prog X.w X.K X.mg X.base CX j x ps sp) (hr : Room k X.A) (hg : Gl X x) (hx : Passes CX X E) (ha : PA X (e :: es) t) (hj : j ≤ k := by decide)
  (hdb : (x == ("__debug__" : Str)) = false := by decide) (he : starEach (e :: es) X.env = (false, eval e X.env) :: starEach es X.env := by rfl) (hpl : (backTo pos (starEach es X.env)).any (·.1) = false := by rfl) :
  PE X (.Call (.Name x p) (e :: es) [] pos) (tCall sp [] E t) := by
 obtain ⟨f, fd, G, m, kp, b⟩ := F.ex
 exact pe_call G (hr.mono hj) hg m kp b .nil hx ha hdb he hpl
end
end L2
namespace L2
open PySem PySem.Spec PyProof.Rows
/-! ### kinds of values, for isinstance -/
noncomputable def tyH : Option HO → Option String
 | some (.lst _) => some "list"
 | some (.frz _ (.lst _)) => some "list"
 | some (.tup _) => some "tuple"
 | some (.dK _) => some "dict"
 | some (.dT _) => some "dict"
 | _ => none
noncomputable def tyS (H : Hp) : V → Option String
 | .non => some "NoneType"
 | .bl _ => some "bool"
 | .int _ => some "int"
 | .str _ => some "str"
 | .ref a => tyH (H a)
 | _ => none
theorem tyH_cases {o : Option HO} {n : String} (h : tyH o = some n) :
  (n = "list" ∧ ((∃ xs, o = some (.lst xs)) ∨ ∃ ob xs, o = some (.frz ob (.lst xs)))) ∨ (n = "tuple" ∧ ∃ xs, o = some (.tup xs)) ∨ (n = "dict" ∧ ((∃ kvs, o = some (.dK kvs)) ∨ ∃ kvs, o = some (.dT kvs))) := by
 cases o with
 | none => cases h
 | some u =>
  cases u with
  | lst xs => cases h; exact .inl ⟨rfl, .inl ⟨xs, rfl⟩⟩
  | tup xs => cases h; exact .inr (.inl ⟨rfl, xs, rfl⟩)
  | dK kvs => cases h; exact .inr (.inr ⟨rfl, .inl ⟨kvs, rfl⟩⟩)
  | dT kvs => cases h; exact .inr (.inr ⟨rfl, .inr ⟨kvs, rfl⟩⟩)
  | frz ob v =>
   cases v with
   | lst xs => cases h; exact .inl ⟨rfl, .inr ⟨ob, xs, rfl⟩⟩
   | _ => cases h
  | _ => cases h
theorem tyOf_of {K : PySem.W.Frag} {H : Hp} {v : V} {n : String} (h : tyS H v = some n) : TyOf K H v (.type n) := by
 cases v with
 | non => cases h; exact .non
 | bl b => cases h; exact .bl b
 | int i => cases h; exact .int i
 | str x => cases h; exact .str x
 | byt b => cases h
 | flt b => cases h
 | ty b => cases h
 | ref a =>
  rcases tyH_cases (show tyH (H a) = some n from h) with ⟨rfl, ⟨xs, e⟩ | ⟨ob, xs, e⟩⟩ | ⟨rfl, xs, e⟩ | ⟨rfl, ⟨kvs, e⟩ | ⟨kvs, e⟩⟩
  ·exact .lst e
  ·exact .frz e
  ·exact .tup e
  ·exact .dK e
  ·exact .dT e
theorem tyS_mem {H : Hp} {v : V} {n : String} (h : tyS H v = some n) : n ∈ ["NoneType", "bool", "int", "str", "list", "tuple", "dict"] := by
 cases v with
 | ref a => rcases tyH_cases (show tyH (H a) = some n from h) with ⟨rfl, _⟩ | ⟨rfl, _⟩ | ⟨rfl, _⟩ <;> simp
 | _ => first | (cases h; done) | (cases h; simp)
noncomputable def subS (n m : String) : Bool := n == m || (n == "bool" && m == "int")
theorem kit_tt {K : PySem.W.Frag} {n m : String} (hn : n ∈ ["NoneType", "bool", "int", "str", "list", "tuple", "dict"]) (hm : m ∈ ["int", "bool", "str", "list", "tuple", "dict"]) :
  PySem.W.kitOne K (.type n) (.type m) = some (subS n m) := by
 simp only [List.mem_cons, List.not_mem_nil, or_false] at hn hm
 rcases hn with rfl | rfl | rfl | rfl | rfl | rfl | rfl <;> rcases hm with rfl | rfl | rfl | rfl | rfl | rfl <;> first | rfl | (with_unfolding_all rfl) | decide +kernel
theorem Same.upd {H : Hp} {p : Addr} {o : HO} (h : H p = none) : Same H (upd H p o) := fun b u e => by
 rw [upd_ne (ne_of_none e h)]; exact e
theorem tyS_same {H H' : Hp} {v : V} {n : String} (s : Same H H') (h : tyS H v = some n) : tyS H' v = some n := by
 cases v with
 | ref a =>
  have h1 : tyH (H a) = some n := h
  show tyH (H' a) = some n
  cases e : H a with
  | none => rw [e] at h1; cases h1
  | some o => rw [s a o e, ← e]; exact h1
 | _ => exact h
end L2
namespace L2
open PySem PySem.Spec PyProof.Rows
/-! ### exceptions: what lies behind a call that raises -/
section
variable {P : Program} {w : World} {H H' : Hp} {h h' : Heap} {a : Addr} {o : HO}
theorem ObjOk.there (x : ObjOk P w H h a o) : ∃ ob, h.get? a = some ob := by
 cases o with
 | lst xs => obtain ⟨_, _, _, _, e⟩ := x; exact ⟨_, e⟩
 | tup xs => obtain ⟨_, _, _, ob, e, _⟩ := x; exact ⟨ob, e⟩
 | dK kvs => obtain ⟨_, _, _, _, ob, _, _, e, _⟩ := x; exact ⟨ob, e⟩
 | dT kvs => obtain ⟨_, _, _, _, ob, _, _, e, _⟩ := x; exact ⟨ob, e⟩
 | set S n => obtain ⟨ob, _, _, _, e, _⟩ := x; exact ⟨ob, e⟩
 | ins C dx fs => obtain ⟨_, _, _, e, _⟩ := x; exact ⟨_, e⟩
 | own y => obtain ⟨ob, e⟩ := x; exact ⟨ob, e⟩
 | xd fs => obtain ⟨_, ⟨ob, _, _, e, _⟩, _⟩ := x; exact ⟨ob, e⟩
 | rng lo hi => obtain ⟨_, _, _, e⟩ := x; exact ⟨_, e⟩
 | frz ob u => obtain ⟨e, _⟩ := x; exact ⟨_, e⟩
 | tbl ps => exact ⟨_, (show h.get? a = some _ from x)⟩
 | met f y => exact ⟨_, (show h.get? a = some _ from x)⟩
 | ext φ => obtain ⟨_, ⟨ob, e⟩, _⟩ := x; exact ⟨ob, e⟩
theorem HOk.via (x : HOk P w H h) (k : ∀ b u ob, H b = some u → h.get? b = some ob → h'.get? b = some ob) : HOk P w H h' := fun b u e =>
 (x b u e).stay (fun c ob hc q => by
  rcases hc with z | z
  ·subst z; exact k c u ob e q
  ·exact k c _ ob z q) (fun _ q => q) fun _ _ q => q
end
theorem frs_cons {env : Env} {L : Addr} {outer : List Env} (hf : env.frame = some L) : frs (env :: outer) = L :: frs outer := by
 unfold frs; rw [List.filterMap_cons, hf]
structure Kp (P : Program) (w : World) (outer : List Env) (H : Hp) (h : Heap) (H' : Hp) (h' : Heap) (B : Heap) : Prop where
 hok : HOk P w H' h'
 un : Un (frs outer) [] H H' h h'
 old : ∀ b o, h.get? b = some o → H b = none → b ∉ frs outer → B.get? b = some o
 has : ∀ b o, h.get? b = some o → b ∉ frs outer → ∃ o', B.get? b = some o'
 trk : ∀ b u, H' b = some u → ∃ o, h'.get? b = some o ∧ B.get? b = some o
section
variable {X : Cx} {pins : List (Addr × Obj)} {σ : St} {H1 H2 : Hp} {s1 : Shared} {h2 h3 B : Heap} {a : Addr} {C a0 : Value} {vs : List Value}
theorem Kp.raise (I : Inv X pins σ H1 s1) (hx : Heap.MadeExcOf s1.heap h2 a C vs) : Kp X.prog X.w X.stack H1 s1.heap H1 h2 (PySem.W.hideAll s1.heap (frs X.stack)) where
 hok := I.hok.kept hx.keeps
 un := Un.kept hx.keeps
 old := fun b o e _ hb => PySem.W.hideAll_get _ e hb
 has := fun b o e hb => ⟨o, PySem.W.hideAll_get _ e hb⟩
 trk := fun b u e => by
  obtain ⟨o, q⟩ := (I.hok b u e).there
  refine ⟨o, hx.keeps b o q, PySem.W.hideAll_get _ q fun hb => ?_⟩
  rw [I.stkFree b hb] at e; cases e
theorem Kp.slots (I : Inv X pins σ H1 s1) (K : Kp X.prog X.w X.stack H1 s1.heap H2 h2 B) (st : B.StaysIn h3) (sl : h2.UpToSlots h3) : Kp X.prog X.w X.stack H1 s1.heap H2 h3 B := by
 have trk3 : ∀ b u, H2 b = some u → ∃ o, h3.get? b = some o ∧ B.get? b = some o := fun b u e => by
  obtain ⟨o, _, q⟩ := K.trk b u e
  exact ⟨o, st b o q, q⟩
 have fr : ∀ b o, s1.heap.get? b = some o → H1 b = none → b ∈ frs X.stack → ∃ sl, h3.get? b = some { o with slots := sl } := fun b o e n hb => by
  obtain ⟨sl1, e1⟩ := K.un.slot b o e n hb (by simp)
  obtain ⟨_, o', e', d⟩ := I.stack.mem hb
  rw [e] at e'
  cases e'
  obtain ⟨sl2, e2⟩ := sl b _ e1 d
  exact ⟨sl2, e2⟩
 refine ⟨K.hok.via fun b u ob e q => ?_, ⟨fun b o e n hb _ => st b o (K.old b o e n hb), fun b o e n hb _ => fr b o e n hb, K.un.free, fun b o e hx => ?_, K.un.tups, K.un.frzs, K.un.tbls⟩, K.old, K.has, trk3⟩
 ·obtain ⟨o, q1, q2⟩ := K.trk b u e
  rw [q] at q1
  cases q1
  exact st b ob q2
 ·by_cases hb : b ∈ frs X.stack
  ·obtain ⟨sl1, e1⟩ := fr b o e (I.stkFree b hb) hb
   exact ⟨_, e1⟩
  ·obtain ⟨o', e'⟩ := K.has b o e hb
   exact ⟨o', st b o' e'⟩
theorem Kp.leave (I : Inv X pins σ H1 s1) (hex : X.ex = []) (hst : X.stack = X.env :: X.outer) (hf : X.env.frame = some X.env.locals) (K : Kp X.prog X.w X.stack H1 s1.heap H2 h2 B) (st : B.StaysIn h3) (sl : h2.UpToSlots h3) :
  Kp X.prog X.w X.outer X.H₀ X.s₀.heap H2 h3 B := by
 have K3 := K.slots I st sl
 have fe : frs X.stack = X.env.locals :: X.fs := by rw [hst]; exact frs_cons hf
 have nex : ∀ b : Addr, b ∉ X.ex := fun b z => by rw [hex] at z; cases z
 have nin : ∀ b o, X.s₀.heap.get? b = some o → b ∉ X.fs → b ∉ frs X.stack := fun b o e hb z => by
  rw [fe] at z
  rcases List.mem_cons.mp z with z | z
  ·have h1 := Heap.lt_size e
   have h2 := I.ok.above
   rw [z] at h1
   exact absurd (Nat.lt_of_lt_of_le h1 h2) (Nat.lt_irrefl _)
  ·exact hb z
 have old : ∀ b o, X.s₀.heap.get? b = some o → X.H₀ b = none → b ∉ frs X.outer → B.get? b = some o := fun b o e n hb =>
  K.old b o (I.base.keep b o e n hb (nex b)) (I.base.free b o e n (nex b)) (nin b o e hb)
 refine ⟨K3.hok, ⟨fun b o e n hb _ => st b o (old b o e n hb), fun b o e n hb _ => ?_, fun b o e n _ => ?_, fun b o e _ => ?_, fun b xs e => K3.un.tups b xs (I.base.tups b xs e), fun b o u e => K3.un.frzs b o u (I.base.frzs b o u e), fun b ps e => ?_⟩, old, fun b o e hb => ?_, K3.trk⟩
 ·obtain ⟨sl1, e1⟩ := I.base.slot b o e n hb (nex b)
  obtain ⟨sl2, e2⟩ := K3.un.slot b _ e1 (I.base.free b o e n (nex b)) (by rw [fe]; exact List.mem_cons_of_mem _ hb) (by simp)
  exact ⟨sl2, e2⟩
 ·obtain ⟨o1, e1⟩ := I.base.there b o e (nex b)
  exact K3.un.free b o1 e1 (I.base.free b o e n (nex b)) (by simp)
 ·obtain ⟨o1, e1⟩ := I.base.there b o e (nex b)
  exact K3.un.there b o1 e1 (by simp)
 ·obtain ⟨m1, e1⟩ := I.base.tbls b ps e
  obtain ⟨m2, e2⟩ := K3.un.tbls b _ e1
  exact ⟨m1 ++ m2, by rw [e2, Array.append_assoc]⟩
 ·obtain ⟨o1, e1⟩ := I.base.there b o e (nex b)
  exact K.has b o1 e1 (nin b o e hb)
end
noncomputable def CXE (P : Program) (w : World) : CXT := fun outer H s E e s' => ∃ (a : Addr) (C : Value) (H' : Hp) (B : Heap) (a0 : Value),
 e = .ref a ∧ s'.os = s.os ∧ AllBare s'.gens ∧ Kp P w outer H s.heap H' s'.heap B ∧ Heap.FlyingW B outer a C a0 s'.heap ∧ E C none H'
noncomputable def Raises (X : Cx) (E : XK) : Prop := ∀ (C : Value) (pins : List (Addr × Obj)) (σ : St) (H1 : Hp) (s1 : Shared) (h2 : Heap) (a : Addr) (vs : List Value), Inv X pins σ H1 s1 → Heap.MadeExcOf s1.heap h2 a C vs → E C none H1 → X.xe (.ref a) { s1 with heap := h2 }
section
variable {P : Program} {w : World} {K : PySem.W.Frag} {mg : Str → Option Value} {base : Heap} {N : List Str} {qual : Str} {scope : Scope} {f : Addr} {cd : Value} {A : Around} {outer : List Env} {s : Shared} {H : Hp} {E : XK}
theorem raises_cx : Raises (cxOf (CXE P w) P w K mg base N qual scope f cd A outer s H E) E := by
 intro C pins σ H1 s1 h2 a vs I hx q
 have hl := PySem.W.funFrames_hide (as := frs (cxOf (CXE P w) P w K mg base N qual scope f cd A outer s H E).stack) I.stack fun env he b hb => List.mem_filterMap.mpr ⟨env, he, hb⟩
 refine wpAny_leaves_madeW I.ok.frames rfl (fun b o q => PySem.W.of_hideAll _ q) hl hx fun h3 t fl _ _ sl => ?_
 exact ⟨a, C, H1, _, .ref t, rfl, I.os, I.bare, (Kp.raise I hx).leave I rfl rfl rfl fl.1 sl, fl, q⟩
theorem passE : Passes (CXE P w) (cxOf (CXE P w) P w K mg base N qual scope f cd A outer s H E) E := by
 intro pins σ H1 s1 e s2 I hq
 obtain ⟨a, C, H2, B, a0, rfl, os, bare, Kq, fl, q⟩ := hq
 refine wpAny_leaves_onW I.ok.frames rfl fl fun h3 fl3 sl => ?_
 exact ⟨a, C, H2, B, a0, rfl, os.trans I.os, bare, Kq.leave I rfl rfl rfl fl3.1 sl, fl3, q⟩
end
/-! ### raise C(..), C a class of the text under a built-in error, without an __init__ -/
theorem excObj_of {K : PySem.W.Frag} {h : Heap} {C : Addr} {bmB : List Value} {newId : String} (X : K.In h) (q : PySem.W.excIn K C bmB newId = true) :
  ∃ bm N nm qn bs hdct sn sub ab col dd k0 k1 k2 k3 k5 mN, h.get? C = some (excClassObj nm qn C N bs bm hdct sn sub ab col dd k0 k1 k2 k3 k5 newId) ∧ h.Ns N mN ∧ mN "__init__" = none ∧ OwnTail h bmB bm := by
 unfold PySem.W.excIn at q
 split at q
 ·rename_i d1 cd1 sl1 look
  split at q
  ·rename_i C1 bm1 s0 s1 s2 s3 n1 s5 hmro hslots
   simp only [beq_iff_eq, Bool.not_eq_true', Bool.and_eq_true] at q
   obtain ⟨⟨⟨⟨⟨q1, q2⟩, hdel⟩, htl⟩, hns⟩, hini⟩ := q
   subst q1 q2
   obtain ⟨u1, u2, u3, u4, u5, u6, u7, u8, u9, u10, u11⟩ := cd1
   dsimp only at hmro hdel hns hini
   subst hmro hdel
   have es : sl1 = #[s0, s1, s2, s3, some (.builtin n1), s5] := by
    cases sl1 with
    | mk l =>
     have : l = [s0, s1, s2, s3, some (.builtin n1), s5] := hslots
     rw [this]
   subst es
   have at_ := X _ _ look
   refine ⟨bm1, u4, u1, u5, u2, u6, u7, u8, u9, u10, d1, s0, s1, s2, s3, s5, _, at_, .of_isNs (PySem.W.isNs_of_in X hns), ?_, PySem.W.tail_of_in X htl⟩
   exact PySem.W.nsMap_none_of_in X hns hini
  ·cases q
 ·cases q
section
variable {X : Cx} {E : XK} {C : Addr} {B newId initId : String} {bmB : List Value} {x : Str} {np cpos pos : Pos} {e₀ : Expr} {rest : List Expr} {t : TA}
noncomputable def tRaise (C : Addr) (E : XK) (t : TA) : TS := fun _ σ H => t σ H fun vs H1 => vs.length ≤ sizeLine ∧ E (.ref C) none H1
theorem ps_raise (R : Raises X E) (hc : X.calm = true) (hg : Gl X x) (hm : X.mg x = some (.ref C)) (hq : PySem.W.excIn X.K C bmB newId = true) (FB : ExcBaseFacts B newId initId bmB) (ha : PA X (e₀ :: rest) t)
  (he : starEach (e₀ :: rest) X.env = (false, eval e₀ X.env) :: starEach rest X.env := by rfl) (hpl : (backTo cpos (starEach rest X.env)).any (·.1) = false := by rfl) (hd : (x == ("__debug__" : Str)) = false := by decide) :
  PS X (.Raise (some (.Call (.Name x np) (e₀ :: rest) [] cpos)) none pos) (tRaise C E t) := by
 intro pins s σ H D I h
 obtain ⟨tl, N, nm, qn, bs, hdct, sn, sub, ab, col, dd, k0, k1, k2, k3, k5, mN, hC, hN, hni, T⟩ := excObj_of I.mod.kin hq
 refine wpAny_Raise_call_subT (k5 := k5) (k3 := k3) (k2 := k2) (k1 := k1) (k0 := k0) (dd := dd) (col := col) (ab := ab) (sub := sub) (sn := sn) (hdct := hdct) (bm := tl) (bs := bs) (N := N) (q := qn) (nm := nm) (C := C) FB (mN := mN) (T.hasType FB.hasBase) (I.ok.hd hc) ?_ hni (ld_glob I hg hm ⟨rfl, ?_⟩ hd)
 ·rw [he]
  show (false || (backTo cpos (starEach rest X.env)).any (·.1)) = false
  rw [hpl]; rfl
 ·have h1 := ha cpos pins s σ H _ I h
  rw [he] at h1 ⊢
  refine Calls.evalArgs_plain (wpAny_mono h1 (fun us s1 z => ?_) fun _ _ y => y)
  obtain ⟨vs, H1, I1, r, hz, q⟩ := z
  exact ⟨rfl, by rw [← r.length]; exact hz, I1.bk _ _ hC, hN.keeps I1.bk, T.keeps I1.bk, fun h' a hx => R _ pins σ H1 s1 h' a us I1 hx q⟩
end
end L2
namespace L2
open PySem PySem.Spec PyProof.Rows
/-! ### try: .. except C as n: .. -/
section
variable {X : Cx} {pins : List (Addr × Obj)} {σ : St} {H H1 H2 : Hp} {s s1 s2 : Shared} {B : Heap}
theorem Kp.inv (I : Inv X pins σ H1 s1) (K : Kp X.prog X.w X.stack H1 s1.heap H2 s2.heap B) (os : s2.os = s1.os) (bare : AllBare s2.gens) : Inv X pins σ H2 s2 :=
 I.call' os K.un K.hok bare fun b z => absurd z (by simp)
noncomputable abbrev Cx.hand (X : Cx) (a : Addr) : Cx := { X with A := X.A.mark (some (.ref a)), calm := false, xe := fun _ _ => False }
theorem Inv.hand (I : Inv X pins σ H s) (a : Addr) : Inv (X.hand a) pins σ H s :=
 ⟨⟨I.ok.mod, I.ok.kind, I.ok.glob, I.ok.blt, I.ok.above, I.ok.inj, I.ok.has, I.ok.cab, fun z => (Bool.false_ne_true z).elim, I.ok.frames, I.ok.stk, I.ok.exf, I.ok.bs, I.ok.bsz, I.ok.noex, I.ok.exfs, I.ok.funs, I.ok.frf⟩,
  I.os, I.bare, I.base, I.loc, I.cell, I.free, I.freeC, I.pin, I.hok, I.len⟩
theorem Inv.unhand {a : Addr} (ok : X.Ok) (I : Inv (X.hand a) pins σ H s) : Inv X pins σ H s := ⟨ok, I.os, I.bare, I.base, I.loc, I.cell, I.free, I.freeC, I.pin, I.hok, I.len⟩
theorem name_goesI {M : Model} {A : Around} {E : Value → Shared → Prop} {i : Nat} {n : Str} {pos : Pos} {Q : Unit → Shared → Prop} (I : Inv X pins σ H s) (hN : X.N.Nodup) (hi : X.N[i]? = some n) (hk : X.env.scope.names.lookup n = some .local)
  (h : ∀ s', Inv X pins (σ.set i none) H s' → Q () s') : wpAny M A (do bindName X.env n .none; unbindBehindTheSuite X.env n pos) Q E s := by
 obtain ⟨m, hn, hl⟩ := id I.loc
 have hcls : (X.env.scope.kind == .class || (X.env.scope.kind == .module && X.env.locals != X.env.globals)) = false := by rw [I.ok.kind]; rfl
 obtain ⟨oL, _, _, hoL, _⟩ := id hn
 refine wpAny_nameGoes_keeps hk hn hcls fun h' v hn' hs => ?_
 have old : ∀ b o, X.s₀.heap.get? b = some o → b ≠ X.env.locals := fun b o e => Nat.ne_of_lt (Nat.lt_of_lt_of_le (Heap.lt_size e) I.ok.above)
 refine h _ ⟨I.ok, I.os, I.bare, ⟨fun b o e n' hb hx => ?_, fun b o e n' hb hx => ?_, I.base.free, fun b o e hx => ?_, I.base.tups, I.base.frzs, I.base.tbls⟩, ⟨_, hn', fun j y v' e1 e2 e3 => ?_⟩, fun y c e => ?_, I.free, I.freeC, fun p hp => ?_, fun b ob e => ?_, by simpa using I.len⟩
 ·exact (hs.2 b (old b o e)).trans (I.base.keep b o e n' hb hx)
 ·obtain ⟨sl, q⟩ := I.base.slot b o e n' hb hx
  exact ⟨sl, (hs.2 b (old b o e)).trans q⟩
 ·obtain ⟨o', q⟩ := I.base.there b o e hx
  exact ⟨o', (hs.2 b (old b o e)).trans q⟩
 ·have hj : j ≠ i := by
   intro z; subst z
   rw [List.getElem?_set] at e2
   split at e2
   ·split at e2 <;> cases e2
   ·exact absurd rfl (by assumption)
  rw [List.getElem?_set_ne (Ne.symm hj)] at e2
  obtain ⟨u', r', q⟩ := hl j y v' e1 e2 e3
  refine ⟨u', r', ?_⟩
  rcases q with ⟨k, e⟩ | ⟨k, c, e, z⟩
  ·refine .inl ⟨k, ?_⟩
   have hy : y ≠ n := fun e => hj (nodup_ix hN e1 (e ▸ hi))
   simp [hy, e]
  ·exact .inr ⟨k, c, e, z.sameBut hs (I.cne y c e)⟩
 ·obtain ⟨w', z⟩ := I.cell y c e
  exact ⟨w', z.sameBut hs (I.cne y c e)⟩
 ·obtain ⟨e, n', ne, nf, d⟩ := I.pin p hp
  exact ⟨(hs.2 p.1 ne).trans e, n', ne, nf, d⟩
 ·refine (I.hok b ob e).stay (fun c w' hc q => (hs.2 c ?_).trans q) (fun _ q => q) fun _ _ q => q
  rintro rfl
  rcases hc with z | z
  ·rw [← z, I.free] at e; cases e
  ·rw [I.free] at z; cases z
end
noncomputable def excO (a : Addr) (C : Value) : HO := .ext fun h => ∃ oe vs, h.get? a = some oe ∧ oe.cls = C ∧ oe.data = .fields vs
noncomputable def Hd (X : Cx) (hds : List ExceptHandler) (th : Value → TS) : Prop :=
 ∀ (pins : List (Addr × Obj)) (σ : St) (H1 H2 : Hp) (s1 s2 : Shared) (D : Ends) (a : Addr) (C : Value) (B : Heap) (a0 : Value), Inv X pins σ H1 s1 → s2.os = s1.os → AllBare s2.gens → Kp X.prog X.w X.stack H1 s1.heap H2 s2.heap B →
  Heap.FlyingW B X.stack a C a0 s2.heap → th C D σ H2 → wpAny (model X.prog X.w) X.A (handleBy (.ref a) X.env hds) (SP X pins D) X.xe s2
noncomputable def PEX (X : Cx) (e : Expr) (t : St → Hp → VK → XK → Prop) : Prop :=
 ∀ (pins : List (Addr × Obj)) (s : Shared) (σ : St) (H : Hp) (Q : VK) (E : XK), Inv X pins σ H s → t σ H Q E →
  wpAny (model X.prog X.w) X.A (eval e X.env) (EP X pins σ Q) (fun x s' => ∃ s1 H1, Inv X pins σ H1 s1 ∧ CXE X.prog X.w X.stack H1 s1 E x s') s
section
variable {X : Cx} {k j : Nat} {ps : List Str} {sp : Sp} {x : Str} {p pos : Pos} {e : Expr} {es : List Expr} {t : TA}
theorem pex_fn (F : FnAt X.prog X.w X.K X.mg X.base (CXE X.prog X.w) j x ps sp) (hr : Room k X.A) (hg : Gl X x) (ha : PA X.nox (e :: es) t) (hj : j ≤ k := by decide)
  (hdb : (x == ("__debug__" : Str)) = false := by decide) (he : starEach (e :: es) X.env = (false, eval e X.env) :: starEach es X.env := by rfl) (hpl : (backTo pos (starEach es X.env)).any (·.1) = false := by rfl) :
  PEX X (.Call (.Name x p) (e :: es) [] pos) (fun σ H Q E => t σ H fun vs H1 => sp vs H1 Q E) := by
 intro pins s σ H Q E I h
 obtain ⟨f, fd, G, m, kp, b⟩ := F.ex
 refine wpAny_Call_Name_kw (ld_glob I hg m ?_ hdb)
 refine PySem.W.callWith_K (h₀ := X.base) I.ok.mod.kin kp (wpAny_mono (ha pos pins s σ H _ (I.wish _) h) (fun us s1 ⟨vs, H1, I1', r, q⟩ => ⟨I1'.unwish.kIn, ?_⟩) fun _ _ z => z.elim) he hpl
 have I1 := I1'.unwish
 have hl : us.length = ps.length := by rw [← r.length]; exact G.len _ _ _ _ q
 have hb := b s1 us I1.kIn (by rw [List.append_nil]; exact hl)
 rw [List.append_nil] at hb
 refine wpAny_call (codeAny_mono (G.run X.A X.stack s1 H1 ⟨us, []⟩ us vs Q E (hr.mono hj) I1.env0 hb r q) fun r s' hq => ?_)
 cases r with
 | error x => exact ⟨s1, H1, I1, hq⟩
 | ok fl =>
  cases fl with
  | ret u => exact I1.after hq
  | next => exact False.elim hq
  | brk => exact False.elim hq
  | cont => exact False.elim hq
theorem to_hands {hd : ExceptHandler} {hds : List ExceptHandler} {th : Value → TS} {pins : List (Addr × Obj)} {σ : St} {H1 : Hp} {s1 s2 : Shared} {D : Ends} {E : XK} {ex : Value} (hst : X.stack = X.env :: X.outer) (hf : X.env.frame = some X.env.locals)
  (hh : Hd X (hd :: hds) th) (I1 : Inv X pins σ H1 s1) (hx : CXE X.prog X.w X.stack H1 s1 E ex s2) (hE : ∀ C dx H', E C dx H' → th C D σ H') :
  wpAny (model X.prog X.w) X.A (noteFrame ex X.env) (fun _ s₂ => wpAny (model X.prog X.w) X.A (setFlight ex none) (fun _ s₃ => wpAny (model X.prog X.w) X.A (handleBy ex X.env (hd :: hds)) (SP X pins D) X.xe s₃) X.xe s₂) X.xe s2 := by
 obtain ⟨a, C, H2, B, a0, rfl, os, bare, K, fl, q⟩ := hx
 rw [hst] at fl
 refine wpAny_looks_onW (by rw [I1.ok.frames, hst]) hf fl fun h3 held sl3 => ?_
 refine wpAny_landsW held fun h4 fl4 sl4 => ?_
 have st3 : B.StaysIn h3 := held.1
 have K3 := K.slots I1 st3 sl3
 have K4 := K3.slots I1 fl4.1 sl4
 rw [← hst] at fl4
 exact hh pins σ H1 H2 s1 { s2 with heap := h4 } D a C B a0 I1 os bare K4 fl4 (hE _ _ _ q)
end
section
variable {X : Cx} {pins : List (Addr × Obj)} {σ : St} {H : Hp} {s : Shared} {a : Addr} {o : HO}
theorem Inv.track (I : Inv X pins σ H s) (hn : H a = none) (hnew : X.s₀.heap.get? a = none) (hL : a ≠ X.env.locals) (hC : ∀ x c, X.env.cells.lookup x = some c → c ≠ a) (hP : ∀ p ∈ X.pn ++ pins, p.1 ≠ a)
  (ho : ObjOk X.prog X.w (upd H a o) s.heap a o) : Inv X pins σ (upd H a o) s := by
 have ne : ∀ b u, H b = some u → b ≠ a := fun b u e z => by rw [z, hn] at e; cases e
 refine ⟨I.ok, I.os, I.bare, ⟨I.base.keep, I.base.slot, fun b ob e n hx => ?_, I.base.there, fun b xs e => ?_, fun b ob u e => ?_, fun b ps e => ?_⟩, I.loc, I.cell, ?_, fun x c e => ?_, fun p hp => ?_, fun b u e => ?_, I.len⟩
 ·rw [upd_ne (fun z => by rw [z, hnew] at e; cases e)]
  exact I.base.free b ob e n hx
 ·have q := I.base.tups b xs e
  rw [upd_ne (ne b _ q)]; exact q
 ·have q := I.base.frzs b ob u e
  rw [upd_ne (ne b _ q)]; exact q
 ·obtain ⟨m, q⟩ := I.base.tbls b ps e
  exact ⟨m, by rw [upd_ne (ne b _ q)]; exact q⟩
 ·rw [upd_ne (Ne.symm hL)]; exact I.free
 ·rw [upd_ne (hC x c e)]; exact I.freeC x c e
 ·obtain ⟨e1, e2, e3⟩ := I.pin p hp
  exact ⟨e1, by rw [upd_ne (hP p hp)]; exact e2, e3⟩
 ·by_cases z : b = a
  ·subst z; rw [upd_same] at e; cases e; exact ho
  ·rw [upd_ne z] at e
   exact (I.hok b u e).stay (fun _ _ _ q => q) (fun c q => by rw [upd_ne (ne c _ q)]; exact q) fun c xs q => by rw [upd_ne (ne c _ q)]; exact q
end
noncomputable def handEnds (i : Nat) (D : Ends) : Ends where
 nx := fun σ' H' => D.nx (σ'.set i none) H'
 rt := D.rt
 bk := fun σ' H' => D.bk (σ'.set i none) H'
 ct := fun σ' H' => D.ct (σ'.set i none) H'
section
variable {X : Cx} {x n : Str} {C' : Addr} {i : Nat} {np pos : Pos} {b₀ : Stmt} {suite : List Stmt} {rest : List ExceptHandler} {ts : TS} {tr : Value → TS}
noncomputable def hAs (K : PySem.W.Frag) (C' : Addr) (i : Nat) (ts : TS) (tr : Value → TS) : Value → TS := fun C D σ H => ∃ b, PySem.W.exmOne K C (.ref C') = some b ∧
 if b = true then ∀ a, H a = none → ts (handEnds i D) (σ.set i (some (.ref a))) (upd H a (excO a C)) else tr C D σ H
theorem hd_as (hex : X.ex = []) (hN : X.N.Nodup) (hg : Gl X x) (hm : X.mg x = some (.ref C')) (hi : X.N[i]? = some n) (hk : X.env.scope.names.lookup n = some .local) (hs : ∀ a, PSs (X.hand a) (b₀ :: suite) ts) (hr : Hd X rest tr)
  (hd : (x == ("__debug__" : Str)) = false := by decide) : Hd X (.ExceptHandler (some (.Name x np)) (some n) (b₀ :: suite) pos :: rest) (hAs X.K C' i ts tr) := by
 intro pins σ H1 H2 s1 s2 D a C B a0 I1 os bare K fl h
 have I2 := K.inv I1 os bare
 obtain ⟨b, hb, h⟩ := h
 refine wpAny_handleBy_cons (codeAny_handlers_test (ld_glob (X := X.hand a) (I2.hand a) hg hm ?_ hd)) (by intro z; cases z)
 obtain ⟨oe, he, hcls⟩ := fl.there
 have LT : PySem.W.Looks (model X.prog X.w) s2.heap (typeOf (.ref a)) C := hcls ▸ (PySem.W.Looks.ld he).andThen .now
 refine (PySem.W.exm_one I2.kIn LT hb).here ?_
 cases b with
 | false => exact hr pins σ H1 H2 s1 s2 D a C B a0 I1 os bare K fl h
 | true =>
  refine codeAny_handlers_suite_as (lands_againW fl fun h6 fl6 sl6 => ?_)
  have K6 : Kp X.prog X.w X.stack H1 s1.heap H2 ({ s2 with heap := h6 } : Shared).heap B := K.slots I1 fl6.1 sl6
  have I6 := K6.inv I1 os bare
  -- the exception is none of what stood ahead of the call
  have new1 : s1.heap.get? a = none := by
   cases q : s1.heap.get? a with
   | none => rfl
   | some ob =>
    by_cases hb : a ∈ frs X.stack
    ·obtain ⟨_, o', e', d'⟩ := I6.stack.mem hb
     obtain ⟨oe6, vs6, e6, _, d6, _⟩ := fl6.first
     rw [e6] at e'
     cases e'
     exact absurd d6 (d' vs6)
    ·obtain ⟨o', e'⟩ := K.has a ob q hb
     rw [fl.2.1] at e'; cases e'
  have hn : H2 a = none := by
   cases q : H2 a with
   | none => rfl
   | some u =>
    obtain ⟨o', _, e'⟩ := K.trk a u q
    rw [fl.2.1] at e'; cases e'
  have new0 : X.s₀.heap.get? a = none := by
   cases q : X.s₀.heap.get? a with
   | none => rfl
   | some ob =>
    obtain ⟨o', e'⟩ := I1.base.there a ob q (by rw [hex]; simp)
    rw [new1] at e'; cases e'
  have hL : a ≠ X.env.locals := by
   intro z
   obtain ⟨m, ⟨oL, _, _, hoL, _⟩, _⟩ := I1.loc
   rw [← z, new1] at hoL; cases hoL
  have hCe : ∀ y c, X.env.cells.lookup y = some c → c ≠ a := fun y c e z => by
   obtain ⟨v, oc, hoc, _⟩ := I1.cell y c e
   rw [z, new1] at hoc; cases hoc
  have hPe : ∀ p ∈ X.pn ++ pins, p.1 ≠ a := fun p hp z => by
   have q := (I1.pin p hp).1
   rw [z, new1] at q; cases q
  have ho : ObjOk X.prog X.w (upd H2 a (excO a C)) h6 a (excO a C) := by
   obtain ⟨oe6, vs6, e6, c6, d6, _⟩ := fl6.first
   exact ⟨⟨oe6, vs6, e6, c6, d6⟩, ⟨oe6, e6⟩, fun g1 g2 ⟨o1, v1, q1, q2, q3⟩ kk => ⟨o1, v1, kk o1 q1, q2, q3⟩⟩
  have I7 : Inv X pins σ (upd H2 a (excO a C)) { s2 with heap := h6 } := I6.track hn new0 hL hCe hPe ho
  refine store_ok (X := X.hand a) (v := .ref a) (I7.hand a) hN hi (Or.inl hk) rfl (fun s8 I8 => ?_) (Or.inr hk)
  refine wpAny_mono (hs a pins s8 _ _ (handEnds i D) I8 (h a hn)) (fun f s9 q => ?_) fun _ _ z => z.elim
  cases f with
  | next =>
   obtain ⟨σ', H', I', q⟩ := q
   exact name_goesI (I'.unhand I1.ok) hN hi hk fun s10 I10 => ⟨_, _, I10, q⟩
  | brk =>
   obtain ⟨σ', H', I', q⟩ := q
   exact name_goesI (I'.unhand I1.ok) hN hi hk fun s10 I10 => ⟨_, _, I10, q⟩
  | cont =>
   obtain ⟨σ', H', I', q⟩ := q
   exact name_goesI (I'.unhand I1.ok) hN hi hk fun s10 I10 => ⟨_, _, I10, q⟩
  | ret u =>
   obtain ⟨v, σ', H', I', r, q⟩ := q
   exact name_goesI (I'.unhand I1.ok) hN hi hk fun s10 I10 => ⟨v, _, H', I10, r, q⟩
end
end L2
namespace L2
open PySem PySem.Spec PyProof.Rows PySem.W PySem.Builtin PySem.Builtin.ObjectAttr PySem.Builtin.Getset_descriptor
/-! ### isinstance of a caught exception -/
section
variable {prog : Program} {w : World} {A : Around} {E : Value → Shared → Prop}
theorem exc_get {a C : Addr} {tp : Value} {R : Result → Shared → Prop} {hh : Heap} {g : Array GenState} {dr : Drawn} {t : Nat} {os : OsState} (L0 : Looks (model prog w) hh (typeOf (.ref a)) (.ref C)) (L1 : Looks (model prog w) hh (isSubtype (.ref C) (.type "object")) true)
  (h : R (.ok (.ret (.ref C))) ⟨hh, g, dr, t, os⟩) : codeAny (model prog w) A (.call (.builtin "getset_descriptor.__get__") ⟨[.builtin "object.__class__", .ref a, tp], []⟩) R ⟨hh, g, dr, t, os⟩ := by
 have chk := KF.args_gs (.builtin "object.__class__") (.ref a) tp
 refine codeAny_call_builtin KF.slot_gs.plain KF.entry_gs ?_
 refine KF.slot_gs.check _ _ _ _ _ _ _ _ KF.type_class chk ?_
 unfold Builtin.«getset_descriptor.__get__» descrGet
 rw [dga_obj]
 refine wpAny_bind (wpAny_pure ?_)
 unfold descrGetter
 unfold descrCheckInstance descrNameAndClass isInstance
 simp only [KF.owner_class]
 repeat lk
 refine ⟨Code.quiet_builtin _ (by decide +kernel), ?_⟩
 refine codeAny_builtin KF.entry_class ?_
 unfold Builtin.«object.__class__»
 unfold shownTypeOf
 repeat lk
 exact h
theorem exc_ga {a C : Addr} {tk : Tok} {R : Result → Shared → Prop} {hh : Heap} {g : Array GenState} {dr : Drawn} {t : Nat} {os : OsState} {oe : Obj} (he : hh.get? a = some oe) (hc : oe.cls = .ref C) (L0 : Looks (model prog w) hh (typeOf (.ref a)) (.ref C))
  (L3 : Looks (model prog w) hh (typeLookup (.ref C) "__class__") (some (.builtin "object.__class__"))) (LB : Looks (model prog w) hh (isSubtype (.ref C) (.type "BaseException")) true)
  (LO : Looks (model prog w) hh (isSubtype (.ref C) (.type "object")) true) (h : R (.ok (.ret (.ref C))) ⟨hh, g, dr, t, os⟩) :
  codeAny (model prog w) A (.call (.builtin "BaseException.__getattribute__") ⟨[.ref a, .str "__class__" tk], []⟩) R ⟨hh, g, dr, t, os⟩ := by
 refine codeAny_call_builtin PySem.F.attr_ValueError.ga.plain PySem.F.entry_bexc_ga ?_
 have k1 : builtinKind "BaseException.__getattribute__" = some .slot := by decide +kernel
 have k2 : splitId "BaseException.__getattribute__" = some ("BaseException", "__getattribute__") := by decide +kernel
 have ha := PySem.F.args_bexc_ga (.ref a) (.str "__class__" tk)
 have f5 := PySem.F.typeOf_object_class
 have f6 := PySem.F.slot_gs_get.lookup
 have f7 := PySem.F.slot_gs_set.lookup
 simp only [checkBuiltinCall, k1, k2]
 refine wpAny_bind ?_
 unfold isInstance
 repeat (first | (with_reducible refine wpAny_loadPart_at he ?_; rw [hc]) | (with_reducible refine LB.at ?_) | wp_step)
 repeat (any_goals (first | assumption | (with_reducible refine wpAny_loadPart_at he ?_; rw [hc]) | (with_reducible refine L3.at ?_) | wp_step))
 refine exc_get L0 LO ?_
 repeat (any_goals (first | assumption | wp_step))
theorem exc_class {K : Frag} {a C : Addr} {s : Shared} {oe : Obj} {Q : Option Value → Shared → Prop} (X : K.In s.heap) (he : s.heap.get? a = some oe) (hc : oe.cls = .ref C)
  (hga : findIn K (.ref C) "__getattribute__" = some (some (.builtin "BaseException.__getattribute__"))) (hg2 : findIn K (.ref C) "__getattr__" = some none)
  (hcl : findIn K (.ref C) "__class__" = some (some (.builtin "object.__class__"))) (hmB : mroIn K C (.type "BaseException") = some true) (hmO : mroIn K C (.type "object") = some true)
  (h : Q (some (.ref C)) { s with toks := s.toks + 1 }) : wpAny (model prog w) A (getAttr? (.ref a) "__class__") Q E s := by
 obtain ⟨hh, g, d, t, os⟩ := s
 have L0 : Looks (model prog w) hh (typeOf (.ref a)) (.ref C) := hc ▸ (Looks.ld he).andThen .now
 have L1 : Looks (model prog w) hh (typeLookup (.ref C) "__getattribute__") (some (.builtin "BaseException.__getattribute__")) := looks_findIn X hga
 have L2 : Looks (model prog w) hh (typeLookup (.ref C) "__getattr__") none := looks_findIn X hg2
 have L3 : Looks (model prog w) hh (typeLookup (.ref C) "__class__") (some (.builtin "object.__class__")) := looks_findIn X hcl
 have LB : Looks (model prog w) hh (isSubtype (.ref C) (.type "BaseException")) true := looks_mroIn X hmB
 have LO : Looks (model prog w) hh (isSubtype (.ref C) (.type "object")) true := looks_mroIn X hmO
 have f3 := PySem.F.attr_ValueError.ga.bind (.ref a)
 unfold getAttr? getAttrBy? getAttrBy
 refine wpAny_bind (wpAny_mkText (wpAny_bind (wpAny_attempt (wpAny_holding (wpAny_bind (L0.at (wpAny_bind (L1.at ?_))))))))
 have hx2 : (Value.builtin "BaseException.__getattribute__" == Value.builtin "object.__getattribute__") = false := by decide +kernel
 dsimp only
 rw [hx2, Bool.and_false, if_neg Bool.false_ne_true]
 unfold getAttrByItsOwn
 repeat (any_goals (first | assumption | wp_step | (with_reducible refine L2.at ?_) | (with_reducible refine L0.at ?_)))
 refine exc_ga he hc L0 L3 LB LO ?_
 repeat (any_goals (first | assumption | wp_step))
structure ExcK (K : Frag) (C : Addr) : Prop where
 ga : findIn K (.ref C) "__getattribute__" = some (some (.builtin "BaseException.__getattribute__"))
 g2 : findIn K (.ref C) "__getattr__" = some none
 cl : findIn K (.ref C) "__class__" = some (some (.builtin "object.__class__"))
 mB : mroIn K C (.type "BaseException") = some true
 mO : mroIn K C (.type "object") = some true
theorem ExcK.cls {K : Frag} {C : Addr} (k : ExcK K C) : ∃ c d cd sl, K.lookup C = some ⟨c, d, .cls cd, sl⟩ := by
 have h := k.mO
 unfold mroIn clsIn at h
 split at h
 ·rename_i c d cd sl e; exact ⟨c, d, cd, sl, e⟩
 ·cases h
theorem kitx_exc {K : Frag} {a C : Addr} (k : ExcK K C) : KitX K (.ref a) (.ref C) (fun h => ∃ oe vs, h.get? a = some oe ∧ oe.cls = .ref C ∧ oe.data = .fields vs) where
 ty := fun _ _ _ ⟨oe, _, e, c, _⟩ => c ▸ (Looks.ld e).andThen .now
 it := fun _ _ X _ => by
  obtain ⟨c, d, cd, sl, e⟩ := k.cls
  intro A' Q' E' s' kk q
  unfold isType loadHead
  refine wpAny_bind (wpAny_loadPart (kk _ _ (X _ _ e)) ?_)
  exact wpAny_pure q
 ne := fun h tp dd its n sl X htp => by
  obtain ⟨c, d, cd, sl', e⟩ := k.cls
  cases q : (Value.ref C == Value.ref tp) with
  | false => rfl
  | true =>
   have z : C = tp := Value.ref.inj (beq_iff_eq.mp q)
   subst z
   have z2 := (X _ _ e).symm.trans htp
   cases z2
 ca := fun X ⟨oe, vs, e, c, _⟩ q => exc_class X e c k.ga k.g2 k.cl k.mB k.mO q
end
section
variable {X : Cx}
theorem refs_of : ∀ {Ds : List Addr} {its : List Value}, Vals (Ds.map V.ref) its → its = Ds.map Value.ref
 | [], _, .nil => rfl
 | D :: Ds, _, .cons z zs => by cases z; rw [List.map_cons, refs_of zs]
theorem call_isiE : CallR X (.builtin "isinstance") (fun xs H Q => ∃ a C c b, xs = [.ref a, c] ∧ H a = some (excO a (.ref C)) ∧ ExcK X.K C ∧
  ((∃ n, c = .ty n ∧ kitOne X.K (.ref C) (.type n) = some b) ∨ (∃ D, c = .ref D ∧ kitOne X.K (.ref C) (.ref D) = some b) ∨ (∃ (p : Addr) (Ds : List Addr), c = .ref p ∧ H p = some (.tup (Ds.map V.ref)) ∧ kitAny X.K (.ref C) (Ds.map Value.ref) = some b)) ∧ Q (.bl b) H) := by
 intro pins s σ H xs us Q I r h
 obtain ⟨a, C, c, b, rfl, hH, hk, hc, q⟩ := h
 obtain ⟨u, u', rfl, ru, ru'⟩ := vals2 r
 cases ru
 have ho := I.hok a _ hH
 unfold excO at ho
 obtain ⟨hφ, _, _⟩ := ho
 have fin : ∀ tk, EP X pins σ Q (.bool b) { s with toks := tk } := fun tk => ⟨.bl b, H, I.tok tk, rfl, q⟩
 rcases hc with ⟨n, rfl, e⟩ | ⟨D, rfl, e⟩ | ⟨p, Ds, rfl, hp, e⟩
 ·cases ru'
  exact kia_one (kitx_exc hk) I.kIn hφ e (fun z => nomatch z) fin
 ·cases ru'
  exact kia_one (kitx_exc hk) I.kIn hφ e (fun z => nomatch z) fin
 ·cases ru'
  obtain ⟨hz0, its, rv, ob, e1, e2, n, e3⟩ := (show ObjOk X.prog X.w H s.heap p (.tup (Ds.map V.ref)) from I.hok p _ hp)
  have ei : its = Ds.map Value.ref := refs_of rv
  subst ei
  obtain ⟨oc, od, oda, osl⟩ := ob
  dsimp only at e2 e3
  subst e2 e3
  exact kia_tup (kitx_exc hk) I.kIn hφ e1 e (fun z => nomatch z) fin
end
end L2
namespace L2
open PySem PySem.Spec PyProof.Rows
/-! ### a list comprehension of one for, with at most one if: its block is a context of its own within the def's -/
noncomputable def closOf (cells : List (Str × Addr)) : List (Str × NameKind) → List (Str × Addr) → List (Str × Addr)
 | [], cs => cs
 | x :: r, cs => closOf cells r (if x.2 == .free then (match cells.lookup x.1 with | some a => (x.1, a) :: cs | none => cs) else cs)
theorem closureFor_eq {scope : Scope} {env : Env} (h : ∀ x ∈ scope.names, x.2 = .free → ∃ a, env.cells.lookup x.1 = some a) : closureFor scope env = pure (closOf env.cells scope.names []) := by
 have aux : ∀ (names : List (Str × NameKind)) (cs : List (Str × Addr)), (∀ x ∈ names, x.2 = .free → ∃ a, env.cells.lookup x.1 = some a) →
   (forIn (m := Sem) names cs fun x r => do
    if (x.2 == NameKind.free) = true then do
     let a ← cellOf env x.1
     pure (ForInStep.yield ((x.1, a) :: r))
    else pure (ForInStep.yield r)) = pure (closOf env.cells names cs) := by
  intro names
  induction names with
  | nil => intro cs _; rfl
  | cons x r ih =>
   intro cs hx
   rw [List.forIn_cons]
   cases hk : (x.2 == NameKind.free) with
   | false =>
    simp only [Bool.false_eq_true, if_false, pure_bind]
    rw [ih cs fun y hy => hx y (List.mem_cons_of_mem _ hy)]
    show _ = pure (closOf env.cells r (if x.2 == .free then _ else cs))
    rw [hk]; rfl
   | true =>
    obtain ⟨a, ha⟩ := hx x List.mem_cons_self (by simpa using hk)
    have e : cellOf env x.1 = pure a := by unfold cellOf; rw [ha]
    simp only [if_true, e, pure_bind]
    rw [ih _ fun y hy => hx y (List.mem_cons_of_mem _ hy)]
    show _ = pure (closOf env.cells r (if x.2 == .free then (match env.cells.lookup x.1 with | some a => (x.1, a) :: cs | none => cs) else cs))
    rw [hk, ha]; rfl
 have h1 := aux scope.names [] h
 unfold closureFor
 simp only [bind_pure]
 exact h1
theorem closOf_sub {cells : List (Str × Addr)} : ∀ {names : List (Str × NameKind)} {cs : List (Str × Addr)}, (∀ p ∈ cs, cells.lookup p.1 = some p.2) → ∀ p ∈ closOf cells names cs, cells.lookup p.1 = some p.2
 | [], _, h => h
 | x :: r, cs, h => closOf_sub (names := r) fun p hp => by
  split at hp
  ·split at hp
   ·rename_i a ha
    rcases List.mem_cons.mp hp with rfl | hp
    ·exact ha
    ·exact h p hp
   ·exact h p hp
  ·exact h p hp
theorem closOf_mono {cells : List (Str × Addr)} : ∀ {names : List (Str × NameKind)} {cs : List (Str × Addr)} {p : Str × Addr}, p ∈ cs → p ∈ closOf cells names cs
 | [], _, _, h => h
 | x :: r, cs, p, h => closOf_mono (names := r) (by
  split
  ·split
   ·exact List.mem_cons_of_mem _ h
   ·exact h
  ·exact h)
theorem closOf_has {cells : List (Str × Addr)} {x : Str} {a : Addr} (ha : cells.lookup x = some a) : ∀ {names : List (Str × NameKind)} {cs : List (Str × Addr)}, (x, NameKind.free) ∈ names → (x, a) ∈ closOf cells names cs
 | y :: r, cs, h => by
  rcases List.mem_cons.mp h with rfl | h
  ·refine closOf_mono (names := r) ?_
   simp [ha]
  ·exact closOf_has ha (names := r) h
theorem lookup_mem {α : Type} {x : Str} {v : α} : ∀ {l : List (Str × α)}, l.lookup x = some v → (x, v) ∈ l
 | [], h => by simp at h
 | (y, u) :: r, h => by
  rw [List.lookup_cons] at h
  cases e : x == y with
  | true => rw [e] at h; cases h; rw [beq_iff_eq.mp e]; exact List.mem_cons_self
  | false => rw [e] at h; exact List.mem_cons_of_mem _ (lookup_mem h)
theorem mem_lookup {α : Type} {x : Str} {v : α} : ∀ {l : List (Str × α)}, (x, v) ∈ l → ∃ u, l.lookup x = some u
 | (y, u) :: r, h => by
  rw [List.lookup_cons]
  cases e : x == y with
  | true => exact ⟨u, rfl⟩
  | false =>
   rcases List.mem_cons.mp h with z | z
   ·cases z; simp at e
   ·exact mem_lookup z
noncomputable def compOk (osc scope : Scope) (N Tn Fn : List Str) (js : List Nat) : Bool :=
 (scope.kind == .function) && (osc.kind == .function) && (scope.names.all fun y => match y.2 with
  | .cell => false
  | .local => scope.names.lookup y.1 == some .local
  | .free => osc.names.lookup y.1 == some .cell && scope.names.lookup y.1 == some .free
  | _ => true) && (js.map (fun j => N[j]?) == Fn.map some) && (Fn.all fun x => scope.names.lookup x == some .free) && (Tn.all fun x => scope.names.lookup x == some .local) && decide (Tn ++ Fn).Nodup
structure CompScope (osc scope : Scope) (N Tn Fn : List Str) (js : List Nat) : Prop where
 kind : scope.kind = .function
 okind : osc.kind = .function
 nocell : ∀ y ∈ scope.names, y.2 ≠ .cell
 loc : ∀ y ∈ scope.names, y.2 = .local → scope.names.lookup y.1 = some .local
 fre : ∀ y ∈ scope.names, y.2 = .free → osc.names.lookup y.1 = some .cell
 idx : js.map (fun j => N[j]?) = Fn.map some
 fn : ∀ x ∈ Fn, scope.names.lookup x = some .free
 tn : ∀ x ∈ Tn, scope.names.lookup x = some .local
 nd : (Tn ++ Fn).Nodup
theorem CompScope.of {osc scope : Scope} {N Tn Fn : List Str} {js : List Nat} (h : compOk osc scope N Tn Fn js = true) : CompScope osc scope N Tn Fn js := by
 unfold compOk at h
 simp only [Bool.and_eq_true, beq_iff_eq, decide_eq_true_eq, List.all_eq_true] at h
 obtain ⟨⟨⟨⟨⟨⟨h1, h1'⟩, h2⟩, h3⟩, h4⟩, h5⟩, h6⟩ := h
 refine ⟨h1, h1', fun y hy e => ?_, fun y hy e => ?_, fun y hy e => ?_, h3, h4, h5, h6⟩
 ·have := h2 y hy; rw [e] at this; cases this
 ·have := h2 y hy; rw [e] at this; simpa using this
 ·have := h2 y hy; rw [e] at this; simp only [Bool.and_eq_true, beq_iff_eq] at this; exact this.1
noncomputable def cxIn (X : Cx) (N : List Str) (scope : Scope) (cl : List (Str × Addr)) (C : Addr) (s : Shared) (H : Hp) (fp : List Addr) : Cx :=
 { X with N := N, s₀ := s, H₀ := H, env := compEnvC scope cl C X.env, outer := X.stack, ex := fp, fn := fun _ => false, pn := [], xe := fun _ _ => False }
noncomputable def innS (k : Nat) (js : List Nat) (σ : St) : St := List.replicate k none ++ js.map fun j => (σ[j]?).join
theorem lookup_relabel {env : Env} (hk : env.scope.kind = .function) : ∀ {names : List (Str × NameKind)} {x : Str} {k : NameKind}, (∀ y ∈ names, y.2 = .free → env.kindOf y.1 = some .cell) → names.lookup x = some k →
  (names.map fun (n, k) => if (k == NameKind.free && env.scope.kind == .function && env.kindOf n == some .cell) then (n, NameKind.cell) else (n, k)).lookup x = some (if k = .free then .cell else k)
 | [], _, _, _, h => by simp at h
 | (n, k') :: r, x, k, hf, h => by
  have ih := @lookup_relabel env hk r x k fun y hy => hf y (List.mem_cons_of_mem _ hy)
  have h0 := hf (n, k') List.mem_cons_self
  rw [List.map_cons]
  show List.lookup x ((if (k' == NameKind.free && env.scope.kind == .function && env.kindOf n == some .cell) = true then (n, NameKind.cell) else (n, k')) :: _) = _
  rw [List.lookup_cons] at h
  by_cases hk' : k' = .free
  ·subst hk'
   have e : (NameKind.free == NameKind.free && env.scope.kind == .function && env.kindOf n == some .cell) = true := by rw [h0 rfl, hk]; decide
   rw [if_pos e, List.lookup_cons]
   cases hx : x == n with
   | true => rw [hx] at h; cases h; rfl
   | false => rw [hx] at h; exact ih h
  ·have e : ¬ (k' == NameKind.free && env.scope.kind == .function && env.kindOf n == some .cell) = true := by
    intro z; simp only [Bool.and_eq_true, beq_iff_eq] at z; exact hk' z.1.1
   rw [if_neg e, List.lookup_cons]
   cases hx : x == n with
   | true => rw [hx] at h; cases h; simp [hk']
   | false => rw [hx] at h; exact ih h
theorem relabel_of {env : Env} : ∀ {names : List (Str × NameKind)} {x : Str} {k : NameKind}, (names.map fun (n, k) => if (k == NameKind.free && env.scope.kind == .function && env.kindOf n == some .cell) then (n, NameKind.cell) else (n, k)).lookup x = some k →
  ∃ k', (x, k') ∈ names ∧ (k' = k ∨ (k' = .free ∧ k = .cell))
 | [], _, _, h => by simp at h
 | (n, k') :: r, x, k, h => by
  have ih := @relabel_of env r x k
  rw [List.map_cons] at h
  have h : List.lookup x ((if (k' == NameKind.free && env.scope.kind == .function && env.kindOf n == some .cell) = true then (n, NameKind.cell) else (n, k')) :: _) = some k := h
  by_cases e : (k' == NameKind.free && env.scope.kind == .function && env.kindOf n == some .cell) = true
  ·rw [if_pos e, List.lookup_cons] at h
   cases hx : x == n with
   | true =>
    rw [hx] at h; cases h
    simp only [Bool.and_eq_true, beq_iff_eq] at e
    refine ⟨.free, ?_, .inr ⟨rfl, rfl⟩⟩
    rw [beq_iff_eq.mp hx, ← e.1.1]; exact List.mem_cons_self
   | false => rw [hx] at h; obtain ⟨q, m, z⟩ := ih h; exact ⟨q, List.mem_cons_of_mem _ m, z⟩
  ·rw [if_neg e, List.lookup_cons] at h
   cases hx : x == n with
   | true => rw [hx] at h; cases h; refine ⟨k', ?_, .inl rfl⟩; rw [beq_iff_eq.mp hx]; exact List.mem_cons_self
   | false => rw [hx] at h; obtain ⟨q, m, z⟩ := ih h; exact ⟨q, List.mem_cons_of_mem _ m, z⟩
section
variable {X : Cx} {pins : List (Addr × Obj)} {σ : St} {H : Hp} {s : Shared} {scope : Scope} {Tn Fn : List Str} {js : List Nat} {fp : List Addr}
theorem inv_in {C : Addr} {h1 : Heap} {tk : Nat} {mC : Str → Option Value} (cs : CompScope X.env.scope scope X.N Tn Fn js) (I : Inv X pins σ H s) (hC : C = s.heap.objs.size) (hn : h1.Ns C mC) (k1 : ∀ b o, s.heap.get? b = some o → h1.get? b = some o)
  (hf : ∀ b ∈ fp, FpOk X pins H b) (ho : ∀ b ∈ fp, ∃ o, s.heap.get? b = some o) :
  Inv (cxIn X (Tn ++ Fn) scope (closOf X.env.cells scope.names []) C s H fp) (X.pn ++ pins) (innS Tn.length js σ) H { s with heap := h1, toks := tk } := by
 have hcl : ∀ x c, (closOf X.env.cells scope.names []).lookup x = some c → X.env.cells.lookup x = some c := fun x c e => closOf_sub (names := scope.names) (cs := []) (fun _ z => nomatch z) _ (lookup_mem e)
 have hlen : (js.map fun j => X.N[j]?).length = (Fn.map some).length := congrArg List.length cs.idx
 rw [List.length_map, List.length_map] at hlen
 have hfr : ∀ y ∈ scope.names, y.2 = .free → X.env.kindOf y.1 = some .cell := cs.fre
 subst hC
 refine ⟨⟨I.ok.mod, cs.kind, I.ok.glob, I.ok.blt, Nat.le_refl _, fun x y c e1 e2 => I.ok.inj x y c (hcl x c e1) (hcl y c e2), fun x hx => ?_, fun x c z => absurd z Bool.false_ne_true, I.ok.hd, I.ok.frames, .inl rfl, fun b hb => ⟨?_, fun x c e => (hf b hb).2.2.2.2.1 x c (hcl x c e)⟩, I.bs,
  Nat.le_trans I.ok.bsz I.sz, fun b o e hb => ?_, fun b hb z => ?_, I.stack, I.stkFree⟩, rfl, I.bare, Un.kept k1, ⟨mC, hn, fun i x v e1 e2 e3 => ?_⟩, fun x c e => ?_, I.fresh, fun x c e => I.freeC x c (hcl x c e), fun p hp => ?_, I.hok.kept k1, ?_⟩
 ·-- has
  have hx : (relabel scope X.env).names.lookup x = some .cell ∨ (relabel scope X.env).names.lookup x = some .free := hx
  have key : (x, NameKind.free) ∈ scope.names := by
   rcases hx with hx | hx
   ·obtain ⟨k', m, z⟩ := relabel_of hx
    rcases z with z | ⟨z, _⟩
    ·subst z; exact absurd rfl (cs.nocell _ m)
    ·subst z; exact m
   ·obtain ⟨k', m, z⟩ := relabel_of hx
    rcases z with z | ⟨_, z⟩
    ·subst z; exact m
    ·cases z
  obtain ⟨a, ha⟩ := I.ok.has x (.inl (hfr _ key rfl))
  exact mem_lookup (closOf_has ha key)
 ·obtain ⟨o, e⟩ := ho b hb
  exact Nat.ne_of_lt (Heap.lt_size e)
 ·rcases (hf b hb).2.2.2.1 with z | z
  ·exact I.ok.noex b o e z
  ·exact absurd (Nat.lt_of_lt_of_le (Heap.lt_size (I.ok.bs b o e).1) z) (Nat.lt_irrefl _)
 ·rcases List.mem_cons.mp (I.stkSub b z) with q | q
  ·exact (hf b hb).2.1 q
  ·exact (hf b hb).2.2.1 q
 ·-- names
  have e1 : (Tn ++ Fn)[i]? = some x := e1
  have e2 : (List.replicate Tn.length none ++ js.map fun j => (σ[j]?).join)[i]? = some (some v) := e2
  by_cases hi : i < Tn.length
  ·rw [List.getElem?_append_left (by simpa using hi), List.getElem?_replicate] at e2
   split at e2 <;> cases e2
  ·rw [List.getElem?_append_right (by simpa using hi)] at e2
   rw [List.getElem?_append_right (by simpa using hi)] at e1
   rw [List.length_replicate, List.getElem?_map] at e2
   cases ej : js[i - Tn.length]? with
   | none => rw [ej] at e2; cases e2
   | some j =>
    rw [ej] at e2
    have e2 : (σ[j]?).join = some v := by simpa using e2
    have e2' : σ[j]? = some (some v) := by
     cases q : σ[j]? with
     | none => rw [q] at e2; cases e2
     | some o => rw [q] at e2; cases o with
      | none => cases e2
      | some v' => cases e2; rfl
    have ej' : X.N[j]? = some x := by
     have h0 : (js.map fun j => X.N[j]?)[i - Tn.length]? = (Fn.map some)[i - Tn.length]? := by rw [cs.idx]
     rw [List.getElem?_map, ej, List.getElem?_map, e1] at h0
     simpa using h0
    have hx : scope.names.lookup x = some .free := cs.fn x (List.mem_of_getElem? e1)
    have hox : X.env.kindOf x = some .cell := hfr _ (lookup_mem hx) rfl
    obtain ⟨m, hm, hl⟩ := I.loc
    obtain ⟨u, r, l⟩ := hl j x v ej' e2' (.inr (.inl hox))
    refine ⟨u, r, .inr ⟨.inl ?_, ?_⟩⟩
    ·show (relabel scope X.env).names.lookup x = some .cell
     have z := lookup_relabel (env := X.env) cs.okind (names := scope.names) hfr hx
     rw [if_pos rfl] at z
     exact z
    ·rcases l with ⟨k, _⟩ | ⟨_, c, ec, z⟩
     ·rw [hox] at k; cases k
     ·obtain ⟨c', e'⟩ := mem_lookup (closOf_has (cs := []) ec (lookup_mem hx))
      have : c' = c := Option.some.inj ((hcl x c' e').symm.trans ec)
      subst this
      obtain ⟨o, q1, q2⟩ := z
      exact ⟨c', e', o, k1 _ _ q1, q2⟩
 ·obtain ⟨v, o, q1, q2⟩ := I.cell x c (hcl x c e)
  exact ⟨v, o, k1 _ _ q1, q2⟩
 ·have hp : p ∈ ([] : List (Addr × Obj)) ++ (X.pn ++ pins) := hp
  rw [List.nil_append] at hp
  obtain ⟨e, n, ne, nf, d⟩ := I.pin p hp
  refine ⟨k1 _ _ e, n, Nat.ne_of_lt (Heap.lt_size e), fun z => ?_, d⟩
  rcases List.mem_cons.mp (I.stkSub p.1 z) with q | q
  ·exact ne q
  ·exact nf q
 ·show (List.replicate Tn.length none ++ js.map fun j => (σ[j]?).join).length = (Tn ++ Fn).length
  rw [List.length_append, List.length_append, List.length_replicate, List.length_map, hlen]
structure CFree (X : Cx) (pins : List (Addr × Obj)) (C : Addr) : Prop where
 nl : C ≠ X.env.locals
 yg : X.s₀.heap.objs.size ≤ C
 nc : ∀ x c, X.env.cells.lookup x = some c → c ≠ C
 np : ∀ p ∈ X.pn ++ pins, p.1 ≠ C
theorem Inv.letgo {C : Addr} {h2 : Heap} (I : Inv X pins σ H s) (hn : H C = none) (c : CFree X pins C) (sb : Heap.SameBut C s.heap h2) : Inv X pins σ H { s with heap := h2 } :=
 I.turned (t' := s.toks) (it := C) (fun b o hb e => (sb.2 b hb).trans e) hn c.nl (.inr c.yg) c.nc c.np
theorem Inv.cfree {C : Addr} (I : Inv X pins σ H s) (hC : C = s.heap.objs.size) : CFree X pins C := by
 refine ⟨by rw [hC]; exact Nat.ne_of_gt I.lt, by rw [hC]; exact I.sz, fun x c e z => ?_, fun p hp z => ?_⟩
 ·obtain ⟨v, q⟩ := I.cell x c e
  have := q.lt
  rw [z, hC] at this; exact absurd this (Nat.lt_irrefl _)
 ·have := Heap.lt_size (I.pin p hp).1
  rw [z, hC] at this; exact absurd this (Nat.lt_irrefl _)
theorem inv_out {C : Addr} {cl : List (Str × Addr)} {N : List Str} {σ' : St} {H' : Hp} {pins' : List (Addr × Obj)} {s' : Shared} (I : Inv X pins σ H s) (hf : ∀ b ∈ fp, FpOk X pins H b) (J : Inv (cxIn X N scope cl C s H fp) pins' σ' H' s') : Inv X pins σ H' s' :=
 I.call' (ch := fp) J.os J.base J.hok J.bare fun b hb => ⟨(hf b hb).2.2.2.1, (hf b hb).2.1, (hf b hb).2.2.2.2.1, (hf b hb).2.2.2.2.2⟩
end
/-! the loop of the block -/
section
variable {prog : Program} {w : World} {A : Around} {s : Shared}
theorem compLoop_go {elt target iter : Expr} {ifs : List Expr} {scope : Scope} {pos : Pos} {it acc : Value} {env : Env} {R : Result → Shared → Prop} (I : Nat → Shared → Prop)
  (turn : ∀ n s, I n s → wpAny (model prog w) A (pyNext it) (fun r s₁ => match r with
   | none => R (.ok .next) s₁
   | some v => wpAny (model prog w) A (letOwnedTupleGo target it v) (fun _ s₀ => wpAny (model prog w) A (assign target env v) (fun _ s₂ =>
     wpAny (model prog w) A (forIn ifs true fun c r => if r = true then do let ok ← isTrue c env (eval c env); pure (ForInStep.yield ok) else pure (ForInStep.yield r)) (fun ok s₃ =>
      if ok = true then wpAny (model prog w) A (eval elt env) (fun x s₄ =>
       wpAny (model prog w) A (call (.builtin "list.append") [acc, x]) (fun _ s₅ => ∃ m, m < n ∧ I m s₅) (fun _ _ => False) s₄) (fun _ _ => False) s₃
      else ∃ m, m < n ∧ I m s₃) (fun _ _ => False) s₂) (fun _ _ => False) s₀) (fun _ _ => False) s₁) (fun _ _ => False) s)
  (n : Nat) (h : I n s) : codeAny (model prog w) A (.compLoop (.ListComp elt [⟨target, iter, ifs, 0⟩] scope pos) 0 it acc env) R s := by
 refine codeAny_loop rfl I (fun n s hI => ?_) n h
 show wpAny _ A ((compTurn (.ListComp elt [⟨target, iter, ifs, 0⟩] scope pos) 0 it acc env).onRaise (fun x => do noteFrame x env; theTreesLotGoes x)) _ _ s
 refine wpAny_noted ?_
 rw [compTurn_list]
 refine wpAny_bind (wpAny_standAt (wpAny_bind (wpAny_mono (turn n s hI) (fun r s₁ h₁ => ?_) fun _ _ h' => h'.elim)))
 cases r with
 | none => exact wpAny_pure h₁
 | some v =>
  refine wpAny_bind (wpAny_mono h₁ (fun _ s₀ h₀' => ?_) fun _ _ h' => h'.elim)
  refine wpAny_bind (wpAny_mono h₀' (fun _ s₂ h₂ => wpAny_bind (wpAny_mono h₂ (fun ok s₃ h₃ => ?_) fun _ _ h' => h'.elim)) fun _ _ h' => h'.elim)
  cases ok with
  | false => exact wpAny_pure ⟨rfl, h₃⟩
  | true =>
   exact wpAny_bind (wpAny_bind (wpAny_mono h₃ (fun x s₄ h₄ => wpAny_bind (wpAny_mono h₄ (fun _ s₅ h₅ => wpAny_pure (wpAny_pure ⟨rfl, h₅⟩)) fun _ _ h' => h'.elim)) fun _ _ h' => h'.elim))
end
noncomputable def PIfs (X : Cx) (ifs : List Expr) (t : TT) : Prop :=
 ∀ (pins : List (Addr × Obj)) (s : Shared) (σ : St) (H : Hp) (Q : Bool → Hp → Prop), Inv X pins σ H s → t σ H Q →
  wpAny (model X.prog X.w) X.A (forIn ifs true fun c r => if r = true then do let ok ← isTrue c X.env (eval c X.env); pure (ForInStep.yield ok) else pure (ForInStep.yield r)) (TP X pins σ Q) X.xe s
noncomputable abbrev tTrue : TT := fun _ H Q => Q true H
theorem pif_none {X : Cx} : PIfs X [] tTrue := fun _ _ _ H _ I h => wpAny_tests_nil ⟨H, I, h⟩
theorem pif_one {X : Cx} {c : Expr} {t : TT} (h : PT X c t) : PIfs X [c] t := fun pins s σ H Q I hq => wpAny_tests_one (h pins s σ H Q I hq)
noncomputable def tBlock (J : It) (g : TG) (tc : TT) (te : TE) (D : Addr) (Z : Hp → Prop) (σ : St) (H : Hp) : Prop :=
 ∃ W : Nat → Nat → St → Hp → Prop, (∃ m, W 0 m σ H) ∧ ∀ i m σ H, W i m σ H →
  (J.stop i H ∧ Z H) ∨ (J.go i H ∧ ∃ N : St → Hp → Prop, (∀ σ' H', N σ' H' → ∃ m', m' < m ∧ W (i + 1) m' σ' H') ∧
   ∀ x H', J.yld i H x H' → g x σ H' fun σ2 H2 => tc σ2 H2 fun b H3 => if b = true then te σ2 H3 fun y H4 => ∃ ys, H4 D = some (.lst ys) ∧ ys.length < sizeLine ∧ N σ2 (upd H4 D (.lst (ys ++ [y]))) else N σ2 H3)
section
variable {X : Cx} {scope : Scope} {Tn Fn : List Str} {js : List Nat} {tg iter elt : Expr} {ifs : List Expr} {wi : TI} {g : TG} {tc : TT} {te : TE} {pos : Pos}
theorem block_run {pins : List (Addr × Obj)} {σ : St} {H2 : Hp} {s2 : Shared} {it : Addr} {fp : List Addr} {tn : Nat → Heap → Prop} {J : It} {Z : Addr → Hp → Prop} {RR : Value → Addr → Result → Shared → Prop} {E : Value → Shared → Prop} (hc : X.calm = true)
  (cs : CompScope X.env.scope scope X.N Tn Fn js)
  (hg : ∀ C s H fp, PG (cxIn X (Tn ++ Fn) scope (closOf X.env.cells scope.names []) C s H fp) tg g) (ht : ∀ C s H fp, PIfs (cxIn X (Tn ++ Fn) scope (closOf X.env.cells scope.names []) C s H fp) ifs tc)
  (he : ∀ C s H fp, PE (cxIn X (Tn ++ Fn) scope (closOf X.env.cells scope.names []) C s H fp) elt te)
  (I2 : Inv X pins σ H2 s2) (T : Turn X.prog X.w X.K tg J fp it tn) (st2 : tn 0 s2.heap) (f2 : ∀ b ∈ fp, FpOk X pins H2 b)
  (hb : ∀ D, H2 D = none → tBlock J g tc te D (Z D) (innS Tn.length js σ) (upd H2 D (.lst [])))
  (fin : ∀ D C s' H' m, s'.heap.Ns C m → Inv X pins σ H' s' → H' C = none → CFree X pins C → Z D H' → RR (.ref D) C (.ok .next) s') :
  wpAny (model X.prog X.w) X.A (newList []) (fun acc s₃ => wpAny (model X.prog X.w) X.A (newFunctionEnv scope X.env.globals (closOf X.env.cells scope.names []) [] X.env.qual none .none (some X.env)) (fun cenv s₄ =>
   codeAny (model X.prog X.w) X.A (.compStart (.ListComp elt [⟨tg, iter, ifs, 0⟩] scope pos) 0 (.ref it) acc { cenv with scope := relabel scope X.env }) (RR acc cenv.locals) s₄) E s₃) E s2 := by
 refine wpAny_newObj_type (wpAny_newFunctionEnv cs.nocell (by intro y hy; simp at hy) (fun h₁ hns₁ hsb₁ => ?_) cs.kind)
 dsimp only at hns₁ hsb₁ ⊢
 have I3 := I2.lnew (its := []) (ys := []) (t' := s2.toks) .nil (Nat.zero_le _)
 have fD : H2 s2.heap.objs.size = none := I2.fresh
 obtain ⟨W, ⟨m0, w0⟩, turn⟩ := hb _ fD
 generalize hH2 : s2.heap.push { cls := .type "list", dict := none, data := .seq ([] : List Value).toArray } = g2 at hns₁ hsb₁ I3 ⊢
 have up2 : ∀ b o, s2.heap.get? b = some o → g2.get? b = some o := fun b o e => hH2 ▸ Heap.get?_push_of_some _ e
 generalize hD : s2.heap.objs.size = D at *
 have up3 : ∀ b o, g2.get? b = some o → h₁.get? b = some o := fun b o e => hsb₁.extBut b o (Nat.ne_of_lt (Heap.lt_size e)) (Heap.get?_push_of_some _ e)
 have hob : ∀ b ∈ fp, ∃ o, s2.heap.get? b = some o := fun b hb => let ⟨o, e, _⟩ := T.obj 0 _ st2 b hb; ⟨o, e⟩
 have neD : ∀ b ∈ fp, b ≠ D := fun b hb => by
  obtain ⟨o, e⟩ := hob b hb
  rw [← hD]; exact Nat.ne_of_lt (Heap.lt_size e)
 have f3 : ∀ b ∈ fp, FpOk X pins (upd H2 D (.lst [])) b := fun b hb => ⟨by rw [upd_ne (neD b hb)]; exact (f2 b hb).1, (f2 b hb).2⟩
 have J0 := inv_in (fp := fp) (tk := s2.toks + ([] : List (Str × Value)).length) cs I3 rfl hns₁ up3 f3 fun b hb => let ⟨o, e⟩ := hob b hb; ⟨o, up2 b o e⟩
 have tn0 : tn 0 h₁ := T.keep _ _ _ st2 fun b hb o e => up3 b o (up2 b o e)
 have cf : CFree X pins g2.objs.size := I3.cfree rfl
 generalize hX' : cxIn X (Tn ++ Fn) scope (closOf X.env.cells scope.names []) g2.objs.size { s2 with heap := g2, toks := s2.toks } (upd H2 D (.lst [])) fp = X' at J0
 have eP : X'.prog = X.prog := by rw [← hX']; rfl
 have ew : X'.w = X.w := by rw [← hX']; rfl
 have eK : X'.K = X.K := by rw [← hX']; rfl
 have eA : X'.A = X.A := by rw [← hX']; rfl
 have ec : X'.calm = true := by rw [← hX']; exact hc
 have ee : X'.env = compEnvC scope (closOf X.env.cells scope.names []) g2.objs.size X.env := by rw [← hX']; rfl
 have ex : X'.xe = fun _ _ => False := by rw [← hX']; rfl
 have Hg : PG X' tg g := by rw [← hX']; exact hg _ _ _ _
 have Ht : PIfs X' ifs tc := by rw [← hX']; exact ht _ _ _ _
 have He : PE X' elt te := by rw [← hX']; exact he _ _ _ _
 have out : ∀ {pins' σ' H' s'}, Inv X' pins' σ' H' s' → Inv X pins σ H' s' := by
  intro pins' σ' H' s' J
  rw [← hX'] at J
  exact inv_out I3 f3 J
 have fsX : ∀ b ∈ fp, b ∉ X'.fs := by
  intro b hb z
  rw [← hX'] at z
  rcases List.mem_cons.mp (I3.stkSub b z) with q | q
  ·exact (f3 b hb).2.1 q
  ·exact (f3 b hb).2.2.1 q
 have stat : ∀ {H' : Hp}, (∀ b ∈ fp, H' b = none) → ∀ b ∈ fp, FpOk X' (X.pn ++ pins) H' b := fun {H'} hn b hb => by
  refine ⟨hn b hb, ?_, fsX b hb, .inl (by rw [← hX']; exact hb), ?_, ?_⟩
  ·rw [ee]
   obtain ⟨o, e⟩ := hob b hb
   exact Nat.ne_of_lt (Heap.lt_size (up2 b o e))
  ·intro x c e
   rw [ee] at e
   exact (f3 b hb).2.2.2.2.1 x c (closOf_sub (names := scope.names) (cs := []) (fun _ z => nomatch z) _ (lookup_mem e))
  ·intro p hp
   have hp : p ∈ X.pn ++ pins := by rw [← hX'] at hp; simpa [cxIn] using hp
   exact (f3 b hb).2.2.2.2.2 p hp
 have loop : ∀ s4 : Shared, s4 = { s2 with heap := h₁, toks := s2.toks + ([] : List (Str × Value)).length } →
   codeAny (model X.prog X.w) X.A (.compLoop (.ListComp elt [⟨tg, iter, ifs, 0⟩] scope pos) 0 (.ref it) (.ref D) (compEnvC scope (closOf X.env.cells scope.names []) g2.objs.size X.env)) (RR (.ref D) g2.objs.size) s4 := by
  rintro s4 rfl
  refine compLoop_go (fun n s' => ∃ i σ' H', Inv X' (X.pn ++ pins) σ' H' s' ∧ tn i s'.heap ∧ (∀ b ∈ fp, H' b = none) ∧ W i n σ' H') ?_ m0 ⟨0, _, _, J0, tn0, fun b hb => (f3 b hb).1, w0⟩
  rintro n s5 ⟨i, σ5, H5, I5, st5, fr5, w5⟩
  rw [← ee, ← eA, ← eP, ← ew, ← ex]
  rcases turn i n σ5 H5 w5 with ⟨stop, qz⟩ | ⟨go, N, hN, step⟩
  ·have td := T.done X' eP ew eK ec i (X.pn ++ pins) s5 σ5 H5 X'.xe I5 (stat fr5) st5 stop
   rw [← eP, ← ew] at td
   refine thn td fun r s6 ⟨hr, I6⟩ => ?_
   subst hr
   obtain ⟨m, hm, _⟩ := id I6.loc
   rw [ee] at hm
   have hfr := I6.free
   rw [ee] at hfr
   exact fin D _ s6 H5 m hm (out I6) hfr cf qz
  ·have ti := T.item X' eP ew eK ec i (X.pn ++ pins) s5 σ5 H5 X'.xe I5 (stat fr5) st5 go
   rw [← eP, ← ew] at ti
   refine thn ti fun r s6 ⟨u, hr, h6⟩ => ?_
   subst hr
   refine thn h6 fun _ s7 ⟨x, H7, I7, r7, y7, st7, fr7⟩ => ?_
   have I7' := I7.pinned (stat fr7) (T.obj _ _ st7)
   refine thn (Hg _ s7 σ5 H7 x u _ I7' r7 (step x H7 y7)) fun _ s8 ⟨σ8, H8, I8, q8⟩ => ?_
   refine thn (Ht _ s8 σ8 H8 _ I8 q8) fun ok s9 ⟨H9, I9, q9⟩ => ?_
   have again : ∀ {σa : St} {Ha : Hp} {sa : Shared}, Inv X' ((X.pn ++ pins) ++ pinsAt fp s7.heap) σa Ha sa → N σa Ha → ∃ m, m < n ∧ ∃ i σ' H', Inv X' (X.pn ++ pins) σ' H' sa ∧ tn i sa.heap ∧ (∀ b ∈ fp, H' b = none) ∧ W i m σ' H' := fun {σa Ha sa} Ia na => by
    obtain ⟨m', hm, wa⟩ := hN σa Ha na
    refine ⟨m', hm, i + 1, σa, Ha, Ia.unpinned, T.keep _ _ _ st7 fun b hb o e => (Ia.pin (b, o) (List.mem_append_right _ (List.mem_append_right _ (mem_pinsAt hb e)))).1, fun b hb => ?_, wa⟩
    obtain ⟨o, e, d⟩ := T.obj _ _ st7 b hb
    exact (Ia.pin (b, o) (List.mem_append_right _ (List.mem_append_right _ (mem_pinsAt hb e)))).2.1
   cases ok with
   | false => exact again I9 q9
   | true =>
    refine thn (He _ s9 σ8 H9 _ I9 q9) fun y s10 ⟨yv, H10, I10, r10, ys, e10, l10, n10⟩ => ?_
    exact thn (mt_append (X := X') _ s10 σ8 H10 (.ref D) [yv] (.ref D) [y] (fun _ H' => N σ8 H') I10 rfl (.cons r10 .nil) ⟨D, ys, yv, rfl, rfl, e10, l10, n10⟩) fun _ s11 ⟨_, H11, I11, _, n11⟩ => again I11 n11
 exact codeAny_compStart_list (loop _ rfl) (T.self _ 0 _ _ _ tn0 (loop _ rfl))
noncomputable def tComp (wi : TI) (g : TG) (tc : TT) (te : TE) (k : Nat) (js : List Nat) : TE := fun σ H Q => wi σ H fun J H1 => ∀ D, H1 D = none → tBlock J g tc te D (Q (.ref D)) (innS k js σ) (upd H1 D (.lst []))
theorem pe_comp (Tn Fn : List Str) (js : List Nat) (hc : X.calm = true) (h : compOk X.env.scope scope X.N Tn Fn js = true) (hi : PI X tg iter wi)
  (hg : ∀ C s H fp, PG (cxIn X (Tn ++ Fn) scope (closOf X.env.cells scope.names []) C s H fp) tg g) (ht : ∀ C s H fp, PIfs (cxIn X (Tn ++ Fn) scope (closOf X.env.cells scope.names []) C s H fp) ifs tc)
  (he : ∀ C s H fp, PE (cxIn X (Tn ++ Fn) scope (closOf X.env.cells scope.names []) C s H fp) elt te) (hs : ∀ x, foldedSetIterable iter X.env x = pure x := by intro _; rfl) :
  PE X (.ListComp elt [⟨tg, iter, ifs, 0⟩] scope pos) (tComp wi g tc te Tn.length js) := by
 intro pins s σ H Q I hq
 have cs := CompScope.of h
 rw [eval_ListComp]
 refine wpAny_comprehension_free (use := none) rfl hs (closureFor_eq ?_) cs.kind cs.loc (thn (hi pins s σ H _ I hq) fun xv s1 h1 => thn h1 fun itv s2 h2 => ?_)
 ·intro x hx e; exact I.ok.has x.1 (.inl (cs.fre x hx e))
 obtain ⟨it, fp, tn, J, H2, rfl, I2, T, st2, f2, hb⟩ := h2
 refine block_run (Z := fun D H' => Q (.ref D) H') (RR := fun acc C => compPost (model X.prog X.w) X.A X.xe none (EP X pins σ Q) acc C) hc cs hg ht he I2 T st2 f2 hb ?_
 intro D C s' H' m hm I' hn cf z
 exact ⟨m, hm, fun h' sb => ⟨.ref D, H', I'.letgo hn cf sb, rfl, z⟩⟩
theorem ps_setcomp (Tn Fn : List Str) (js : List Nat) {i : Nat} {y : Str} {py spos : Pos} (hN : X.N.Nodup) (hiN : X.N[i]? = some y) (hy : X.env.scope.names.lookup y = some .local) (hc : X.calm = true) (h : compOk X.env.scope scope X.N Tn Fn js = true) (hi : PI X tg iter wi)
  (hg : ∀ C s H fp, PG (cxIn X (Tn ++ Fn) scope (closOf X.env.cells scope.names []) C s H fp) tg g) (ht : ∀ C s H fp, PIfs (cxIn X (Tn ++ Fn) scope (closOf X.env.cells scope.names []) C s H fp) ifs tc)
  (he : ∀ C s H fp, PE (cxIn X (Tn ++ Fn) scope (closOf X.env.cells scope.names []) C s H fp) elt te) (hsw : swapsWith (.ListComp elt [⟨tg, iter, ifs, 0⟩] scope pos) (some (.Name y py)) spos.line X.env = pure true := by rfl)
  (hs : ∀ x, foldedSetIterable iter X.env x = pure x := by intro _; rfl) :
  PS X (.Assign [.Name y py] (.ListComp elt [⟨tg, iter, ifs, 0⟩] scope pos) spos) (tAsg (tComp wi g tc te Tn.length js) (gName i)) := by
 intro pins s σ H D0 I hq
 have cs := CompScope.of h
 rw [exec_Assign_Name_used _ _ _ _ hsw]
 refine wpAny_bind (wpAny_standAt (wpAny_bind ?_))
 show wpAny _ X.A (do let _ ← comprehension (.ListComp elt [⟨tg, iter, ifs, 0⟩] scope pos) scope X.env _ (newList []) false (eval iter X.env) (some (assign (.Name y py) X.env))) _ _ s
 refine wpAny_bind (wpAny_mono (wpAny_comprehension_free (use := some (assign (.Name y py) X.env)) (Q := fun _ s' => SP X pins D0 .next s') rfl hs (closureFor_eq ?_) cs.kind cs.loc
  (thn (hi pins s σ H _ I hq) fun xv s1 h1 => thn h1 fun itv s2 h2 => ?_)) (fun _ s' hq => wpAny_pure (wpAny_pure hq)) fun _ _ e => e)
 ·intro x hx e; exact I.ok.has x.1 (.inl (cs.fre x hx e))
 obtain ⟨it, fp, tn, J, H2, rfl, I2, T, st2, f2, hb⟩ := h2
 refine block_run (Z := fun D H' => D0.nx (σ.set i (some (.ref D))) H') (RR := fun acc C => compPost (model X.prog X.w) X.A X.xe (some (assign (.Name y py) X.env)) (fun _ s' => SP X pins D0 .next s') acc C) hc cs hg ht he I2 T st2 f2 hb ?_
 intro D C s' H' m hm I' hn cf z
 show wpAny _ X.A (assign (.Name y py) X.env (.ref D)) _ _ s'
 refine wpAny_assign_Name (store_ok2 (v := .ref D) I' hN hiN (.inl hy) rfl (fun s'' I'' sb => ?_) (.inr hy))
 obtain ⟨a, sb, ha⟩ := sb
 have hCa : C ≠ a := by
  rcases ha with e | e
  ·rw [e]; exact cf.nl
  ·exact fun z => cf.nc _ _ e z.symm
 exact ⟨m, hm.sameBut sb hCa, fun h' sb' => ⟨_, H', I''.letgo hn cf sb', z⟩⟩
end
/-! the forms one uses -/
theorem block_list {K : PySem.W.Frag} {a : Addr} {xs : List V} {g : TG} {tc : TT} {te : TE} {D : Addr} {Z : Hp → Prop} {σ : St} {H : Hp} (Pv : Nat → St → Hp → Prop) (h0 : Pv 0 σ H) (hl : ∀ i σ H, i ≤ xs.length → Pv i σ H → SqL K H a xs)
  (hs : ∀ i x σ H, xs[i]? = some x → Pv i σ H → g x σ H fun σ2 H2 => tc σ2 H2 fun b H3 => if b = true then te σ2 H3 fun y H4 => ∃ ys, H4 D = some (.lst ys) ∧ ys.length < sizeLine ∧ Pv (i + 1) σ2 (upd H4 D (.lst (ys ++ [y]))) else Pv (i + 1) σ2 H3)
  (hd : ∀ σ H, Pv xs.length σ H → Z H) : tBlock (Itl K a) g tc te D Z σ H := by
 refine ⟨fun i m σ H => m = xs.length - i ∧ i ≤ xs.length ∧ Pv i σ H, ⟨xs.length, by simp, Nat.zero_le _, h0⟩, ?_⟩
 rintro i m σ H ⟨rfl, hi, p⟩
 have q := hl i σ H hi p
 by_cases hlt : i < xs.length
 ·refine .inr ⟨⟨xs, xs[i], q, by simp [hlt]⟩, Pv (i + 1), fun σ' H' p' => ⟨xs.length - (i + 1), by omega, rfl, hlt, p'⟩, fun x H' y => ?_⟩
  obtain ⟨e, y⟩ := y
  subst e
  exact hs i x σ _ (y xs q) p
 ·have e : i = xs.length := by omega
  subst e
  exact .inl ⟨⟨xs, q, Nat.le_refl _⟩, hd σ H p⟩
theorem block_range {lo : Int} {n : Nat} {g : TG} {tc : TT} {te : TE} {D : Addr} {Z : Hp → Prop} {σ : St} {H : Hp} (Pv : Nat → St → Hp → Prop) (h0 : Pv 0 σ H)
  (hs : ∀ i σ H, i < n → Pv i σ H → g (.int (lo + i)) σ H fun σ2 H2 => tc σ2 H2 fun b H3 => if b = true then te σ2 H3 fun y H4 => ∃ ys, H4 D = some (.lst ys) ∧ ys.length < sizeLine ∧ Pv (i + 1) σ2 (upd H4 D (.lst (ys ++ [y]))) else Pv (i + 1) σ2 H3)
  (hd : ∀ σ H, Pv n σ H → Z H) : tBlock (Itr lo n) g tc te D Z σ H := by
 refine ⟨fun i m σ H => m = n - i ∧ i ≤ n ∧ Pv i σ H, ⟨n, by simp, Nat.zero_le _, h0⟩, ?_⟩
 rintro i m σ H ⟨rfl, hi, p⟩
 by_cases hlt : i < n
 ·refine .inr ⟨hlt, Pv (i + 1), fun σ' H' p' => ⟨n - (i + 1), by omega, rfl, hlt, p'⟩, fun x H' y => ?_⟩
  obtain ⟨e, y⟩ := y
  subst e y
  exact hs i σ _ hlt p
 ·have e : i = n := by omega
  subst e
  exact .inl ⟨Nat.le_refl _, hd σ H p⟩
end L2
namespace L2
open PySem PySem.Spec PyProof.Rows
/-! ### ==, != of texts, numbers, truths, the gap, and of tuples and lists of these, as deep as they are -/
mutual
noncomputable def RepD (K : PySem.W.Frag) (H : Hp) : PyData → V → Prop
 | .none, v => v = .non
 | .bool b, v => v = .bl b
 | .int i, v => v = .int i
 | .str x, v => v = .str x ∧ (PyData.str x).canLay0 = true
 | .tuple xs, v => ∃ a vs, v = .ref a ∧ SqT K H a vs ∧ RepDs K H xs vs
 | .list xs, v => ∃ a vs, v = .ref a ∧ SqL K H a vs ∧ RepDs K H xs vs
 | .dict _, _ => False
noncomputable def RepDs (K : PySem.W.Frag) (H : Hp) : List PyData → List V → Prop
 | [], vs => vs = []
 | d :: ds, vs => ∃ v r, vs = v :: r ∧ RepD K H d v ∧ RepDs K H ds r
end
section
variable {X : Cx} {pins : List (Addr × Obj)} {σ : St} {H : Hp} {s : Shared}
mutual
theorem RepD.reads (I : Inv X pins σ H s) : ∀ {d : PyData} {v : V} {u : Value}, RepD X.K H d v → RelV v u → ∃ as, Reads s.heap u d as
 | .none, v, u, h, r => by
  have h : v = .non := by simpa [RepD] using h
  subst h; cases r; exact ⟨_, .none⟩
 | .bool b, v, u, h, r => by
  have h : v = .bl b := by simpa [RepD] using h
  subst h; cases r; exact ⟨_, .bool b⟩
 | .int i, v, u, h, r => by
  have h : v = .int i := by simpa [RepD] using h
  subst h; obtain ⟨t, rfl⟩ := r; exact ⟨_, .int i t⟩
 | .str x, v, u, h, r => by
  simp only [RepD] at h
  obtain ⟨rfl, _⟩ := h
  obtain ⟨t, rfl⟩ := r; exact ⟨_, .str x t⟩
 | .tuple xs, v, u, h, r => by
  have h : ∃ a vs, v = .ref a ∧ SqT X.K H a vs ∧ RepDs X.K H xs vs := by simpa [RepD] using h
  obtain ⟨a, vs, rfl, q, rs⟩ := h
  cases r
  obtain ⟨its, rv, p, _⟩ := I.tuple q
  obtain ⟨o, e, c, n, d⟩ := (show s.heap.IsTuple a its.toArray from p)
  obtain ⟨as, ra⟩ := RepDs.reads I rs rv
  exact ⟨_, .tuple e c d (by simpa using ra)⟩
 | .list xs, v, u, h, r => by
  have h : ∃ a vs, v = .ref a ∧ SqL X.K H a vs ∧ RepDs X.K H xs vs := by simpa [RepD] using h
  obtain ⟨a, vs, rfl, q, rs⟩ := h
  cases r
  obtain ⟨its, rv, p, _⟩ := I.list q
  obtain ⟨o, e, c, n, d⟩ := p.isList
  obtain ⟨as, ra⟩ := RepDs.reads I rs rv
  exact ⟨_, .list e c d (by simpa using ra)⟩
 | .dict _, v, u, h, r => by
  have h : False := by simpa [RepD] using h
  exact h.elim
theorem RepDs.reads (I : Inv X pins σ H s) : ∀ {ds : List PyData} {vs : List V} {us : List Value}, RepDs X.K H ds vs → Vals vs us → ∃ as, ReadsAll s.heap us ds as
 | [], vs, us, h, r => by
  have h : vs = [] := by simpa [RepDs] using h
  subst h; cases r; exact ⟨_, .nil⟩
 | d :: ds, vs, us, h, r => by
  have h : ∃ v r, vs = v :: r ∧ RepD X.K H d v ∧ RepDs X.K H ds r := by simpa [RepDs] using h
  obtain ⟨v, rs, rfl, h1, h2⟩ := h
  cases r with
  | cons a b =>
   obtain ⟨as, r1⟩ := RepD.reads I h1 a
   obtain ⟨bs, r2⟩ := RepDs.reads I h2 b
   exact ⟨_, .cons r1 r2⟩
end
mutual
theorem RepD.lay {K : PySem.W.Frag} : ∀ {d : PyData} {v : V}, RepD K H d v → d.canLay0 = true
 | .none, _, _ => rfl
 | .bool _, _, _ => rfl
 | .int _, _, _ => rfl
 | .str x, v, h => by
  simp only [RepD] at h
  exact h.2
 | .tuple xs, v, h => by
  have h : ∃ a vs, v = .ref a ∧ SqT K H a vs ∧ RepDs K H xs vs := by simpa [RepD] using h
  obtain ⟨a, vs, rfl, q, rs⟩ := h
  have := RepDs.lay rs
  simpa [PyData.canLay0] using this
 | .list xs, v, h => by
  have h : ∃ a vs, v = .ref a ∧ SqL K H a vs ∧ RepDs K H xs vs := by simpa [RepD] using h
  obtain ⟨a, vs, rfl, q, rs⟩ := h
  have := RepDs.lay rs
  simpa [PyData.canLay0] using this
 | .dict _, v, h => by
  have h : False := by simpa [RepD] using h
  exact h.elim
theorem RepDs.lay {K : PySem.W.Frag} : ∀ {ds : List PyData} {vs : List V}, RepDs K H ds vs → PyData.canLayAll0 ds = true
 | [], _, _ => rfl
 | d :: ds, vs, h => by
  have h : ∃ v r, vs = v :: r ∧ RepD K H d v ∧ RepDs K H ds r := by simpa [RepDs] using h
  obtain ⟨v, rs, rfl, h1, h2⟩ := h
  have a := RepD.lay h1
  have b := RepDs.lay h2
  simp [PyData.canLayAll0, a, b]
end
end
section
variable {X : Cx} {k : Nat}
noncomputable def rEqD (K : PySem.W.Frag) : R2 := fun x y H Q => ∃ d d', RepD K H d x ∧ RepD K H d' y ∧ d.depth ≤ 64 ∧ Q (.bl (PyData.eqv d d')) H
theorem op_eqD (hr : Room k X.A) : OpR X (compareOp .Eq) (rEqD X.K) := by
 intro pins s σ H x y v u Q I rx ry h
 obtain ⟨d, d', h1, h2, hd, q⟩ := h
 obtain ⟨as, r1⟩ := h1.reads I rx
 obtain ⟨bs, r2⟩ := h2.reads I ry
 exact SeqAt.compareEq_reads r1 r2 h1.lay h2.lay (by have := hr.units; have : min d.depth d'.depth ≤ d.depth := Nat.min_le_left _ _; omega) ⟨.bl _, H, I, rfl, q⟩
end
/-! ### defs that may raise -/
section
variable {P : Program} {w : World} {K : PySem.W.Frag} {mg : Str → Option Value} {base : Heap}
theorem DefAt.okE {x : Str} {st : Stmt} {N ps : List Str} {k : Nat} {sp : Sp} (D : DefAt K mg x st) (S : FnScope N ps (defScope st)) (len : ∀ vs H Q E, sp vs H Q E → vs.length = ps.length)
  (hb : ∀ (kV doc pm : Value) (an : Option Addr) (cdv ct : Value) (us : List Value), us.length = ps.length → bindArgs (PySem.W.fnOf x x (defArgs st) (defBody st) (defScope st) .none kV doc pm an cdv ct) ⟨us, []⟩ = pure (ps.zip us))
  (hbody : ∀ (f : Addr) (cdv : Value) (A : Around) (outer : List Env) (s : Shared) (H : Hp) (vs : List V) (Q : VK) (E : XK), Room k (A.deeper (envOfC x (defScope st) s.heap.objs.size f cdv)) → sp vs H Q E →
   ∃ t, PSs (cxOf (CXE P w) P w K mg base N x (defScope st) f cdv A outer s H E) (defBody st) t ∧ t { nx := fun _ H' => Q .non H', rt := Q } (start N vs) H) : FnAt P w K mg base (CXE P w) (k + 1) x ps sp := by
 obtain ⟨f, fd, F, m⟩ := D.ex
 have hF := F
 obtain ⟨oc, od, kV, doc, pm, an, cdv, ct, osl, rfl, lk, hcd⟩ := F.ex
 exact ⟨f, _, fn_of lk hcd S len fun A outer s H vs Q E hr hsp => hbody f cdv A outer s H vs Q E hr hsp, m, hF.kp, hF.binds hb⟩
end
theorem hd_none {X : Cx} : Hd X [] (fun _ => tNever) := fun _ _ _ _ _ _ _ _ _ _ _ _ _ _ _ _ h => h.elim
end L2
namespace Tc
open PySem L2
/-! ### promises of the defs that many laws share -/
theorem paired_get {α β : Type} {F : α → β → Prop} : ∀ {xs : List α} {ys : List β} {i : Nat} {x : α}, Paired F xs ys → xs[i]? = some x → ∃ y, ys[i]? = some y ∧ F x y
 | _, _, _, _, .nil, e => by simp at e
 | _, _, 0, _, .cons r _, e => by simp at e; subst e; exact ⟨_, rfl, r⟩
 | _, _, i + 1, x, .cons _ t, e => by
  obtain ⟨u, h1, h2⟩ := paired_get (i := i) (x := x) t (by simpa using e)
  exact ⟨u, by simpa using h1, h2⟩
/-! promises -/
noncomputable def spWhole : Sp := fun vs H Q _ => ∃ v n, vs = [v] ∧ tyS H v = some n ∧ Q (.bl (n == "int")) H
noncomputable def spCd : Sp := fun vs H Q _ => ∃ t b : Int, vs = [.int t, .int b] ∧ b ≠ 0 ∧ Q (.int (dv t b)) H
noncomputable def spCell (K : PySem.W.Frag) : Sp := fun vs H Q _ => ∃ (a : Addr) (ns : List Int) (k : Int), vs = [.ref a, .int k] ∧ SqL K H a (ns.map V.int) ∧ 0 ≤ k ∧ ∀ c : Int, Q (.int c) H
noncomputable def spLaw (K : PySem.W.Frag) : Sp := fun vs H Q _ => ∃ (a : Addr) (ns : List Int), vs = [.ref a] ∧ SqL K H a (ns.map V.int) ∧ ns.length ≤ 63 ∧ ∀ H', Q (.bl true) H'
/-! small lemmas -/
theorem sz {n : Nat} (h : n ≤ 1000) : n ≤ sizeLine := Nat.le_of_lt (small1000 h)
theorem map_at {ns : List Int} {k : Int} (h0 : 0 ≤ k) (h1 : k < (ns.map V.int).length) : ∃ c : Int, atI (ns.map V.int) k = some (V.int c) := by
 obtain ⟨j, rfl⟩ := Int.eq_ofNat_of_zero_le h0
 have hj : j < ns.length := by rw [List.length_map] at h1; omega
 refine ⟨ns[j], atI_nat ?_⟩
 rw [List.getElem?_map, List.getElem?_eq_getElem hj]
 rfl
theorem fmod_lt {c m : Int} (h : 0 < m) : 0 ≤ c.fmod m ∧ c.fmod m < m := fmod_pos h
theorem sub_int (n : String) : subS n "int" = (n == "int" || n == "bool") := by simp [subS]
theorem sub_bool (n : String) : subS n "bool" = (n == "bool") := by simp [subS]
theorem atI_in {xs : List V} {j : Int} (h0 : 0 ≤ j) (h1 : j < xs.length) : ∃ v, v ∈ xs ∧ atI xs j = some v := by
 obtain ⟨k, rfl⟩ := Int.eq_ofNat_of_zero_le h0
 have hk : k < xs.length := by omega
 exact ⟨xs[k], List.getElem_mem hk, atI_nat (List.getElem?_eq_getElem hk)⟩
theorem dec_true {p : Prop} [Decidable p] {A B : Prop} (hp : p) (h : A) : if decide p = true then A else B := by
 rw [decide_eq_true hp]; exact iteT h
theorem dec_false {p : Prop} [Decidable p] {A B : Prop} (hp : ¬ p) (h : B) : if decide p = true then A else B := by
 rw [decide_eq_false hp]; exact iteF h
theorem paired_rev {α β : Type} {F : α → β → Prop} {xs : List α} {ys : List β} (h : Paired F xs ys) : Paired F xs.reverse ys.reverse := by
 induction h with
 | nil => exact .nil
 | cons r t ih => rw [List.reverse_cons, List.reverse_cons]; exact ih.snoc r
end Tc
namespace L2
open PySem PySem.Spec PyProof.Rows
theorem bt_all : bootBuiltins "all" = some (.builtin "all") := by decide +kernel
theorem bools_of_vals : ∀ {bs : List Bool} {vs : List Value}, Vals (bs.map V.bl) vs → LSm.BoolsAre vs bs
 | [], _, .nil => .nil
 | b :: bs, _, .cons r t => by cases r; exact .cons b (bools_of_vals t)
section
variable {X : Cx}
theorem Inv.newsAll {pins : List (Addr × Obj)} {σ : St} {H : Hp} {s : Shared} {h' : Heap} {tk : Nat} {m : Str → Option Value} (I : Inv X pins σ H s) (hm : s.heap.Ns X.env.locals m) (F : Fr X.base X.env.locals h' m)
  (N : News X.base X.env.locals h' (allNews X.base s.heap X.env.locals)) : Inv X pins σ H { s with heap := h', toks := tk } := by
 have kk : ∀ b o, b ≠ X.env.locals → s.heap.get? b = some o → h'.get? b = some o := fun b o hb e => by
  cases q : X.base.get? b with
  | none => exact (N (b, o) (mem_allNews hb q e)).1
  | some u =>
   have z := I.bk b u q
   rw [e] at z; cases z
   exact F.keep b _ q
 have hL : ∃ o', h'.get? X.env.locals = some o' := let ⟨o, _, _, e, _⟩ := F.ns; ⟨o, e⟩
 refine I.step (g' := s.gens) (d' := s.drawn) (ch := []) (fun _ z => nomatch z) (fun b o hb _ _ e _ => kk b o hb e) (fun b o hb _ _ e _ => ⟨o.slots, kk b o hb e⟩) (fun _ _ _ _ n => n) (fun b o _ e => ?_)
  (fun _ _ e => e) (fun _ _ _ e => e) (fun b ps e => ⟨#[], by rw [e]; simp⟩) (fun m' hm' => ?_) (fun b u e => ?_) I.bare
 ·by_cases hb : b = X.env.locals
  ·rw [hb]; exact hL
  ·exact ⟨o, kk b o hb e⟩
 ·have em : m' = m := by
   obtain ⟨o1, es1, ep1, g1, d1, _, f1⟩ := hm
   obtain ⟨o2, es2, ep2, g2, d2, _, f2⟩ := hm'
   rw [g1] at g2; cases g2
   rw [d1] at d2; cases d2
   funext z
   exact (f2 z).symm.trans (f1 z)
  rw [em]; exact F.ns
 ·refine (I.hok b u e).stay (fun c v hc q => kk c v ?_ q) (fun _ q => q) fun _ _ q => q
  intro z
  subst z
  rcases hc with z | z
  ·rw [← z, I.free] at e; cases e
  ·rw [I.free] at z; cases z
theorem call_all (hc : X.calm = true) : CallR X (.builtin "all") (fun xs H Q => ∃ (a : Addr) (bs : List Bool), xs = [V.ref a] ∧ SqL X.K H a (bs.map V.bl) ∧ Q (.bl (bs.all id)) H) := by
 intro pins s σ H xs us Q I r h
 obtain ⟨l, bs, rfl, hq, q⟩ := h
 obtain ⟨u, rfl, ru⟩ := vals1 r
 cases ru
 obtain ⟨vs, rv, p, _⟩ := I.list hq
 obtain ⟨m, hm, _⟩ := id I.loc
 have F0 : Fr X.base X.env.locals s.heap m := ⟨hm, I.bk, Nat.le_trans I.ok.bsz I.ok.above⟩
 exact LSm.all_bools F0 news_all (I.ok.hd hc) p.isList (bools_of_vals rv) fun h' tk F' N' => ⟨.bl _, H, I.newsAll hm F' N', rfl, q⟩
end
/-! ### the rules that name the module's part, for a part that is named -/
section
variable {X : Cx} {K : PySem.W.Frag}
theorem ix_tup' (h : X.K = K) : IxR X (rIxT K) := by subst h; exact ix_tup
theorem ix_list' (h : X.K = K) : IxR X (rIxL K) := by subst h; exact ix_list
theorem sl_list' (h : X.K = K) : SlR X (rSlL K) := by subst h; exact sl_list
theorem op_in_seq' (h : X.K = K) : OpR X (compareOp .In) (rIn K false) := by subst h; exact op_in_seq
theorem op_catT' (h : X.K = K) : OpR X (binaryOp .Add) (rCatT K) := by subst h; exact op_catT
theorem op_eqD' {k : Nat} (h : X.K = K) (hr : Room k X.A) : OpR X (compareOp .Eq) (rEqD K) := by subst h; exact op_eqD hr
theorem call_len' (h : X.K = K) : CallR X (.builtin "len") (fun xs H Q => ∃ x n, xs = [x] ∧ LenV K x H n ∧ Q (.int n) H) := by subst h; exact call_len
theorem call_isi' (h : X.K = K) : CallR X (.builtin "isinstance") (fun xs H Q => ∃ x n t b, xs = [x, .ty n] ∧ TyOf K H x t ∧ PySem.W.kitOne K t (.type n) = some b ∧ Q (.bl b) H) := by subst h; exact call_isi
theorem call_isiE' (h : X.K = K) : CallR X (.builtin "isinstance") (fun xs H Q => ∃ a C c b, xs = [.ref a, c] ∧ H a = some (excO a (.ref C)) ∧ ExcK K C ∧
  ((∃ n, c = .ty n ∧ PySem.W.kitOne K (.ref C) (.type n) = some b) ∨ (∃ D, c = .ref D ∧ PySem.W.kitOne K (.ref C) (.ref D) = some b) ∨
   (∃ (p : Addr) (Ds : List Addr), c = .ref p ∧ H p = some (.tup (Ds.map V.ref)) ∧ PySem.W.kitAny K (.ref C) (Ds.map Value.ref) = some b)) ∧ Q (.bl b) H) := by subst h; exact call_isiE
theorem call_list_of' (h : X.K = K) : CallR X (.type "list") (fun xs H Q => ∃ p ys, xs = [.ref p] ∧ (SqL K H p ys ∨ SqT K H p ys) ∧ ∀ l, H l = none → Q (.ref l) (upd H l (.lst ys))) := by subst h; exact call_list_of
theorem call_tuple_of' (h : X.K = K) : CallR X (.type "tuple") (fun xs H Q => ∃ p ys, xs = [.ref p] ∧ ((SqL K H p ys ∧ ∀ l, H l = none → Q (.ref l) (upd H l (.tup ys))) ∨ (SqT K H p ys ∧ Q (.ref p) H))) := by subst h; exact call_tuple_of
theorem call_all' (h : X.K = K) (hc : X.calm = true) : CallR X (.builtin "all") (fun xs H Q => ∃ (a : Addr) (bs : List Bool), xs = [V.ref a] ∧ SqL K H a (bs.map V.bl) ∧ Q (.bl (bs.all id)) H) := by subst h; exact call_all hc
theorem pi_list' {tg l : Expr} {tl : TE} (h : X.K = K) (hl : PE X l tl) : PI X tg l (iList K tl) := by subst h; exact pi_list hl
theorem pi_tup' {tg l : Expr} {tl : TE} (h : X.K = K) (hl : PE X l tl) : PI X tg l (iTup K tl) := by subst h; exact pi_tup hl
end
theorem pe_gint {X : Cx} {x : Str} {i : Int} {pos : Pos} (hg : Gl X x) (h : ∃ t, X.mg x = some (.int i t)) (hd : (x == ("__debug__" : Str)) = false := by decide) : PE X (.Name x pos) (tC (.int i)) := by
 obtain ⟨t, h⟩ := h
 exact pe_glob hg h ⟨t, rfl⟩ hd
theorem pe_gstr {X : Cx} {x z : Str} {pos : Pos} (hg : Gl X x) (h : ∃ t, X.mg x = some (.str z t)) (hd : (x == ("__debug__" : Str)) = false := by decide) : PE X (.Name x pos) (tC (.str z)) := by
 obtain ⟨t, h⟩ := h
 exact pe_glob hg h ⟨t, rfl⟩ hd
theorem Same.updD {H H' : Hp} {D : Addr} {o : HO} (s : Same H H') (h : H D = none) : Same H (L2.upd H' D o) := fun b u e => by
 rw [L2.upd_ne (ne_of_none e h)]; exact s b u e
end L2
namespace L2
open PySem PySem.Spec PyProof.Rows
/-! ### texts -/
theorem strs_of_vals : ∀ {ys : List Str} {vs : List Value}, Vals (ys.map V.str) vs → StrsAre vs ys
 | [], _, .nil => .nil
 | y :: ys, _, .cons r t => by obtain ⟨tk, rfl⟩ := r; exact .cons y tk (strs_of_vals t)
section
variable {X : Cx} {K : PySem.W.Frag}
noncomputable def rJoin (K : PySem.W.Frag) : V → List V → Hp → VK → Prop := fun x vs H Q => ∃ (z : Str) (a : Addr) (ys : List Str), x = .str z ∧ vs = [.ref a] ∧ SqL K H a (ys.map V.str) ∧ (ys.map (·.length)).sum + ys.length * z.length ≤ 16777216 ∧ Q (.str (Txt.join z ys)) H
theorem mt_join' (h : X.K = K) : MtR X "str.join" (rJoin K) := by
 subst h
 intro pins s σ H x xs v us Q I rx rv h
 obtain ⟨z, a, ys, rfl, rfl, hq, hz, q⟩ := h
 obtain ⟨t, rfl⟩ := rx
 obtain ⟨u, rfl, ru⟩ := Vals.one rv
 cases ru
 obtain ⟨its, r, p, _⟩ := I.list hq
 exact join_list p.isList (by simpa using strs_of_vals r) hz fun t' k => ⟨.str _, H, I.tok k, ⟨t', rfl⟩, q⟩
theorem pe_bm' {o e : Expr} {es : List Expr} {to : TE} {t : TA} {name : Str} {apos cpos : Pos} {T id : String} {r : V → List V → Hp → VK → Prop} (h : X.K = K) (pa : PlainAttrs T) (slot : Slot T name id) (hty : typeOf (.builtin id) = pure (.type "method_descriptor"))
  (hm : MtR X id r) (ho : PE X o to) (ha : PA X (e :: es) t) (hbase : attributeBase o name X.env (eval o X.env) = eval o X.env := by rfl)
  (hfew : ((backTo cpos (starEach (e :: es) X.env)).all (fun x => !x.1) && (backToKw cpos (keywordEach [] X.env)).all (fun x => x.1.isSome) && decide ((e :: es).length + ([] : List Keyword).length + (if ([] : List Keyword).isEmpty then 0 else 1) < 30)) = true := by rfl)
  (hline : (apos.endLine == cpos.line) = true := by rfl) (hs : starEach (e :: es) X.env = (false, eval e X.env) :: starEach es X.env := by rfl) (hplain : (backTo cpos (starEach es X.env)).any (·.1) = false := by rfl) :
  PE X (.Call (.Attribute o name apos) (e :: es) [] cpos) (tBM K T r to t) := by subst h; exact pe_bm pa slot hty hm ho ha hbase hfew hline hs hplain
noncomputable def Its (z : Str) : It := ⟨fun i _ => i < z.cps.size, fun i H x H' => H' = H ∧ ∃ c, z.cps[i]? = some c ∧ x = .str ⟨#[c]⟩, fun i _ => i = z.cps.size⟩
theorem turn_str {P : Program} {w : World} {tg : Expr} {it : Addr} {z : Str} {t : Tok} {ty : String} (hty : ty = "str_ascii_iterator" ∨ ty = "str_iterator")
  (W : ∀ A' : Around, A'.handled = none → Walks P w A' it [it] [it] z.cps.size (SignAt z) (fun i h => h.IsStrIter it ty z t i)) : Turn P w K tg (Its z) [it] it (fun i h => h.IsStrIter it ty z t i) where
 mem := by simp
 obj := fun i h st b hb => by
  have e : b = it := by simpa using hb
  subst e
  obtain ⟨o, e, _, d⟩ := st
  exact ⟨o, e, fun v z => by rw [d] at z; cases z⟩
 keep := fun i h h' st k => let ⟨o, e, r⟩ := st; ⟨o, k it (by simp) o e, r⟩
 item := by
  intro X hP hw hK hc i pins s σ H E I hf st hg
  subst hP hw hK
  obtain ⟨f0, f1, _, f3, f4, f5⟩ := hf it (by simp)
  refine (W X.A (I.ok.hd hc)).item i s _ _ hg st fun v h' tk hv st' kk => ?_
  obtain ⟨c, u, hcp, rfl⟩ := hv
  have I1 : Inv X pins σ H { s with heap := h', toks := tk } := I.turned (fun b o hb e => kk b o (by simpa using hb) e) f0 f1 f3 f4 f5
  obtain ⟨o, e, cl, d⟩ := id st'
  refine ⟨_, rfl, go_of (s := { s with heap := h', toks := tk }) e cl d ?_ ⟨.str ⟨#[c]⟩, H, I1, ⟨u, rfl⟩, ⟨rfl, c, hcp, rfl⟩, st', fun b hb => (hf b hb).1⟩⟩
  rcases hty with rfl | rfl <;> decide
 done := by
  intro X hP hw hK hc i pins s σ H E I hf st hg
  subst hP hw hK
  obtain ⟨f0, f1, _, f3, f4, f5⟩ := hf it (by simp)
  have hg : i = z.cps.size := hg
  subst hg
  exact (W X.A (I.ok.hd hc)).done s _ _ st fun h' tk kk => ⟨rfl, I.turned (fun b o hb e => kk b o (by simpa using hb) e) f0 f1 f3 f4 f5⟩
 self := fun A i s Q E st h => by
  rcases hty with rfl | rfl
  ·exact wpAny_pyIter_striter_ascii st h
  ·exact wpAny_pyIter_striter_wide st h
noncomputable def iStr (tl : TE) : TI := fun σ H R => tl σ H fun x H1 => ∃ z, x = .str z ∧ R (Its z) H1
theorem pi_str {tg l : Expr} {tl : TE} (hl : PE X l tl) : PI X tg l (iStr tl) := by
 intro pins s σ H R I h
 refine thn (hl pins s σ H _ I h) fun v s1 ⟨x, H1, I1, r1, q1⟩ => ?_
 obtain ⟨z, rfl, q⟩ := q1
 obtain ⟨t, rfl⟩ := r1
 have fp : ∀ b ∈ [s1.heap.objs.size], FpOk X pins H1 b := fun b hb => by
  have e : b = s1.heap.objs.size := by simpa using hb
  subst e
  exact I1.fpOk (Nat.le_refl _) I1.fresh
 cases ha : z.cps.all (· < 128)
 ·exact wpAny_pyIter_wide ha ⟨s1.heap.objs.size, [s1.heap.objs.size], _, _, H1, rfl, I1.kept (t' := s1.toks) fun b o e => Heap.get?_push_of_some _ e, turn_str (.inr rfl) (fun A' hA => Walks.strWide hA _ z t), ⟨_, Heap.get?_push_size _ rfl, rfl, rfl⟩, fp, q⟩
 ·exact wpAny_pyIter_ascii ha ⟨s1.heap.objs.size, [s1.heap.objs.size], _, _, H1, rfl, I1.kept (t' := s1.toks) fun b o e => Heap.get?_push_of_some _ e, turn_str (.inl rfl) (fun A' hA => Walks.strAscii hA _ z t), ⟨_, Heap.get?_push_size _ rfl, rfl, rfl⟩, fp, q⟩
theorem block_str {z : Str} {g : TG} {tc : TT} {te : TE} {D : Addr} {Z : Hp → Prop} {σ : St} {H : Hp} (Pv : Nat → St → Hp → Prop) (h0 : Pv 0 σ H)
  (hs : ∀ i c σ H, z.cps[i]? = some c → Pv i σ H → g (.str ⟨#[c]⟩) σ H fun σ2 H2 => tc σ2 H2 fun b H3 => if b = true then te σ2 H3 fun y H4 => ∃ ys, H4 D = some (.lst ys) ∧ ys.length < sizeLine ∧ Pv (i + 1) σ2 (upd H4 D (.lst (ys ++ [y]))) else Pv (i + 1) σ2 H3)
  (hd : ∀ σ H, Pv z.cps.size σ H → Z H) : tBlock (Its z) g tc te D Z σ H := by
 refine ⟨fun i m σ H => m = z.cps.size - i ∧ i ≤ z.cps.size ∧ Pv i σ H, ⟨_, rfl, Nat.zero_le _, h0⟩, ?_⟩
 rintro i m σ H ⟨rfl, hi, p⟩
 by_cases hlt : i < z.cps.size
 ·refine .inr ⟨hlt, Pv (i + 1), fun σ' H' p' => ⟨z.cps.size - (i + 1), by omega, rfl, hlt, p'⟩, fun x H' y => ?_⟩
  obtain ⟨e, c, hc, e2⟩ := y
  subst e e2
  exact hs i c σ _ hc p
 ·have e : i = z.cps.size := by omega
  subst e
  exact .inl ⟨rfl, hd σ H p⟩
noncomputable def rSlS : V → Option Int → Option Int → Hp → VK → Prop := fun x lo hi H Q => ∃ z, x = .str z ∧ z.length ≤ sizeLine ∧ Q (.str (Txt.slice z lo hi)) H
theorem sl_str : SlR X rSlS := by
 intro pins s σ H x v vl vu lo hi sl Q I rx hs pl pu h
 obtain ⟨z, rfl, hz, q⟩ := h
 obtain ⟨t, rfl⟩ := rx
 obtain ⟨o, ho, hc, hd⟩ := hs
 have fin : ∀ t' k, EP X pins σ Q (.str (Txt.slice z lo hi) t') { s with toks := k } := fun t' k => ⟨.str _, H, I.tok k, ⟨t', rfl⟩, q⟩
 refine ⟨"str", _, F.slot_str_getitem.lookup, typeIs_str _ _ _, ?_⟩
 cases pl with
 | none => cases pu with
  | none => exact wpAny_getItem_str_slice (l := none) (u := none) (st := none) ⟨o, ho, hc, hd⟩ rfl (post_val_or_str ⟨Nat.le_trans (Txt.slice_le z _ _) hz, fin⟩)
  | int j uj => exact wpAny_getItem_str_slice (l := none) (u := some (j, uj)) (st := none) ⟨o, ho, hc, hd⟩ rfl (post_val_or_str ⟨Nat.le_trans (Txt.slice_le z _ _) hz, fin⟩)
 | int i ui => cases pu with
  | none => exact wpAny_getItem_str_slice (l := some (i, ui)) (u := none) (st := none) ⟨o, ho, hc, hd⟩ rfl (post_val_or_str ⟨Nat.le_trans (Txt.slice_le z _ _) hz, fin⟩)
  | int j uj => exact wpAny_getItem_str_slice (l := some (i, ui)) (u := some (j, uj)) (st := none) ⟨o, ho, hc, hd⟩ rfl (post_val_or_str ⟨Nat.le_trans (Txt.slice_le z _ _) hz, fin⟩)
end
end L2
namespace L2
open PySem PySem.Spec PyProof.Rows
section
variable {X : Cx} {K : PySem.W.Frag} {k : Nat}
end
end L2
namespace Tc
open PySem L2
theorem ddv {i d : Int} (h1 : 0 < d) (h2 : d ≤ 1000000) : CDivB i d := divB_of (by omega) (Nat.lt_of_le_of_lt (m := 1000000) (by omega) (by decide))
end Tc
namespace L2
open PySem PySem.Spec PyProof.Rows
/-! ### a dict as it lies in the heap: its entries, whatever its keys are -/
section
variable {prog : Program} {w : World} {A : Around} {E : Value → Shared → Prop} {s : Shared} {it d vw : Addr} {i ep : Nat} {es : Array DictEntry} {ok ov : Value}
end
end L2
namespace L2
open PySem PySem.Spec PyProof.Rows
/-! ### a dict that is walked stands still -/
section
variable {X : Cx} {pins : List (Addr × Obj)} {σ : St} {H : Hp} {s : Shared} {d : Addr} {u : HO} {o : Obj}
/-! ### its entries -/
end
end L2
namespace L2
open PySem PySem.Spec PyProof.Rows
/-! ### d.values(), whatever the keys are -/
section
variable {prog : Program} {w : World} {A : Around} {E : Value → Shared → Prop} {s : Shared} {it d vw : Addr} {i ep : Nat} {es : Array DictEntry}
end
section
variable {X : Cx} {K : PySem.W.Frag}
end
end L2
namespace L2
open PySem PySem.Spec PyProof.Rows
/-! ### d.clear(), dict(d), for k in d -/
section
variable {prog : Program} {w : World} {A : Around} {E : Value → Shared → Prop} {s : Shared} {it d vw : Addr} {i ep : Nat} {es : Array DictEntry}
end
section
variable {X : Cx}
end
theorem pe_bm0' {X : Cx} {K : PySem.W.Frag} {o : Expr} {to : TE} {name : Str} {apos cpos : Pos} {T id : String} {r : V → List V → Hp → VK → Prop} (h : X.K = K) (pa : PlainAttrs T) (slot : Slot T name id) (hty : typeOf (.builtin id) = pure (.type "method_descriptor")) (hm : MtR X id r) (ho : PE X o to)
  (hbase : attributeBase o name X.env (eval o X.env) = eval o X.env := by rfl) (hline : (apos.endLine == cpos.line) = true := by rfl) : PE X (.Call (.Attribute o name apos) [] [] cpos) (tBM0 K T r to) := by subst h; exact pe_bm0 pa slot hty hm ho hbase hline
/-! the forms one uses -/
end L2
namespace Tc
/-! tables as functions from places to shares -/
section
variable {α : Type} [DecidableEq α]
end
end Tc
namespace L2
open PySem PySem.Spec PyProof.Rows
section
variable {X : Cx} {K : PySem.W.Frag}
end
end L2
namespace L2
open PySem PySem.Spec PyProof.Rows
theorem Paired.app {α β : Type} {F : α → β → Prop} {xs xs' : List α} {ys ys' : List β} (h : Paired F xs ys) (g : Paired F xs' ys') : Paired F (xs ++ xs') (ys ++ ys') := by
 induction h with
 | nil => exact g
 | cons r t ih => exact .cons r ih
section
variable {X : Cx} {K : PySem.W.Frag} {pos : Pos}
end
end L2
namespace L2
open PySem PySem.Spec PyProof.Rows
end L2
namespace L2
open PySem PySem.Spec PyProof.Rows
theorem bt_enumerate : bootBuiltins "enumerate" = some (.type "enumerate") := by decide +kernel
section
variable {X : Cx} {pins : List (Addr × Obj)} {σ : St} {H : Hp} {s : Shared} {h' : Heap}
theorem Inv.turns {t' : Nat} {ch : List Addr} (I : Inv X pins σ H s) (k : ∀ b o, b ∉ ch → s.heap.get? b = some o → h'.get? b = some o) (hf : ∀ b ∈ ch, FpOk X pins H b) : Inv X pins σ H { s with heap := h', toks := t' } := by
 have nit : ∀ b u, H b = some u → b ∉ ch := fun b u e z => by rw [(hf b z).1] at e; cases e
 refine I.step (g' := s.gens) (d' := s.drawn) (ch := ch) (fun b hb => ?_) (fun b o _ _ hc e _ => k b o hc e) (fun b o _ _ hc e _ => ⟨o.slots, k b o hc e⟩) (fun _ _ _ _ n => n) (fun b o hc e => ⟨o, k b o hc e⟩) (fun _ _ e => e) (fun _ _ _ e => e) (fun b ps e => ⟨#[], by rw [e]; simp⟩) (fun m hm => ?_) (fun b u e => ?_) I.bare
 ·obtain ⟨f0, f1, f2, f3, f4, f5⟩ := hf b hb
  exact ⟨f3, f1, f4, f5⟩
 ·obtain ⟨o, es, ep, ho, r⟩ := hm
  exact ⟨o, es, ep, k _ o (fun z => (hf _ z).2.1 rfl) ho, r⟩
 ·refine (I.hok b u e).stay (fun c v hc q => k c v ?_ q) (fun _ q => q) fun _ _ q => q
  rcases hc with z | z
  ·rw [z]; exact nit b u e
  ·exact nit c _ z
end
noncomputable def ItE (K : PySem.W.Frag) (a : Addr) (xs : List V) : It :=
 ⟨fun i H => i < xs.length ∧ SqL K H a xs, fun i H x H' => ∃ v T, xs[i]? = some v ∧ x = .ref T ∧ H T = none ∧ H' = upd H T (.tup [.int (i : Nat), v]), fun i H => i = xs.length ∧ SqL K H a xs⟩
theorem turn_enum {P : Program} {w : World} {K : PySem.W.Frag} {elts : List Expr} {kk : Nat} {pos : Pos} (a e li : Addr) (xs : List V) (hne : e ≠ li) :
  Turn P w K (.Tuple elts kk pos) (ItE K a xs) [e, li] e (fun i h => ∃ old, IsEnum h e li ((i : Nat) : Int) old ∧ h.IsListIter li a i) where
 mem := by simp
 obj := fun i h st b hb => by
  obtain ⟨old, s1, o, e2, c, d⟩ := st
  simp only [List.mem_cons, List.not_mem_nil, or_false] at hb
  rcases hb with rfl | rfl
  ·exact ⟨_, s1, fun v z => by cases z⟩
  ·exact ⟨o, e2, fun v z => by rw [d] at z; cases z⟩
 keep := fun i h h' st k => let ⟨old, s1, s2⟩ := st; ⟨old, k e (by simp) _ s1, s2.at fun o eo => k li (by simp) o eo⟩
 item := by
  intro X hP hw hK hc i pins s σ H E I hf st hg
  subst hP hw hK
  obtain ⟨old, st1, st2⟩ := st
  obtain ⟨hi, hq⟩ := hg
  obtain ⟨its, rv, p, hz⟩ := I.list hq
  have hx : xs[i]? = some xs[i] := by simp [hi]
  obtain ⟨u, hu, ru⟩ := rv.get hx
  refine wpAny_pyNext_enum_item st1 st2 p.isList (x := u) (by simpa using hu) hne fun h' jo jl ht hz' kp => ?_
  refine ⟨_, rfl, wpAny_letOwnedTupleGo_enum jo fun h2 he2 sb => ?_⟩
  have sb : Heap.SameBut e h' h2 := sb
  have nTe : s.heap.objs.size ≠ e := Nat.ne_of_gt (Heap.lt_size st1)
  have nTl : s.heap.objs.size ≠ li := by
   obtain ⟨o, e2, _⟩ := id st2
   exact Nat.ne_of_gt (Heap.lt_size e2)
  have I1 : Inv X pins σ H { s with heap := h2, toks := s.toks + 1 } := I.turns (ch := [e, li]) (fun b o hb eo => sb.extBut b o (fun z => hb (by simp [z])) (kp b o (fun z => hb (by simp [z])) (fun z => hb (by simp [z])) eo)) hf
  have hT2 : h2.get? s.heap.objs.size = some { cls := .type "tuple", data := .seq #[.int i s.toks, u] } := sb.extBut _ _ nTe ht
  obtain ⟨g0, g1, _, _, g4, g5⟩ := I.fpOk (Nat.le_refl _) I.fresh
  have I2 := I1.track (a := s.heap.objs.size) (o := .tup [.int (i : Nat), xs[i]]) g0 (by
   cases q : X.s₀.heap.get? s.heap.objs.size with
   | none => rfl
   | some ob => exact absurd (Nat.lt_of_lt_of_le (Heap.lt_size q) I.sz) (Nat.lt_irrefl _)) g1 g4 g5 ⟨small1000 (by simp) |> Nat.le_of_lt, [.int i s.toks, u], .cons ⟨_, rfl⟩ (.cons ru .nil), ⟨_, hT2, rfl, _, rfl⟩⟩
  refine ⟨.ref _, _, I2, rfl, ⟨xs[i], _, hx, rfl, g0, rfl⟩, ⟨_, he2, jl.extBut sb.extBut hne.symm⟩, fun b hb => ?_⟩
  have nb : b ≠ s.heap.objs.size := by
   simp only [List.mem_cons, List.not_mem_nil, or_false] at hb
   rcases hb with rfl | rfl
   ·exact nTe.symm
   ·exact nTl.symm
  rw [upd_ne nb]; exact (hf b hb).1
 done := by
  intro X hP hw hK hc i pins s σ H E I hf st hg
  subst hP hw hK
  obtain ⟨old, st1, st2⟩ := st
  obtain ⟨hi, hq⟩ := hg
  obtain ⟨its, rv, p, hz⟩ := I.list hq
  have hl := rv.length
  exact wpAny_pyNext_enum_end (I.ok.hd hc) st1 st2 p.isList (by simp; omega) fun h' eb => ⟨rfl, I.turns (t' := s.toks) (ch := [e, li]) (fun b o hb eo => eb b o (fun z => hb (by simp [z])) eo) hf⟩
 self := fun A i s Q E st h => let ⟨_, st1, _⟩ := st; wpAny_pyIter_enum st1 h
section
variable {X : Cx} {K : PySem.W.Frag}
noncomputable def iEnum (K : PySem.W.Frag) (ta : TA) : TI := fun σ H R => ta σ H fun vs H1 => ∃ a xs, vs = [V.ref a] ∧ SqL K H1 a xs ∧ R (ItE K a xs) H1
theorem pi_enum {elts : List Expr} {kk : Nat} {tpos : Pos} {a : Expr} {ta : TA} {p pos : Pos} (hK : X.K = K) (hg : Gl X "enumerate") (hm : X.mg "enumerate" = none) (ha : PA X [a] ta) (hs : starEach [a] X.env = [(false, eval a X.env)] := by rfl) : PI X (.Tuple elts kk tpos) (.Call (.Name "enumerate" p) [a] [] pos) (iEnum K ta) := by
 subst hK
 intro pins s σ H R I h
 refine Call_ (ld_blt I hg hm bt_enumerate (PyProof.Rows.callWith_type1 (thn (ha pos pins s σ H _ I h) fun us s1 ⟨vs, H1, I1, r1, q1⟩ => ?_) hs rfl))
 obtain ⟨b, xs, rfl, hq, q⟩ := q1
 obtain ⟨u, rfl, ru⟩ := vals1 r1
 cases ru
 obtain ⟨its, rv, p, hz⟩ := I1.list hq
 refine call_enumerate_list p.isList fun h' he hl hz kk => wpAny_pyIter_enum he ?_
 refine ⟨s1.heap.objs.size + 1, [s1.heap.objs.size + 1, s1.heap.objs.size], _, _, H1, rfl, I1.kept (t' := s1.toks) kk, turn_enum b (s1.heap.objs.size + 1) s1.heap.objs.size xs (Nat.succ_ne_self _), ⟨_, he, hl⟩, fun c hc => ?_, q⟩
 simp only [List.mem_cons, List.not_mem_nil, or_false] at hc
 rcases hc with rfl | rfl
 ·exact I1.fpOk (by omega) (I1.hok.fresh (by omega))
 ·exact I1.fpOk (Nat.le_refl _) (I1.hok.fresh (Nat.le_refl _))
end
/-! the forms one uses -/
theorem for_enum {K : PySem.W.Frag} {a : Addr} {xs : List V} {g : TG} {tb : TS} {D : Ends} {σ : St} {H : Hp} (Pv : Nat → St → Hp → Prop) (h0 : Pv 0 σ H) (hl : ∀ i σ H, i ≤ xs.length → Pv i σ H → SqL K H a xs)
  (hs : ∀ i v T σ H, xs[i]? = some v → Pv i σ H → H T = none → g (.ref T) σ (upd H T (.tup [.int (i : Nat), v])) fun σ2 H2 => tb { D with nx := Pv (i + 1), ct := Pv (i + 1), bk := D.nx } σ2 H2) (hd : ∀ σ H, Pv xs.length σ H → D.nx σ H) :
  ∃ W : Nat → Nat → St → Hp → Prop, (∃ m, W 0 m σ H) ∧ ∀ i m σ H, W i m σ H → ((ItE K a xs).stop i H ∧ D.nx σ H) ∨ ((ItE K a xs).go i H ∧ ∃ N : St → Hp → Prop, (∀ σ' H', N σ' H' → ∃ m', m' < m ∧ W (i + 1) m' σ' H') ∧
   ∀ x H', (ItE K a xs).yld i H x H' → g x σ H' fun σ2 H2 => tb { D with nx := N, ct := N, bk := D.nx } σ2 H2) := by
 refine ⟨fun i m σ H => m = xs.length - i ∧ i ≤ xs.length ∧ Pv i σ H, ⟨_, rfl, Nat.zero_le _, h0⟩, ?_⟩
 rintro i m σ H ⟨rfl, hi, p⟩
 have q := hl i σ H hi p
 by_cases hlt : i < xs.length
 ·refine .inr ⟨⟨hlt, q⟩, Pv (i + 1), fun σ' H' p' => ⟨xs.length - (i + 1), by omega, rfl, hlt, p'⟩, fun x H' y => ?_⟩
  obtain ⟨v, T, hv, e1, hT, e2⟩ := y
  subst e1 e2
  exact hs i v T σ H hv p hT
 ·have e : i = xs.length := by omega
  subst e
  exact .inl ⟨⟨rfl, q⟩, hd σ H p⟩
end L2
namespace L2
open PySem PySem.Spec PyProof.Rows
section
variable {X : Cx}
end
end L2
namespace L2
open PySem PySem.Spec PyProof.Rows
section
variable {X : Cx} {K : PySem.W.Frag}
end
end L2
namespace L2
open PySem PySem.Spec PyProof.Rows
section
variable {X : Cx} {K : PySem.W.Frag}
end
end L2
namespace L2
open PySem PySem.Spec PyProof.Rows
end L2
namespace L2
open PySem PySem.Spec PyProof.Rows
section
variable {X : Cx}
end
end L2
namespace L2
open PySem PySem.Spec PyProof.Rows
section
variable {prog : Program} {w : World} {A : Around} {E : Value → Shared → Prop} {s : Shared}
variable {Kt : Type} [DecidableEq Kt] {knd : KeyKind prog w Kt}
open SeqAt in
open SeqAt in
end
end L2
namespace L2
open PySem PySem.Spec PyProof.Rows
section
variable {X : Cx} {K : PySem.W.Frag}
end
end L2
namespace L2
open PySem PySem.Spec PyProof.Rows
section
variable {prog : Program} {w : World} {A : Around} {E : Value → Shared → Prop} {s : Shared} {d : Addr} {es : Array DictEntry} {ep : Nat}
end
section
variable {X : Cx} {K : PySem.W.Frag}
end
end L2
namespace L2
open PySem PySem.Spec PyProof.Rows
section
variable {X : Cx}
end
end L2
namespace L2
open PySem PySem.Spec PyProof.Rows
section
variable {X : Cx} {K : PySem.W.Frag}
end
end L2
namespace L2
theorem by_key1 {α : Type} {P C : α → Prop} {G : Prop} (go : (∀ x, C x → P x) → G) (body : ∀ x, C x → P x) : G := go body
end L2
namespace L2
open PySem PySem.Spec PyProof.Rows
section
variable {X : Cx}
theorem strVals_vals : ∀ l : List (Str × Tok), Vals ((l.map (·.1)).map V.str) (strValues l)
 | [] => .nil
 | p :: r => .cons ⟨p.2, rfl⟩ (strVals_vals r)
noncomputable def rSplit : V → List V → Hp → VK → Prop := fun x vs H Q => ∃ (z y : Str), x = .str z ∧ vs = [.str y] ∧ (y.length == 0) = false ∧ z.length + 2 ≤ 16777216 ∧ ∀ p, H p = none → Q (.ref p) (upd H p (.lst ((Txt.split z y).map V.str)))
theorem mt_split : MtR X "str.split" rSplit := by
 intro pins s σ H x vs v us Q I rx rv h
 obtain ⟨z, y, rfl, rfl, hy, hz, q⟩ := h
 obtain ⟨t, rfl⟩ := rx
 obtain ⟨u, rfl, ru⟩ := rv.one
 obtain ⟨u', rfl⟩ := ru
 have hsz : sizeLine = 16777216 := sizeLine_eq
 have hn : (Builtin.Str.partsBetween z (Builtin.Str.occurrences z y 0 z.length (z.length + 1)) y.length).length ≤ sizeLine := by
  have e1 := StrLaws.occ_length_le z y 0 z.length (z.length + 1)
  rw [length_partsBetween]; omega
 have fin : ∀ (l : List (Str × Tok)) (k : Nat), l.map (·.1) = Txt.split z y → l.length ≤ sizeLine → ∃ (x : V) (H' : Hp), Inv X pins σ H' { s with heap := s.heap.push { cls := .type "list", data := .seq (strValues l).toArray }, toks := k } ∧ RelV x (.ref s.heap.objs.size) ∧ Q x H' := by
  intro l k e hl
  refine ⟨.ref _, _, I.laid (t' := k) (o := .lst ((Txt.split z y).map V.str)) (fun b ob q => Heap.get?_push_of_some _ q) (Nat.le_refl _) ?_, rfl, q _ (I.hok.fresh (Nat.le_refl _))⟩
  rw [← e]
  exact ⟨by simpa using hl, _, 0, strVals_vals l, Heap.get?_push_size _ rfl⟩
 cases h1 : (decide (z.length < y.length) || decide (Builtin.Str.strKind z < Builtin.Str.strKind y))
 ·cases hf : (Builtin.Str.occurrences z y 0 z.length (z.length + 1)).isEmpty
  ·refine call_meets F.slot_str_split (typeIs_str _ _ _) F.entry_str_split (F.args_str_split_2 _ _) (meets_str_split_sep z y t u' h1 hy hf (by omega) hn) ?_
   show wants _ _ _ { s with toks := _, heap := s.heap.push { cls := .type "list", data := .seq (strsFrom s.toks (Builtin.Str.partsBetween z (Builtin.Str.occurrences z y 0 z.length (z.length + 1)) y.length)).toArray } }
   rw [strsFrom_eq]
   have e2 := numbered_texts s.toks (Builtin.Str.partsBetween z (Builtin.Str.occurrences z y 0 z.length (z.length + 1)) y.length)
   refine fin (numbered s.toks _) _ (e2.trans ((if_neg (ne_true_of_eq_false h1)).trans (if_neg (ne_true_of_eq_false hf))).symm) ?_
   have e3 := congrArg List.length e2
   rw [List.length_map] at e3
   rw [e3]; exact hn
  ·exact call_meets F.slot_str_split (typeIs_str _ _ _) F.entry_str_split (F.args_str_split_2 _ _) (meets_str_split_not_found z y t u' h1 hy hf)
    (fin [(z, t)] s.toks ((if_neg (ne_true_of_eq_false h1)).trans (if_pos hf)).symm (by rw [hsz]; show 1 ≤ 16777216; decide))
 ·exact call_meets F.slot_str_split (typeIs_str _ _ _) F.entry_str_split (F.args_str_split_2 _ _) (meets_str_split_cannot_occur z y t u' h1)
   (fin [(z, t)] s.toks (if_pos h1).symm (by rw [hsz]; show 1 ≤ 16777216; decide))
noncomputable def tFmt (te : TE) : TE := fun σ H Q => te σ H fun x H1 => ∃ n : Int, x = .int n ∧ n.natAbs.log2 < 1920 ∧ Q (.str (Str.ofString (toString n))) H1
theorem pe_fmt {e : Expr} {te : TE} {pos : Pos} (he : PE X e te) : PE X (.FormattedValue e (-1) none pos) (tFmt te) := by
 intro pins s σ H Q I h
 refine wpAny_FormattedValue_plain (thn (he pins s σ H _ I h) fun v s1 ⟨x, H1, I1, r1, q1⟩ => ?_)
 obtain ⟨n, rfl, hn, q⟩ := q1
 obtain ⟨t, rfl⟩ := r1
 exact wpAny_formatField_int hn ⟨.str _, H1, I1.tok _, ⟨_, rfl⟩, q⟩
noncomputable def tJs : List TE → Str → TE
 | [], acc => fun _ H Q => acc.length ≤ 16777216 ∧ Q (.str acc) H
 | t :: ts, acc => fun σ H Q => t σ H fun x H1 => ∃ y, x = .str y ∧ (acc ++ y).length ≤ 16777216 ∧ tJs ts (acc ++ y) σ H1 Q
theorem joins_of {pins : List (Addr × Obj)} {σ : St} {Q : VK} : ∀ (es : List Expr) (ts : List TE) (acc : Str) (s : Shared) (H : Hp), Paired (PE X) es ts → Inv X pins σ H s → tJs ts acc σ H Q →
  Joins (model X.prog X.w) X.A X.xe (evalEach es X.env) acc (fun out s₁ => out.length ≤ sizeLine ∧ EP X pins σ Q (.str out s₁.toks) { s₁ with toks := s₁.toks + 1 }) s
 | _, _, acc, s, H, .nil, I, h => ⟨by rw [sizeLine_eq]; exact h.1, .str acc, H, I.tok _, ⟨_, rfl⟩, h.2⟩
 | _, _, acc, s, H, .cons r t, I, h => thn (r pins s σ H _ I h) fun v s1 ⟨x, H1, I1, r1, q1⟩ => by
  obtain ⟨y, rfl, hz, q⟩ := q1
  obtain ⟨t', rfl⟩ := r1
  exact ⟨y, t', rfl, by rw [sizeLine_eq]; exact hz, joins_of _ _ _ _ _ t I1 q⟩
theorem pe_js {a b : Expr} {es : List Expr} {ts : List TE} {pos : Pos} (h : Paired (PE X) (a :: b :: es) ts) : PE X (.JoinedStr (a :: b :: es) pos) (tJs ts Str.empty) :=
 fun _ _ _ _ _ I q => wpAny_JoinedStr (joins_of _ _ _ _ _ h I q)
theorem pe_js1 {e : Expr} {te : TE} {pos : Pos} (h : PE X e te) : PE X (.JoinedStr [e] pos) te :=
 fun pins s σ H Q I q => wpAny_JoinedStr_one (h pins s σ H Q I q)
noncomputable def rIntT : List V → Hp → VK → Prop := fun xs H Q => ∃ (x : Str) (n : Int), xs = [.str x] ∧ PySem.intText? x = some n ∧ x.length ≤ 640 ∧ Q (.int n) H
theorem call_intT : CallR X (.type "int") rIntT := by
 intro pins s σ H xs us Q I r h
 obtain ⟨x, n, rfl, hn, hl, q⟩ := h
 obtain ⟨u, rfl, ru⟩ := vals1 r
 obtain ⟨t, rfl⟩ := ru
 exact PySem.W.KIN.call_text hn hl ⟨.int n, H, I.tok _, ⟨_, rfl⟩, q⟩
end
theorem int_reads (m : Nat) (hl : (Str.ofString (toString ((m : Nat) : Int))).length ≤ 640) : PySem.intText? (Str.ofString (toString ((m : Nat) : Int))) = some (m : Int) := by
 have hd : PySem.NumText.AllDigits (Str.ofString (toString ((m : Nat) : Int))).cps.toList := by
  intro c hc
  rw [PySem.W.KIN.signs_num] at hc
  obtain ⟨ch, hch, e⟩ := List.mem_map.mp hc
  rw [← e]
  exact PyProof.Rows.digit_range (Nat.isDigit_of_mem_toDigits (by decide) (by decide) hch)
 have hne : (Str.ofString (toString ((m : Nat) : Int))).cps.toList ≠ [] := by
  rw [PySem.W.KIN.signs_num]
  intro e
  have h := List.map_eq_nil_iff.mp e
  exact absurd h (Nat.toDigits_ne_nil)
 have e := _root_.PySem.intText_digits hd hne (Nat.le_trans hl (by decide))
 rw [PySem.W.KIN.signs_num, PySem.W.KIN.val_back] at e
 exact e
/-! what is joined by a sign that no part has is split into the parts -/
theorem head_free {c : Nat} : ∀ {a b r s : List Nat}, c ∉ a → c ∉ b → a ++ c :: r = b ++ c :: s → a = b ∧ r = s
 | [], [], _, _, _, _, h => ⟨rfl, (List.cons.inj h).2⟩
 | [], y :: b, _, _, _, hb, h => absurd (List.mem_cons.mpr (.inl (List.cons.inj h).1)) hb
 | x :: a, [], _, _, ha, _, h => absurd (List.mem_cons.mpr (.inl (List.cons.inj h).1.symm)) ha
 | x :: a, y :: b, _, _, ha, hb, h => by
  obtain ⟨e1, e2⟩ := List.cons.inj h
  obtain ⟨e3, e4⟩ := head_free (a := a) (b := b) (fun z => ha (.tail _ z)) (fun z => hb (.tail _ z)) e2
  exact ⟨by rw [e1, e3], e4⟩
theorem cps_sep (x t : Str) (c : Nat) : (x ++ (⟨#[c]⟩ : Str) ++ t).cps.toList = x.cps.toList ++ c :: t.cps.toList := by
 show (x.cps ++ #[c] ++ t.cps).toList = _
 simp
theorem str_ext {x y : Str} (h : x.cps.toList = y.cps.toList) : x = y := by
 cases x; cases y
 exact congrArg Str.mk (Array.toList_inj.mp h)
theorem join_parts {c : Nat} : ∀ {ys zs : List Str}, ys ≠ [] → zs ≠ [] → (∀ y ∈ ys, c ∉ y.cps.toList) → (∀ z ∈ zs, c ∉ z.cps.toList) → Str.join ⟨#[c]⟩ ys = Str.join ⟨#[c]⟩ zs → ys = zs
 | [], _, h, _, _, _, _ => absurd rfl h
 | _, [], _, h, _, _, _ => absurd rfl h
 | [y], [z], _, _, _, _, h => by rw [show y = z from h]
 | [y], z :: z2 :: r, _, _, hy, _, h => by
  have h : y = z ++ ⟨#[c]⟩ ++ Str.join ⟨#[c]⟩ (z2 :: r) := h
  refine absurd ?_ (hy y (.head _))
  rw [h, cps_sep]; simp
 | y :: y2 :: r, [z], _, _, _, hz, h => by
  have h : y ++ ⟨#[c]⟩ ++ Str.join ⟨#[c]⟩ (y2 :: r) = z := h
  refine absurd ?_ (hz z (.head _))
  rw [← h, cps_sep]; simp
 | y :: y2 :: r, z :: z2 :: t, _, _, hy, hz, h => by
  have h : y ++ ⟨#[c]⟩ ++ Str.join ⟨#[c]⟩ (y2 :: r) = z ++ ⟨#[c]⟩ ++ Str.join ⟨#[c]⟩ (z2 :: t) := h
  have h := congrArg (fun s : Str => s.cps.toList) h
  simp only [cps_sep] at h
  obtain ⟨e1, e2⟩ := head_free (hy y (.head _)) (hz z (.head _)) h
  rw [str_ext e1, join_parts (List.cons_ne_nil _ _) (List.cons_ne_nil _ _) (fun a ha => hy a (.tail _ ha)) (fun a ha => hz a (.tail _ ha)) (str_ext e2)]
theorem split_join {c : Nat} {ys : List Str} (h : ys ≠ []) (hf : ∀ y ∈ ys, c ∉ y.cps.toList) : Txt.split (Str.join ⟨#[c]⟩ ys) ⟨#[c]⟩ = ys := by
 refine join_parts ?_ h (StrLaws.split_free _ c) hf (StrLaws.join_split _ _)
 intro e
 have := split_pos (Str.join ⟨#[c]⟩ ys) ⟨#[c]⟩
 rw [e] at this
 exact absurd this (by decide)
end L2
namespace L2
open PySem PySem.Spec PyProof.Rows
/-! set(t) of a tuple of texts that are all different -/
section
variable {prog : Program} {w : World} {A : Around} {R : Result → Shared → Prop} {I : Addr} {fp wr : List Addr} {G : Array GenState → Array GenState → Prop} {P : Nat → Value → Prop} {St : Nat → Shared → Prop}
theorem seen_next {xs : List Str} {i : Nat} {x : Str} (h : xs[i]? = some x) (k : Str) : ((xs.take i).contains k || decide (k = x)) = (xs.take (i + 1)).contains k := by
 rw [List.take_add_one, h]
 show _ = (xs.take i ++ [x]).contains k
 rw [Bool.eq_iff_iff]
 simp
end
theorem sub_tup_set : isSubtype (.type "tuple") (.type "set") = pure false := by rw [isSubtype_type]; kernel_rfl
theorem sub_tup_frz : isSubtype (.type "tuple") (.type "frozenset") = pure false := by rw [isSubtype_type]; kernel_rfl
section
variable {prog : Program} {w : World} {A : Around} {E : Value → Shared → Prop} {s : Shared}
end
section
variable {X : Cx}
theorem bt_set : bootBuiltins "set" = some (.type "set") := by decide +kernel
end
end L2
namespace L2
open PySem PySem.Spec PyProof.Rows
/-! zip of two tuples -/
section
variable {P : Program} {w : World} {A : Around} {E : Value → Shared → Prop} {s : Shared}
end
section
variable {X : Cx} {K : PySem.W.Frag}
end
end L2
namespace L2
open PySem PySem.Spec PyProof.Rows
/-! dict(enumerate(l)) -/
section
variable {prog : Program} {w : World} {A : Around} {E : Value → Shared → Prop} {h : Heap} {g : Array GenState} {d : Drawn} {t : Nat} {os : OsState} {a : Addr} {fs : Array Value}
end
section
variable {P : Program} {w : World} {A : Around} {E : Value → Shared → Prop} {s : Shared}
end
section
variable {P : Program} {w : World} {A : Around} {E : Value → Shared → Prop} {s : Shared}
end
section
variable {X : Cx} {e : Expr}
noncomputable def tTryS (i : Nat) (tx : St → Hp → VK → XK → Prop) (th : Value → TS) : TS := fun D σ H => tx σ H (fun v H1 => D.nx (σ.set i (some v)) H1) (fun C _ H' => th C D σ H')
theorem ps_tryS {hd : ExceptHandler} {hds : List ExceptHandler} {th : Value → TS} {p1 p2 pos : Pos} {tx : St → Hp → VK → XK → Prop} {i : Nat} {x : Str} (hst : X.stack = X.env :: X.outer) (hf : X.env.frame = some X.env.locals) (hN : X.N.Nodup) (hi : X.N[i]? = some x) (hl : Loc X.env.scope x)
  (hx : PEX X e tx) (hh : Hd X (hd :: hds) th) (hs : swapsWith e (some (.Name x p2)) p1.line X.env = pure false := by rfl) (hfn : X.fn x = true ∨ X.env.scope.names.lookup x = some .local := by first | exact .inl rfl | exact .inr rfl) :
  PS X (.Try [.Assign [.Name x p2] e p1] (hd :: hds) [] [] pos) (tTryS i tx th) := by
 intro pins s σ H D I h
 refine wpAny_Try_except ?_
 refine wpAny_execs_cons (wpAny_Assign_Name (wpAny_mono (hx pins s σ H _ _ I h) (fun v s1 ⟨y, H1, I1, r1, q⟩ => ?_) fun ex s2 ⟨s1, H1, I1, z⟩ => ?_) hs)
 ·exact store_ok I1 hN hi hl r1 (fun s2 I2 => wpAny_execs_nil (wpAny_execs_nil ⟨_, H1, I2, q⟩)) hfn
 ·exact to_hands hst hf hh I1 z fun C _ H' q => q
end
end L2
namespace L2
open PySem PySem.Spec PyProof.Rows
/-! t * n of a tuple -/
section
variable {X : Cx} {K : PySem.W.Frag}
end
end L2
namespace L2
open PySem PySem.Spec PyProof.Rows
open AutoSeq1 (wpAny_loadPart')
/-! enumerate of a tuple -/
section
variable {P : Program} {w : World} {A : Around} {E : Value → Shared → Prop} {s : Shared}
end
section
variable {X : Cx} {K : PySem.W.Frag}
end
end L2
namespace L2
open PySem PySem.Spec PyProof.Rows
end L2
namespace L2
open PySem PySem.Spec PyProof.Rows
section
variable {X : Cx}
end
end L2
namespace L2
open PySem PySem.Spec PyProof.Rows
section
variable {X : Cx} {K : PySem.W.Frag}
end
end L2
namespace L2
open PySem PySem.Spec PyProof.Rows
/-! t * 1 of a tuple is the tuple -/
section
variable {X : Cx} {K : PySem.W.Frag}
end
end L2
namespace L2
open PySem PySem.Spec PyProof.Rows
section
variable {X : Cx} {K : PySem.W.Frag}
end
end L2
namespace L2
open PySem PySem.Spec PyProof.Rows
section
variable {X : Cx} {K : PySem.W.Frag}
end
end L2
namespace L2
open PySem PySem.Spec PyProof.Rows
section
variable {X : Cx} {K : PySem.W.Frag}
end
end L2
namespace L2
open PySem PySem.Spec PyProof.Rows
section
variable {X : Cx} {K : PySem.W.Frag}
theorem strs_vals : ∀ {zs : List Str} {us : List Value}, Vals (zs.map V.str) us → ∀ (j : Nat) (h1 : j < us.length) (h2 : j < zs.length), ∃ t, us[j] = .str zs[j] t
 | [], _, .nil, j, h1, _ => absurd h1 (Nat.not_lt_zero _)
 | z :: zs, _, .cons a b, 0, _, _ => by
  obtain ⟨t, rfl⟩ := a
  exact ⟨t, rfl⟩
 | z :: zs, _, .cons a b, j + 1, h1, h2 => strs_vals b j (Nat.lt_of_succ_lt_succ h1) (Nat.lt_of_succ_lt_succ h2)
theorem all_eqs : ∀ (zs ws : List Str), zs.length = ws.length → ((List.range zs.length).all fun j => zs.getD j (Str.ofString "") == ws.getD j (Str.ofString "")) = decide (zs = ws)
 | [], [], _ => rfl
 | z :: zs, w :: ws, h => by
  have ih := all_eqs zs ws (Nat.succ.inj h)
  rw [List.length_cons, List.range_succ_eq_map, List.all_cons, List.all_map]
  have e : ((List.range zs.length).all ((fun j => (z :: zs).getD j (Str.ofString "") == (w :: ws).getD j (Str.ofString "")) ∘ Nat.succ)) = decide (zs = ws) := ih
  rw [e]
  show (z == w && decide (zs = ws)) = decide (z :: zs = w :: ws)
  by_cases h1 : z = w
  ·subst h1
   by_cases h2 : zs = ws
   ·subst h2; simp
   ·rw [decide_eq_false h2, decide_eq_false (fun q => h2 (List.cons.inj q).2), Bool.and_false]
  ·rw [decide_eq_false (fun q => h1 (List.cons.inj q).1), beq_false_of_ne h1, Bool.false_and]
theorem op_eqSs {k : Nat} (hK : X.K = K) (hr : Room k X.A) : OpR X (compareOp .Eq) (fun x y H Q => ∃ (a b : Addr) (zs ws : List Str), x = .ref a ∧ y = .ref b ∧ SqL K H a (zs.map V.str) ∧ SqL K H b (ws.map V.str) ∧ Q (.bl (decide (zs = ws))) H) := by
 subst hK
 intro pins s σ H x y v u Q I rx ry h
 obtain ⟨a, b, zs, ws, rfl, rfl, ha, hb, q⟩ := h
 cases rx; cases ry
 obtain ⟨us, r1, p1, _⟩ := I.list ha
 obtain ⟨vs, r2, p2, _⟩ := I.list hb
 have hu := hr.un
 have l1 := r1.length
 have l2 := r2.length
 rw [List.length_map] at l1 l2
 by_cases hl : zs.length = ws.length
 ·have sz : us.toArray.size = vs.toArray.size := by simp; omega
  refine PySem.SeqAt.eq_listAt (e := fun j => zs.getD j (Str.ofString "") == ws.getD j (Str.ofString "")) p1.isList p2.isList sz hr.units0 (fun j h1 h2 => ?_) ?_
  ·have j1 : j < us.length := by simpa using h1
   have j2 : j < vs.length := by simpa using h2
   obtain ⟨t, e1⟩ := strs_vals r1 j j1 (by omega)
   obtain ⟨t', e2⟩ := strs_vals r2 j j2 (by omega)
   have e3 : us.toArray[j] = .str zs[j] t := by simpa using e1
   have e4 : vs.toArray[j] = .str ws[j] t' := by simpa using e2
   rw [e3, e4]
   have g1 : zs.getD j (Str.ofString "") = zs[j] := by rw [List.getD_eq_getElem?_getD, List.getElem?_eq_getElem]; rfl
   have g2 : ws.getD j (Str.ofString "") = ws[j] := by rw [List.getD_eq_getElem?_getD, List.getElem?_eq_getElem]; rfl
   show SeqAt.EqAt _ _ _ _ (zs.getD j (Str.ofString "") == ws.getD j (Str.ofString ""))
   rw [g1, g2]
   exact SeqAt.EqAt.str_str _ _ _ _
  ·have es : us.toArray.size = zs.length := by simp; omega
   rw [es, all_eqs zs ws hl]
   exact ⟨.bl _, H, I, rfl, q⟩
 ·have e : decide (zs = ws) = false := decide_eq_false fun z => hl (by rw [z])
  rw [e] at q
  exact PySem.SeqAt.eq_list_lengthsAt p1.isList p2.isList (by simp; omega) hr.units0 ⟨.bl false, H, I, rfl, q⟩
end
end L2
namespace L2
open PySem PySem.Spec PyProof.Rows
/-! set(t) of a tuple of texts, alike ones too -/
noncomputable def dcr : List Str → Nat
 | [] => 0
 | x :: r => if r.contains x = true then dcr r else dcr r + 1
noncomputable def dct (l : List Str) : Nat := dcr l.reverse
theorem dct_snoc (l : List Str) (x : Str) : dct (l ++ [x]) = if l.contains x = true then dct l else dct l + 1 := by
 unfold dct
 rw [List.reverse_append]
 show (if l.reverse.contains x = true then dcr l.reverse else dcr l.reverse + 1) = _
 have e : l.reverse.contains x = l.contains x := by rw [Bool.eq_iff_iff]; simp
 rw [e]
theorem dcr_le : ∀ l : List Str, dcr l ≤ l.length
 | [] => Nat.le_refl _
 | x :: r => by
  have := dcr_le r
  show (if r.contains x = true then dcr r else dcr r + 1) ≤ r.length + 1
  split <;> omega
theorem dct_le (l : List Str) : dct l ≤ l.length := by
 have := dcr_le l.reverse
 rw [List.length_reverse] at this
 exact this
theorem dcr_nd : ∀ l : List Str, dcr l = l.length ↔ l.Nodup
 | [] => ⟨fun _ => List.nodup_nil, fun _ => rfl⟩
 | x :: r => by
  have ih := dcr_nd r
  have hl := dcr_le r
  rw [List.nodup_cons]
  show (if r.contains x = true then dcr r else dcr r + 1) = r.length + 1 ↔ _
  by_cases h : x ∈ r
  ·rw [if_pos (by simpa using h)]
   exact ⟨fun z => by omega, fun z => absurd h z.1⟩
  ·rw [if_neg (by simpa using h)]
   exact ⟨fun z => ⟨h, ih.mp (by omega)⟩, fun z => by rw [ih.mpr z.2]⟩
theorem dct_nd (l : List Str) : dct l = l.length ↔ l.Nodup := by
 have := dcr_nd l.reverse
 rw [List.length_reverse, (List.reverse_perm l).nodup_iff] at this
 exact this
theorem dct_next {xs : List Str} {i : Nat} {x : Str} (h : xs[i]? = some x) : (if (xs.take i).contains x = true then dct (xs.take i) else dct (xs.take i) + 1) = dct (xs.take (i + 1)) := by
 rw [List.take_add_one, h]
 exact (dct_snoc _ _).symm
section
variable {prog : Program} {w : World} {A : Around} {R : Result → Shared → Prop} {I : Addr} {fp wr : List Addr} {G : Array GenState → Array GenState → Prop} {P : Nat → Value → Prop} {St : Nat → Shared → Prop}
theorem set_turnsD {xs : List Str} (W : WalksS prog w A.in1 I fp wr G xs.length P St) (S : Addr) (hSf : S ∉ fp) (hval : ∀ i v, P i v → ∃ x t, xs[i]? = some x ∧ v = .str x t) (hb : xs.length + 1 < scanBound) :
  ∀ (k i : Nat) (s : Shared), i + k = xs.length → St i s → s.heap.SetOf (PySem.strKind prog w) S (fun y => (xs.take i).contains y) (dct (xs.take i)) →
   (∀ s', Moved (S :: wr) G s s' → s'.heap.SetOf (PySem.strKind prog w) S (fun y => (xs.take xs.length).contains y) (dct (xs.take xs.length)) → R (.ok (.ret .none)) s') →
   codeAny (model prog w) A (.builtin "set.update.loop" ⟨[.ref S, .ref I], []⟩) R s := by
 have out : S ∉ wr := fun h => hSf (W.sub _ h)
 have sub : ∀ b ∈ wr, b ∈ S :: wr := fun b h => List.mem_cons_of_mem _ h
 have stays : ∀ {s s' : Shared} {T : Str → Bool} {n : Nat}, Moved wr G s s' → s.heap.SetOf (PySem.strKind prog w) S T n → s'.heap.SetOf (PySem.strKind prog w) S T n := fun hm ⟨o, es, ep, t, ho, r⟩ => ⟨o, es, ep, t, hm.heap S _ out ho, r⟩
 intro k
 induction k with
 | zero =>
  intro i s hk hst hS hR
  have : i = xs.length := by omega
  subst this
  refine codeAny_builtin F.entry_set_update_loop ?_
  rw [Around.under_plainId F.plain_set_update_loop _]
  show wpAny _ A.in1 (pyNext (.ref I) >>= _) _ _ s
  exact wpAny_bind (W.done s _ _ hst fun s' hm => (wpAny_pure (hR s' (hm.mono sub) (stays hm hS)) : wpAny _ A.in1 (ret Value.none) _ _ s'))
 | succ k ih =>
  intro i s hk hst hS hR
  refine codeAny_builtin F.entry_set_update_loop ?_
  rw [Around.under_plainId F.plain_set_update_loop _]
  show wpAny _ A.in1 (pyNext (.ref I) >>= _) _ _ s
  refine wpAny_bind (W.item i s _ _ (by omega) hst fun v s1 hP h1 hm => ?_)
  obtain ⟨x, t, hx, rfl⟩ := hval i v hP
  have is : (PySem.strKind prog w).is x (.str x t) = true := keyIs_str x t
  show wpAny _ A.in1 (holding [Value.str x t] (setAdd S (.str x t)) >>= _) _ _ s1
  refine wpAny_bind (wpAny_holding ?_)
  unfold setAdd
  refine wpAny_holding (wpAny_bind ((PySem.strKind prog w).pyHash (k := x) is ?_))
  refine wpAny_setAddHashed_of (knd := PySem.strKind prog w) is rfl (s := { s1 with toks := s1.toks + 1 }) (show s1.heap.SetOf _ S _ (dct (xs.take i)) from stays hm hS) (by have := dct_le (xs.take i); rw [List.length_take] at this; omega) fun h' hsb hS2 => ?_
  refine wpAny_pure ⟨plainId_quiet F.plain_set_update_loop _, ih (i + 1) _ (by omega) (W.frame _ s1 _ _ h1 (Nat.le_succ _) fun b hb o e => ?_) (SetOf_congr hS2 (fun y => seen_next hx y) (dct_next hx)) fun s2 hm2 hS3 => ?_⟩
  ·rw [hsb.2 b (fun h : b = S => hSf (by rw [← h]; exact hb))]; exact e
  ·refine hR s2 (Moved.trans W.gtrans ((hm.mono sub).then_heap (Nat.le_succ _) fun b o hb e => ?_) hm2) hS3
   rw [hsb.2 b (fun h : b = S => hb (by rw [h]; exact List.mem_cons_self))]; exact e
end
section
variable {prog : Program} {w : World} {A : Around} {E : Value → Shared → Prop} {s : Shared}
set_option maxHeartbeats 3200000 in
theorem set_of_tupD {l : Addr} {items : Array Value} {xs : List Str} {Q : Value → Shared → Prop} (hh : A.handled = none) (hl : s.heap.IsTuple l items) (hv : Vals (xs.map V.str) items.toList) (hb : xs.length + 1 < scanBound)
  (h : ∀ (h' : Heap) (tk : Nat), h'.SetOf (PySem.strKind prog w) s.heap.objs.size (fun y => (xs.take xs.length).contains y) (dct (xs.take xs.length)) → (∀ b o, b < s.heap.objs.size → s.heap.get? b = some o → h'.get? b = some o) → Q (.ref s.heap.objs.size) { s with heap := h', toks := tk }) :
  wpAny (model prog w) A (call (.type "set") [.ref l]) Q E s := by
 have hn : xs.length = items.size := by have := hv.length; simpa using this
 obtain ⟨c, tl, hmro⟩ := F.called_set.mro
 have hmade := F.called_set.made
 have hsub := F.called_set.sub
 refine wpAny_call (codeAny_of_tree ?_)
 show wpAny _ _ (callAny (.type "set") _) _ _ _
 refine wpAny_pure ⟨Code.quiet_builtin _ (by decide +kernel), codeAny_builtin F.entry_type_call ?_⟩
 rw [Around.under_plain (weight_type_call_type "set" [.ref l] []) rfl]
 have h1 := F.called_set.notType
 have h2 := F.called_set.canCreate
 have hct := F.typeCall_set_1 (.ref l)
 repeat (any_goals (first | assumption | wp_step))
 refine codeAny_mono (code_set_new_1 (.ref l) (E := E) (Q₁ := fun obj s₁ => ∃ led : Bool, obj = .ref s.heap.objs.size ∧ s₁ = { s with heap := s.heap.push { cls := .type "set", dict := none, data := .set #[] 0 (.fresh 0 0 led) } }) fun led => ⟨led, rfl, rfl⟩) fun r s₁ hr => ?_
 rcases r with e | fl
 ·exact hr
 cases fl with
 | ret obj =>
  obtain ⟨led, rfl, rfl⟩ := hr
  let h1 : Heap := s.heap.push { cls := .type "set", dict := none, data := .set #[] 0 (.fresh 0 0 led) }
  have hS : h1.get? s.heap.objs.size = some { cls := .type "set", dict := none, data := .set #[] 0 (.fresh 0 0 led) } := Heap.get?_push_size _ rfl
  have hT : Shared.TypeIs { s with heap := h1 } (.ref s.heap.objs.size) "set" := ⟨_, hS, rfl⟩
  have hli := F.called_set.init.lookup
  have hbi := F.called_set.init.bind (.ref s.heap.objs.size)
  repeat (any_goals (first | assumption | wp_step))
  refine codeAny_mono (codeAny_call_builtin (R := wants (fun r s₂ => r = .none ∧ ∃ h' tk, s₂ = { s with heap := h', toks := tk } ∧ h'.SetOf (PySem.strKind prog w) s.heap.objs.size (fun y => (xs.take xs.length).contains y) (dct (xs.take xs.length)) ∧
    (∀ b o, b < s.heap.objs.size → s.heap.get? b = some o → h'.get? b = some o)) E) F.called_set.init.plain F.entry_set_init (check_set_init_1 hT ?_)) fun r₂ s₂ hr₂ => ?_
  ·have hlS : l < s.heap.objs.size := let ⟨_, ho, _⟩ := hl; Heap.lt_size ho
   have hl1 : h1.IsTuple l items := hl.push _
   obtain ⟨ol, hol, hcl, nl, hdl⟩ := id hl1
   obtain ⟨ocls, odict, odata, oslots⟩ := ol
   simp only at hcl hdl
   subst hcl; subst hdl
   have a1 := sub_tup_set
   have a2 := sub_tup_frz
   have hne : (Value.type "tuple" == Value.type "dict") = false := by decide
   unfold Builtin.«set.__init__» noKeywords Builtin.Frozenset.updateFrom
   generalize hPI : pyIter = PI
   wp_walk
   subst hPI
   refine wpAny_pyIter_tuple hl1 ?_
   refine wpAny_bind (wpAny_runValue ?_)
   have hh3 : A.in1.in1.in1.handled = none := by simp [hh]
   have n1 : l ≠ h1.objs.size := by
    rw [Heap.size_push]; exact Nat.ne_of_lt (Nat.lt_succ_of_lt hlS)
   have n2 : s.heap.objs.size ∉ [h1.objs.size, l] := by
    rw [Heap.size_push]; simp only [List.mem_cons, List.mem_singleton, List.not_mem_nil, or_false, not_or]
    exact ⟨Nat.ne_of_lt (Nat.lt_succ_self _), Nat.ne_of_gt hlS⟩
   have W := (Walks.tuple (prog := prog) (w := w) hh3 h1.objs.size l n1 items).toS
   rw [← hn] at W
   refine set_turnsD W s.heap.objs.size n2 (fun i v e => ?_) hb xs.length 0 _ (by omega) ⟨⟨_, Heap.get?_push_size _ rfl, rfl, rfl⟩, hl1.push _⟩ ?_ ?_
   ·have hi : i < xs.length := by
     rw [hn]; exact (Array.getElem?_eq_some_iff.mp e).1
    obtain ⟨u, hu, r⟩ := hv.get (i := i) (x := .str xs[i]) (by rw [List.getElem?_map, List.getElem?_eq_getElem hi]; rfl)
    rw [Array.getElem?_toList] at hu
    rw [e] at hu
    obtain ⟨t, rfl⟩ := r
    exact ⟨xs[i], t, List.getElem?_eq_getElem hi, Option.some.inj hu⟩
   ·exact SetOf_congr ((setObjOf_fresh (knd := PySem.strKind prog w) led).setOf (Heap.get?_push_of_some _ hS) (by unfold scanBound; omega)) (fun _ => rfl) rfl
   ·intro s' hm hS'
    obtain ⟨h', g', d', tk', os'⟩ := s'
    have eg : g' = s.gens := hm.gens
    have ed : d' = s.drawn := hm.drawn
    have eo : os' = s.os := hm.os
    subst eg; subst ed; subst eo
    show wpAny _ _ _ _ _ _
    refine wpAny_pure ?_
    show wpAny _ _ (ret Value.none) _ _ _
    refine wpAny_pure ⟨rfl, h', tk', rfl, hS', fun b o hb e => hm.heap b o ?_ (Heap.get?_push_of_some _ (Heap.get?_push_of_some _ e))⟩
    have b2 : b ≠ h1.objs.size := by rw [Heap.size_push]; exact Nat.ne_of_lt (Nat.lt_succ_of_lt hb)
    simp only [List.mem_cons, List.mem_singleton, List.not_mem_nil, or_false, not_or]
    exact ⟨Nat.ne_of_lt hb, b2⟩
  ·rcases r₂ with e | fl₂
   ·exact hr₂
   cases fl₂ with
   | ret r =>
    obtain ⟨rfl, h', tk, rfl, hS', hk'⟩ := hr₂
    repeat (any_goals (first | assumption | wp_step))
    exact h _ _ hS' hk'
   | _ => exact hr₂.elim
 | _ => exact hr.elim
end
section
variable {X : Cx}
noncomputable def setHD (P : Program) (w : World) (p : Addr) (xs : List Str) : HO := .ext fun h => h.SetOf (PySem.strKind P w) p (fun y => (xs.take xs.length).contains y) (dct (xs.take xs.length))
theorem call_setD (hc : X.calm = true) : CallR X (.type "set") (fun vs H Q => ∃ (a : Addr) (xs : List Str), vs = [V.ref a] ∧ SqT X.K H a (xs.map V.str) ∧ xs.length < 4000 ∧ ∀ p, H p = none → Q (.ref p) (upd H p (setHD X.prog X.w p xs))) := by
 intro pins s σ H vs us Q I r h
 obtain ⟨a, xs, rfl, hq, hl, q⟩ := h
 obtain ⟨u, rfl, ru⟩ := vals1 r
 cases ru
 obtain ⟨its, rv, p, _⟩ := I.tuple hq
 refine set_of_tupD (I.ok.hd hc) (show s.heap.IsTuple a its.toArray from p) (by simpa using rv) (by unfold scanBound; omega) fun h' tk hS hk => ?_
 refine ⟨.ref _, _, I.laid (t' := tk) (o := setHD X.prog X.w s.heap.objs.size xs) (fun b ob e => hk b ob (Heap.lt_size e) e) (Nat.le_refl _) ?_, rfl, q _ (I.hok.fresh (Nat.le_refl _))⟩
 obtain ⟨o, es, ep, t, ho, rest⟩ := id hS
 exact ⟨hS, ⟨o, ho⟩, fun h1 h2 ⟨o, es, ep, t, ho, rest⟩ k => ⟨o, es, ep, t, k _ ho, rest⟩⟩
theorem call_lenSD : CallR X (.builtin "len") (fun vs H Q => ∃ (p : Addr) (xs : List Str), vs = [V.ref p] ∧ H p = some (setHD X.prog X.w p xs) ∧ xs.length < 4000 ∧ Q (.int (dct (xs.take xs.length) : Nat)) H) := by
 intro pins s σ H vs us Q I r h
 obtain ⟨p, xs, rfl, hp, hl, q⟩ := h
 obtain ⟨u, rfl, ru⟩ := vals1 r
 cases ru
 obtain ⟨o, es, ep, t, ho, hex, hd, _, _, _, hf, hn⟩ := (I.hok p _ hp).1
 exact call_len_set ho hex hd hf (by rw [hn]; have := dct_le (xs.take xs.length); rw [List.length_take] at this; omega) ⟨.int (dct (xs.take xs.length) : Nat), H, I.tok _, ⟨_, by rw [hn]⟩, q⟩
theorem call_setD' {K : PySem.W.Frag} (h : X.K = K) (hc : X.calm = true) : CallR X (.type "set") (fun vs H Q => ∃ (a : Addr) (xs : List Str), vs = [V.ref a] ∧ SqT K H a (xs.map V.str) ∧ xs.length < 4000 ∧ ∀ p, H p = none → Q (.ref p) (upd H p (setHD X.prog X.w p xs))) := by subst h; exact call_setD hc
end
end L2
namespace L2
open PySem PySem.Spec PyProof.Rows
section
variable {X : Cx} {K : PySem.W.Frag}
noncomputable def rMulS : R2 := fun x y H Q => ∃ (z : Str) (n : Int), x = .str z ∧ y = .int n ∧ 2 ≤ n ∧ n ≤ 1000 ∧ 1 ≤ z.length ∧ z.length ≤ 1000 ∧ Q (.str ⟨(List.replicate n.toNat z.cps).foldl (· ++ ·) #[]⟩) H
theorem rep_size (a : Array Nat) : ∀ (n : Nat) (b : Array Nat), ((List.replicate n a).foldl (· ++ ·) b).size = b.size + n * a.size
 | 0, b => by simp
 | n + 1, b => by
  rw [List.replicate_succ, List.foldl_cons, rep_size a n, Array.size_append, Nat.succ_mul]
  omega
theorem op_mulS : OpR X (binaryOp .Mult) rMulS := by
 intro pins s σ H x y v u Q I rx ry h
 obtain ⟨z, n, rfl, rfl, h1, h2, h3, h4, q⟩ := h
 obtain ⟨t, rfl⟩ := rx
 obtain ⟨t', rfl⟩ := ry
 have hm : z.length * n.toNat ≤ 1000 * 1000 := Nat.mul_le_mul h4 (by omega)
 have e1 : ¬ n < 1 := by omega
 have e2 : (n == 1 || z.length == 0) = false := by
  rw [Bool.or_eq_false_iff]
  exact ⟨beq_false_of_ne (by omega), beq_false_of_ne (by omega)⟩
 refine P.mul_str (by rw [Bool.or_eq_false_iff]; exact ⟨decide_eq_false (by omega), decide_eq_false (by omega)⟩) (fun _ _ => ?_) (fun _ _ => ?_) ?_
 ·have : (1000 : Int) ≤ (2 ^ 63 - 1) / n := (Int.le_ediv_iff_mul_le (by omega)).mpr (by omega)
  omega
 ·unfold Builtin.Str.tooLong
  rw [sizeLine_eq]
  exact decide_eq_false (by omega)
 ·rw [if_neg e1, e2]
  refine ⟨?_, .str _, H, I.tok _, ⟨_, rfl⟩, q⟩
  rw [sizeLine_eq]
  show ((List.replicate n.toNat z.cps).foldl (· ++ ·) #[]).size ≤ _
  rw [rep_size]
  have : z.cps.size = z.length := rfl
  rw [this, Nat.mul_comm]
  simp
  omega
end
end L2
namespace L2
open PySem PySem.Spec PyProof.Rows
section
variable {X : Cx} {K : PySem.W.Frag}
theorem var_same {i : Nat} {x : Str} {pos : Pos} {pins : List (Addr × Obj)} {s : Shared} {σ : St} {H : Hp} {v : V} {Q : Value → Shared → Prop} (hN : X.N[i]? = some x) (hv : Vis X.env.scope x) (I : Inv X pins σ H s) (e : σ[i]? = some (some v)) (h : ∀ u, RelV v u → Q u s)
  (hd : (x == ("__debug__" : Str)) = false := by decide) (hcd : (x == ("__classdict__" : Str)) = false := by decide) : wpAny (model X.prog X.w) X.A (eval (.Name x pos) X.env) Q X.xe s := by
 obtain ⟨m, hn, hl⟩ := I.loc
 obtain ⟨u, r, l⟩ := hl i x v hN e hv
 have fin : Q u s := h u r
 rcases l with ⟨hk, hm⟩ | ⟨hk, c, hc, hcell⟩
 ·exact wpAny_Name (wpAny_loadName_local I.ok.kind hk hn hm fin) hd
 ·rcases hk with hk | hk
  ·exact wpAny_Name (wpAny_loadName_cell I.ok.kind hk hc hcell fin) hd
  ·exact wpAny_Name (wpAny_loadName_free I.ok.kind hk hc hcell fin hcd) hd
noncomputable def tIfRepl (tA : TT) (i : Nat) (y z : Str) (t : TS) : TS := fun D σ H => tA σ H fun c H1 => if c = true then t D σ H1 else ∃ x : Str, σ[i]? = some (some (.str x)) ∧ x.length ≤ 1000000 ∧ (if Txt.contains x y = true then D.nx (σ.set i (some (.str (Txt.replace x y z)))) H1 else t D σ H1)
theorem ps_ifRepl {i : Nat} {x y z : Str} {a : Expr} {b : List Stmt} {tA : TT} {t : TS} {k1 k2 k3 : Nat} {p1 p2 p3 p4 p5 p6 p7 p8 apos cpos pos' pos : Pos} (hA : PT X a tA) (hb : PSs X b t) (hn : X.N.Nodup) (hN : X.N[i]? = some x) (hv : Vis X.env.scope x) (hx : Loc X.env.scope x) (hz : z.length ≤ 14) (hyz : (y == z) = false)
  (hm : behindInMarks .NotIn (.Name x p2) = false := by first | exact nobehind _ (by decide) (by decide) | rfl)
  (hd : (x == ("__debug__" : Str)) = false := by decide) (hcd : (x == ("__classdict__" : Str)) = false := by decide)
  (hbase : attributeBase (.Name x p6) (Str.ofString "replace") X.env (eval (.Name x p6) X.env) = eval (.Name x p6) X.env := by rfl)
  (hfew : ((backTo cpos (starEach [.Constant (.str y) k2 p7, .Constant (.str z) k3 p8] X.env)).all (fun x => !x.1) && (backToKw cpos (keywordEach [] X.env)).all (fun x => x.1.isSome) && decide (([.Constant (.str y) k2 p7, .Constant (.str z) k3 p8] : List Expr).length + ([] : List Keyword).length + (if ([] : List Keyword).isEmpty then 0 else 1) < 30)) = true := by rfl)
  (hline : (apos.endLine == cpos.line) = true := by rfl)
  (hs : starEach [.Constant (.str y) k2 p7, .Constant (.str z) k3 p8] X.env = [(false, eval (.Constant (.str y) k2 p7) X.env), (false, eval (.Constant (.str z) k3 p8) X.env)] := by rfl)
  (hsw : swapsWith (.Call (.Attribute (.Name x p6) (Str.ofString "replace") apos) [.Constant (.str y) k2 p7, .Constant (.str z) k3 p8] [] cpos) (some (.Name x p5)) pos'.line X.env = pure false := by rfl)
  (hf : X.fn x = true ∨ X.env.scope.names.lookup x = some .local := by first | exact .inl rfl | exact .inr rfl | assumption) :
  PS X (.If (.BoolOp .Or [a, .Compare (.Constant (.str y) k1 p1) [.NotIn] [.Name x p2] p3] p4) b [.Assign [.Name x p5] (.Call (.Attribute (.Name x p6) (Str.ofString "replace") apos) [.Constant (.str y) k2 p7, .Constant (.str z) k3 p8] [] cpos) pos'] pos) (tIfRepl tA i y z t) := by
 intro pins s σ H D I h
 refine wpAny_If (isTrue_or (thn (hA pins s σ H _ I h) fun c s1 ⟨H1, I1, q1⟩ => ?_))
 cases c with
 | true => exact hb pins s1 σ H1 D I1 q1
 | false =>
  obtain ⟨w, hw, hl, q⟩ := q1
  refine isTrue_or (wpAny_isTrue_Compare1 (Calls.Constant_str ?_) hm)
  refine var_same hN hv (I1.tok _) hw (fun u ru => ?_) hd hcd
  obtain ⟨tw, rfl⟩ := ru
  refine notIn_str (wpAny_truthy_bool ?_)
  have e : (!(Builtin.Str.occurrences w y 0 w.length 1).isEmpty) = Txt.contains w y := rfl
  rw [e]
  cases hc : Txt.contains w y with
  | false =>
   rw [hc] at q
   rw [if_pos (by decide), if_pos rfl]
   exact hb pins _ σ H1 D (I1.tok _) q
  | true =>
   rw [hc] at q
   rw [if_neg (by decide)]
   refine isTrue_or_nil ?_
   rw [if_neg (by decide)]
   refine wpAny_execs_cons (wpAny_Assign_Name ?_ hsw)
   refine wpAny_Call_method_late hbase hfew hline rfl (var_same hN hv (I1.tok _) hw (fun u ru => ?_) hd hcd)
   obtain ⟨tw2, rfl⟩ := ru
   refine ⟨"str", "str.replace", PySem.F.plainAttrs_str, PySem.F.slot_str_replace, PySem.F.type_str_replace, typeIs_str _ _ _, (fun _ e => nomatch e), ?_⟩
   rw [hs]
   refine Calls.callWith_builtin (by rfl) (Calls.evalArgs_plain ?_)
   refine Calls.spliced_cons (Calls.Constant_str (k := k2) (pos := p7) (Calls.spliced_cons (Calls.Constant_str (k := k3) (pos := p8) (Calls.spliced_nil ?_))))
   have hr : w.length + (w.length + 1) * z.length ≤ 16777216 := by
    have : (w.length + 1) * z.length ≤ 1000001 * 14 := Nat.mul_le_mul (by omega) hz
    omega
   refine SC.replace (Nat.succ_ne_zero _) (Nat.succ_ne_zero _) (by show s1.toks + 1 ≠ s1.toks + 1 + 1; omega) hyz hr fun t' k => ?_
   exact store_ok ((((I1.tok _).tok _).tok _).tok _) hn hN hx (v := .str (Txt.replace w y z)) ⟨t', rfl⟩ (fun s2 I2 => wpAny_execs_nil ⟨_, H1, I2, q⟩) hf
end
end L2
namespace T13
open PySem L2 Tc
noncomputable def top (i : Nat) : Stmt := PySem.Challenge.pw_tiercask_k13_no_script.main.body.getD i (.Pass ⟨0, 0, 0, 0⟩)
set_option genInjectivity false in
structure Ca where
 Full : Addr
 Lacking : Addr
 NoCask : Addr
 NoChange : Addr
 NoDeed : Addr
 NoName : Addr
 NoNumber : Addr
 NoPlace : Addr
 NoRow : Addr
 NoRule : Addr
 NoText : Addr
 NotSteady : Addr
 Tied : Addr
 TierError : Addr
 TooMany : Addr
structure Txt (K : PySem.W.Frag) (mg : Str → Option Value) (ca : Ca) : Prop where
 z_ValueError : mg "ValueError" = none
 z_all : mg "all" = none
 z_bool : mg "bool" = none
 z_enumerate : mg "enumerate" = none
 z_int : mg "int" = none
 z_isinstance : mg "isinstance" = none
 z_len : mg "len" = none
 z_list : mg "list" = none
 z_range : mg "range" = none
 z_set : mg "set" = none
 z_str : mg "str" = none
 z_tuple : mg "tuple" = none
 c_Full : mg "Full" = some (.ref ca.Full)
 c_Lacking : mg "Lacking" = some (.ref ca.Lacking)
 c_NoCask : mg "NoCask" = some (.ref ca.NoCask)
 c_NoChange : mg "NoChange" = some (.ref ca.NoChange)
 c_NoDeed : mg "NoDeed" = some (.ref ca.NoDeed)
 c_NoName : mg "NoName" = some (.ref ca.NoName)
 c_NoNumber : mg "NoNumber" = some (.ref ca.NoNumber)
 c_NoPlace : mg "NoPlace" = some (.ref ca.NoPlace)
 c_NoRow : mg "NoRow" = some (.ref ca.NoRow)
 c_NoRule : mg "NoRule" = some (.ref ca.NoRule)
 c_NoText : mg "NoText" = some (.ref ca.NoText)
 c_NotSteady : mg "NotSteady" = some (.ref ca.NotSteady)
 c_Tied : mg "Tied" = some (.ref ca.Tied)
 c_TierError : mg "TierError" = some (.ref ca.TierError)
 c_TooMany : mg "TooMany" = some (.ref ca.TooMany)
 g_FIGURES : ∃ t, mg "FIGURES" = some (.str "0123456789" t)
 g_LETTERS : ∃ t, mg "LETTERS" = some (.str "abcdefghijklmnopqrstuvwxyz" t)
 g_MOST_FIGURES : ∃ t, mg "MOST_FIGURES" = some (.int 12 t)
 g_MOST_PLACES : ∃ t, mg "MOST_PLACES" = some (.int 8 t)
 g_MOST_ROWS : ∃ t, mg "MOST_ROWS" = some (.int 300 t)
 g_MOST_TIMES : ∃ t, mg "MOST_TIMES" = some (.int 60 t)
 g_MOST_WITHIN : ∃ t, mg "MOST_WITHIN" = some (.int 8 t)
 e_NoText : PySem.W.excIn K ca.NoText [.type "ValueError", .type "Exception", .type "BaseException", .type "object"] "ValueError.__new__" = true
 x_NoText : ExcK K ca.NoText
 i_NoText_Full : PySem.W.kitOne K (.ref ca.NoText) (.ref ca.Full) = some false
 m_NoText_Full : PySem.W.exmOne K (.ref ca.NoText) (.ref ca.Full) = some false
 i_NoText_Lacking : PySem.W.kitOne K (.ref ca.NoText) (.ref ca.Lacking) = some false
 m_NoText_Lacking : PySem.W.exmOne K (.ref ca.NoText) (.ref ca.Lacking) = some false
 i_NoText_NoCask : PySem.W.kitOne K (.ref ca.NoText) (.ref ca.NoCask) = some false
 m_NoText_NoCask : PySem.W.exmOne K (.ref ca.NoText) (.ref ca.NoCask) = some false
 i_NoText_NoChange : PySem.W.kitOne K (.ref ca.NoText) (.ref ca.NoChange) = some false
 m_NoText_NoChange : PySem.W.exmOne K (.ref ca.NoText) (.ref ca.NoChange) = some false
 i_NoText_NoDeed : PySem.W.kitOne K (.ref ca.NoText) (.ref ca.NoDeed) = some false
 m_NoText_NoDeed : PySem.W.exmOne K (.ref ca.NoText) (.ref ca.NoDeed) = some false
 i_NoText_NoName : PySem.W.kitOne K (.ref ca.NoText) (.ref ca.NoName) = some false
 m_NoText_NoName : PySem.W.exmOne K (.ref ca.NoText) (.ref ca.NoName) = some false
 i_NoText_NoNumber : PySem.W.kitOne K (.ref ca.NoText) (.ref ca.NoNumber) = some false
 m_NoText_NoNumber : PySem.W.exmOne K (.ref ca.NoText) (.ref ca.NoNumber) = some false
 i_NoText_NoPlace : PySem.W.kitOne K (.ref ca.NoText) (.ref ca.NoPlace) = some false
 m_NoText_NoPlace : PySem.W.exmOne K (.ref ca.NoText) (.ref ca.NoPlace) = some false
 i_NoText_NoRow : PySem.W.kitOne K (.ref ca.NoText) (.ref ca.NoRow) = some false
 m_NoText_NoRow : PySem.W.exmOne K (.ref ca.NoText) (.ref ca.NoRow) = some false
 i_NoText_NoRule : PySem.W.kitOne K (.ref ca.NoText) (.ref ca.NoRule) = some false
 m_NoText_NoRule : PySem.W.exmOne K (.ref ca.NoText) (.ref ca.NoRule) = some false
 i_NoText_NoText : PySem.W.kitOne K (.ref ca.NoText) (.ref ca.NoText) = some true
 m_NoText_NoText : PySem.W.exmOne K (.ref ca.NoText) (.ref ca.NoText) = some true
 i_NoText_NotSteady : PySem.W.kitOne K (.ref ca.NoText) (.ref ca.NotSteady) = some false
 m_NoText_NotSteady : PySem.W.exmOne K (.ref ca.NoText) (.ref ca.NotSteady) = some false
 i_NoText_Tied : PySem.W.kitOne K (.ref ca.NoText) (.ref ca.Tied) = some false
 m_NoText_Tied : PySem.W.exmOne K (.ref ca.NoText) (.ref ca.Tied) = some false
 i_NoText_TierError : PySem.W.kitOne K (.ref ca.NoText) (.ref ca.TierError) = some true
 m_NoText_TierError : PySem.W.exmOne K (.ref ca.NoText) (.ref ca.TierError) = some true
 i_NoText_TooMany : PySem.W.kitOne K (.ref ca.NoText) (.ref ca.TooMany) = some false
 m_NoText_TooMany : PySem.W.exmOne K (.ref ca.NoText) (.ref ca.TooMany) = some false
 v_NoText : PySem.W.kitOne K (.ref ca.NoText) (.type "ValueError") = some true
noncomputable abbrev LT : Str := "abcdefghijklmnopqrstuvwxyz"
noncomputable def inL (c : Nat) : Bool := !(Builtin.Str.occurrences LT ⟨#[c]⟩ 0 LT.length 1).isEmpty
theorem inL_yes : ∀ c ∈ LT.cps.toList, inL c = true := by decide +kernel
noncomputable def nm (z : Str) : Bool := decide (1 ≤ z.length ∧ z.length ≤ 8) && z.cps.toList.all inL
noncomputable def spDigits : Sp := fun vs H Q _ => ∃ n m : Int, vs = [.int n, .int m, .int 26] ∧ 0 ≤ m ∧ m ≤ 10 ∧ ∀ (a : Addr) H' (ds : List Int), Same H H' → H' a = some (.lst (ds.map V.int)) → (ds.length : Int) = m → (∀ d ∈ ds, 0 ≤ d ∧ d < 26) → Q (.ref a) H'
theorem str_of {H : Hp} {v : V} (h : tyS H v = some "str") : ∃ z, v = .str z := by
 cases v with
 | str z => exact ⟨z, rfl⟩
 | ref a =>
  have h : tyH (H a) = some "str" := h
  rcases tyH_cases h with ⟨e, _⟩ | ⟨e, _⟩ | ⟨e, _⟩ <;> exact absurd e (by decide)
 | non => exact absurd h (by simp [tyS])
 | bl b => exact absurd h (by simp [tyS])
 | int x => exact absurd h (by simp [tyS])
 | byt x => exact absurd h (by simp [tyS])
 | flt x => exact absurd h (by simp [tyS])
 | ty x => exact absurd h (by simp [tyS])
theorem sub_str {n : String} (h : n ≠ "str") : subS n "str" = false := by
 simp [subS, h]
noncomputable abbrev one1 (c : Nat) : Str := ⟨#[c]⟩
theorem join_cs : ∀ cs : List Nat, Txt.join "" (cs.map one1) = ⟨cs.toArray⟩ := by
 intro cs
 rw [eq_of_beq (PyProof.Rows.join_plain_closes _ _)]
 have e : (Str.ofString "") = ⟨#[]⟩ := by decide +kernel
 show Str.join (Str.ofString "") _ = _
 rw [e]
 induction cs with
 | nil => rfl
 | cons c cs ih =>
  rw [List.map_cons, PyProof.Rows.join_nil_cons, ih]
  show (⟨#[c] ++ cs.toArray⟩ : Str) = _
  simp
theorem sum_ones (cs : List Nat) : ((cs.map one1).map (·.length)).sum = cs.length := by
 induction cs with
 | nil => rfl
 | cons c cs ih =>
  rw [List.map_cons, List.map_cons, List.sum_cons, ih, List.length_cons]
  show 1 + _ = _
  omega
theorem nm_cs {cs : List Nat} (h : ∀ c ∈ cs, c ∈ LT.cps.toList) : nm ⟨cs.toArray⟩ = decide (1 ≤ cs.length ∧ cs.length ≤ 8) := by
 unfold nm
 have e : (⟨cs.toArray⟩ : Str).cps.toList.all inL = true := by
  rw [List.all_eq_true]
  intro c hc
  exact inL_yes c (h c (by simpa using hc))
 rw [e, Bool.and_true]
 rfl
theorem ty_of {H : Hp} {p : Addr} {o : HO} {m : String} (h : H p = some o) (e : tyH (some o) = some m) : tyS H (.ref p) = some m := by
 show tyH (H p) = _
 rw [h]; exact e
theorem pow10_30 : (10 : Int) ^ (30 : Int).toNat = 1000000000000000000000000000000 := by decide
noncomputable def figs (n : Int) : Str := Str.ofString (toString n)
noncomputable def numTxt (x y : Int) : Str := if y = 1 then figs x else figs x ++ "/" ++ figs y
theorem log_small {n : Int} (h0 : 0 ≤ n) (h1 : n < 10 ^ 12) : n.natAbs.log2 < 1920 := by
 have h : n.natAbs < 2 ^ 1920 := Nat.lt_of_lt_of_le (show n.natAbs < 10 ^ 12 by omega) (by decide)
 by_cases z : n.natAbs = 0
 ·rw [z]; decide
 ·exact (Nat.log2_lt z).mpr h
theorem slash_len : (Str.ofString "/").length = 1 := by decide
theorem figs_len {n : Int} (h0 : 0 ≤ n) (h1 : n < 10 ^ 12) : (figs n).length ≤ 12 := PyProof.Rows.toString_length_le h0 (by decide) h1
noncomputable def spShown (K : PySem.W.Frag) : Sp := fun vs H Q _ => ∃ (a : Addr) (x y : Int), vs = [.ref a] ∧ SqT K H a [.int x, .int y] ∧ 0 ≤ x ∧ x < 10 ^ 12 ∧ 0 < y ∧ y < 10 ^ 12 ∧ Q (.str (numTxt x y)) H
theorem figs_signs (m : Nat) : (figs (m : Int)).cps.toList = (Nat.toDigits 10 m).map Char.toNat := PySem.W.KIN.signs_num m
noncomputable abbrev FG : Str := "0123456789"
noncomputable def inF (c : Nat) : Bool := !(Builtin.Str.occurrences FG ⟨#[c]⟩ 0 FG.length 1).isEmpty
theorem inF_all : ∀ c ∈ [48, 49, 50, 51, 52, 53, 54, 55, 56, 57], inF c = true := by decide +kernel
theorem inF_yes {c : Nat} (h0 : 48 ≤ c) (h1 : c ≤ 57) : inF c = true := by
 refine inF_all c ?_
 have : c = 48 ∨ c = 49 ∨ c = 50 ∨ c = 51 ∨ c = 52 ∨ c = 53 ∨ c = 54 ∨ c = 55 ∨ c = 56 ∨ c = 57 := by omega
 simpa using this
theorem num_len {x y : Int} (hx0 : 0 ≤ x) (hx : x < 10 ^ 12) (hy0 : 0 < y) (hy : y < 10 ^ 12) : (numTxt x y).length ≤ 25 := by
 have l1 := figs_len hx0 hx
 have l2 := figs_len (by omega) hy
 have ld := slash_len
 unfold numTxt
 split
 ·omega
 ·rw [strLen_append, strLen_append]; omega
theorem nm_short {z : Str} (h : nm z = true) : z.length ≤ 8 := by
 unfold nm at h
 rw [Bool.and_eq_true] at h
 exact (of_decide_eq_true h.1).2
inductive Pd where
 | year | dor (x : Str) (ps : List Str) | two (u x y : Str) | mea (u x y : Str) (n d : Int)
noncomputable def Pd.words : Pd → List Str
 | .year => [Str.ofString "year"]
 | .dor x ps => Str.ofString "do" :: x :: ps
 | .two u x y => [u, x, y]
 | .mea u x y n d => [u, x, y, numTxt n d]
noncomputable def Pd.Ok : Pd → Prop
 | .year => True
 | .dor x ps => nm x = true ∧ 1 ≤ ps.length ∧ ps.length ≤ 8 ∧ ∀ p ∈ ps, nm p = true
 | .two u x y => (u = Str.ofString "all" ∨ u = Str.ofString "fill") ∧ nm x = true ∧ nm y = true
 | .mea u x y n d => ((u = Str.ofString "bring" ∨ u = Str.ofString "move") ∧ 0 < n ∨ u = Str.ofString "part" ∧ n ≤ d) ∧ nm x = true ∧ nm y = true ∧ 0 ≤ n ∧ n < 10 ^ 12 ∧ 0 < d ∧ d < 10 ^ 12 ∧ Int.gcd n d = 1
noncomputable def PdV (H : Hp) (v : V) : Pd → Prop
 | .year => ∃ a, v = .ref a ∧ H a = some (.tup [.str (Str.ofString "year")])
 | .dor x ps => ∃ a b, v = .ref a ∧ H a = some (.tup [.str (Str.ofString "do"), .str x, .ref b]) ∧ H b = some (.tup (ps.map V.str))
 | .two u x y => ∃ a, v = .ref a ∧ H a = some (.tup [.str u, .str x, .str y])
 | .mea u x y n d => ∃ a b, v = .ref a ∧ H a = some (.tup [.str u, .str x, .str y, .ref b]) ∧ H b = some (.tup [.int n, .int d])
noncomputable def spRowOf (K : PySem.W.Frag) : Sp := fun vs H Q _ => ∃ (v : V) (p : Pd), vs = [v] ∧ PdV H v p ∧ p.Ok ∧ ∀ H', Same H H' → Q (.str (Txt.join (Str.ofString " ") p.words)) H'
theorem join_room {ws : List Str} (h : ∀ w ∈ ws, w.length ≤ 25) (hl : ws.length ≤ 10) : (ws.map (·.length)).sum + ws.length * (Str.ofString " ").length ≤ 16777216 := by
 have e : (Str.ofString " ").length = 1 := by decide
 have : ∀ ws : List Str, (∀ w ∈ ws, w.length ≤ 25) → (ws.map (·.length)).sum ≤ 25 * ws.length := by
  intro ws
  induction ws with
  | nil => intro _; exact Nat.le_refl _
  | cons a r ih =>
   intro h
   have h1 := h a (.head _)
   have h2 := ih fun w hw => h w (.tail _ hw)
   rw [List.map_cons, List.sum_cons, List.length_cons]
   omega
 have := this ws h
 rw [e]
 omega
theorem Pd.room {d : Pd} (h : d.Ok) : (∀ w ∈ d.words, w.length ≤ 25) ∧ d.words.length ≤ 10 := by
 cases d with
 | year => exact ⟨by decide, by decide⟩
 | dor x ps =>
  obtain ⟨h1, h2, h3, h4⟩ := h
  refine ⟨fun w hw => ?_, by show ps.length + 1 + 1 ≤ 10; omega⟩
  rcases List.mem_cons.mp hw with rfl | hw
  ·decide
  rcases List.mem_cons.mp hw with rfl | hw
  ·have := nm_short h1; omega
  ·have := nm_short (h4 w hw); omega
 | two u x y =>
  obtain ⟨h1, h2, h3⟩ := h
  have a := nm_short h2
  have b := nm_short h3
  refine ⟨fun w hw => ?_, by show 3 ≤ 10; decide⟩
  simp only [Pd.words, List.mem_cons, List.not_mem_nil, or_false] at hw
  rcases hw with rfl | rfl | rfl
  ·rcases h1 with rfl | rfl <;> decide
  ·omega
  ·omega
 | mea u x y n d =>
  obtain ⟨h1, h2, h3, h4, h5, h6, h7, _⟩ := h
  have a := nm_short h2
  have b := nm_short h3
  have c := num_len h4 h5 h6 h7
  refine ⟨fun w hw => ?_, by show 4 ≤ 10; decide⟩
  simp only [Pd.words, List.mem_cons, List.not_mem_nil, or_false] at hw
  rcases hw with rfl | rfl | rfl | rfl
  ·rcases h1 with ⟨rfl | rfl, _⟩ | ⟨rfl, _⟩ <;> decide
  ·omega
  ·omega
  ·exact c
noncomputable def Wd (z : Str) : Prop := ∀ c ∈ z.cps.toList, 47 ≤ c ∧ c < 123
theorem lt_wd : ∀ c ∈ LT.cps.toList, 47 ≤ c ∧ c < 123 := by decide +kernel
theorem nm_wd {z : Str} (h : nm z = true) : Wd z := by
 unfold nm at h
 rw [Bool.and_eq_true] at h
 intro c hc
 have h1 := List.all_eq_true.mp h.2 c hc
 have h2 : inL c = decide (c ∈ LT.cps.toList) := PySem.StrLaws.found_one LT c
 rw [h2] at h1
 exact lt_wd c (of_decide_eq_true h1)
theorem join_len {c m : Nat} : ∀ {ws : List Str}, (∀ w ∈ ws, w.length ≤ m) → (Str.join ⟨#[c]⟩ ws).length ≤ (m + 1) * ws.length
 | [], _ => Nat.zero_le _
 | [w], h => by
  have h : w.length ≤ m := h w (.head _)
  show w.length ≤ (m + 1) * 1
  omega
 | w :: w2 :: r, h => by
  have ih := join_len (c := c) (m := m) (ws := w2 :: r) fun u hu => h u (.tail _ hu)
  have h : w.length ≤ m := h w (.head _)
  show (w ++ ⟨#[c]⟩ ++ Str.join ⟨#[c]⟩ (w2 :: r)).length ≤ _
  rw [strLen_append, strLen_append, List.length_cons, Nat.mul_succ]
  have e : (⟨#[c]⟩ : Str).length = 1 := rfl
  omega
theorem sum_len {m : Nat} : ∀ {ws : List Str}, (∀ w ∈ ws, w.length ≤ m) → (ws.map (·.length)).sum ≤ m * ws.length
 | [], _ => Nat.zero_le _
 | w :: r, h => by
  have ih := sum_len (m := m) (ws := r) fun u hu => h u (.tail _ hu)
  have h : w.length ≤ m := h w (.head _)
  rw [List.map_cons, List.sum_cons, List.length_cons, Nat.mul_succ]
  omega
theorem sp_eq : Str.ofString " " = ⟨#[32]⟩ := by decide +kernel
theorem nl_eq : Str.ofString "\n" = ⟨#[10]⟩ := by decide +kernel
theorem tj (z : Str) (ys : List Str) : Txt.join z ys = Str.join z ys := eq_of_beq (PyProof.Rows.join_plain_closes _ _)
inductive Tk where
 | pl (p : Pd) | op (n : Int) | cl | rl (x : Str) (ps : List Str)
noncomputable def Tk.words : Tk → List Str
 | .pl p => p.words
 | .op n => [Str.ofString "times", figs n]
 | .cl => [Str.ofString "end"]
 | .rl x ps => Str.ofString "rule" :: x :: ps
noncomputable def Tk.Ok : Tk → Prop
 | .pl p => p.Ok
 | .op n => 0 ≤ n ∧ n ≤ 60
 | .cl => True
 | .rl x ps => nm x = true ∧ 1 ≤ ps.length ∧ ps.length ≤ 8 ∧ ∀ p ∈ ps, nm p = true
noncomputable def Tk.row (t : Tk) : Str := Txt.join (Str.ofString " ") t.words
theorem Tk.room {t : Tk} (ok : t.Ok) : (∀ w ∈ t.words, w.length ≤ 25) ∧ t.words.length ≤ 10 := by
 cases t with
 | pl p => exact Pd.room ok
 | op n =>
  refine ⟨fun w hw => ?_, by show 2 ≤ 10; decide⟩
  simp only [Tk.words, List.mem_cons, List.not_mem_nil, or_false] at hw
  rcases hw with rfl | rfl
  ·decide
  ·have := figs_len ok.1 (show n < 10 ^ 12 by have := ok.2; omega)
   omega
 | cl => exact ⟨by decide, by decide⟩
 | rl x ps =>
  obtain ⟨h1, h2, h3, h4⟩ := ok
  refine ⟨fun w hw => ?_, by show ps.length + 1 + 1 ≤ 10; omega⟩
  rcases List.mem_cons.mp hw with rfl | hw
  ·decide
  rcases List.mem_cons.mp hw with rfl | hw
  ·have := nm_short h1; omega
  ·have := nm_short (h4 w hw); omega
theorem row_len {t : Tk} (ok : t.Ok) : t.row.length ≤ 260 := by
 obtain ⟨h1, h2⟩ := Tk.room ok
 have := join_len (c := 32) h1
 unfold Tk.row
 rw [tj, sp_eq]
 omega
theorem rows_len {ts : List Tk} (ok : ∀ t ∈ ts, t.Ok) (hl : ts.length ≤ 300) : (Txt.join (Str.ofString "\n") (ts.map Tk.row)).length + 2 ≤ 16777216 ∧ ((ts.map Tk.row).map (·.length)).sum + (ts.map Tk.row).length * (Str.ofString "\n").length ≤ 16777216 := by
 have h : ∀ w ∈ ts.map Tk.row, w.length ≤ 260 := fun w hw => by
  obtain ⟨t, ht, rfl⟩ := List.mem_map.mp hw
  exact row_len (ok t ht)
 have h1 := join_len (c := 10) h
 have h2 := sum_len h
 rw [tj, nl_eq]
 have e : (⟨#[10]⟩ : Str).length = 1 := rfl
 rw [List.length_map] at h1 h2 ⊢
 rw [e]
 omega
noncomputable def go : List Tk → Nat → Nat → Prop
 | [], d, e => d = e
 | .pl p :: r, d, e => p.Ok ∧ go r d e
 | .op n :: r, d, e => 0 < d ∧ 0 ≤ n ∧ n ≤ 60 ∧ go r (d - 1) e
 | .cl :: r, d, e => d < 8 ∧ go r (d + 1) e
 | .rl _ _ :: _, _, _ => False
theorem go_app : ∀ {a b : List Tk} {d e f : Nat}, go a d e → go b e f → go (a ++ b) d f
 | [], _, _, _, _, h, g => by have h : _ = _ := h; subst h; exact g
 | .pl _ :: _, _, _, _, _, h, g => ⟨h.1, go_app h.2 g⟩
 | .op _ :: _, _, _, _, _, h, g => ⟨h.1, h.2.1, h.2.2.1, go_app h.2.2.2 g⟩
 | .cl :: _, _, _, _, _, h, g => ⟨h.1, go_app h.2 g⟩
 | .rl _ _ :: _, _, _, _, _, h, _ => False.elim h
theorem go_ok : ∀ {a : List Tk} {d e : Nat}, go a d e → ∀ t ∈ a, t.Ok
 | [], _, _, _, _, z => nomatch z
 | .pl _ :: _, _, _, h, t, ht => by
  rcases List.mem_cons.mp ht with rfl | ht
  ·exact h.1
  ·exact go_ok h.2 t ht
 | .op _ :: _, _, _, h, t, ht => by
  rcases List.mem_cons.mp ht with rfl | ht
  ·exact ⟨h.2.1, h.2.2.1⟩
  ·exact go_ok h.2.2.2 t ht
 | .cl :: _, _, _, h, t, ht => by
  rcases List.mem_cons.mp ht with rfl | ht
  ·exact trivial
  ·exact go_ok h.2 t ht
 | .rl _ _ :: _, _, _, h, _, _ => False.elim h
noncomputable def TSame (H H' : Hp) : Prop := ∀ a xs, H a = some (.tup xs) → H' a = some (.tup xs)
theorem _root_.L2.Same.ts {H H' : Hp} (s : Same H H') : TSame H H' := fun a _ h => s a _ h
theorem TSame.updL {H : Hp} {L : Addr} {vs : List V} {o : HO} (h : H L = some (.lst vs)) : TSame H (upd H L o) := fun a xs e => by
 have ne : a ≠ L := by rintro rfl; rw [h] at e; cases e
 rw [upd_ne ne]; exact e
theorem PdV.ts {H H' : Hp} {v : V} (s : TSame H H') : ∀ {p : Pd}, PdV H v p → PdV H' v p
 | .year, ⟨a, e, h⟩ => ⟨a, e, s _ _ h⟩
 | .dor _ _, ⟨a, b, e, h, h2⟩ => ⟨a, b, e, s _ _ h, s _ _ h2⟩
 | .two _ _ _, ⟨a, e, h⟩ => ⟨a, e, s _ _ h⟩
 | .mea _ _ _ _ _, ⟨a, b, e, h, h2⟩ => ⟨a, b, e, s _ _ h, s _ _ h2⟩
inductive Rp (H : Hp) : Nat → List V → List Tk → Prop where
 | nil {d : Nat} : Rp H d [] []
 | pl {d : Nat} {v : V} {p : Pd} {vs : List V} {ts : List Tk} : PdV H v p → p.Ok → Rp H d vs ts → Rp H d (v :: vs) (.pl p :: ts)
 | tm {d : Nat} {a b : Addr} {n : Int} {us vs : List V} {t1 ts : List Tk} : H a = some (.tup [.str (Str.ofString "times"), .int n, .ref b]) → H b = some (.tup us) → 0 ≤ n → n ≤ 60 → Rp H d us t1 → Rp H (d + 1) vs ts → Rp H (d + 1) (.ref a :: vs) (.op n :: (t1 ++ .cl :: ts))
theorem Rp.ts {H H' : Hp} (s : TSame H H') {d : Nat} {vs : List V} {ts : List Tk} (h : Rp H d vs ts) : Rp H' d vs ts := by
 induction h with
 | nil => exact .nil
 | pl a b _ ih => exact .pl (a.ts s) b ih
 | tm a b c e _ _ ih1 ih2 => exact .tm (s _ _ a) (s _ _ b) c e ih1 ih2
theorem Rp.app {H : Hp} {d : Nat} {vs us : List V} {ts t2 : List Tk} (h : Rp H d vs ts) (g : Rp H d us t2) : Rp H d (vs ++ us) (ts ++ t2) := by
 induction h with
 | nil => exact g
 | pl a b _ ih => exact .pl a b (ih g)
 | @tm d a b n us' vs' t1 ts' ha hb h0 h1 r1 _ _ ih2 =>
  have e : Tk.op n :: (t1 ++ Tk.cl :: ts') ++ t2 = Tk.op n :: (t1 ++ Tk.cl :: (ts' ++ t2)) := by simp
  rw [e]
  exact .tm ha hb h0 h1 r1 (ih2 g)
theorem Rp.len {H : Hp} {d : Nat} {vs : List V} {ts : List Tk} (h : Rp H d vs ts) : vs.length ≤ ts.length := by
 induction h with
 | nil => exact Nat.le_refl _
 | pl _ _ _ ih => exact Nat.succ_le_succ ih
 | tm _ _ _ _ _ _ _ ih =>
  simp only [List.length_cons, List.length_append]
  omega
theorem Rp.go {H : Hp} {d : Nat} {vs : List V} {ts : List Tk} (h : Rp H d vs ts) : d ≤ 8 → go ts d d := by
 induction h with
 | nil => intro _; rfl
 | pl _ b _ ih => intro hd; exact ⟨b, ih hd⟩
 | tm _ _ h0 h1 _ _ ih1 ih2 =>
  intro hd
  exact ⟨Nat.succ_pos _, h0, h1, go_app (ih1 (by omega)) ⟨by omega, ih2 hd⟩⟩
inductive Stk (H : Hp) (pre b0 : List V) : Nat → List Addr → List V → List Tk → Prop where
 | base {k L : Addr} {vs : List V} {ts : List Tk} : H k = some (.tup (b0 ++ [.ref L])) → H L = some (.lst vs) → Rp H 8 vs ts → Stk H pre b0 8 [L] [.ref k] ts
 | up {d : Nat} {Ls : List Addr} {ks : List V} {ts t : List Tk} {n : Int} {k L : Addr} {vs : List V} : Stk H pre b0 (d + 1) Ls ks ts → H k = some (.tup (pre ++ [.int n, .ref L])) → 0 ≤ n → n ≤ 60 → H L = some (.lst vs) → Rp H d vs t → L ∉ Ls → Stk H pre b0 d (L :: Ls) (.ref k :: ks) (ts ++ .op n :: t)
theorem Stk.mono {H H' : Hp} {pre b0 : List V} {d : Nat} {Ls : List Addr} {ks : List V} {ts : List Tk} (s : TSame H H') (h : Stk H pre b0 d Ls ks ts) : (∀ L ∈ Ls, ∀ o, H L = some o → H' L = some o) → Stk H' pre b0 d Ls ks ts := by
 induction h with
 | base a b c => intro e; exact .base (s _ _ a) (e _ (.head _) _ b) (c.ts s)
 | up _ b c f g h i ih => intro e; exact .up (ih fun L hL => e L (.tail _ hL)) (s _ _ b) c f (e _ (.head _) _ g) (h.ts s) i
theorem Stk.deep {H : Hp} {pre b0 : List V} {d : Nat} {Ls : List Addr} {ks : List V} {ts : List Tk} (h : Stk H pre b0 d Ls ks ts) : ks.length + d = 9 ∧ d ≤ 8 := by
 induction h with
 | base => exact ⟨rfl, Nat.le_refl _⟩
 | up _ _ _ _ _ _ _ ih => rw [List.length_cons]; omega
theorem Stk.one {H : Hp} {pre b0 : List V} {d : Nat} {Ls : List Addr} {ks : List V} {ts : List Tk} (h : Stk H pre b0 d Ls ks ts) (hd : d = 8) : ∃ k L vs, Ls = [L] ∧ ks = [.ref k] ∧ H k = some (.tup (b0 ++ [.ref L])) ∧ H L = some (.lst vs) ∧ Rp H 8 vs ts := by
 cases h with
 | base a b c => exact ⟨_, _, _, rfl, rfl, a, b, c⟩
 | up a => have := a.deep.2; omega
theorem Stk.top {H : Hp} {pre b0 : List V} {d m : Nat} {Ls : List Addr} {ks : List V} {ts : List Tk} (h : Stk H pre b0 d Ls ks ts) (h0 : b0.length = m) (h1 : pre.length + 1 = m) :
  ∃ k kr L Lr vs bb, ks = .ref k :: kr ∧ Ls = L :: Lr ∧ H k = some (.tup (bb ++ [.ref L])) ∧ bb.length = m ∧ H L = some (.lst vs) ∧ vs.length ≤ ts.length ∧ ∀ H1, TSame H H1 → (∀ L' ∈ Ls, ∀ o, H L' = some o → H1 L' = some o) → ∀ v c, Rp H1 d [v] c → Stk (upd H1 L (.lst (vs ++ [v]))) pre b0 d Ls ks (ts ++ c) := by
 cases h with
 | @base k L vs ts a b c =>
  refine ⟨k, [], L, [], vs, b0, rfl, rfl, a, h0, b, c.len, fun H1 s1 hk v c' hr => ?_⟩
  have tS := TSame.updL (o := .lst (vs ++ [v])) (hk _ (.head _) _ b)
  exact .base (tS _ _ (s1 _ _ a)) upd_same (((c.ts s1).app hr).ts tS)
 | @up d Ls ks ts t n k L vs a b c e f g i =>
  refine ⟨k, ks, L, Ls, vs, pre ++ [.int n], rfl, rfl, (by rw [List.append_assoc]; exact b), (by rw [List.length_append]; exact h1), f, ?_, fun H1 s1 hk v c' hr => ?_⟩
  ·have := g.len
   rw [List.length_append, List.length_cons]; omega
  have tS := TSame.updL (o := .lst (vs ++ [v])) (hk _ (.head _) _ f)
  have e2 : ts ++ Tk.op n :: t ++ c' = ts ++ Tk.op n :: (t ++ c') := by simp
  rw [e2]
  refine .up ((a.mono s1 fun L' hL o ho => hk _ (.tail _ hL) _ ho).mono tS fun L' hL o ho => ?_) (tS _ _ (s1 _ _ b)) c e upd_same (((g.ts s1).app hr).ts tS) i
  have ne : L' ≠ L := by rintro rfl; exact i hL
  rw [upd_ne ne]; exact ho
theorem Stk.close {H : Hp} {pre b0 : List V} {d m : Nat} {Ls : List Addr} {ks : List V} {ts : List Tk} (st : Stk H pre b0 d Ls ks ts) (hd : d < 8) (h0 : b0.length = m) (h1 : pre.length + 1 = m) :
  ∃ n k L us k2 kr L2 Lr vs2 bb, ks = .ref k :: .ref k2 :: kr ∧ Ls = L :: L2 :: Lr ∧ H k = some (.tup (pre ++ [.int n, .ref L])) ∧ H L = some (.lst us) ∧ H k2 = some (.tup (bb ++ [.ref L2])) ∧ bb.length = m ∧ H L2 = some (.lst vs2) ∧ vs2.length ≤ ts.length ∧
   ∀ H6, TSame H H6 → (∀ L' ∈ L2 :: Lr, ∀ o, H L' = some o → H6 L' = some o) → ∀ a b, H6 a = some (.tup [.str (Str.ofString "times"), .int n, .ref b]) → H6 b = some (.tup us) → Stk (upd H6 L2 (.lst (vs2 ++ [.ref a]))) pre b0 (d + 1) (L2 :: Lr) (.ref k2 :: kr) (ts ++ [.cl]) := by
 cases st with
 | base => omega
 | @up _ Ls ks ts t n k L us a b c e f g i =>
  obtain ⟨k2, kr, L2, Lr, vs2, bb, rfl, rfl, hk2, hbb, hL2, hvl, _⟩ := a.top h0 h1
  refine ⟨n, k, L, us, k2, kr, L2, Lr, vs2, bb, rfl, rfl, b, f, hk2, hbb, hL2, by rw [List.length_append]; omega, fun H6 tS hk a6 b6 h6 h7 => ?_⟩
  have st6 := a.mono tS hk
  obtain ⟨k7, kr7, L7, Lr7, vs7, bb7, e71, e72, _, _, hL7, _, kst7⟩ := st6.top h0 h1
  obtain ⟨rfl, rfl⟩ := List.cons.inj e72
  have hL26 := hk _ (.head _) _ hL2
  have e7 : vs7 = vs2 := by rw [hL7] at hL26; cases hL26; rfl
  subst e7
  have fin := kst7 H6 (fun _ _ h => h) (fun _ _ _ h => h) (.ref a6) (.op n :: (t ++ .cl :: [])) (.tm h6 h7 c e (g.ts tS) .nil)
  have e8 : ts ++ Tk.op n :: t ++ [Tk.cl] = ts ++ Tk.op n :: (t ++ Tk.cl :: []) := by simp
  rw [e8]; exact fin
theorem cut_from (L : List Str) {a : Nat} (h : a ≤ L.length) : cutV (L.map V.str) (some (a : Int)) none = (L.drop a).map V.str := by
 unfold cutV
 rw [HT.sIx_nat, HT.sIx_none, List.length_map, Nat.min_eq_left h, ← List.map_drop]
 rw [List.take_of_length_le (by rw [List.length_map, List.length_drop]; exact Nat.le_refl _)]
theorem cut_upto (L : List Str) {a : Nat} (h : a ≤ L.length) : cutV (L.map V.str) none (some (a : Int)) = (L.take a).map V.str := by
 unfold cutV
 rw [HT.sIx_nat, HT.sIx_none, List.length_map, Nat.min_eq_left h, List.drop_zero, Nat.sub_zero, List.map_take]
theorem cut_at {H : Hp} {q : Addr} {L : List Str} {a : Nat} (h : a ≤ L.length) : upd H q (.lst (cutV (L.map V.str) (some (a : Int)) none)) q = some (.lst ((L.drop a).map V.str)) := by
 rw [upd_same, cut_from L h]
theorem at_end {α : Type} (xs : List α) (v : α) : atI (xs ++ [v]) ((((xs ++ [v]).length : Nat) : Int) - 1) = some v := by
 have e : (((xs ++ [v]).length : Nat) : Int) - 1 = ((xs.length : Nat) : Int) := by
  rw [List.length_append, List.length_singleton]; omega
 rw [e]
 exact atI_nat (by simp)
theorem at_0 {α : Type} (x : α) (r : List α) : atI (x :: r) 0 = some x := atI_nat (j := 0) rfl
theorem at_1 {α : Type} (x y : α) (r : List α) : atI (x :: y :: r) 1 = some y := atI_nat (j := 1) rfl
theorem inV_str (x : Str) : ∀ L : List Str, inV (.str x) (L.map V.str) = decide (x ∈ L)
 | [] => by simp [inV]
 | y :: L => by
  have ih := inV_str x L
  unfold inV at ih ⊢
  rw [List.map_cons, List.any_cons, ih]
  by_cases h : y = x
  ·subst h; simp [eqV]
  ·have h2 : ¬ x = y := fun e => h e.symm
   simp [eqV, h, h2]
noncomputable abbrev Rl := Str × List Str × List Tk
noncomputable def RlV (H : Hp) (v : V) (r : Rl) : Prop := ∃ (a b c : Addr) (us : List V), v = .ref a ∧ H a = some (.tup [.str r.1, .ref b, .ref c]) ∧ H b = some (.tup (r.2.1.map V.str)) ∧ H c = some (.tup us) ∧ Rp H 8 us r.2.2
theorem RlV.ts {H H' : Hp} {v : V} {r : Rl} (s : TSame H H') (h : RlV H v r) : RlV H' v r := by
 obtain ⟨a, b, c, us, e, h1, h2, h3, h4⟩ := h
 exact ⟨a, b, c, us, e, s _ _ h1, s _ _ h2, s _ _ h3, h4.ts s⟩
noncomputable def flatR : List Rl → List Tk
 | [] => []
 | (x, ps, t) :: r => .rl x ps :: (t ++ .cl :: flatR r)
noncomputable def SOk (rls : List Rl) : Prop := (rls.map (·.1)).Nodup ∧ ∀ r ∈ rls, (Tk.rl r.1 r.2.1).Ok ∧ r.2.1.Nodup ∧ go r.2.2 8 8
theorem Stk.lists {H : Hp} {pre b0 : List V} {d : Nat} {Ls : List Addr} {ks : List V} {ts : List Tk} (h : Stk H pre b0 d Ls ks ts) : ∀ L ∈ Ls, ∃ vs, H L = some (.lst vs) := by
 induction h with
 | base _ b _ => intro L hL; rw [List.mem_singleton.mp hL]; exact ⟨_, b⟩
 | up _ _ _ _ g _ _ ih =>
  intro L hL
  rcases List.mem_cons.mp hL with rfl | hL
  ·exact ⟨_, g⟩
  ·exact ih L hL
noncomputable def ScV (H : Hp) (v : V) (rls : List Rl) (dts : List Tk) : Prop := ∃ (p a b : Addr) (rv us : List V), v = .ref p ∧ H p = some (.tup [.ref a, .ref b]) ∧ H a = some (.tup rv) ∧ Paired (RlV H) rv rls ∧ H b = some (.tup us) ∧ Rp H 8 us dts
theorem ScV.ts {H H' : Hp} {v : V} {rls : List Rl} {dts : List Tk} (s : TSame H H') (h : ScV H v rls dts) : ScV H' v rls dts := by
 obtain ⟨p, a, b, rv, us, e, h1, h2, h3, h4, h5⟩ := h
 exact ⟨p, a, b, rv, us, e, s _ _ h1, s _ _ h2, Paired.mapP h3 fun _ _ h => h.ts s, s _ _ h4, h5.ts s⟩
theorem flatR_ok : ∀ {rls : List Rl}, (∀ r ∈ rls, (Tk.rl r.1 r.2.1).Ok ∧ r.2.1.Nodup ∧ go r.2.2 8 8) → ∀ t ∈ flatR rls, t.Ok
 | [], _, _, z => nomatch z
 | (x, ps, t) :: r, h, u, hu => by
  obtain ⟨h1, _, h3⟩ := h _ (.head _)
  rcases List.mem_cons.mp hu with rfl | hu
  ·exact h1
  rcases List.mem_append.mp hu with hu | hu
  ·exact go_ok h3 u hu
  rcases List.mem_cons.mp hu with rfl | hu
  ·exact trivial
  ·exact flatR_ok (fun q hq => h q (.tail _ hq)) u hu
theorem at2 {bb : List V} {L : Addr} (h : bb.length = 2) : atI (bb ++ [V.ref L]) 2 = some (V.ref L) := atI_nat (j := 2) (by rw [List.getElem?_append_right (by omega), h]; rfl)
noncomputable def rowsT (rls : List Rl) (dts : List Tk) : Str := Txt.join (Str.ofString "\n") ((flatR rls ++ dts).map Tk.row)
theorem PdV.head {H : Hp} {v : V} {p : Pd} (h : PdV H v p) (ok : p.Ok) : ∃ a u r, v = V.ref a ∧ H a = some (.tup (.str u :: r)) ∧ ¬ V.str u = V.str (Str.ofString "times") := by
 cases p with
 | year => obtain ⟨a, e, h⟩ := h; exact ⟨a, _, _, e, h, by decide +kernel⟩
 | dor x ps => obtain ⟨a, b, e, h, _⟩ := h; exact ⟨a, _, _, e, h, by decide +kernel⟩
 | two u x y => obtain ⟨a, e, h⟩ := h; obtain ⟨rfl | rfl, _⟩ := ok <;> exact ⟨a, _, _, e, h, by decide +kernel⟩
 | mea u x y n d => obtain ⟨a, b, e, h, _⟩ := h; obtain ⟨⟨rfl | rfl, _⟩ | ⟨rfl, _⟩, _⟩ := ok <;> exact ⟨a, _, _, e, h, by decide +kernel⟩
theorem app_assoc (x y z : Str) : x ++ y ++ z = x ++ (y ++ z) := by
 refine str_ext ?_
 show (x.cps ++ y.cps ++ z.cps).toList = (x.cps ++ (y.cps ++ z.cps)).toList
 simp
theorem op_row (n : Int) : Str.ofString "times " ++ figs n = (Tk.op n).row := by
 unfold Tk.row
 rw [tj, sp_eq]
 show _ = Str.ofString "times" ++ ⟨#[32]⟩ ++ figs n
 have e : Str.ofString "times " = Str.ofString "times" ++ ⟨#[32]⟩ := by decide +kernel
 rw [e]
theorem cl_row : Str.ofString "end" = Tk.cl.row := by
 unfold Tk.row
 rw [tj]
 rfl
noncomputable def spRowsOf (K : PySem.W.Frag) (d : Nat) : Sp := fun vs H Q _ => ∃ (a : Addr) (us : List V) (ts : List Tk) (e : Nat), vs = [.ref a] ∧ H a = some (.tup us) ∧ e + 1 = d ∧ Rp H e us ts ∧ ts.length ≤ 300 ∧ ∀ l H', Same H H' → H' l = some (.lst ((ts.map Tk.row).map V.str)) → Q (.ref l) H'
theorem rows_app (a b : List Tk) : ((a ++ b).map Tk.row).map V.str = (a.map Tk.row).map V.str ++ (b.map Tk.row).map V.str := by
 rw [List.map_append, List.map_append]
theorem rows_n (a : List Tk) : ((a.map Tk.row).map V.str).length = a.length := by
 rw [List.length_map, List.length_map]
theorem flatR_app : ∀ a b : List Rl, flatR (a ++ b) = flatR a ++ flatR b
 | [], _ => rfl
 | (x, ps, t) :: a, b => by
  show Tk.rl x ps :: (t ++ Tk.cl :: flatR (a ++ b)) = Tk.rl x ps :: (t ++ Tk.cl :: flatR a) ++ flatR b
  rw [flatR_app a b]; simp
noncomputable def spShow (K : PySem.W.Frag) : Sp := fun vs H Q _ => ∃ (v : V) (rls : List Rl) (dts : List Tk), vs = [v] ∧ ScV H v rls dts ∧ SOk rls ∧ go dts 8 8 ∧ (flatR rls ++ dts).length ≤ 300 ∧ ∀ H', Same H H' → Q (.str (rowsT rls dts)) H'
noncomputable def BG : Int := 10000000000000000000000000000000000000000
noncomputable def spMix : Sp := fun vs H Q _ => ∃ c : Int, vs = [.int c] ∧ ∀ m : Int, 0 ≤ m → m < BG → Q (.int m) H
theorem fdv {n d : Int} (h : 0 ≤ n) (hd : 0 < d) : 0 ≤ n.fdiv d ∧ n.fdiv d ≤ n := by
 rw [Int.fdiv_eq_ediv_of_nonneg _ (by omega)]
 exact ⟨Int.ediv_nonneg h (by omega), Int.ediv_le_self _ h⟩
theorem dd {i d : Int} (h1 : 0 < d) (h2 : d ≤ 1000000) : CDivB i d := divB_of (by omega) (Nat.lt_of_le_of_lt (m := 1000000) (by omega) (by decide))
theorem big_bits {n : Int} (h : 0 ≤ n) (h2 : n < BG) : n.natAbs < 2 ^ 256 := Nat.lt_trans (show n.natAbs < 10000000000000000000000000000000000000000 by unfold BG at h2; omega) (by decide)
theorem lt_all : ∀ k, k < 26 → LT.cps.toList[k]? = some (97 + k) := by decide +kernel
theorem lt_at {x : Int} (h : 0 ≤ x ∧ x < 26) : atI LT.cps.toList x = some (97 + x.toNat) := by
 obtain ⟨k, rfl⟩ := Int.eq_ofNat_of_zero_le h.1
 exact atI_nat (lt_all k (by omega))
noncomputable def lr (bs : List Int) (at' : Int) (j k : Nat) : Nat := 97 + ((bs.getD k 0 + (j : Int) * (if decide (V.int (k : Nat) = V.int at') = true then 1 else 0)).fmod 26).toNat
noncomputable def lrs (bs : List Int) (at' : Int) (n j : Nat) : List Nat := (List.range n).map (lr bs at' j)
noncomputable def nam (bs : List Int) (at' : Int) (n j : Nat) : Str := ⟨(lrs bs at' n j).toArray⟩
theorem lr_in (bs : List Int) (at' : Int) (j k : Nat) : lr bs at' j k ∈ LT.cps.toList := by
 have q := fmod_lt (c := bs.getD k 0 + (j : Int) * (if decide (V.int (k : Nat) = V.int at') = true then 1 else 0)) (m := 26) (by decide)
 exact List.mem_of_getElem? (lt_all _ (by omega))
theorem nam_nm {bs : List Int} {at' : Int} {n j : Nat} (h1 : 1 ≤ n) (h8 : n ≤ 8) : nm (nam bs at' n j) = true := by
 have hm : ∀ c ∈ lrs bs at' n j, c ∈ LT.cps.toList := fun c hc => by
  obtain ⟨k, _, rfl⟩ := List.mem_map.mp hc
  exact lr_in _ _ _ _
 unfold nam
 rw [nm_cs hm]
 refine decide_eq_true ?_
 unfold lrs
 rw [List.length_map, List.length_range]
 exact ⟨h1, h8⟩
theorem nam_inj {bs : List Int} {a n : Nat} (ha : a < n) {k k' : Nat} (hk : k < 10) (hk' : k' < 10) (e : nam bs (a : Nat) n k = nam bs (a : Nat) n k') : k = k' := by
 have e1 : lrs bs (a : Nat) n k = lrs bs (a : Nat) n k' := by
  have := congrArg (fun z : Str => z.cps.toList) e
  simpa [nam] using this
 have e2 : lr bs (a : Nat) k a = lr bs (a : Nat) k' a := by
  have h1 := congrArg (fun l : List Nat => l[a]?) e1
  simpa [lrs, ha] using h1
 unfold lr at e2
 rw [decide_eq_true rfl, if_pos rfl, Int.mul_one, Int.mul_one] at e2
 have q1 := fmod_lt (c := bs.getD a 0 + (k : Int)) (m := 26) (by decide)
 have q2 := fmod_lt (c := bs.getD a 0 + (k' : Int)) (m := 26) (by decide)
 rw [Int.fmod_eq_emod_of_nonneg _ (by decide)] at q1 q2
 rw [Int.fmod_eq_emod_of_nonneg _ (by decide), Int.fmod_eq_emod_of_nonneg _ (by decide)] at e2
 omega
theorem nam_nodup {bs : List Int} {a n : Nat} (ha : a < n) {m : Nat} (hm : m ≤ 9) : ((List.range m).map (nam bs (a : Nat) n)).Nodup := by
 unfold List.Nodup
 rw [List.pairwise_map]
 refine List.Pairwise.imp_of_mem (fun {x y} hx hy hxy e => hxy ?_) (List.nodup_range (n := m))
 exact nam_inj ha (by have := List.mem_range.mp hx; omega) (by have := List.mem_range.mp hy; omega) e
noncomputable def WN : List Str := [Str.ofString "end", Str.ofString "rule", Str.ofString "times", Str.ofString "year", Str.ofString "do", Str.ofString "bring", Str.ofString "move", Str.ofString "part", Str.ofString "all", Str.ofString "fill"]
theorem wn_nd : WN.Nodup := by decide +kernel
theorem wn_nm : ∀ z ∈ WN, nm z = true := by decide +kernel
noncomputable def spNam : Sp := fun vs H Q _ => ∃ c m : Int, vs = [.int c, .int m] ∧ 0 ≤ m ∧ m ≤ 9 ∧ ∀ (p : Addr) (H' : Hp) (zs : List Str), Same H H' → H p = none → H' p = some (.lst (zs.map V.str)) → (zs.length : Int) = m → zs.Nodup → (∀ z ∈ zs, nm z = true) → Q (.ref p) H'
theorem getD_at' {bs : List Int} {j : Nat} (hj : j < bs.length) : atI (bs.map V.int) (0 + (j : Int)) = some (V.int (bs.getD j 0)) := by
 rw [Int.zero_add]
 refine atI_nat ?_
 rw [List.getElem?_map, List.getElem?_eq_getElem hj, List.getD_eq_getElem?_getD, List.getElem?_eq_getElem hj]
 rfl
noncomputable def spLow : Sp := fun vs H Q _ => ∃ t b : Int, vs = [.int t, .int b] ∧ 0 ≤ t ∧ t < 10 ^ 12 ∧ 0 < b ∧ b < 10 ^ 12 ∧ ∀ (p : Addr) (x y : Int) (H' : Hp), Same H H' → H' p = some (.tup [.int x, .int y]) → 0 ≤ x → x < 10 ^ 12 → 0 < y → y < 10 ^ 12 → Int.gcd x y = 1 → (0 < t → 0 < x) → (t ≤ b → x ≤ y) → Q (.ref p) H'
noncomputable def spAmt : Sp := fun vs H Q _ => ∃ n : Int, vs = [.int n] ∧ 0 ≤ n ∧ n < BG ∧ ∀ (p : Addr) (x y : Int) (H' : Hp), Same H H' → H' p = some (.tup [.int x, .int y]) → 0 < x → x < 10 ^ 12 → 0 < y → y < 10 ^ 12 → Int.gcd x y = 1 → Q (.ref p) H'
noncomputable def spShr : Sp := fun vs H Q _ => ∃ n : Int, vs = [.int n] ∧ 0 ≤ n ∧ n < BG ∧ ∀ (p : Addr) (x y : Int) (H' : Hp), Same H H' → H' p = some (.tup [.int x, .int y]) → 0 ≤ x → x ≤ y → 0 < y → y < 10 ^ 12 → Int.gcd x y = 1 → Q (.ref p) H'
noncomputable def spNT (K : PySem.W.Frag) : Sp := fun vs H Q _ => ∃ (a : Addr) (x y : Int), vs = [.ref a] ∧ SqT K H a [.int x, .int y] ∧ 0 ≤ x ∧ x < 10 ^ 12 ∧ 0 < y ∧ y < 10 ^ 12 ∧ Q (.str (numTxt x y)) H
noncomputable def spWord : Sp := fun vs H Q _ => ∃ n : Int, vs = [.int n] ∧ ∀ (z : Str) (H' : Hp), Same H H' → nm z = true → Q (.str z) H'
theorem low_facts {t b g : Int} (ht : 0 ≤ t) (ht2 : t < 10 ^ 12) (hb : 0 < b) (hb2 : b < 10 ^ 12) (hg : g = ((Int.gcd t b : Nat) : Int)) : 0 < g ∧ 0 ≤ t.fdiv g ∧ t.fdiv g < 10 ^ 12 ∧ 0 < b.fdiv g ∧ b.fdiv g < 10 ^ 12 ∧ Int.gcd (t.fdiv g) (b.fdiv g) = 1 ∧ (0 < t → 0 < t.fdiv g) ∧ (t ≤ b → t.fdiv g ≤ b.fdiv g) := by
 have h0 : 0 < Int.gcd t b := Int.gcd_pos_of_ne_zero_right _ (by omega)
 have g0 : 0 < g := by omega
 have e1 : t.fdiv g = t / g := Int.fdiv_eq_ediv_of_nonneg _ (by omega)
 have e2 : b.fdiv g = b / g := Int.fdiv_eq_ediv_of_nonneg _ (by omega)
 have d1 : g ∣ t := hg ▸ Int.gcd_dvd_left ..
 have d2 : g ∣ b := hg ▸ Int.gcd_dvd_right ..
 obtain ⟨x, hx⟩ := d1
 obtain ⟨y, hy⟩ := d2
 have q1 : t / g = x := by rw [hx]; exact Int.mul_ediv_cancel_left _ (by omega)
 have q2 : b / g = y := by rw [hy]; exact Int.mul_ediv_cancel_left _ (by omega)
 have f1 := fdv ht g0
 have f2 := fdv (show 0 ≤ b by omega) g0
 rw [e1] at f1 ⊢
 rw [e2] at f2 ⊢
 have y0 : 0 < b / g := by
  rcases Int.lt_or_le 0 (b / g) with h | h
  ·exact h
  ·have : b / g = 0 := by omega
   rw [q2] at this
   rw [this, Int.mul_zero] at hy
   omega
 have x0 : 0 < t → 0 < t / g := fun h => by
  rcases Int.lt_or_le 0 (t / g) with h2 | h2
  ·exact h2
  ·have : t / g = 0 := by omega
   rw [q1] at this
   rw [this, Int.mul_zero] at hx
   omega
 refine ⟨g0, f1.1, by omega, y0, by omega, ?_, x0, fun h => Int.ediv_le_ediv g0 h⟩
 rw [hg]
 exact Int.gcd_ediv_gcd_ediv_gcd h0
theorem row3 (u x y : Str) : u ++ Str.ofString " " ++ x ++ Str.ofString " " ++ y = Txt.join (Str.ofString " ") [u, x, y] := by
 rw [tj]
 show _ = u ++ Str.ofString " " ++ (x ++ Str.ofString " " ++ y)
 simp only [app_assoc]
theorem row4 (u x y z : Str) : u ++ Str.ofString " " ++ x ++ Str.ofString " " ++ y ++ Str.ofString " " ++ z = Txt.join (Str.ofString " ") [u, x, y, z] := by
 rw [tj]
 show _ = u ++ Str.ofString " " ++ (x ++ Str.ofString " " ++ (y ++ Str.ofString " " ++ z))
 simp only [app_assoc]
theorem sp_len : (Str.ofString " ").length = 1 := by decide
noncomputable def spPlain (K : PySem.W.Frag) : Sp := fun vs H Q _ => ∃ n : Int, vs = [.int n] ∧ 0 ≤ n ∧ n < BG ∧ ∀ (p : Addr) (d : V) (pd : Pd) (H' : Hp), Same H H' → H' p = some (.tup [d, .str (Tk.pl pd).row]) → PdV H' d pd → pd.Ok → Q (.ref p) H'
theorem year_row : Str.ofString "year" = (Tk.pl .year).row := by
 unfold Tk.row
 rw [tj]
 rfl
noncomputable abbrev W7 : List V := [.str (Str.ofString "bring"), .str (Str.ofString "move"), .str (Str.ofString "part"), .str (Str.ofString "all"), .str (Str.ofString "fill"), .str (Str.ofString "year"), .str (Str.ofString "do")]
theorem w7 {r : Int} (h : 0 ≤ r ∧ r < 7) : ∃ u : Str, atI W7 r = some (V.str u) ∧ u.length ≤ 5 ∧ (u = Str.ofString "year" ∨ u = Str.ofString "do" ∨ (u = Str.ofString "all" ∨ u = Str.ofString "fill") ∨ (u = Str.ofString "bring" ∨ u = Str.ofString "move") ∨ u = Str.ofString "part") := by
 have h : r = 0 ∨ r = 1 ∨ r = 2 ∨ r = 3 ∨ r = 4 ∨ r = 5 ∨ r = 6 := by omega
 rcases h with rfl | rfl | rfl | rfl | rfl | rfl | rfl
 ·exact ⟨_, rfl, by decide, .inr (.inr (.inr (.inl (.inl rfl))))⟩
 ·exact ⟨_, rfl, by decide, .inr (.inr (.inr (.inl (.inr rfl))))⟩
 ·exact ⟨_, rfl, by decide, .inr (.inr (.inr (.inr rfl)))⟩
 ·exact ⟨_, rfl, by decide, .inr (.inr (.inl (.inl rfl)))⟩
 ·exact ⟨_, rfl, by decide, .inr (.inr (.inl (.inr rfl)))⟩
 ·exact ⟨_, rfl, by decide, .inl rfl⟩
 ·exact ⟨_, rfl, by decide, .inr (.inl rfl)⟩
noncomputable def Dee (H0 H : Hp) (F R : Addr) (rs : List V) (d : Nat) (ts : List Tk) : Prop := ∃ (Ls : List Addr) (ks : List V), Stk H [] [.int 1] d Ls ks ts ∧ (∀ L ∈ Ls, H0 L = none ∧ L ≠ F ∧ L ≠ R) ∧ H F = some (.lst ks.reverse) ∧ H R = some (.lst (rs ++ (ts.map Tk.row).map V.str)) ∧ ∀ c o, c ≠ R → H0 c = some o → H c = some o
noncomputable def spDeeds (K : PySem.W.Frag) : Sp := fun vs H Q _ => ∃ (C R : Addr) (ns : List Int) (rs : List V), vs = [.ref C, .ref R] ∧ H C = some (.lst (ns.map V.int)) ∧ ns.length ≤ 62 ∧ H R = some (.lst rs) ∧ rs.length ≤ 200 ∧ C ≠ R ∧
 ∀ p us ts H', (∀ c o, c ≠ R → H c = some o → H' c = some o) → H' R = some (.lst (rs ++ (ts.map Tk.row).map V.str)) → H' p = some (.tup us) → Rp H' 8 us ts → ts.length ≤ ns.length + 8 → Q (.ref p) H'
theorem by_key0 {P G : Prop} (go : P → G) (body : P) : G := go body
theorem at1 {bb : List V} {L : Addr} (h : bb.length = 1) : atI (bb ++ [V.ref L]) 1 = some (V.ref L) := atI_nat (j := 1) (by rw [List.getElem?_append_right (by omega), h]; rfl)
theorem Dee.end {H0 H H3 : Hp} {F R : Addr} {rs : List V} {d : Nat} {ts : List Tk} {n : Int} {k L k2 L2 a b : Addr} {us kr vs2 : List V} {Lr : List Addr} (nFR : F ≠ R) (hF0 : H0 F = none)
  (hLs : ∀ L' ∈ L :: L2 :: Lr, H0 L' = none ∧ L' ≠ F ∧ L' ≠ R) (hF : H F = some (.lst (V.ref k :: V.ref k2 :: kr).reverse)) (hR : H R = some (.lst (rs ++ (ts.map Tk.row).map V.str))) (hk0 : ∀ c o, c ≠ R → H0 c = some o → H c = some o)
  (fin : ∀ H6, TSame H H6 → (∀ L' ∈ L2 :: Lr, ∀ o, H L' = some o → H6 L' = some o) → ∀ a b, H6 a = some (.tup [.str (Str.ofString "times"), .int n, .ref b]) → H6 b = some (.tup us) → Stk (upd H6 L2 (.lst (vs2 ++ [.ref a]))) [] [.int 1] (d + 1) (L2 :: Lr) (.ref k2 :: kr) (ts ++ [.cl]))
  (hL2 : H L2 = some (.lst vs2)) (s3 : Same (upd (upd H F (.lst (V.ref k2 :: kr).reverse)) R (.lst (rs ++ (ts.map Tk.row).map V.str ++ [.str (Str.ofString "end")]))) H3) (ha : H3 a = some (.tup [.str (Str.ofString "times"), .int n, .ref b])) (hb : H3 b = some (.tup us)) :
  Dee H0 (upd H3 L2 (.lst (vs2 ++ [.ref a]))) F R rs (d + 1) (ts ++ [.cl]) := by
 have n2 := hLs L2 (.tail _ (.head _))
 have kp : ∀ c o, c ≠ F → c ≠ R → H c = some o → H3 c = some o := fun c o c1 c2 h => s3 _ _ (by rw [upd_ne c2, upd_ne c1]; exact h)
 have tS : TSame H H3 := fun c xs h => kp c _ (by rintro rfl; rw [hF] at h; cases h) (by rintro rfl; rw [hR] at h; cases h) h
 have st := fin H3 tS (fun L' h' o ho => kp L' o (hLs L' (.tail _ h')).2.1 (hLs L' (.tail _ h')).2.2 ho) a b ha hb
 refine ⟨_, _, st, fun L' h' => hLs L' (.tail _ h'), ?_, ?_, fun c o hc h => ?_⟩
 ·rw [upd_ne (Ne.symm n2.2.1)]; exact s3 _ _ (by rw [upd_ne nFR, upd_same])
 ·rw [upd_ne (Ne.symm n2.2.2)]
  refine s3 _ _ ?_
  rw [upd_same, rows_app, cl_row, List.append_assoc]; rfl
 ·have c2 : c ≠ L2 := ne_of_none h n2.1
  have c1 : c ≠ F := ne_of_none h hF0
  rw [upd_ne c2]; exact kp c o c1 hc (hk0 c o hc h)
theorem cut_ints (ns : List Int) (lo hi : Option Int) : ∃ ms : List Int, cutV (ns.map V.int) lo hi = ms.map V.int ∧ ms.length ≤ HT.sIx ns.length ns.length hi - HT.sIx ns.length 0 lo ∧ ms.length ≤ ns.length := by
 refine ⟨(ns.drop (HT.sIx ns.length 0 lo)).take (HT.sIx ns.length ns.length hi - HT.sIx ns.length 0 lo), ?_, ?_, ?_⟩
 ·unfold cutV
  rw [List.length_map, List.map_take, List.map_drop]
 ·rw [List.length_take]; omega
 ·rw [List.length_take, List.length_drop]; omega
noncomputable def spScript (K : PySem.W.Frag) : Sp := fun vs H Q _ => ∃ (C : Addr) (ns : List Int) (c : Int), vs = [.ref C, .int c] ∧ H C = some (.lst (ns.map V.int)) ∧ ns.length ≤ 62 ∧
 ∀ p v rls dts H', Same H H' → H' p = some (.tup [v, .str (rowsT rls dts)]) → ScV H' v rls dts → SOk rls → go dts 8 8 → (flatR rls ++ dts).length ≤ 300 → Q (.ref p) H'
theorem rl_one (x : Str) (ps : List Str) (ts : List Tk) : flatR [(x, ps, ts)] = [Tk.rl x ps] ++ ts ++ [Tk.cl] := by simp [flatR]
theorem bigL {n : Nat} (h : n ≤ 1000000) : n ≤ sizeLine := Nat.le_trans h (by decide)
noncomputable def valD : List Nat → Nat := List.foldl (fun n c => n * 10 + (c - 48)) 0
theorem valD_snoc (cs : List Nat) (c : Nat) : valD (cs ++ [c]) = valD cs * 10 + (c - 48) := by
 unfold valD
 rw [List.foldl_append]; rfl
theorem fold_pos : ∀ (cs : List Nat) (n : Nat), 0 < n → 0 < cs.foldl (fun n c => n * 10 + (c - 48)) n
 | [], _, h => h
 | c :: cs, n, h => fold_pos cs (n * 10 + (c - 48)) (by omega)
theorem valD_pos {c : Nat} {cs : List Nat} (h : 48 < c) : 0 < valD (c :: cs) := by
 show 0 < cs.foldl (fun n c => n * 10 + (c - 48)) (0 * 10 + (c - 48))
 exact fold_pos cs _ (by omega)
theorem chr_dig : ∀ d : Nat, d < 10 → (Nat.digitChar d).toNat = d + 48 := by decide
theorem dig_one {c : Nat} (h0 : 48 ≤ c) (h1 : c ≤ 57) : (Nat.toDigits 10 (c - 48)).map Char.toNat = [c] := by
 rw [Nat.toDigits_of_lt_base (by omega)]
 show [(Nat.digitChar (c - 48)).toNat] = [c]
 rw [chr_dig _ (by omega), Nat.sub_add_cancel h0]
theorem dig_val : ∀ (n : Nat) (cs : List Nat), cs.length = n + 1 → (∀ c ∈ cs, 48 ≤ c ∧ c ≤ 57) → (cs.head? ≠ some 48 ∨ n = 0) → (Nat.toDigits 10 (valD cs)).map Char.toNat = cs
 | 0, cs, hl, hd, _ => by
  match cs, hl with
  | [c], _ =>
   have := hd c (.head _)
   have e : valD [c] = c - 48 := by show 0 * 10 + (c - 48) = _; omega
   rw [e]
   exact dig_one this.1 this.2
 | n + 1, cs, hl, hd, hh => by
  have hh : cs.head? ≠ some 48 := hh.resolve_right (by omega)
  have hne : cs ≠ [] := fun z => by rw [z] at hl; cases hl
  have es := List.dropLast_concat_getLast hne
  generalize cs.getLast hne = c at es
  generalize hi : cs.dropLast = ini at es
  have hil : ini.length = n + 1 := by rw [← hi, List.length_dropLast, hl]; rfl
  have hc := hd c (by rw [← es]; exact List.mem_append_right _ (.head _))
  have hid : ∀ x ∈ ini, 48 ≤ x ∧ x ≤ 57 := fun x hx => hd x (by rw [← es]; exact List.mem_append_left _ hx)
  match ini, hil, hid, es with
  | a :: r, hil, hid, es =>
   have ha := hid a (.head _)
   have hah : (a :: r).head? ≠ some 48 := by
    rw [← es] at hh; exact hh
   have ih := dig_val n (a :: r) hil hid (.inl hah)
   have hp : 0 < valD (a :: r) := valD_pos (by
    have : a ≠ 48 := fun z => hah (by rw [z]; rfl)
    omega)
   rw [← es, valD_snoc]
   have t : Nat.toDigits 10 (valD (a :: r)) ++ Nat.toDigits 10 (c - 48) = Nat.toDigits 10 (10 * valD (a :: r) + (c - 48)) := Nat.toDigits_append_toDigits (by decide) hp (by omega)
   rw [Nat.mul_comm, ← t, List.map_append, ih, dig_one hc.1 hc.2]
theorem valD_lt : ∀ (n : Nat) (cs : List Nat), cs.length = n → (∀ c ∈ cs, 48 ≤ c ∧ c ≤ 57) → valD cs < 10 ^ n
 | 0, cs, hl, _ => by
  rw [List.length_eq_zero_iff.mp hl]; decide
 | n + 1, cs, hl, hd => by
  have hne : cs ≠ [] := fun z => by rw [z] at hl; cases hl
  have es := List.dropLast_concat_getLast hne
  have hil : cs.dropLast.length = n := by rw [List.length_dropLast, hl]; rfl
  have hc := hd _ (List.getLast_mem hne)
  have ih := valD_lt n cs.dropLast hil fun x hx => hd x (List.dropLast_subset _ hx)
  rw [← es, valD_snoc, Nat.pow_succ]
  omega
theorem inF_iff {c : Nat} : inF c = true ↔ 48 ≤ c ∧ c ≤ 57 := by
 refine ⟨fun h => ?_, fun h => inF_yes h.1 h.2⟩
 have h2 : inF c = decide (c ∈ FG.cps.toList) := PySem.StrLaws.found_one FG c
 rw [h2] at h
 have h := of_decide_eq_true h
 have e : FG.cps.toList = [48, 49, 50, 51, 52, 53, 54, 55, 56, 57] := by decide +kernel
 rw [e] at h
 simp only [List.mem_cons, List.mem_nil_iff, or_false] at h
 omega
noncomputable def okW (w : Str) : Bool := decide (1 ≤ w.length ∧ w.length ≤ 12) && w.cps.toList.all inF && (!decide (w.cps.toList[0]? = some 48) || decide (w = Str.ofString "0"))
noncomputable def wr (w : Str) : Option Nat := if okW w = true then some (valD w.cps.toList) else none
theorem str_eq {x y : Str} (h : x.cps.toList = y.cps.toList) : x = y := by
 cases x with | mk a => cases y with | mk b =>
 have h : a.toList = b.toList := h
 rw [Array.toList_inj.mp h]
theorem wr_some {w : Str} {m : Nat} (h : wr w = some m) : w = figs (m : Int) ∧ m < 10 ^ 12 ∧ okW w = true := by
 unfold wr at h
 by_cases k : okW w = true
 ·rw [if_pos k] at h
  have h := Option.some.inj h
  unfold okW at k
  rw [Bool.and_eq_true, Bool.and_eq_true] at k
  obtain ⟨⟨k1, k2⟩, k3⟩ := k
  have k1 := of_decide_eq_true k1
  have hl : w.cps.toList.length = w.length := Array.length_toList
  have hd : ∀ c ∈ w.cps.toList, 48 ≤ c ∧ c ≤ 57 := fun c hc => inF_iff.mp (List.all_eq_true.mp k2 c hc)
  have hv : (Nat.toDigits 10 (valD w.cps.toList)).map Char.toNat = w.cps.toList := by
   refine dig_val (w.length - 1) _ (by omega) hd ?_
   rw [Bool.or_eq_true] at k3
   rcases k3 with k3 | k3
   ·refine .inl fun z => ?_
    rw [List.head?_eq_getElem?] at z
    rw [decide_eq_true z] at k3
    cases k3
   ·have e := of_decide_eq_true k3
    refine .inr ?_
    rw [e]; decide +kernel
  refine ⟨str_eq ?_, ?_, ?_⟩
  ·rw [figs_signs, ← h, hv]
  ·have := valD_lt _ _ hl hd
   rw [← h]
   exact Nat.lt_of_lt_of_le this (Nat.pow_le_pow_right (by decide) k1.2)
  ·unfold okW
   rw [decide_eq_true k1, k2, k3]; rfl
 ·rw [if_neg k] at h; cases h
theorem wr_none {w : Str} (h : okW w = false) : wr w = none := if_neg (by rw [h]; decide)
noncomputable def wrV : Option Nat → V
 | none => .non
 | some n => .int (n : Nat)
noncomputable def spWr13 : Sp := fun vs H Q _ => ∃ w : Str, vs = [.str w] ∧ w.length ≤ 1000000 ∧ ∀ H', Same H H' → Q (wrV (wr w)) H'
theorem split_mem_len {x y z : Str} (hy : 1 ≤ y.length) (h : z ∈ Txt.split x y) : z.length ≤ x.length + 1 := by
 have hw := PyProof.Rows.split_weight x y hy
 have key : ∀ l : List Str, z ∈ l → z.length ≤ (l.map (·.length)).sum := by
  intro l
  induction l with
  | nil => intro z; cases z
  | cons a l ih =>
   intro hz
   rw [List.map_cons, List.sum_cons]
   rcases List.mem_cons.mp hz with e | hz
   ·rw [e]; omega
   ·have := ih hz; omega
 have := key _ h
 omega
theorem split_len {x y : Str} (hy : 1 ≤ y.length) : (Txt.split x y).length ≤ x.length + 1 := by
 have hw := PyProof.Rows.split_weight x y hy
 omega
noncomputable def frOk (x y : Nat) : Bool := decide (2 ≤ y) && decide (Int.gcd (x : Int) (y : Int) = 1)
noncomputable def nr2 : List Str → Option (Nat × Nat)
 | [a] => (wr a).map fun x => (x, 1)
 | [a, b] => match wr a, wr b with
  | some x, some y => if frOk x y = true then some (x, y) else none
  | _, _ => none
 | _ => none
noncomputable def nr (w : Str) : Option (Nat × Nat) := nr2 (Txt.split w (Str.ofString "/"))
noncomputable def NrV (H : Hp) (v : V) : Option (Nat × Nat) → Prop
 | none => v = .non
 | some q => ∃ p, v = .ref p ∧ H p = some (.tup [.int (q.1 : Nat), .int (q.2 : Nat)])
noncomputable def spFr13 (K : PySem.W.Frag) : Sp := fun vs H Q _ => ∃ (a : Addr) (x y : Nat), vs = [.ref a] ∧ H a = some (.tup [.int (x : Nat), .int (y : Nat)]) ∧ 0 < y ∧ Q (.bl (decide (Int.gcd (x : Int) (y : Int) = 1))) H
noncomputable def spNr13 (K : PySem.W.Frag) : Sp := fun vs H Q _ => ∃ w : Str, vs = [.str w] ∧ w.length ≤ 900000 ∧ ∀ v H', Same H H' → NrV H' v (nr w) → Q v H'
noncomputable def ar (w : Str) : Option (Nat × Nat) := (nr w).bind fun q => if q.1 = 0 then none else some q
noncomputable def sr (w : Str) : Option (Nat × Nat) := (nr w).bind fun q => if q.2 < q.1 then none else some q
noncomputable def spAr13 (K : PySem.W.Frag) : Sp := fun vs H Q _ => ∃ w : Str, vs = [.str w] ∧ w.length ≤ 900000 ∧ ∀ v H', Same H H' → NrV H' v (ar w) → Q v H'
noncomputable def spSr13 (K : PySem.W.Frag) : Sp := fun vs H Q _ => ∃ w : Str, vs = [.str w] ∧ w.length ≤ 900000 ∧ ∀ v H', Same H H' → NrV H' v (sr w) → Q v H'
noncomputable def spIn13 : Sp := fun vs H Q _ => ∃ v n, vs = [v] ∧ tyS H v = some n ∧ (n ≠ "str" → Q (.bl false) H) ∧ (∀ z, v = .str z → z.length ≤ 1000000 ∧ ∀ H', Same H H' → Q (.bl (nm z)) H')
noncomputable def ckN (l : Nat) (zs : List Str) : Bool := decide (l ≤ zs.length) && zs.all nm
noncomputable def spCk13 (K : PySem.W.Frag) (C : Addr) : Sp := fun vs H Q E => ∃ (a : Addr) (zs : List Str) (l : Nat), vs = [.ref a, .int (l : Nat)] ∧ SqL K H a (zs.map V.str) ∧ zs.length ≤ 100 ∧ (∀ z ∈ zs, z.length ≤ 1000000) ∧ (ckN l zs = true → ∀ H', Same H H' → Q .non H') ∧ (ckN l zs = false → ∀ H', Same H H' → E (.ref C) none H')
noncomputable def spMe13 (K : PySem.W.Frag) (C : Addr) : Sp := fun vs H Q E => ∃ (a : Addr) (v : V) (u x y z : Str) (o : Option (Nat × Nat)), vs = [.ref a, v] ∧ SqL K H a [.str u, .str x, .str y, .str z] ∧ x.length ≤ 1000000 ∧ y.length ≤ 1000000 ∧ NrV H v o ∧
 (∀ q, o = some q → ckN 2 [x, y] = true → ∀ t p H', Same H H' → H' t = some (.tup [.str u, .str x, .str y, .ref p]) → H' p = some (.tup [.int (q.1 : Nat), .int (q.2 : Nat)]) → Q (.ref t) H') ∧ (o = none ∨ ckN 2 [x, y] = false → ∀ H', Same H H' → E (.ref C) none H')
noncomputable def drM (u : Str) (o : Option (Nat × Nat)) (x y : Str) : Option Pd := match o with
 | some q => if ckN 2 [x, y] = true then some (.mea u x y (q.1 : Nat) (q.2 : Nat)) else none
 | none => none
noncomputable def drD (r : List Str) : Option Pd := if ckN 2 r = true then some (.dor (r.headD (Str.ofString "")) r.tail) else none
noncomputable def drT (u : Str) (r : List Str) : Option Pd := if ckN 2 r = true then some (.two u (r.headD (Str.ofString "")) (r.getD 1 (Str.ofString ""))) else none
noncomputable def dr : List Str → Option Pd
 | [] => none
 | u :: r => if u :: r = [Str.ofString "year"] then some .year
  else if u = Str.ofString "do" ∧ r.length ≤ 9 then drD r
  else if u ∈ [Str.ofString "all", Str.ofString "fill"] ∧ r.length = 2 then drT u r
  else if u ∈ [Str.ofString "bring", Str.ofString "move"] ∧ r.length = 3 then drM u (ar (r.getD 2 (Str.ofString ""))) (r.headD (Str.ofString "")) (r.getD 1 (Str.ofString ""))
  else if u = Str.ofString "part" ∧ r.length = 3 then drM u (sr (r.getD 2 (Str.ofString ""))) (r.headD (Str.ofString "")) (r.getD 1 (Str.ofString ""))
  else none
noncomputable def spDr13 (K : PySem.W.Frag) (C : Addr) : Sp := fun vs H Q E => ∃ (a : Addr) (zs : List Str), vs = [.ref a] ∧ SqL K H a (zs.map V.str) ∧ zs ≠ [] ∧ (∀ z ∈ zs, z.length ≤ 900000) ∧ (∀ p, dr zs = some p → ∀ v H', Same H H' → PdV H' v p → Q v H') ∧ (dr zs = none → ∀ H', Same H H' → E (.ref C) none H')
theorem len1 (u : Str) (r : List Str) : (((u :: r).map V.str).length : Int) = ((r.length + 1 : Nat) : Int) := by rw [List.length_map, List.length_cons]
noncomputable def Kz (H : Hp) (b : V) (z : Str) : Prop := ∃ k r, b = V.ref k ∧ H k = some (.tup (.str z :: r))
theorem Kz.ts {H H' : Hp} {b : V} {z : Str} (s : TSame H H') : Kz H b z → Kz H' b z := fun ⟨k, r, e, h⟩ => ⟨k, r, e, s _ _ h⟩
noncomputable def isTm (z : Str) : Bool := decide (z = Str.ofString "times")
noncomputable def thR (r : List Str) (c : Nat) : Option Nat := if r.length = 1 then (match wr (r.headD (Str.ofString "")) with
  | some n => if n ≤ 60 ∧ c ≠ 8 then some n else none
  | none => none) else none
noncomputable def spTh13 (K : PySem.W.Frag) (C : Addr) : Sp := fun vs H Q E => ∃ (a B : Addr) (u : Str) (r : List Str) (bs : List V) (zs : List Str), vs = [.ref a, .ref B] ∧ SqL K H a ((u :: r).map V.str) ∧ (∀ z ∈ r, z.length ≤ 1000000) ∧ H B = some (.lst bs) ∧ Paired (Kz H) bs zs ∧ bs.length ≤ 100 ∧
 (∀ n, thR r (zs.filter isTm).length = some n → ∀ p L H', Same H H' → H' p = some (.tup [.str (Str.ofString "times"), .int (n : Nat), .ref L]) → H' L = some (.lst []) → H L = none → Q (.ref p) H') ∧ (thR r (zs.filter isTm).length = none → ∀ H', Same H H' → E (.ref C) none H')
noncomputable def rhOk (one : Bool) (r names : List Str) : Bool := one && decide (r.length ≤ 9) && ckN 2 r && decide (r.tail.Nodup) && !decide (r.headD (Str.ofString "") ∈ names)
noncomputable def spRh13 (K : PySem.W.Frag) (C : Addr) : Sp := fun vs H Q E => ∃ (a B R k0 L0 : Addr) (u : Str) (r : List Str) (z v : V) (bs vs0 rv : List V) (rls : List Rl), vs = [.ref a, .ref B, .ref R] ∧ SqL K H a ((u :: r).map V.str) ∧ (∀ w ∈ r, w.length ≤ 1000000) ∧
 H B = some (.lst (.ref k0 :: bs)) ∧ H k0 = some (.tup [z, v, .ref L0]) ∧ H L0 = some (.lst vs0) ∧ H R = some (.lst rv) ∧ Paired (RlV H) rv rls ∧ rls.length ≤ 400 ∧
 (rhOk (bs.isEmpty && vs0.isEmpty) r (rls.map (·.1)) = true → ∀ p q b L H', Same H H' → H' p = some (.tup [.str (Str.ofString "rule"), .ref q, .ref L]) → H' q = some (.tup [.str (r.headD (Str.ofString "")), .ref b]) → H' b = some (.tup (r.tail.map V.str)) → H' L = some (.lst []) → H L = none → Q (.ref p) H') ∧
 (rhOk (bs.isEmpty && vs0.isEmpty) r (rls.map (·.1)) = false → ∀ H', Same H H' → E (.ref C) none H')
noncomputable def spEn13 (K : PySem.W.Frag) (C : Addr) : Sp := fun vs H Q E => ∃ (B R : Addr) (bs : List V) (k L : Addr) (z : Str) (c : V) (us : List V), vs = [.ref B, .ref R] ∧ H B = some (.lst (bs ++ [.ref k])) ∧ (bs = [] → E (.ref C) none H) ∧ H k = some (.tup [.str z, c, .ref L]) ∧ H L = some (.lst us) ∧ L ≠ B ∧
 (bs ≠ [] → (z = Str.ofString "times" ∧ ∃ (bs' : List V) (k2 L2 : Addr) (b1 b2 : V) (vs2 : List V), bs = bs' ++ [.ref k2] ∧ H k2 = some (.tup [b1, b2, .ref L2]) ∧ H L2 = some (.lst vs2) ∧ vs2.length ≤ 400 ∧ L2 ≠ B ∧ ∀ a b H1, Same (upd H B (.lst bs)) H1 → H1 a = some (.tup [.str z, c, .ref b]) → H1 b = some (.tup us) → Q .non (upd H1 L2 (.lst (vs2 ++ [.ref a]))))
 ∨ (z = Str.ofString "rule" ∧ ∃ (q : Addr) (x b : V) (rv : List V), c = .ref q ∧ H q = some (.tup [x, b]) ∧ H R = some (.lst rv) ∧ rv.length ≤ 400 ∧ R ≠ B ∧ ∀ a b' H1, Same (upd H B (.lst bs)) H1 → H1 a = some (.tup [x, b, .ref b']) → H1 b' = some (.tup us) → Q .non (upd H1 R (.lst (rv ++ [.ref a])))))
theorem nr_some {w : Str} {x y : Nat} (h : nr w = some (x, y)) : w = numTxt (x : Int) (y : Int) ∧ x < 10 ^ 12 ∧ 0 < y ∧ y < 10 ^ 12 ∧ Int.gcd (x : Int) (y : Int) = 1 := by
 unfold nr at h
 have js := PySem.StrLaws.join_split w (Str.ofString "/")
 generalize Txt.split w (Str.ofString "/") = zs at *
 match zs, h, js with
 | [a], h, js =>
  have h : (wr a).map (fun x => (x, 1)) = some (x, y) := h
  obtain ⟨m, hm, e⟩ := Option.map_eq_some_iff.mp h
  obtain ⟨rfl, rfl⟩ := Prod.mk.inj e
  obtain ⟨ea, hlt, _⟩ := wr_some hm
  have js : a = w := js
  refine ⟨?_, hlt, by decide, by decide, by simp⟩
  rw [← js, ea]
  exact (if_pos rfl).symm
 | [a, b], h, js =>
  have h : (match wr a, wr b with | some x, some y => if frOk x y = true then some (x, y) else none | _, _ => none) = some (x, y) := h
  cases ha : wr a with
  | none => rw [ha] at h; cases h
  | some m =>
   cases hb : wr b with
   | none => rw [ha, hb] at h; cases h
   | some n =>
    rw [ha, hb] at h
    have h : (if frOk m n = true then some (m, n) else none) = some (x, y) := h
    by_cases hf : frOk m n = true
    ·rw [if_pos hf] at h
     obtain ⟨rfl, rfl⟩ := Prod.mk.inj (Option.some.inj h)
     unfold frOk at hf
     rw [Bool.and_eq_true] at hf
     have h2 := of_decide_eq_true hf.1
     have hg := of_decide_eq_true hf.2
     obtain ⟨ea, hla, _⟩ := wr_some ha
     obtain ⟨eb, hlb, _⟩ := wr_some hb
     have js : a ++ Str.ofString "/" ++ b = w := js
     refine ⟨?_, hla, by omega, hlb, hg⟩
     rw [← js, ea, eb]
     unfold numTxt
     rw [if_neg (by omega)]
    ·rw [if_neg hf] at h; cases h
theorem ar_some {w : Str} {q : Nat × Nat} (h : ar w = some q) : nr w = some q ∧ q.1 ≠ 0 := by
 unfold ar at h
 obtain ⟨p, hp, e⟩ := Option.bind_eq_some_iff.mp h
 by_cases z : p.1 = 0
 ·rw [if_pos z] at e; cases e
 ·rw [if_neg z] at e
  obtain rfl := Option.some.inj e
  exact ⟨hp, z⟩
theorem sr_some {w : Str} {q : Nat × Nat} (h : sr w = some q) : nr w = some q ∧ q.1 ≤ q.2 := by
 unfold sr at h
 obtain ⟨p, hp, e⟩ := Option.bind_eq_some_iff.mp h
 by_cases z : p.2 < p.1
 ·rw [if_pos z] at e; cases e
 ·rw [if_neg z] at e
  obtain rfl := Option.some.inj e
  exact ⟨hp, by omega⟩
theorem ckN_all {l : Nat} {zs : List Str} (h : ckN l zs = true) : l ≤ zs.length ∧ ∀ z ∈ zs, nm z = true := by
 unfold ckN at h
 rw [Bool.and_eq_true] at h
 exact ⟨of_decide_eq_true h.1, fun z hz => List.all_eq_true.mp h.2 z hz⟩
theorem drM_ok {u x y n : Str} {o : Option (Nat × Nat)} {p : Pd} (h : drM u o x y = some p) (hn : ∀ q, o = some q → nr n = some q) (hu : ∀ q, o = some q → ((u = Str.ofString "bring" ∨ u = Str.ofString "move") ∧ q.1 ≠ 0) ∨ (u = Str.ofString "part" ∧ q.1 ≤ q.2)) : p.Ok ∧ p.words = [u, x, y, n] := by
 cases o with
 | none => cases h
 | some q =>
  have h : (if ckN 2 [x, y] = true then some (Pd.mea u x y (q.1 : Nat) (q.2 : Nat)) else none) = some p := h
  by_cases hc : ckN 2 [x, y] = true
  ·rw [if_pos hc] at h
   obtain rfl := Option.some.inj h
   have ha := (ckN_all hc).2
   obtain ⟨e1, e2, e3, e4, e5⟩ := nr_some (x := q.1) (y := q.2) (hn q rfl)
   refine ⟨⟨?_, ha x (.head _), ha y (.tail _ (.head _)), by omega, by omega, by omega, by omega, e5⟩, ?_⟩
   ·rcases hu q rfl with ⟨z, z2⟩ | ⟨z, z2⟩
    ·exact .inl ⟨z, by omega⟩
    ·exact .inr ⟨z, by omega⟩
   ·show [u, x, y, numTxt (q.1 : Nat) (q.2 : Nat)] = _
    rw [← e1]
  ·rw [if_neg hc] at h; cases h
theorem dr_ok {zs : List Str} {p : Pd} (h : dr zs = some p) : p.Ok ∧ p.words = zs := by
 match zs, h with
 | u :: r, h =>
  have h : (if u :: r = [Str.ofString "year"] then some Pd.year
   else if u = Str.ofString "do" ∧ r.length ≤ 9 then drD r
   else if u ∈ [Str.ofString "all", Str.ofString "fill"] ∧ r.length = 2 then drT u r
   else if u ∈ [Str.ofString "bring", Str.ofString "move"] ∧ r.length = 3 then drM u (ar (r.getD 2 (Str.ofString ""))) (r.headD (Str.ofString "")) (r.getD 1 (Str.ofString ""))
   else if u = Str.ofString "part" ∧ r.length = 3 then drM u (sr (r.getD 2 (Str.ofString ""))) (r.headD (Str.ofString "")) (r.getD 1 (Str.ofString ""))
   else none) = some p := h
  by_cases c0 : u :: r = [Str.ofString "year"]
  ·rw [if_pos c0] at h
   obtain rfl := Option.some.inj h
   exact ⟨trivial, c0.symm⟩
  rw [if_neg c0] at h
  by_cases c1 : u = Str.ofString "do" ∧ r.length ≤ 9
  ·rw [if_pos c1] at h
   unfold drD at h
   by_cases hc : ckN 2 r = true
   ·rw [if_pos hc] at h
    obtain rfl := Option.some.inj h
    obtain ⟨h2, hn⟩ := ckN_all hc
    match r, h2, hn, c1 with
    | x :: ps, h2, hn, c1 =>
     have h2 : 2 ≤ ps.length + 1 := h2
     have h9 : ps.length + 1 ≤ 9 := c1.2
     refine ⟨⟨hn x (.head _), show 1 ≤ ps.length by omega, show ps.length ≤ 8 by omega, fun q hq => hn q (.tail _ hq)⟩, ?_⟩
     rw [c1.1]; rfl
   ·rw [if_neg hc] at h; cases h
  rw [if_neg c1] at h
  by_cases c2 : u ∈ [Str.ofString "all", Str.ofString "fill"] ∧ r.length = 2
  ·rw [if_pos c2] at h
   unfold drT at h
   by_cases hc : ckN 2 r = true
   ·rw [if_pos hc] at h
    obtain rfl := Option.some.inj h
    obtain ⟨_, hn⟩ := ckN_all hc
    match r, c2, hn with
    | [x, y], c2, hn =>
     refine ⟨⟨?_, hn x (.head _), hn y (.tail _ (.head _))⟩, rfl⟩
     simpa using c2.1
   ·rw [if_neg hc] at h; cases h
  rw [if_neg c2] at h
  by_cases c3 : u ∈ [Str.ofString "bring", Str.ofString "move"] ∧ r.length = 3
  ·rw [if_pos c3] at h
   match r, c3, h with
   | [x, y, n], c3, h =>
    exact drM_ok (n := n) h (fun q hq => (ar_some hq).1) fun q hq => .inl ⟨by simpa using c3.1, (ar_some hq).2⟩
  rw [if_neg c3] at h
  by_cases c4 : u = Str.ofString "part" ∧ r.length = 3
  ·rw [if_pos c4] at h
   match r, c4, h with
   | [x, y, n], c4, h =>
    exact drM_ok (n := n) h (fun q hq => (sr_some hq).1) fun q hq => .inr ⟨c4.1, (sr_some hq).2⟩
  rw [if_neg c4] at h
  cases h
set_option genInjectivity false in
structure Ms where
 rls : List Rl
 cur : Option (Str × List Str)
 ts : List Tk
 d : Nat
noncomputable def ms0 : Ms := ⟨[], none, [], 8⟩
noncomputable def msEnd (s : Ms) : Option Ms := if s.d < 8 then some ⟨s.rls, s.cur, s.ts ++ [.cl], s.d + 1⟩ else (match s.cur with
  | some c => some ⟨s.rls ++ [(c.1, c.2, s.ts)], none, [], 8⟩
  | none => none)
noncomputable def msRule (s : Ms) (r : List Str) : Option Ms := if rhOk (s.cur.isNone && decide (s.d = 8) && s.ts.isEmpty) r (s.rls.map (·.1)) = true then some ⟨s.rls, some (r.headD (Str.ofString ""), r.tail), [], 8⟩ else none
noncomputable def msTimes (s : Ms) (r : List Str) : Option Ms := match thR r (8 - s.d) with
  | some n => some ⟨s.rls, s.cur, s.ts ++ [.op (n : Nat)], s.d - 1⟩
  | none => none
noncomputable def msDeed (s : Ms) (ws : List Str) : Option Ms := match dr ws with
  | some p => some ⟨s.rls, s.cur, s.ts ++ [.pl p], s.d⟩
  | none => none
noncomputable def ms1 (s : Ms) : List Str → Option Ms
 | [] => none
 | u :: r => if u = Str.ofString "rule" then msRule s r else if u = Str.ofString "times" then msTimes s r else if u :: r = [Str.ofString "end"] then msEnd s else msDeed s (u :: r)
noncomputable def msR (s : Ms) (row : Str) : Option Ms := ms1 s (Txt.split row (Str.ofString " "))
noncomputable def mrun (rows : List Str) : Option Ms := rows.foldlM msR ms0
theorem mrun_next {rows : List Str} {i : Nat} {z : Str} {s : Ms} (hz : rows[i]? = some z) (h : mrun (rows.take i) = some s) : mrun (rows.take (i + 1)) = msR s z := by
 unfold mrun at h ⊢
 rw [List.take_add_one, hz, List.foldlM_append, h]
 show (List.foldlM msR s [z]) = _
 show (msR s z >>= fun s' => some s') = _
 cases msR s z <;> rfl
theorem mrun_none {rows : List Str} {i : Nat} (h : mrun (rows.take i) = none) : mrun rows = none := by
 unfold mrun at h ⊢
 rw [← List.take_append_drop i rows, List.foldlM_append, h]; rfl
theorem Rp.emp {H : Hp} {d : Nat} {vs : List V} {ts : List Tk} (h : Rp H d vs ts) : vs.isEmpty = ts.isEmpty := by
 cases h <;> rfl
theorem Stk.bot {H : Hp} {pre b0 : List V} {d : Nat} {Ls : List Addr} {ks : List V} {ts : List Tk} (h : Stk H pre b0 d Ls ks ts) : ∃ k0 L0 vs0 rest, ks.reverse = .ref k0 :: rest ∧ H k0 = some (.tup (b0 ++ [.ref L0])) ∧ H L0 = some (.lst vs0) ∧ (d < 8 → rest ≠ []) ∧ (d = 8 → rest = [] ∧ vs0.isEmpty = ts.isEmpty) := by
 induction h with
 | @base k L vs ts a b c => exact ⟨k, L, vs, [], rfl, a, b, fun z => by omega, fun _ => ⟨rfl, c.emp⟩⟩
 | @up d Ls ks ts t n k L vs st b c e f g i ih =>
  obtain ⟨k0, L0, vs0, rest, e1, e2, e3, _, _⟩ := ih
  have := st.deep.2
  exact ⟨k0, L0, vs0, rest ++ [.ref k], by rw [List.reverse_cons, e1]; rfl, e2, e3, fun _ => by simp, fun z => by omega⟩
theorem Stk.kz {H : Hp} {z0 : Str} {v0 : V} {d : Nat} {Ls : List Addr} {ks : List V} {ts : List Tk} (h : Stk H [.str (Str.ofString "times")] [.str z0, v0] d Ls ks ts) (hz : z0 ≠ Str.ofString "times") : ∃ zs, Paired (Kz H) ks zs ∧ (zs.filter isTm).length = 8 - d := by
 induction h with
 | @base k L vs ts a _ _ =>
  refine ⟨[z0], .cons ⟨k, _, rfl, a⟩ .nil, ?_⟩
  have e : isTm z0 = false := decide_eq_false hz
  rw [List.filter_cons, e]; rfl
 | @up d Ls ks ts t n k L vs st b c e f g i ih =>
  obtain ⟨zs, h1, h2⟩ := ih
  have := st.deep.2
  refine ⟨Str.ofString "times" :: zs, .cons ⟨k, _, rfl, b⟩ h1, ?_⟩
  have e : isTm (Str.ofString "times") = true := decide_eq_true rfl
  rw [List.filter_cons, e]
  show (List.filter isTm zs).length + 1 = _
  omega
noncomputable def Md13 (H0 H : Hp) (B R : Addr) (pf b0 : List V) (Ls : List Addr) (cur : Option (Str × List Str)) : Prop :=
 (cur = none ∧ pf = [] ∧ b0 = [.str (Str.ofString "script"), .non]) ∨ ∃ (k0 L0 q b : Addr) (x : Str) (ps : List Str), cur = some (x, ps) ∧ pf = [.ref k0] ∧ b0 = [.str (Str.ofString "rule"), .ref q] ∧ H k0 = some (.tup [.str (Str.ofString "script"), .non, .ref L0]) ∧ H L0 = some (.lst []) ∧ L0 ∉ Ls ∧ H0 L0 = none ∧ L0 ≠ B ∧ L0 ≠ R ∧ H q = some (.tup [.str x, .ref b]) ∧ H b = some (.tup (ps.map V.str))
theorem Md13.mono {H0 H H' : Hp} {B R : Addr} {pf b0 : List V} {Ls Ls' : List Addr} {cur : Option (Str × List Str)} (h : Md13 H0 H B R pf b0 Ls cur) (s : TSame H H')
  (hl : ∀ L0, H L0 = some (.lst []) → L0 ∉ Ls → L0 ≠ B → L0 ≠ R → H' L0 = some (.lst []) ∧ L0 ∉ Ls') : Md13 H0 H' B R pf b0 Ls' cur := by
 rcases h with h | ⟨k0, L0, q, b, x, ps, h1, h2, h3, h5, h6, h7, h8, h9, h10, h11, h12⟩
 ·exact .inl h
 ·obtain ⟨g1, g2⟩ := hl L0 h6 h7 h9 h10
  exact .inr ⟨k0, L0, q, b, x, ps, h1, h2, h3, s _ _ h5, g1, g2, h8, h9, h10, s _ _ h11, s _ _ h12⟩
theorem Md13.heads {H0 H : Hp} {B R : Addr} {pf b0 : List V} {Ls : List Addr} {cur : Option (Str × List Str)} (h : Md13 H0 H B R pf b0 Ls cur) :
  ∃ z0 v0 zp, b0 = [.str z0, v0] ∧ z0 ≠ Str.ofString "times" ∧ pf.length ≤ 1 ∧ Paired (Kz H) pf zp ∧ (zp.filter isTm).length = 0 := by
 rcases h with ⟨_, rfl, rfl⟩ | ⟨k0, L0, q, b, x, ps, _, rfl, rfl, h5, _⟩
 ·exact ⟨_, _, [], rfl, by decide +kernel, Nat.zero_le _, .nil, rfl⟩
 ·exact ⟨_, _, [Str.ofString "script"], rfl, by decide +kernel, Nat.le_refl _, .cons ⟨k0, _, rfl, h5⟩ .nil, by decide +kernel⟩
noncomputable def In13 (H0 H : Hp) (B R : Addr) (s : Ms) : Prop := ∃ (pf b0 : List V) (Ls : List Addr) (ks rv : List V), Stk H [.str (Str.ofString "times")] b0 s.d Ls ks s.ts ∧ (∀ L ∈ Ls, H0 L = none ∧ L ≠ B ∧ L ≠ R) ∧ H B = some (.lst (pf ++ ks.reverse)) ∧ H R = some (.lst rv) ∧ Paired (RlV H) rv s.rls ∧ Md13 H0 H B R pf b0 Ls s.cur
noncomputable def spRr13 (K : PySem.W.Frag) (C : Addr) : Sp := fun vs H Q E => ∃ (a : Addr) (rows : List Str), vs = [.ref a] ∧ SqL K H a (rows.map V.str) ∧ rows.length ≤ 300 ∧ (∀ z ∈ rows, z.length ≤ 800000) ∧
 (∀ s, mrun rows = some s → s.cur = none → s.d = 8 → ∀ v H', Same H H' → ScV H' v s.rls s.ts → Q v H') ∧ ((∀ s, mrun rows = some s → ¬ (s.cur = none ∧ s.d = 8)) → ∀ H', Same H H' → E (.ref C) none H')
theorem row_of_words {row : Str} {t : Tk} (h : t.words = Txt.split row (Str.ofString " ")) : t.row = row := by
 unfold Tk.row
 rw [h, tj]
 exact PySem.StrLaws.join_split row (Str.ofString " ")
noncomputable def hdT : Option (Str × List Str) → List Tk
 | none => []
 | some c => [.rl c.1 c.2]
noncomputable def Okm (s : Ms) (rows : List Str) : Prop := SOk s.rls ∧ (∀ c, s.cur = some c → c.1 ∉ s.rls.map (·.1) ∧ (Tk.rl c.1 c.2).Ok ∧ c.2.Nodup) ∧ go s.ts 8 s.d ∧ s.d ≤ 8 ∧ rows = (flatR s.rls ++ hdT s.cur ++ s.ts).map Tk.row
theorem rows_snoc {A : List Tk} {rows : List Str} {row : Str} {t : Tk} (h : rows = A.map Tk.row) (ht : t.row = row) : rows ++ [row] = (A ++ [t]).map Tk.row := by
 rw [List.map_append, ← h, ← ht]; rfl
theorem thR_some {r : List Str} {c n : Nat} (h : thR r c = some n) : r = [figs (n : Int)] ∧ n ≤ 60 ∧ c ≠ 8 := by
 unfold thR at h
 by_cases h1 : r.length = 1
 ·rw [if_pos h1] at h
  match r, h1, h with
  | [x], _, h =>
   have h : (match wr x with | some n => if n ≤ 60 ∧ c ≠ 8 then some n else none | none => none) = some n := h
   cases hw : wr x with
   | none => rw [hw] at h; cases h
   | some m =>
    rw [hw] at h
    have h : (if m ≤ 60 ∧ c ≠ 8 then some m else none) = some n := h
    by_cases h2 : m ≤ 60 ∧ c ≠ 8
    ·rw [if_pos h2] at h
     obtain rfl := Option.some.inj h
     exact ⟨by rw [← (wr_some hw).1], h2⟩
    ·rw [if_neg h2] at h; cases h
 ·rw [if_neg h1] at h; cases h
theorem Okm.step {s s' : Ms} {rows : List Str} {row : Str} (k : Okm s rows) (h : msR s row = some s') : Okm s' (rows ++ [row]) := by
 obtain ⟨k1, k2, k3, k4, k5⟩ := k
 unfold msR at h
 have hw : ∀ t : Tk, t.words = Txt.split row (Str.ofString " ") → t.row = row := fun t => row_of_words
 generalize Txt.split row (Str.ofString " ") = ws at *
 match ws, h with
 | u :: r, h =>
  have h : (if u = Str.ofString "rule" then msRule s r else if u = Str.ofString "times" then msTimes s r else if u :: r = [Str.ofString "end"] then msEnd s else msDeed s (u :: r)) = some s' := h
  by_cases c1 : u = Str.ofString "rule"
  ·rw [if_pos c1] at h
   unfold msRule at h
   by_cases hc : rhOk (s.cur.isNone && decide (s.d = 8) && s.ts.isEmpty) r (s.rls.map (·.1)) = true
   ·rw [if_pos hc] at h
    obtain rfl := Option.some.inj h
    unfold rhOk at hc
    rw [Bool.and_eq_true, Bool.and_eq_true, Bool.and_eq_true, Bool.and_eq_true, Bool.and_eq_true, Bool.and_eq_true] at hc
    obtain ⟨⟨⟨⟨⟨⟨a1, a2⟩, a3⟩, a4⟩, a5⟩, a6⟩, a7⟩ := hc
    have a4 := of_decide_eq_true a4
    have a6 := of_decide_eq_true a6
    have a3 := List.isEmpty_iff.mp a3
    obtain ⟨b1, b2⟩ := ckN_all a5
    match r, a4, a6, a7, b1, b2, hw with
    | x :: ps, a4, a6, a7, b1, b2, hw =>
     have b1 : 2 ≤ ps.length + 1 := b1
     have a4 : ps.length + 1 ≤ 9 := a4
     have hx : x ∉ s.rls.map (·.1) := fun z => by
      have a7 : (!decide (x ∈ s.rls.map (·.1))) = true := a7
      rw [decide_eq_true z] at a7; cases a7
     refine ⟨k1, fun c ec => ?_, rfl, Nat.le_refl _, ?_⟩
     ·obtain rfl := Option.some.inj ec
      exact ⟨hx, ⟨b2 x (.head _), show 1 ≤ ps.length by omega, show ps.length ≤ 8 by omega, fun q hq => b2 q (.tail _ hq)⟩, a6⟩
     ·have ecn : s.cur = none := by
       cases hq : s.cur with
       | none => rfl
       | some _ => rw [hq] at a1; cases a1
      rw [ecn, a3] at k5
      have k5 : rows = (flatR s.rls).map Tk.row := by rw [k5]; simp [hdT]
      have := rows_snoc k5 (hw (.rl x ps) (by rw [c1]; rfl))
      rw [this]
      show _ = (flatR s.rls ++ [Tk.rl x ps] ++ []).map Tk.row
      rw [List.append_nil]
   ·rw [if_neg hc] at h; cases h
  rw [if_neg c1] at h
  by_cases c2 : u = Str.ofString "times"
  ·rw [if_pos c2] at h
   unfold msTimes at h
   cases ht : thR r (8 - s.d) with
   | none => rw [ht] at h; cases h
   | some n =>
    rw [ht] at h
    obtain rfl := Option.some.inj h
    obtain ⟨er, hn, hd⟩ := thR_some ht
    refine ⟨k1, k2, go_app k3 ⟨by omega, by omega, by omega, rfl⟩, by show s.d - 1 ≤ 8; omega, ?_⟩
    have := rows_snoc k5 (hw (.op (n : Nat)) (by rw [c2, er]; rfl))
    rw [this, List.append_assoc]
  rw [if_neg c2] at h
  by_cases c3 : u :: r = [Str.ofString "end"]
  ·rw [if_pos c3] at h
   have hr := hw .cl (by rw [c3]; rfl)
   unfold msEnd at h
   by_cases hd : s.d < 8
   ·rw [if_pos hd] at h
    obtain rfl := Option.some.inj h
    refine ⟨k1, k2, go_app k3 ⟨hd, rfl⟩, by show s.d + 1 ≤ 8; omega, ?_⟩
    rw [rows_snoc k5 hr, List.append_assoc]
   ·rw [if_neg hd] at h
    have hd8 : s.d = 8 := by omega
    cases hc : s.cur with
    | none => rw [hc] at h; cases h
    | some c =>
     rw [hc] at h k5
     obtain rfl := Option.some.inj h
     obtain ⟨q1, q2, q3⟩ := k2 c hc
     rw [hd8] at k3
     refine ⟨⟨?_, fun r hr => ?_⟩, fun c ec => (by cases ec), rfl, Nat.le_refl _, ?_⟩
     ·rw [List.map_append]
      refine List.nodup_append.mpr ⟨k1.1, by simp, fun a ha b hb e => ?_⟩
      rw [List.map_singleton, List.mem_singleton] at hb
      rw [e, hb] at ha
      exact q1 ha
     ·rcases List.mem_append.mp hr with hr | hr
      ·exact k1.2 r hr
      ·rw [List.mem_singleton.mp hr]
       exact ⟨q2, q3, k3⟩
     ·rw [rows_snoc k5 hr]
      show _ = (flatR (s.rls ++ [(c.1, c.2, s.ts)]) ++ [] ++ []).map Tk.row
      rw [flatR_app, rl_one, List.append_nil, List.append_nil]
      show (flatR s.rls ++ [Tk.rl c.1 c.2] ++ s.ts ++ [Tk.cl]).map Tk.row = _
      simp
  rw [if_neg c3] at h
  unfold msDeed at h
  cases hp : dr (u :: r) with
  | none => rw [hp] at h; cases h
  | some p =>
   rw [hp] at h
   obtain rfl := Option.some.inj h
   obtain ⟨o1, o2⟩ := dr_ok hp
   refine ⟨k1, k2, go_app k3 ⟨o1, rfl⟩, k4, ?_⟩
   rw [rows_snoc k5 (hw (.pl p) o2), List.append_assoc]
theorem okm_run : ∀ (n : Nat) (rows : List Str), rows.length = n → ∀ s, mrun rows = some s → Okm s rows
 | 0, rows, hl, s, h => by
  have e : rows = [] := List.length_eq_zero_iff.mp hl
  subst e
  have h : some ms0 = some s := h
  obtain rfl := Option.some.inj h
  exact ⟨⟨List.nodup_nil, fun _ z => nomatch z⟩, fun c ec => (by cases ec), rfl, Nat.le_refl _, rfl⟩
 | n + 1, rows, hl, s, h => by
  have hne : rows ≠ [] := fun z => by rw [z] at hl; cases hl
  have es := List.dropLast_concat_getLast hne
  have hil : rows.dropLast.length = n := by rw [List.length_dropLast, hl]; rfl
  rw [← es] at h ⊢
  generalize rows.getLast hne = row at *
  generalize rows.dropLast = ini at *
  unfold mrun at h
  rw [List.foldlM_append] at h
  cases h1 : List.foldlM msR ms0 ini with
  | none => rw [h1] at h; cases h
  | some s1 =>
   rw [h1] at h
   have h : (msR s1 row >>= fun s' => some s') = some s := h
   have h : msR s1 row = some s := by
    cases h2 : msR s1 row with
    | none => rw [h2] at h; cases h
    | some s2 => rw [h2] at h; exact h
   exact (okm_run n ini hil s1 h1).step h
noncomputable def msFin (s : Ms) : Option (List Rl × List Tk) := if s.cur = none ∧ s.d = 8 then some (s.rls, s.ts) else none
noncomputable def rdF (t : Str) : Option (List Rl × List Tk) := if t = Str.ofString "" then some ([], []) else if (Txt.split t (Str.ofString "\n")).length ≤ 300 then (mrun (Txt.split t (Str.ofString "\n"))).bind msFin else none
theorem rdF_ok {t : Str} {rls : List Rl} {dts : List Tk} (h : rdF t = some (rls, dts)) : SOk rls ∧ go dts 8 8 ∧ (flatR rls ++ dts).length ≤ 300 ∧ rowsT rls dts = t := by
 unfold rdF at h
 by_cases h0 : t = Str.ofString ""
 ·rw [if_pos h0] at h
  obtain ⟨rfl, rfl⟩ := Prod.mk.inj (Option.some.inj h)
  refine ⟨⟨List.nodup_nil, fun _ z => nomatch z⟩, rfl, by decide, ?_⟩
  rw [h0]; decide +kernel
 rw [if_neg h0] at h
 by_cases h1 : (Txt.split t (Str.ofString "\n")).length ≤ 300
 ·rw [if_pos h1] at h
  obtain ⟨s, hs, hf⟩ := Option.bind_eq_some_iff.mp h
  unfold msFin at hf
  by_cases h2 : s.cur = none ∧ s.d = 8
  ·rw [if_pos h2] at hf
   obtain ⟨rfl, rfl⟩ := Prod.mk.inj (Option.some.inj hf)
   obtain ⟨k1, k2, k3, k4, k5⟩ := okm_run _ _ rfl s hs
   rw [h2.2] at k3
   rw [h2.1] at k5
   have k5 : Txt.split t (Str.ofString "\n") = (flatR s.rls ++ s.ts).map Tk.row := by rw [k5]; simp [hdT]
   refine ⟨k1, k3, ?_, ?_⟩
   ·rw [k5, List.length_map] at h1; exact h1
   ·unfold rowsT
    rw [← k5, tj]
    exact PySem.StrLaws.join_split t (Str.ofString "\n")
  ·rw [if_neg h2] at hf; cases hf
 ·rw [if_neg h1] at h; cases h
noncomputable def spRd13 (K : PySem.W.Frag) (C : Addr) : Sp := fun vs H Q E => ∃ (v : V) (n : String), vs = [v] ∧ tyS H v = some n ∧ (n ≠ "str" → ∀ H', Same H H' → E (.ref C) none H') ∧ (∀ t, v = .str t → t.length ≤ 700000 ∧ (∀ rls dts, rdF t = some (rls, dts) → ∀ u H', Same H H' → ScV H' u rls dts → Q u H') ∧ (rdF t = none → ∀ H', Same H H' → E (.ref C) none H'))
noncomputable def knd (i : Int) : List V := (List.range 15).map fun (j : Nat) => V.bl (decide ((j : Int) = i) || decide ((j : Int) = 5))
noncomputable def TdR (H : Hp) (v : V) (o : Option (List Rl × List Tk)) : Prop := ∃ (a kn : Addr) (b : V), v = .ref a ∧ H a = some (.tup [b, .ref kn]) ∧ ((o = none ∧ b = .non ∧ H kn = some (.lst (knd 4))) ∨ (∃ rls dts, o = some (rls, dts) ∧ H kn = some (.lst []) ∧ ScV H b rls dts))
noncomputable def RdO (H : Hp) (v : V) (o : Option (List Rl × List Tk)) : Prop := ∃ n, tyS H v = some n ∧ (n ≠ "str" → o = none) ∧ ∀ t, v = .str t → t.length ≤ 700000 ∧ rdF t = o
noncomputable def spTd13 (K : PySem.W.Frag) : Sp := fun vs H Q _ => ∃ (v : V) (o : Option (List Rl × List Tk)), vs = [v] ∧ RdO H v o ∧ ∀ p H', Same H H' → TdR H' (.ref p) o → Q (.ref p) H'
noncomputable def spOnly8 : Sp := fun vs H Q _ => ∃ i : Int, vs = [.int i] ∧ ∀ l H', Same H H' → H' l = some (.lst (knd i)) → Q (.ref l) H'
theorem repL {K : PySem.W.Frag} {H : Hp} {a : Addr} {vs : List V} {xs : List PyData} (h : SqL K H a vs) (r : RepDs K H xs vs) : RepD K H (.list xs) (.ref a) := by simp only [RepD]; exact ⟨a, vs, rfl, h, r⟩
theorem reps0 {K : PySem.W.Frag} {H : Hp} : RepDs K H [] [] := by simp [RepDs]
theorem repsC {K : PySem.W.Frag} {H : Hp} {d : PyData} {v : V} {ds : List PyData} {vs : List V} (h : RepD K H d v) (r : RepDs K H ds vs) : RepDs K H (d :: ds) (v :: vs) := by simp only [RepDs]; exact ⟨_, _, rfl, h, r⟩
theorem repB {K : PySem.W.Frag} {H : Hp} {i : Bool} : RepD K H (.bool i) (.bl i) := by rw [RepD]
theorem rep_bs {K : PySem.W.Frag} {H : Hp} {α : Type} (f : α → Bool) : ∀ l : List α, RepDs K H (l.map fun j => PyData.bool (f j)) (l.map fun j => V.bl (f j))
 | [] => reps0
 | _ :: l => repsC repB (rep_bs f l)
theorem dep_bs {α : Type} (f : α → Bool) : ∀ l : List α, PyData.depthAll (l.map fun j => PyData.bool (f j)) ≤ 10
 | [] => by simp [PyData.depthAll]
 | a :: l => by
  have := dep_bs f l
  rw [List.map_cons]
  simp only [PyData.depthAll, PyData.depth]
  omega
noncomputable def dKn (i : Int) : PyData := .list ((List.range 15).map fun (j : Nat) => PyData.bool (decide ((j : Int) = i) || decide ((j : Int) = 5)))
theorem rep_kn {K : PySem.W.Frag} {H : Hp} {a : Addr} {i : Int} (h : H a = some (.lst (knd i))) : RepD K H (dKn i) (.ref a) := repL (SqL.of h) (rep_bs _ _)
theorem rep_nil {K : PySem.W.Frag} {H : Hp} {a : Addr} (h : H a = some (.lst [])) : RepD K H (.list []) (.ref a) := repL (SqL.of h) reps0
theorem dep_kn (i : Int) : (dKn i).depth ≤ 64 := by
 have := dep_bs (fun (j : Nat) => decide ((j : Int) = i) || decide ((j : Int) = 5)) (List.range 15)
 unfold dKn
 simp only [PyData.depth]
 omega
noncomputable def spRf13 (K : PySem.W.Frag) : Sp := fun vs H Q _ => ∃ (v : V) (o : Option (List Rl × List Tk)), vs = [v] ∧ RdO H v o ∧ ∀ H', Same H H' → Q (.bl o.isNone) H'
noncomputable def spSt13 (K : PySem.W.Frag) : Sp := fun vs H Q _ => ∃ (t : Str), vs = [.str t] ∧ t.length ≤ 700000 ∧ ∀ H', Same H H' → Q (.bl (rdF t).isSome) H'
noncomputable def okRow : List Str → Bool
 | [] => false
 | u :: r => if u = Str.ofString "rule" then rhOk true r [] else if u = Str.ofString "times" then (thR r 0).isSome else if u :: r = [Str.ofString "end"] then true else (dr (u :: r)).isSome
theorem ms1_row {s s' : Ms} {ws : List Str} (h : ms1 s ws = some s') : okRow ws = true := by
 cases ws with
 | nil => cases h
 | cons u r =>
  have h : (if u = Str.ofString "rule" then msRule s r else if u = Str.ofString "times" then msTimes s r else if u :: r = [Str.ofString "end"] then msEnd s else msDeed s (u :: r)) = some s' := h
  show (if u = Str.ofString "rule" then rhOk true r [] else if u = Str.ofString "times" then (thR r 0).isSome else if u :: r = [Str.ofString "end"] then true else (dr (u :: r)).isSome) = true
  split
  ·rename_i e
   rw [if_pos e] at h
   unfold msRule at h
   split at h
   ·rename_i h1
    unfold rhOk at h1 ⊢
    simp only [Bool.and_eq_true] at h1 ⊢
    exact ⟨⟨⟨⟨(by first | trivial | rfl), h1.1.1.1.2⟩, h1.1.1.2⟩, h1.1.2⟩, (by first | rfl | simp)⟩
   ·cases h
  ·rename_i e
   rw [if_neg e] at h
   split
   ·rename_i e2
    rw [if_pos e2] at h
    unfold msTimes at h
    cases ht : thR r (8 - s.d) with
    | none => rw [ht] at h; cases h
    | some n =>
     unfold thR at ht ⊢
     split at ht
     ·rename_i e3
      rw [if_pos e3]
      cases hw : wr (r.headD (Str.ofString "")) with
      | none => rw [hw] at ht; cases ht
      | some m =>
       rw [hw] at ht
       dsimp only at ht ⊢
       split at ht
       ·rename_i h4
        rw [if_pos ⟨h4.1, by decide⟩]
        rfl
       ·cases ht
     ·cases ht
   ·rename_i e2
    rw [if_neg e2] at h
    split
    ·rfl
    ·rename_i e3
     rw [if_neg e3] at h
     unfold msDeed at h
     cases hd : dr (u :: r) with
     | none => rw [hd] at h; cases h
     | some p => rfl
theorem run_rows : ∀ {rows : List Str} {s s' : Ms}, rows.foldlM msR s = some s' → ∀ row ∈ rows, okRow (Txt.split row (Str.ofString " ")) = true
 | [], _, _, _ => fun _ h => nomatch h
 | x :: r, s, s', h => fun row hr => by
  rw [List.foldlM_cons] at h
  cases h1 : msR s x with
  | none => rw [h1] at h; cases h
  | some s1 =>
   rw [h1] at h
   rcases List.mem_cons.mp hr with rfl | hr
   ·exact ms1_row h1
   ·exact run_rows (s := s1) h row hr
theorem rd_bad {t row : Str} (h0 : t ≠ Str.ofString "") (hr : row ∈ Txt.split t (Str.ofString "\n")) (hb : okRow (Txt.split row (Str.ofString " ")) = false) : rdF t = none := by
 unfold rdF
 rw [if_neg h0]
 split
 ·cases h : mrun (Txt.split t (Str.ofString "\n")) with
  | none => rfl
  | some s =>
   have := run_rows h row hr
   rw [hb] at this
   cases this
 ·rfl
theorem sp1_eq : Str.ofString " " = ⟨#[32]⟩ := by decide +kernel
theorem nl1_eq : Str.ofString "\n" = ⟨#[10]⟩ := by decide +kernel
theorem nm_ne {z : Str} (h : nm z = true) : z ≠ Str.ofString "" := fun e => by
 subst e
 revert h
 decide +kernel
theorem wr_ne {z : Str} {n : Nat} (h : wr z = some n) : z ≠ Str.ofString "" := fun e => by
 subst e
 revert h
 rw [show wr (Str.ofString "") = none by decide +kernel]
 exact fun h => nomatch h
theorem nr_ne {z : Str} {q : Nat × Nat} (h : nr z = some q) : z ≠ Str.ofString "" := fun e => by
 subst e
 revert h
 rw [show nr (Str.ofString "") = none by decide +kernel]
 exact fun h => nomatch h
theorem drM_ne {u x y w : Str} {o : Option (Nat × Nat)} {p : Pd} (h : drM u o x y = some p) (ho : ∀ q, o = some q → w ≠ Str.ofString "") : ∀ z ∈ [x, y, w], z ≠ Str.ofString "" := by
 unfold drM at h
 cases o with
 | none => cases h
 | some q =>
  dsimp only at h
  split at h
  ·rename_i hc
   obtain ⟨_, hc⟩ := ckN_all hc
   intro z hz
   simp only [List.mem_cons, List.mem_nil_iff, or_false] at hz
   rcases hz with rfl | rfl | rfl
   ·exact nm_ne (hc _ (by simp))
   ·exact nm_ne (hc _ (by simp))
   ·exact ho q rfl
  ·cases h
theorem three {r : List Str} (h : r.length = 3) : r = [r.headD (Str.ofString ""), r.getD 1 (Str.ofString ""), r.getD 2 (Str.ofString "")] := by
 match r, h with
 | [_, _, _], _ => rfl
theorem row_ne {ws : List Str} (h : okRow ws = true) : ∀ z ∈ ws, z ≠ Str.ofString "" := by
 cases ws with
 | nil => cases h
 | cons u r =>
  have h : (if u = Str.ofString "rule" then rhOk true r [] else if u = Str.ofString "times" then (thR r 0).isSome else if u :: r = [Str.ofString "end"] then true else (dr (u :: r)).isSome) = true := h
  have fin : ∀ v : Str, v ≠ Str.ofString "" → u = v → (∀ z ∈ r, z ≠ Str.ofString "") → ∀ z ∈ u :: r, z ≠ Str.ofString "" := fun v hv e hr z hz => by
   rcases List.mem_cons.mp hz with rfl | hz
   ·rw [e]; exact hv
   ·exact hr z hz
  split at h
  ·rename_i e
   unfold rhOk at h
   simp only [Bool.and_eq_true] at h
   exact fin _ (by decide +kernel) e fun z hz => nm_ne ((ckN_all h.1.1.2).2 z hz)
  ·split at h
   ·rename_i e
    refine fin _ (by decide +kernel) e ?_
    cases ht : thR r 0 with
    | none => rw [ht] at h; cases h
    | some n =>
     unfold thR at ht
     split at ht
     ·rename_i e3
      match r, e3 with
      | [x], _ =>
       intro z hz
       rw [List.mem_singleton.mp hz]
       cases hw : wr x with
       | none =>
        rw [show ([x] : List Str).headD (Str.ofString "") = x from rfl, hw] at ht
        cases ht
       | some m => exact wr_ne hw
     ·cases ht
   ·split at h
    ·rename_i e
     obtain ⟨rfl, rfl⟩ := List.cons.inj e
     exact fin _ (by decide +kernel) rfl (fun z hz => nomatch hz)
    ·cases hd : dr (u :: r) with
     | none => rw [hd] at h; cases h
     | some p =>
      have hd : (if u :: r = [Str.ofString "year"] then some .year
  else if u = Str.ofString "do" ∧ r.length ≤ 9 then drD r
  else if u ∈ [Str.ofString "all", Str.ofString "fill"] ∧ r.length = 2 then drT u r
  else if u ∈ [Str.ofString "bring", Str.ofString "move"] ∧ r.length = 3 then drM u (ar (r.getD 2 (Str.ofString ""))) (r.headD (Str.ofString "")) (r.getD 1 (Str.ofString ""))
  else if u = Str.ofString "part" ∧ r.length = 3 then drM u (sr (r.getD 2 (Str.ofString ""))) (r.headD (Str.ofString "")) (r.getD 1 (Str.ofString ""))
  else none) = some p := hd
      split at hd
      ·rename_i e
       obtain ⟨rfl, rfl⟩ := List.cons.inj e
       exact fin _ (by decide +kernel) rfl (fun z hz => nomatch hz)
      ·split at hd
       ·rename_i e
        refine fin _ (by decide +kernel) e.1 ?_
        unfold drD at hd
        split at hd
        ·rename_i hc
         exact fun z hz => nm_ne ((ckN_all hc).2 z hz)
        ·cases hd
       ·split at hd
        ·rename_i e
         refine fin u ?_ rfl ?_
         ·have := e.1
          simp only [List.mem_cons, List.mem_nil_iff, or_false] at this
          rcases this with rfl | rfl <;> decide +kernel
         ·unfold drT at hd
          split at hd
          ·rename_i hc
           exact fun z hz => nm_ne ((ckN_all hc).2 z hz)
          ·cases hd
        ·split at hd
         ·rename_i e
          refine fin u ?_ rfl ?_
          ·have := e.1
           simp only [List.mem_cons, List.mem_nil_iff, or_false] at this
           rcases this with rfl | rfl <;> decide +kernel
          ·rw [three e.2]
           exact drM_ne hd fun q hq => nr_ne (ar_some hq).1
         ·split at hd
          ·rename_i e
           refine fin _ (by decide +kernel) e.1 ?_
           rw [three e.2]
           exact drM_ne hd fun q hq => nr_ne (sr_some hq).1
          ·cases hd
theorem row_bad {ws : List Str} (h : Str.ofString "" ∈ ws) : okRow ws = false := by
 cases e : okRow ws with
 | false => rfl
 | true => exact absurd rfl (row_ne e _ h)
noncomputable def oddL : List Str := (["", " ", "year ", " year", "year 1", "Year", "all a", "all a b c", "all  a b", "fill a", "fill a b 1"] ++ ["move a b 0", "move a b -1", "move a b 1/2/3", "move a b 2/4", "move a b 3/1", "move a b 0/5"] ++ ["move a b 01", "move a b 1/02", "move a b 1/0", "move a b /2", "move a b 1/", "move a b 1.5"] ++ ["move a b 1 ", "move A b 1", "move a b1 1", "move a abcdefghi 1", "move a b c", "part a b 3/2"] ++ ["part a b 2", "part a b", "part a b 1/1", "bring a b", "bring a b 0", "bring a b c 1", "bring 1 a 1"] ++ ["do", "do a", "do a ", "do a B", "do a b c d e f g h i j", "do 1 a", "times", "times 61"] ++ ["move a b", "times -1", "do 1 b"] ++ ["times 3 4", "times 01", "times a", "rule", "rule a", "rule a b b", "rule A b"] ++ ["rule a b c d e f g h i j", "year\t", "\tyear", "times\t2", "end\t", "all a\tb"] ++ ["end end", "end 1", "End", "drop a", "a b", "move a b +1", "all a 1", "fill a b ", "part a b 1/3 "]).map Str.ofString
theorem odd_bad : ∀ x ∈ oddL, okRow (Txt.split x (Str.ofString " ")) = false ∧ x.length ≤ 30 ∧ 10 ∉ x.cps.toList := by decide +kernel
noncomputable def spOd13 : Sp := fun vs H Q _ => ∃ n : Int, vs = [.int n] ∧ ∀ x H', Same H H' → x ∈ oddL → Q (.str x) H'
noncomputable def spCh13 (K : PySem.W.Frag) : Sp := fun vs H Q _ => ∃ (t : Str) (a : Addr) (ns : List Int), vs = [.str t, .ref a] ∧ t.length ≤ 200000 ∧ SqL K H a (ns.map V.int) ∧ ∀ (t' : Str) H', Same H H' → t'.length ≤ 700000 → Q (.str t') H'
noncomputable def spBk13 (K : PySem.W.Frag) : Sp := fun vs H Q _ => ∃ (t : Str) (n : Int), vs = [.str t, .int n] ∧ t.length ≤ 200000 ∧ t ≠ Str.ofString "" ∧ ∀ (t' : Str) H', Same H H' → t'.length ≤ 700000 → rdF t' = none → Q (.str t') H'
noncomputable def spDp13 (K : PySem.W.Frag) : Sp := fun vs H Q _ => ∃ n : Int, vs = [.int n] ∧ ∀ H', Same H H' → Q (.bl true) H'
noncomputable def mS (d : Nat) (z : Str) : Str := ⟨(List.replicate d z.cps).foldl (· ++ ·) #[]⟩
noncomputable def dT (d : Nat) : Str := mS d (Str.ofString "times 2\n") ++ Str.ofString "year" ++ mS d (Str.ofString "\nend")
noncomputable def dR (d : Nat) : Str := Str.ofString "rule a b\n" ++ dT d ++ Str.ofString "\nend"
theorem deep_ok {d : Nat} (h : 6 ≤ d ∧ d ≤ 10) : (rdF (dT d)).isSome = decide (d ≤ 8) ∧ (rdF (dR d)).isSome = decide (d ≤ 8) ∧ (mS d (Str.ofString "times 2\n")).length ≤ 100 ∧ (mS d (Str.ofString "\nend")).length ≤ 100 ∧ (dT d).length ≤ 300 := by
 have : d = 6 ∨ d = 7 ∨ d = 8 ∨ d = 9 ∨ d = 10 := by omega
 rcases this with rfl | rfl | rfl | rfl | rfl <;> decide +kernel
theorem str_len (x y : Str) : (x ++ y).length = x.length + y.length := by
 show (x.cps ++ y.cps).size = _
 rw [Array.size_append]
 rfl
theorem none_of {α : Type} {o : Option α} (h : o.isSome = false) : o.isNone = true := by
 cases o with
 | none => rfl
 | some _ => cases h
theorem RdO.str {H : Hp} {t : Str} (h : t.length ≤ 700000) : RdO H (.str t) (rdF t) := ⟨"str", rfl, fun h => absurd rfl h, fun t' e => (V.str.inj e) ▸ ⟨h, rfl⟩⟩
theorem sj_nl {ys : List Str} (h : ys ≠ []) (hf : ∀ y ∈ ys, 10 ∉ y.cps.toList) : Txt.split (Txt.join (Str.ofString "\n") ys) (Str.ofString "\n") = ys := by rw [tj, nl1_eq]; exact split_join h hf
theorem sj_sp {ys : List Str} (h : ys ≠ []) (hf : ∀ y ∈ ys, 32 ∉ y.cps.toList) : Txt.split (Str.join (Str.ofString " ") ys) (Str.ofString " ") = ys := by rw [sp1_eq]; exact split_join h hf
theorem free_nl (t : Str) : ∀ p ∈ Txt.split t (Str.ofString "\n"), 10 ∉ p.cps.toList := by rw [nl1_eq]; exact PySem.StrLaws.split_free t 10
theorem free_sp (t : Str) : ∀ p ∈ Txt.split t (Str.ofString " "), 32 ∉ p.cps.toList := by rw [sp1_eq]; exact PySem.StrLaws.split_free t 32
theorem split_ne (x y : Str) : Txt.split x y ≠ [] := fun e => by
 have := PyProof.Rows.split_pos x y
 rw [e] at this
 exact absurd this (by decide)
theorem bad_rows {ys : List Str} {row : Str} (hm : row ∈ ys) (hf : ∀ y ∈ ys, 10 ∉ y.cps.toList) (hb : okRow (Txt.split row (Str.ofString " ")) = false) (h0 : ys ≠ [Str.ofString ""]) : rdF (Txt.join (Str.ofString "\n") ys) = none := by
 have hn : ys ≠ [] := fun e => by rw [e] at hm; cases hm
 have hs := sj_nl hn hf
 refine rd_bad (fun e => h0 ?_) (by rw [hs]; exact hm) hb
 rw [e] at hs
 rw [← hs]
 decide +kernel
theorem app_e (x : Str) : Str.ofString "" ++ x = x := str_ext (by show ((Str.ofString "").cps ++ x.cps).toList = _; rw [Array.toList_append]; rfl)
theorem app_as (x y z : Str) : x ++ y ++ z = x ++ (y ++ z) := str_ext (by show (x.cps ++ y.cps ++ z.cps).toList = (x.cps ++ (y.cps ++ z.cps)).toList; simp)
theorem e_app (x : Str) : x ++ Str.ofString "" = x := str_ext (by show (x.cps ++ (Str.ofString "").cps).toList = _; rw [Array.toList_append]; show x.cps.toList ++ [] = _; rw [List.append_nil])
theorem join_snoc (c z : Str) : ∀ ws : List Str, ws ≠ [] → Str.join c (ws ++ [z]) = Str.join c ws ++ c ++ z
 | [], h => absurd rfl h
 | [w], _ => rfl
 | w :: w2 :: r, _ => by
  have e := join_snoc c z (w2 :: r) (List.cons_ne_nil _ _)
  show w ++ c ++ Str.join c ((w2 :: r) ++ [z]) = (w ++ c ++ Str.join c (w2 :: r)) ++ c ++ z
  rw [e, ← app_as, ← app_as]
theorem free_e : (32 : Nat) ∉ (Str.ofString "").cps.toList := by decide +kernel
theorem bl1 (y : Str) : Str.ofString "" ∈ Txt.split (y ++ Str.ofString " ") (Str.ofString " ") := by
 have e := join_snoc (Str.ofString " ") (Str.ofString "") _ (split_ne y (Str.ofString " "))
 rw [PySem.StrLaws.join_split, e_app] at e
 rw [← e, sj_sp (by simp) (fun z hz => by
  rcases List.mem_append.mp hz with hz | hz
  ·exact free_sp y z hz
  ·rw [List.mem_singleton.mp hz]; exact free_e)]
 simp
theorem bl2 (y : Str) : Str.ofString "" ∈ Txt.split (Str.ofString " " ++ y) (Str.ofString " ") := by
 have e : Str.join (Str.ofString " ") (Str.ofString "" :: Txt.split y (Str.ofString " ")) = Str.ofString " " ++ y := by
  have h := PySem.StrLaws.join_split y (Str.ofString " ")
  cases hs : Txt.split y (Str.ofString " ") with
  | nil => exact absurd hs (split_ne _ _)
  | cons w r =>
   rw [hs] at h
   show Str.ofString "" ++ Str.ofString " " ++ Str.join (Str.ofString " ") (w :: r) = _
   rw [h, app_e]
 rw [← e, sj_sp (by simp) (fun z hz => by
  rcases List.mem_cons.mp hz with rfl | hz
  ·exact free_e
  ·exact free_sp y z hz)]
 simp
noncomputable def dbl : List Str → List Str
 | [] => []
 | [w] => [w]
 | w :: w2 :: r => w :: Str.ofString "" :: dbl (w2 :: r)
theorem dbl_ne : ∀ ws : List Str, ws ≠ [] → dbl ws ≠ []
 | [], h => absurd rfl h
 | [_], _ => List.cons_ne_nil _ _
 | _ :: _ :: _, _ => List.cons_ne_nil _ _
theorem dbl_free : ∀ ws : List Str, (∀ y ∈ ws, 32 ∉ y.cps.toList) → ∀ y ∈ dbl ws, 32 ∉ y.cps.toList
 | [], h => h
 | [_], h => h
 | w :: w2 :: r, h => fun y hy => by
  rcases List.mem_cons.mp hy with rfl | hy
  ·exact h _ (.head _)
  rcases List.mem_cons.mp hy with rfl | hy
  ·exact free_e
  ·exact dbl_free (w2 :: r) (fun z hz => h z (.tail _ hz)) y hy
theorem two_sp : Str.ofString "  " = Str.ofString " " ++ Str.ofString "" ++ Str.ofString " " := by decide +kernel
theorem dbl_join : ∀ ws : List Str, ws ≠ [] → Str.join (Str.ofString " ") (dbl ws) = Str.join (Str.ofString "  ") ws
 | [], h => absurd rfl h
 | [w], _ => rfl
 | w :: w2 :: r, _ => by
  have e := dbl_join (w2 :: r) (List.cons_ne_nil _ _)
  show Str.join (Str.ofString " ") (w :: Str.ofString "" :: dbl (w2 :: r)) = w ++ Str.ofString "  " ++ Str.join (Str.ofString "  ") (w2 :: r)
  rw [← e]
  cases hd : dbl (w2 :: r) with
  | nil => exact absurd hd (dbl_ne _ (List.cons_ne_nil _ _))
  | cons u v =>
   show w ++ Str.ofString " " ++ (Str.ofString "" ++ Str.ofString " " ++ Str.join (Str.ofString " ") (u :: v)) = _
   rw [two_sp]
   simp only [app_as]
theorem bl3 {y : Str} (h : Txt.contains y (Str.ofString " ") = true) : Str.ofString "" ∈ Txt.split (Txt.replace y (Str.ofString " ") (Str.ofString "  ")) (Str.ofString " ") := by
 have h32 : 32 ∈ y.cps.toList := by
  have e : Txt.contains y (Str.ofString " ") = decide (32 ∈ y.cps.toList) := by rw [sp1_eq]; exact PySem.StrLaws.found_one y 32
  rw [e] at h
  exact of_decide_eq_true h
 have er : Txt.replace y (Str.ofString " ") (Str.ofString "  ") = Str.join (Str.ofString "  ") (Txt.split y (Str.ofString " ")) := by
  rw [sp1_eq]; exact PySem.StrLaws.replace_one y _ 32
 have hj := PySem.StrLaws.join_split y (Str.ofString " ")
 rw [er, ← dbl_join _ (split_ne _ _), sj_sp (dbl_ne _ (split_ne _ _)) (dbl_free _ (free_sp y))]
 have hf := free_sp y
 match hs : Txt.split y (Str.ofString " ") with
 | [] => exact absurd hs (split_ne _ _)
 | [w] =>
  rw [hs] at hj hf
  have hw : w = y := hj
  exact absurd (by rw [hw]; exact h32) (hf w (.head _))
 | w :: w2 :: r => exact .tail _ (.head _)
theorem run_same {row : Str} {p : Pd} (h : ∀ s : Ms, msR s row = some ⟨s.rls, s.cur, s.ts ++ [.pl p], s.d⟩) : ∀ (n : Nat) (s : Ms), (List.replicate n row).foldlM msR s = some ⟨s.rls, s.cur, s.ts ++ List.replicate n (.pl p), s.d⟩
 | 0, s => by rw [List.replicate_zero, List.replicate_zero, List.append_nil]; rfl
 | n + 1, s => by
  rw [List.replicate_succ, List.foldlM_cons, h s]
  show (List.replicate n row).foldlM msR _ = _
  rw [run_same h n, List.replicate_succ, List.append_assoc]
  rfl
noncomputable def allR : Str := Str.ofString "all a b"
theorem st_deed {s : Ms} {row u : Str} {r : List Str} {p : Pd} (e : Txt.split row (Str.ofString " ") = u :: r) (h1 : u ≠ Str.ofString "rule") (h2 : u ≠ Str.ofString "times") (h3 : u :: r ≠ [Str.ofString "end"]) (hd : dr (u :: r) = some p) : msR s row = some ⟨s.rls, s.cur, s.ts ++ [.pl p], s.d⟩ := by
 unfold msR
 rw [e]
 show (if u = Str.ofString "rule" then msRule s r else if u = Str.ofString "times" then msTimes s r else if u :: r = [Str.ofString "end"] then msEnd s else msDeed s (u :: r)) = _
 rw [if_neg h1, if_neg h2, if_neg h3]
 unfold msDeed
 rw [hd]
theorem dr_two {x y : Str} (hx : nm x = true) (hy : nm y = true) : dr [Str.ofString "all", x, y] = some (.two (Str.ofString "all") x y) := by
 rw [dr, if_neg (fun z => by have := congrArg List.length z; simp at this), if_neg (fun z => absurd z.1 (by decide +kernel)), if_pos ⟨List.mem_cons_self, rfl⟩]
 unfold drT
 rw [if_pos (by unfold ckN; rw [List.all_cons, List.all_cons, hx, hy]; rfl)]
 rfl
theorem all_step (s : Ms) : msR s allR = some ⟨s.rls, s.cur, s.ts ++ [.pl (.two (Str.ofString "all") (Str.ofString "a") (Str.ofString "b"))], s.d⟩ := st_deed (u := Str.ofString "all") (r := [Str.ofString "a", Str.ofString "b"]) (by decide +kernel) (by decide +kernel) (by decide +kernel) (by decide +kernel) (dr_two (by decide +kernel) (by decide +kernel))
noncomputable def rW (m : Nat) : Str := Txt.join (Str.ofString "\n") (List.replicate m allR)
theorem rW_split {m : Nat} (h : 1 ≤ m) : Txt.split (rW m) (Str.ofString "\n") = List.replicate m allR := sj_nl (fun e => by
 have := congrArg List.length e
 rw [List.length_replicate] at this
 simp at this; omega) fun y hy => by
  rw [List.eq_of_mem_replicate hy]
  decide +kernel
theorem rW_ne {m : Nat} (h : 1 ≤ m) : rW m ≠ Str.ofString "" := fun e => by
 have := rW_split h
 rw [e] at this
 have e2 : Txt.split (Str.ofString "") (Str.ofString "\n") = [Str.ofString ""] := by decide +kernel
 rw [e2] at this
 have hm : Str.ofString "" ∈ List.replicate m allR := by rw [← this]; simp
 exact absurd (List.eq_of_mem_replicate hm) (by decide +kernel)
theorem rw_ok {m : Nat} (h : 1 ≤ m) : (rdF (rW m)).isSome = decide (m ≤ 300) := by
 unfold rdF
 rw [if_neg (rW_ne h), rW_split h, List.length_replicate]
 by_cases hm : m ≤ 300
 ·rw [if_pos hm, decide_eq_true hm]
  unfold mrun
  rw [run_same all_step]
  rfl
 ·rw [if_neg hm, decide_eq_false hm]
  rfl
noncomputable def dW (c : Nat) : Str := Str.ofString "do a" ++ mS (7 + c) (Str.ofString " b")
noncomputable def nines (a : Nat) : Str := mS (11 + a) (Str.ofString "9")
noncomputable def bW (a : Nat) : List Str := [Str.ofString "bring a b " ++ nines a, Str.ofString "move a b " ++ nines a ++ Str.ofString "/2", Str.ofString "move a b 1/" ++ nines a, Str.ofString "part a b 1/" ++ nines a]
theorem dw_ok : ∀ c : Nat, c < 3 → (rdF (dW c)).isSome = !decide (c = 2) ∧ (mS (7 + c) (Str.ofString " b")).length ≤ 30 ∧ (dW c).length ≤ 100 := by decide +kernel
theorem bw_ok : ∀ a : Nat, a < 3 → (nines a).length ≤ 20 ∧ ∀ t ∈ bW a, (rdF t).isSome = !decide (a = 2) ∧ t.length ≤ 100 := by decide +kernel
theorem sealH {P F : Hp → Prop} {Hb : Hp} (s : F Hb) (body : ∀ Hn, F Hn → P Hn) : P Hb := body Hb s
theorem nbE {x y : Bool} (h : y = !x) : decide (V.bl x = V.bl y) = false := by
 subst h
 cases x <;> exact decide_eq_false (fun z => nomatch (V.bl.inj z))
theorem ybE {x y : Bool} (h : y = x) : decide (V.bl x = V.bl y) = true := by
 subst h
 exact decide_eq_true rfl
theorem isN {α : Type} (o : Option α) : o.isNone = !o.isSome := by cases o <;> rfl
noncomputable def sl (ys : List Str) : Nat := (ys.map (·.length)).sum + ys.length
theorem sl_app (a b : List Str) : sl (a ++ b) = sl a + sl b := by
 unfold sl
 rw [List.map_append, List.sum_append, List.length_append]
 omega
theorem sl_take (a : List Str) (n : Nat) : sl (a.take n) ≤ sl a := by
 have := sl_app (a.take n) (a.drop n)
 rw [List.take_append_drop] at this
 omega
theorem sl_drop (a : List Str) (n : Nat) : sl (a.drop n) ≤ sl a := by
 have := sl_app (a.take n) (a.drop n)
 rw [List.take_append_drop] at this
 omega
theorem sl_td (a : List Str) (n : Nat) : sl (a.take n) + sl (a.drop (n + 1)) ≤ sl a := by
 have := sl_app (a.take n) (a.drop n)
 rw [List.take_append_drop] at this
 have h := sl_drop (a.drop n) 1
 rw [List.drop_drop] at h
 omega
theorem nl_len : (Str.ofString "\n").length = 1 := by decide +kernel
theorem sp_len1 : (Str.ofString " ").length = 1 := by decide +kernel
theorem sl_sum (ys : List Str) : (ys.map (·.length)).sum + ys.length * (Str.ofString "\n").length = sl ys := by
 rw [nl_len, Nat.mul_one]
 rfl
theorem sl_join (ys : List Str) : (Txt.join (Str.ofString "\n") ys).length ≤ sl ys := by
 rw [tj, ← sl_sum]
 exact PySem.StrLaws.join_length_le _ _
theorem join_len_eq (c : Str) : ∀ ws : List Str, ws ≠ [] → (Str.join c ws).length + c.length = (ws.map (·.length)).sum + ws.length * c.length
 | [], h => absurd rfl h
 | [w], _ => by
  show w.length + c.length = (w.length + 0) + 1 * c.length
  omega
 | w :: w2 :: r, _ => by
  have e := join_len_eq c (w2 :: r) (List.cons_ne_nil _ _)
  show (w ++ c ++ Str.join c (w2 :: r)).length + c.length = (w.length + ((w2 :: r).map (·.length)).sum) + ((w2 :: r).length + 1) * c.length
  rw [str_len, str_len, Nat.add_one_mul]
  omega
theorem sl_split (t : Str) : sl (Txt.split t (Str.ofString "\n")) = t.length + 1 := by
 have e := join_len_eq (Str.ofString "\n") _ (split_ne t (Str.ofString "\n"))
 rw [PySem.StrLaws.join_split, sl_sum, nl_len] at e
 exact e.symm
theorem repl_len (y : Str) : (Txt.replace y (Str.ofString " ") (Str.ofString "  ")).length ≤ 2 * y.length + 2 := by
 have er : Txt.replace y (Str.ofString " ") (Str.ofString "  ") = Str.join (Str.ofString "  ") (Txt.split y (Str.ofString " ")) := by
  rw [sp1_eq]; exact PySem.StrLaws.replace_one y _ 32
 have e := join_len_eq (Str.ofString " ") _ (split_ne y (Str.ofString " "))
 rw [PySem.StrLaws.join_split, sp_len1] at e
 have h := PySem.StrLaws.join_length_le (Str.ofString "  ") (Txt.split y (Str.ofString " "))
 have h2 : (Str.ofString "  ").length = 2 := by decide +kernel
 rw [h2] at h
 rw [er]
 omega
theorem repl_free {y : Str} (h : 10 ∉ y.cps.toList) : 10 ∉ (Txt.replace y (Str.ofString " ") (Str.ofString "  ")).cps.toList := by
 rw [show Str.ofString "  " = ⟨#[32, 32]⟩ by decide +kernel, sp1_eq, PySem.StrLaws.replace_double]
 have key : ∀ l : List Nat, 10 ∉ l → 10 ∉ PySem.StrLaws.dbl 32 l := fun l => by
  induction l with
  | nil => exact fun h => h
  | cons a r ih =>
   intro h
   have h1 : 10 ≠ a := fun z => h (by rw [z]; exact .head _)
   have h2 := ih (fun z => h (.tail _ z))
   intro z
   have z : 10 ∈ (if a = 32 then a :: a :: PySem.StrLaws.dbl 32 r else a :: PySem.StrLaws.dbl 32 r) := z
   split at z
   ·rcases List.mem_cons.mp z with z | z
    ·exact h1 z
    rcases List.mem_cons.mp z with z | z
    ·exact h1 z
    ·exact h2 z
   ·rcases List.mem_cons.mp z with z | z
    ·exact h1 z
    ·exact h2 z
 exact key _ h
theorem free_app {x y : Str} {c : Nat} (h1 : c ∉ x.cps.toList) (h2 : c ∉ y.cps.toList) : c ∉ (x ++ y).cps.toList := by
 show c ∉ (x.cps ++ y.cps).toList
 rw [Array.toList_append]
 exact fun z => (List.mem_append.mp z).elim h1 h2
theorem ne_t {b : Bool} (h : b = false) : ¬ b = true := fun z => by rw [h] at z; cases z
noncomputable def spRa13 (K : PySem.W.Frag) : Sp := fun vs H Q _ => ∃ n : Int, vs = [.int n] ∧ 0 ≤ n ∧ n < BG ∧ ∀ H', Same H H' → Q (.bl true) H'
theorem cps_app (x y : Str) : (x ++ y).cps.toList = x.cps.toList ++ y.cps.toList := by
 show (x.cps ++ y.cps).toList = _
 rw [Array.toList_append]
noncomputable def jn : List Str → Str
 | [] => Str.ofString ""
 | r :: rs => r ++ Str.ofString "\n" ++ jn rs
theorem jn_app : ∀ a b : List Str, jn (a ++ b) = jn a ++ jn b
 | [], b => (app_e _).symm
 | r :: a, b => by
  show r ++ Str.ofString "\n" ++ jn (a ++ b) = (r ++ Str.ofString "\n" ++ jn a) ++ jn b
  rw [jn_app a b, ← app_as]
theorem jn_join (z : Str) : ∀ a : List Str, jn a ++ z = Txt.join (Str.ofString "\n") (a ++ [z])
 | [] => by rw [tj]; exact app_e z
 | r :: a => by
  have e := jn_join z a
  rw [tj] at e ⊢
  show r ++ Str.ofString "\n" ++ jn a ++ z = Str.join (Str.ofString "\n") (r :: (a ++ [z]))
  cases h : a ++ [z] with
  | nil => simp at h
  | cons u v =>
   show _ = r ++ Str.ofString "\n" ++ Str.join (Str.ofString "\n") (u :: v)
   rw [← h, ← e, ← app_as]
noncomputable def rrow (z : Str) (p : String) : Str := Str.ofString "rule " ++ z ++ Str.ofString p
theorem rr_split {z : Str} (h : nm z = true) : Txt.split (rrow z " x") (Str.ofString " ") = [Str.ofString "rule", z, Str.ofString "x"] ∧ Txt.split (rrow z " y") (Str.ofString " ") = [Str.ofString "rule", z, Str.ofString "y"] := by
 have hz : 32 ∉ z.cps.toList := fun c => by
  have := nm_wd h 32 c
  omega
 have f : ∀ q : Str, 32 ∉ q.cps.toList → ∀ y ∈ [Str.ofString "rule", z, q], 32 ∉ y.cps.toList := fun q hq y hy => by
  simp only [List.mem_cons, List.mem_nil_iff, or_false] at hy
  rcases hy with rfl | rfl | rfl
  ·decide +kernel
  ·exact hz
  ·exact hq
 have e : ∀ q : Str, Str.join (Str.ofString " ") [Str.ofString "rule", z, q] = Str.ofString "rule " ++ z ++ (Str.ofString " " ++ q) := fun q => by
  show Str.ofString "rule" ++ Str.ofString " " ++ (z ++ Str.ofString " " ++ q) = _
  rw [show Str.ofString "rule" ++ Str.ofString " " = Str.ofString "rule " by decide +kernel, app_as, app_as, ← app_as]
 constructor
 ·rw [← sj_sp (ys := [Str.ofString "rule", z, Str.ofString "x"]) (by simp) (f _ (by decide +kernel)), e, show Str.ofString " " ++ Str.ofString "x" = Str.ofString " x" by decide +kernel]
  rfl
 ·rw [← sj_sp (ys := [Str.ofString "rule", z, Str.ofString "y"]) (by simp) (f _ (by decide +kernel)), e, show Str.ofString " " ++ Str.ofString "y" = Str.ofString " y" by decide +kernel]
  rfl
theorem ms_rule {s : Ms} {row z q : Str} (e : Txt.split row (Str.ofString " ") = [Str.ofString "rule", z, q]) : msR s row = msRule s [z, q] := by
 unfold msR
 rw [e]
 show (if Str.ofString "rule" = Str.ofString "rule" then msRule s [z, q] else if Str.ofString "rule" = Str.ofString "times" then msTimes s [z, q] else if [Str.ofString "rule", z, q] = [Str.ofString "end"] then msEnd s else msDeed s [Str.ofString "rule", z, q]) = _
 rw [if_pos rfl]
theorem rule_yes {rls : List Rl} {z q : Str} (hz : nm z = true) (hq : nm q = true) (hn : z ∉ rls.map (·.1)) : msRule ⟨rls, none, [], 8⟩ [z, q] = some ⟨rls, some (z, [q]), [], 8⟩ := by
 unfold msRule
 rw [if_pos]
 ·rfl
 ·simp only [rhOk, Bool.and_eq_true]
  refine ⟨⟨⟨⟨⟨⟨rfl, by decide⟩, rfl⟩, rfl⟩, ?_⟩, ?_⟩, ?_⟩
  ·unfold ckN
   rw [List.all_cons, List.all_cons, hz, hq]
   rfl
  ·exact decide_eq_true (by simp)
  ·rw [Bool.not_eq_true']
   exact decide_eq_false hn
theorem rule_no {rls : List Rl} {cur : Option (Str × List Str)} {ts : List Tk} {z q : Str} (h : z ∈ rls.map (·.1) ∨ ts ≠ []) : msRule ⟨rls, cur, ts, 8⟩ [z, q] = none := by
 unfold msRule
 rw [if_neg]
 intro c
 unfold rhOk at c
 simp only [Bool.and_eq_true, List.headD_cons] at c
 rcases h with h | h
 ·have := c.2
  rw [Bool.not_eq_true'] at this
  exact of_decide_eq_false this h
 ·cases ts with
  | nil => exact h rfl
  | cons a b =>
   have := c.1.1.1.1.2
   cases this
theorem end_step {rls : List Rl} {c : Str × List Str} {ts : List Tk} : msR ⟨rls, some c, ts, 8⟩ (Str.ofString "end") = some ⟨rls ++ [(c.1, c.2, ts)], none, [], 8⟩ := by
 unfold msR
 rw [show Txt.split (Str.ofString "end") (Str.ofString " ") = [Str.ofString "end"] by decide +kernel]
 show (if Str.ofString "end" = Str.ofString "rule" then msRule ⟨rls, some c, ts, 8⟩ [] else if Str.ofString "end" = Str.ofString "times" then msTimes ⟨rls, some c, ts, 8⟩ [] else if [Str.ofString "end"] = [Str.ofString "end"] then msEnd ⟨rls, some c, ts, 8⟩ else msDeed ⟨rls, some c, ts, 8⟩ [Str.ofString "end"]) = _
 rw [if_neg (by decide +kernel), if_neg (by decide +kernel), if_pos rfl]
 rfl
theorem year_step (s : Ms) : msR s (Str.ofString "year") = some ⟨s.rls, s.cur, s.ts ++ [.pl .year], s.d⟩ := st_deed (u := Str.ofString "year") (r := []) (by decide +kernel) (by decide +kernel) (by decide +kernel) (by decide +kernel) (by rw [dr, if_pos rfl])
theorem allx_step (s : Ms) : msR s (Str.ofString "all x b") = some ⟨s.rls, s.cur, s.ts ++ [.pl (.two (Str.ofString "all") (Str.ofString "x") (Str.ofString "b"))], s.d⟩ := st_deed (u := Str.ofString "all") (r := [Str.ofString "x", Str.ofString "b"]) (by decide +kernel) (by decide +kernel) (by decide +kernel) (by decide +kernel) (dr_two (by decide +kernel) (by decide +kernel))
noncomputable def bRows : Nat → List Str
 | 0 => [Str.ofString "year"]
 | 1 => []
 | _ => [Str.ofString "all x b"]
noncomputable def R1 (z : Str) (e : Nat) : List Str := rrow z " x" :: (bRows e ++ [Str.ofString "end"])
theorem blk {rls : List Rl} {z : Str} (hz : nm z = true) (hn : z ∉ rls.map (·.1)) (e : Nat) : ∃ ts, (R1 z e).foldlM msR ⟨rls, none, [], 8⟩ = some ⟨rls ++ [(z, [Str.ofString "x"], ts)], none, [], 8⟩ := by
 have h0 : msR ⟨rls, none, [], 8⟩ (rrow z " x") = some ⟨rls, some (z, [Str.ofString "x"]), [], 8⟩ := (ms_rule (rr_split hz).1).trans (rule_yes hz (by decide +kernel) hn)
 unfold R1
 rw [List.foldlM_cons, h0]
 match e with
 | 0 =>
  refine ⟨[] ++ [.pl .year], ?_⟩
  show [Str.ofString "year", Str.ofString "end"].foldlM msR _ = _
  rw [List.foldlM_cons, year_step]
  show [Str.ofString "end"].foldlM msR _ = _
  rw [List.foldlM_cons, end_step]
  rfl
 | 1 =>
  refine ⟨[], ?_⟩
  show [Str.ofString "end"].foldlM msR _ = _
  rw [List.foldlM_cons, end_step]
  rfl
 | _ + 2 =>
  refine ⟨[] ++ [.pl (.two (Str.ofString "all") (Str.ofString "x") (Str.ofString "b"))], ?_⟩
  show [Str.ofString "all x b", Str.ofString "end"].foldlM msR _ = _
  rw [List.foldlM_cons, allx_step]
  show [Str.ofString "end"].foldlM msR _ = _
  rw [List.foldlM_cons, end_step]
  rfl
theorem blk_no {rls : List Rl} {ts : List Tk} {z : Str} (hz : nm z = true) (h : z ∈ rls.map (·.1) ∨ ts ≠ []) (e : Nat) : (R1 z e).foldlM msR ⟨rls, none, ts, 8⟩ = none := by
 unfold R1
 rw [List.foldlM_cons, ms_rule (rr_split hz).1, rule_no h]
 rfl
theorem rr_free {z : Str} (h : nm z = true) {q : String} (hq : 10 ∉ (Str.ofString q).cps.toList) : 10 ∉ (rrow z q).cps.toList := by
 refine free_app (free_app (by decide +kernel) fun c => ?_) hq
 have := nm_wd h 10 c
 omega
theorem R1_free {z : Str} (h : nm z = true) (e : Nat) : ∀ y ∈ R1 z e, 10 ∉ y.cps.toList := fun y hy => by
 rcases List.mem_cons.mp hy with rfl | hy
 ·exact rr_free h (by decide +kernel)
 ·rcases List.mem_append.mp hy with hy | hy
  ·match e, hy with
   | 0, hy => rw [List.mem_singleton.mp hy]; decide +kernel
   | 1, hy => cases hy
   | _ + 2, hy => rw [List.mem_singleton.mp hy]; decide +kernel
  ·rw [List.mem_singleton.mp hy]; decide +kernel
theorem R1_len (z : Str) (e : Nat) : 2 ≤ (R1 z e).length ∧ (R1 z e).length ≤ 3 := by
 match e with
 | 0 => exact ⟨show 2 ≤ 3 by decide, show 3 ≤ 3 by decide⟩
 | 1 => exact ⟨show 2 ≤ 2 by decide, show 2 ≤ 3 by decide⟩
 | _ + 2 => exact ⟨show 2 ≤ 3 by decide, show 3 ≤ 3 by decide⟩
theorem rd_join {ys : List Str} (h2 : 2 ≤ ys.length) (h3 : ys.length ≤ 300) (hf : ∀ y ∈ ys, 10 ∉ y.cps.toList) : rdF (Txt.join (Str.ofString "\n") ys) = (ys.foldlM msR ms0).bind msFin := by
 have hs := sj_nl (fun e => by rw [e] at h2; cases h2) hf
 unfold rdF
 rw [if_neg (fun e => ?_), hs, if_pos h3]
 ·rfl
 ·rw [e, show Txt.split (Str.ofString "") (Str.ofString "\n") = [Str.ofString ""] by decide +kernel] at hs
  rw [← hs] at h2
  cases h2 with
  | step h => cases h
theorem dr_do {z : Str} (hz : nm z = true) : dr [Str.ofString "do", z, Str.ofString "a"] = some (.dor z [Str.ofString "a"]) := by
 rw [dr, if_neg (fun z => by have := congrArg List.length z; simp at this), if_pos ⟨rfl, show 2 ≤ 9 by decide⟩]
 unfold drD
 rw [if_pos (by unfold ckN; rw [List.all_cons, List.all_cons, hz, show nm (Str.ofString "a") = true by decide +kernel]; rfl)]
 rfl
noncomputable def drow (z : Str) : Str := Str.ofString "do " ++ z ++ Str.ofString " a"
theorem do_step {z : Str} (hz : nm z = true) (s : Ms) : msR s (drow z) = some ⟨s.rls, s.cur, s.ts ++ [.pl (.dor z [Str.ofString "a"])], s.d⟩ := by
 have hz32 : 32 ∉ z.cps.toList := fun c => by
  have := nm_wd hz 32 c
  omega
 have e : Str.join (Str.ofString " ") [Str.ofString "do", z, Str.ofString "a"] = drow z := by
  show Str.ofString "do" ++ Str.ofString " " ++ (z ++ Str.ofString " " ++ Str.ofString "a") = _
  rw [show Str.ofString "do" ++ Str.ofString " " = Str.ofString "do " by decide +kernel, app_as, show Str.ofString " " ++ Str.ofString "a" = Str.ofString " a" by decide +kernel, ← app_as]
  rfl
 refine st_deed (u := Str.ofString "do") (r := [z, Str.ofString "a"]) ?_ (by decide +kernel) (by decide +kernel) (fun z => by have := congrArg List.length z; simp at this) (dr_do hz)
 rw [← e, sj_sp (by simp) (fun y hy => ?_)]
 simp only [List.mem_cons, List.mem_nil_iff, or_false] at hy
 rcases hy with rfl | rfl | rfl
 ·decide +kernel
 ·exact hz32
 ·decide +kernel
noncomputable def yr : Str := Str.ofString "year"
theorem yr_free : 10 ∉ yr.cps.toList := by decide +kernel
theorem free3 {A B C : List Str} (hA : ∀ y ∈ A, 10 ∉ y.cps.toList) (hB : ∀ y ∈ B, 10 ∉ y.cps.toList) (hC : ∀ y ∈ C, 10 ∉ y.cps.toList) : ∀ y ∈ A ++ B ++ C, 10 ∉ y.cps.toList := fun y hy => by
 rcases List.mem_append.mp hy with hy | hy
 ·rcases List.mem_append.mp hy with hy | hy
  ·exact hA y hy
  ·exact hB y hy
 ·exact hC y hy
theorem free1 {x : Str} (h : 10 ∉ x.cps.toList) : ∀ y ∈ [x], 10 ∉ y.cps.toList := fun y hy => by rw [List.mem_singleton.mp hy]; exact h
theorem two_blk {z z' : Str} (hz : nm z = true) (hz' : nm z' = true) (hne : z ≠ z') (e e' : Nat) : ∃ ts ts', (R1 z e ++ R1 z' e').foldlM msR ms0 = some ⟨[(z, [Str.ofString "x"], ts), (z', [Str.ofString "x"], ts')], none, [], 8⟩ := by
 obtain ⟨ts, h1⟩ := blk (rls := []) hz (fun h => nomatch h) e
 obtain ⟨ts', h2⟩ := blk (rls := [(z, [Str.ofString "x"], ts)]) hz' (fun h => hne (List.mem_singleton.mp h).symm) e'
 refine ⟨ts, ts', ?_⟩
 rw [List.foldlM_append]
 show (R1 z e).foldlM msR ⟨[], none, [], 8⟩ >>= _ = _
 rw [h1]
 exact h2
theorem ra_yes {z z' d : Str} (hz : nm z = true) (hz' : nm z' = true) (hne : z ≠ z') (e e' : Nat) {p : Pd} (hd : ∀ s, msR s d = some ⟨s.rls, s.cur, s.ts ++ [.pl p], s.d⟩) (hdf : 10 ∉ d.cps.toList) : (rdF (Txt.join (Str.ofString "\n") (R1 z e ++ R1 z' e' ++ [d]))).isSome = true := by
 have l1 := R1_len z e
 have l2 := R1_len z' e'
 rw [rd_join (by simp only [List.length_append, List.length_singleton]; omega) (by simp only [List.length_append, List.length_singleton]; omega) (free3 (R1_free hz e) (R1_free hz' e') (free1 hdf))]
 obtain ⟨ts, ts', h⟩ := two_blk hz hz' hne e e'
 rw [List.foldlM_append, h]
 show ((([d].foldlM msR _) : Option Ms).bind msFin).isSome = true
 rw [List.foldlM_cons, hd]
 rfl
theorem ra_no {A B C : List Str} {s : Ms} (hA : A.foldlM msR ms0 = some s) (hB : B.foldlM msR s = none) (h2 : 2 ≤ (A ++ B ++ C).length) (h3 : (A ++ B ++ C).length ≤ 300) (hf : ∀ y ∈ A ++ B ++ C, 10 ∉ y.cps.toList) : rdF (Txt.join (Str.ofString "\n") (A ++ B ++ C)) = none := by
 rw [rd_join h2 h3 hf, List.foldlM_append, List.foldlM_append, hA]
 show ((B.foldlM msR s >>= fun s' => C.foldlM msR s') : Option Ms).bind msFin = none
 rw [hB]
 rfl
noncomputable def bT : Nat → Str
 | 0 => Str.ofString "year\n"
 | 1 => Str.ofString ""
 | _ => Str.ofString "all x b\n"
theorem one_jn (z : Str) (e : Nat) : Str.ofString "rule " ++ z ++ Str.ofString " x\n" ++ bT e ++ Str.ofString "end\n" = jn (R1 z e) := by
 match e with
 | 0 =>
  show _ = Str.ofString "rule " ++ z ++ Str.ofString " x" ++ Str.ofString "\n" ++ (Str.ofString "year" ++ Str.ofString "\n" ++ (Str.ofString "end" ++ Str.ofString "\n" ++ Str.ofString ""))
  generalize Str.ofString "rule " ++ z = X
  rw [app_as, app_as, app_as X, app_as X]
  exact congrArg (X ++ ·) (by decide +kernel)
 | 1 =>
  show _ = Str.ofString "rule " ++ z ++ Str.ofString " x" ++ Str.ofString "\n" ++ (Str.ofString "end" ++ Str.ofString "\n" ++ Str.ofString "")
  generalize Str.ofString "rule " ++ z = X
  rw [app_as, app_as, app_as X, app_as X]
  exact congrArg (X ++ ·) (by decide +kernel)
 | _ + 2 =>
  show _ = Str.ofString "rule " ++ z ++ Str.ofString " x" ++ Str.ofString "\n" ++ (Str.ofString "all x b" ++ Str.ofString "\n" ++ (Str.ofString "end" ++ Str.ofString "\n" ++ Str.ofString ""))
  show Str.ofString "rule " ++ z ++ Str.ofString " x\n" ++ Str.ofString "all x b\n" ++ Str.ofString "end\n" = _
  generalize Str.ofString "rule " ++ z = X
  rw [app_as, app_as, app_as X, app_as X]
  exact congrArg (X ++ ·) (by decide +kernel)
theorem other_jn (z : Str) : Str.ofString "rule " ++ z ++ Str.ofString " x\nend\n" = jn (R1 z 1) := by
 show _ = Str.ofString "rule " ++ z ++ Str.ofString " x" ++ Str.ofString "\n" ++ (Str.ofString "end" ++ Str.ofString "\n" ++ Str.ofString "")
 generalize Str.ofString "rule " ++ z = X
 rw [app_as X, app_as X]
 exact congrArg (X ++ ·) (by decide +kernel)
theorem seven {z z' : Str} (hz : nm z = true) (hz' : nm z' = true) (hne : z ≠ z') (e : Nat) {o q : Str} (ho : o = jn (R1 z e)) (hq : q = jn (R1 z' 1)) :
  (rdF (o ++ q ++ yr)).isSome = true ∧ (rdF (q ++ o ++ Str.ofString "do " ++ z ++ Str.ofString " a")).isSome = true ∧ rdF (o ++ q ++ o ++ yr) = none ∧ rdF (o ++ o ++ yr) = none ∧ rdF (Str.ofString "year\n" ++ o ++ yr) = none ∧ rdF (q ++ o ++ Str.ofString "rule " ++ z' ++ Str.ofString " y\nend\nyear") = none := by
 subst ho hq
 have l1 := R1_len z e
 have l2 := R1_len z' 1
 have f1 := R1_free hz e
 have f2 := R1_free hz' 1
 have nf : ∀ y ∈ ([] : List Str), 10 ∉ y.cps.toList := fun _ h => nomatch h
 refine ⟨?_, ?_, ?_, ?_, ?_, ?_⟩
 ·rw [← jn_app, jn_join]
  exact ra_yes hz hz' hne e 1 year_step yr_free
 ·rw [← jn_app, app_as, app_as, jn_join]
  have : Str.ofString "do " ++ (z ++ Str.ofString " a") = drow z := (app_as _ _ _).symm
  rw [this]
  refine ra_yes hz' hz hne.symm 1 e (do_step hz) (free_app (free_app (by decide +kernel) fun c => ?_) (by decide +kernel))
  have := nm_wd hz 10 c
  omega
 ·rw [← jn_app, ← jn_app, jn_join]
  obtain ⟨ts, ts', h⟩ := two_blk hz hz' hne e 1
  exact ra_no h (blk_no hz (.inl (.head _)) e) (by simp only [List.length_append, List.length_singleton]; omega) (by simp only [List.length_append, List.length_singleton]; omega) (free3 (fun y hy => (List.mem_append.mp hy).elim (f1 y) (f2 y)) f1 (free1 yr_free))
 ·rw [← jn_app, jn_join]
  obtain ⟨ts, h⟩ := blk (rls := []) hz (fun h => nomatch h) e
  exact ra_no h (blk_no hz (.inl (.head _)) e) (by simp only [List.length_append, List.length_singleton]; omega) (by simp only [List.length_append, List.length_singleton]; omega) (free3 f1 f1 (free1 yr_free))
 ·have ey : Str.ofString "year\n" = jn [yr] := by decide +kernel
  rw [ey, ← jn_app, jn_join]
  have h : [yr].foldlM msR ms0 = some ⟨[], none, [] ++ [.pl .year], 8⟩ := by
   rw [List.foldlM_cons, show msR ms0 yr = _ from year_step ms0]
   rfl
  exact ra_no h (blk_no hz (.inr (by simp)) e) (by simp only [List.length_append, List.length_singleton]; omega) (by simp only [List.length_append, List.length_singleton]; omega) (free3 (free1 yr_free) f1 (free1 yr_free))
 ·have ey : Str.ofString "rule " ++ z' ++ Str.ofString " y\nend\nyear" = jn [rrow z' " y", Str.ofString "end"] ++ yr := by
   show _ = Str.ofString "rule " ++ z' ++ Str.ofString " y" ++ Str.ofString "\n" ++ (Str.ofString "end" ++ Str.ofString "\n" ++ Str.ofString "") ++ yr
   generalize Str.ofString "rule " ++ z' = X
   rw [app_as X, app_as X, app_as X]
   exact congrArg (X ++ ·) (by decide +kernel)
  rw [← jn_app, app_as, app_as, ← app_as (Str.ofString "rule "), ey, ← app_as, ← jn_app, jn_join]
  obtain ⟨ts, ts', h⟩ := two_blk hz' hz hne.symm 1 e
  refine ra_no h ?_ (by simp only [List.length_append, List.length_cons, List.length_nil]; omega) (by simp only [List.length_append, List.length_cons, List.length_nil]; omega) (free3 (fun y hy => (List.mem_append.mp hy).elim (f2 y) (f1 y)) (fun y hy => ?_) (free1 yr_free))
  ·rw [List.foldlM_cons, ms_rule (rr_split hz').2, rule_no (.inl (.head _))]
   rfl
  ·rcases List.mem_cons.mp hy with rfl | hy
   ·exact rr_free hz' (by decide +kernel)
   ·rw [List.mem_singleton.mp hy]; decide +kernel
theorem cut_last (y : Str) : Txt.slice (y ++ Str.ofString "\n") none (some (-1)) = y := by
 have hl : (y ++ Str.ofString "\n").length = y.length + 1 := by rw [str_len, nl_len]
 have h := eq_of_beq (PyProof.Rows.slice_closes_to_neg (x := y ++ Str.ofString "\n") (j := -1) (k := (y.length : Nat)) (by decide) (by omega) (by omega))
 rw [h]
 refine str_ext ?_
 show (((y ++ Str.ofString "\n").cps.toList.drop 0).take (((y.length : Nat) : Int) - 0).toNat).toArray.toList = _
 rw [cps_app, List.drop_zero, Int.sub_zero, Int.toNat_natCast]
 show (y.cps.toList ++ (Str.ofString "\n").cps.toList).take y.length = _
 exact List.take_left' (by show _ = y.cps.size; simp)
theorem eighth {z z' : Str} (hz : nm z = true) (hz' : nm z' = true) (e : Nat) {o q : Str} (ho : o = jn (R1 z e)) (hq : q = jn (R1 z' 1)) : rdF (Txt.slice (q ++ Str.ofString "all a b\n" ++ o) none (some (-1))) = none := by
 subst ho hq
 have l1 := R1_len z e
 have l2 := R1_len z' 1
 have ea : Str.ofString "all a b\n" = jn [allR] := by decide +kernel
 have e1 : jn (R1 z' 1) ++ Str.ofString "all a b\n" ++ jn (R1 z e) = Txt.join (Str.ofString "\n") (R1 z' 1 ++ [allR] ++ R1 z e) ++ Str.ofString "\n" := by
  rw [ea, ← jn_app, ← jn_app]
  have e2 : R1 z' 1 ++ [allR] ++ R1 z e = (R1 z' 1 ++ [allR] ++ (rrow z " x" :: bRows e)) ++ [Str.ofString "end"] := by
   unfold R1
   simp
  have e3 : jn [Str.ofString "end"] = Str.ofString "end" ++ Str.ofString "\n" := by decide +kernel
  rw [e2, jn_app, e3, ← jn_join]
  exact (app_as _ _ _).symm
 rw [e1, cut_last]
 obtain ⟨ts, h⟩ := blk (rls := []) hz' (fun h => nomatch h) 1
 have hA : (R1 z' 1 ++ [allR]).foldlM msR ms0 = some ⟨[(z', [Str.ofString "x"], ts)], none, [] ++ [.pl (.two (Str.ofString "all") (Str.ofString "a") (Str.ofString "b"))], 8⟩ := by
  rw [List.foldlM_append]
  show (R1 z' 1).foldlM msR ⟨[], none, [], 8⟩ >>= _ = _
  rw [h]
  show [allR].foldlM msR _ = _
  rw [List.foldlM_cons, all_step]
  rfl
 have := ra_no (C := []) hA (blk_no hz (.inr (by simp)) e) (by simp only [List.length_append, List.length_singleton, List.length_nil]; omega) (by simp only [List.length_append, List.length_singleton, List.length_nil]; omega) (free3 (fun y hy => (List.mem_append.mp hy).elim (R1_free hz' 1 y) (fun hy => by rw [List.mem_singleton.mp hy]; decide +kernel)) (R1_free hz e) (fun _ h => nomatch h))
 rw [List.append_nil] at this
 exact this
end T13
namespace T13
open PySem L2 Tc
section
variable {P : Program} {w : World} {K : PySem.W.Frag} {mg : Str → Option Value} {base : Heap}
noncomputable abbrev s_is_name : Stmt := top 18
theorem sc_is_name : FnScope ["thing"] ["thing"] (defScope s_is_name) := ⟨rfl, rfl, rfl, by decide +kernel, rfl, by decide +kernel, by decide +kernel⟩
theorem ok_is_name {ca : Ca} (D : DefAt K mg "is_name" s_is_name) (T : Txt K mg ca) : FnAt P w K mg base CX0 1 "is_name" ["thing"] (spIn13) := by
 refine D.ok sc_is_name (fun vs H Q E h => ?_) (fun _ _ _ _ _ _ us hl => match us, hl with | [_], _ => rfl) (fun f cdv A outer s H vs Q E hr h => ?_)
 ·obtain ⟨v, n, rfl, hv, k0, k1⟩ := h; rfl
 ·obtain ⟨v, n, rfl, hv, k0, k1⟩ := h
  have nd := sc_is_name.nd
  refine ⟨_, (@pss_cons _ _ _ _ _ (ps_if (PW.pt (pw_or (pt_not (pt_val (pe_callB (call_isi' (K := K) rfl) (by rfl) T.z_isinstance bt_isinstance (@pa_cons _ _ _ _ _ (pv 0) (@pa_cons _ _ _ _ _ (pe_bltn (v := .ty "str") (by rfl) T.z_str bt_str rfl) pa_nil (by rfl)) (by rfl))))) (pw_or (pt_cmpR op_lt (pe_callB (call_len' (K := K) rfl) (by rfl) T.z_len PySem.boot_len (@pa_cons _ _ _ _ _ (pv 0) pa_nil (by rfl))) pe_int (nomark _)) (pw_or1 (pt_cmpR op_gt (pe_callB (call_len' (K := K) rfl) (by rfl) T.z_len PySem.boot_len (@pa_cons _ _ _ _ _ (pv 0) pa_nil (by rfl))) pe_int (nomark _)))))) (@pss_one _ _ _ (ps_ret pe_bl)) pss_nil)
   (@pss_one _ _ _ (ps_ret (pe_callB (call_all' (K := K) rfl rfl) (by rfl) T.z_all bt_all (@pa_cons _ _ _ _ _ (pe_comp ["letter"] [] [] rfl (by rfl) (pi_str (pv 0)) (fun _ _ _ _ => (pg_name (i := 0) (show List.Nodup (["letter"] : List Str) from by decide) rfl (Or.inl rfl))) (fun _ _ _ _ => pif_none) (fun _ _ _ _ => (pe_cmpR op_in_str (pv 0) (pe_gstr (by rfl) T.g_LETTERS) (by rfl)))) pa_nil (by rfl)))))), ?_⟩
  refine ⟨_, rfl, _, _, _, _, rfl, tyOf_of hv, kit_tt (tyS_mem hv) (by decide), _, rfl, ?_⟩
  by_cases hs : n = "str"
  ·subst hs
   obtain ⟨z, rfl⟩ := str_of hv
   obtain ⟨hz, k1⟩ := k1 z rfl
   have hl : z.length ≤ sizeLine := bigL hz
   refine iteF ?_
   refine ⟨_, rfl, _, _, rfl, ⟨hl, rfl⟩, _, _, rfl, rfl, _, rfl, ?_⟩
   refine ite2 (fun h => ?_) (fun h => ?_)
   ·have h : ((z.length : Nat) : Int) < 1 := of_decide_eq_true h
    have e : nm z = false := by
     unfold nm
     rw [decide_eq_false (by omega), Bool.false_and]
    have k := k1 H (Same.refl _)
    rw [e] at k
    exact iteT k
   have h1 : ¬ ((z.length : Nat) : Int) < 1 := fun z => h (decide_eq_true z)
   refine ⟨_, rfl, _, _, rfl, ⟨hl, rfl⟩, _, _, rfl, rfl, _, rfl, ?_⟩
   refine ite2 (fun h => ?_) (fun h => ?_)
   ·have h : (8 : Int) < ((z.length : Nat) : Int) := of_decide_eq_true h
    have e : nm z = false := by
     unfold nm
     rw [decide_eq_false (by omega), Bool.false_and]
    have k := k1 H (Same.refl _)
    rw [e] at k
    exact k
   have h8 : ¬ (8 : Int) < ((z.length : Nat) : Int) := fun z => h (decide_eq_true z)
   refine ⟨_, rfl, z, rfl, fun D hD => ?_⟩
   refine block_str (fun i σ' H' => ∃ v : Option V, σ' = [v] ∧ Same H H' ∧ H' D = some (.lst (((z.cps.toList.take i).map inL).map V.bl))) ⟨none, rfl, Same.upd hD, upd_same⟩ ?_ ?_
   ·rintro i c σ' H' hc ⟨v, rfl, s1, hd⟩
    have hc' : z.cps.toList[i]? = some c := by simpa using hc
    refine ⟨_, rfl, _, _, rfl, rfl, _, hd, ?_, _, rfl, s1.updD hD, ?_⟩
    ·have hzz : z.cps.toList.length = z.length := Array.length_toList
     rw [List.length_map, List.length_map, List.length_take]; exact sz (by omega)
    ·rw [upd_same, List.take_add_one, hc', List.map_append, List.map_append]
     rfl
   ·rintro σ' H' ⟨v, rfl, s1, hd⟩
    have e1 : z.cps.toList.take z.cps.size = z.cps.toList := by
     rw [← Array.length_toList, List.take_length]
    rw [e1] at hd
    refine ⟨D, _, rfl, SqL.of hd, ?_⟩
    have e : nm z = (z.cps.toList.map inL).all id := by
     unfold nm
     rw [decide_eq_true (by omega), Bool.true_and, List.all_map]
     rfl
    have k := k1 H' s1
    rw [e] at k
    exact k
  ·have e := sub_str hs
   refine ite2 (fun _ => ?_) (fun h => ?_)
   ·exact iteT (k0 hs)
   ·have h : ¬ (!(subS n "str")) = true := h
    rw [e] at h
    exact absurd rfl h
end
end T13
namespace T13
open PySem L2 Tc
section
variable {P : Program} {w : World} {K : PySem.W.Frag} {mg : Str → Option Value} {base : Heap}
noncomputable abbrev s_is_whole : Stmt := top 20
theorem sc_is_whole : FnScope ["thing"] ["thing"] (defScope s_is_whole) := ⟨rfl, rfl, rfl, by decide +kernel, rfl, by decide +kernel, by decide +kernel⟩
theorem ok_is_whole {ca : Ca} (D : DefAt K mg "is_whole" s_is_whole) (T : Txt K mg ca) : FnAt P w K mg base CX0 1 "is_whole" ["thing"] (spWhole) := by
 refine D.ok sc_is_whole (fun vs H Q E h => ?_) (fun _ _ _ _ _ _ us hl => match us, hl with | [_], _ => rfl) (fun f cdv A outer s H vs Q E hr h => ?_)
 ·obtain ⟨v, n, rfl, hv, k⟩ := h; rfl
 ·obtain ⟨v, n, rfl, hv, k⟩ := h
  have nd := sc_is_whole.nd
  refine ⟨_, (@pss_one _ _ _ (ps_ret (pe_and (pe_callB (call_isi' (K := K) rfl) (by rfl) T.z_isinstance bt_isinstance (@pa_cons _ _ _ _ _ (pv 0) (@pa_cons _ _ _ _ _ (pe_bltn (v := .ty "int") (by rfl) T.z_int bt_int rfl) pa_nil (by rfl)) (by rfl))) (pe_one (pe_not (pe_callB (call_isi' (K := K) rfl) (by rfl) T.z_isinstance bt_isinstance (@pa_cons _ _ _ _ _ (pv 0) (@pa_cons _ _ _ _ _ (pe_bltn (v := .ty "bool") (by rfl) T.z_bool bt_bool rfl) pa_nil (by rfl)) (by rfl)))))))), ?_⟩
  refine ⟨_, rfl, _, _, _, _, rfl, tyOf_of hv, kit_tt (tyS_mem hv) (by decide), _, rfl, ?_⟩
  refine ite2 (fun h1 => ?_) (fun h1 => ?_)
  ·refine ⟨_, rfl, _, _, _, _, rfl, tyOf_of hv, kit_tt (tyS_mem hv) (by decide), _, rfl, ?_⟩
   rw [sub_int] at h1
   rw [sub_bool]
   have e : (!(n == "bool")) = (n == "int") := by
    rcases Bool.or_eq_true_iff.mp h1 with z | z
    ·have z := beq_iff_eq.mp z; subst z; decide
    ·have z := beq_iff_eq.mp z; subst z; decide
   rw [e]; exact k
  ·rw [sub_int] at h1
   have e : (n == "int") = false := by
    cases q : (n == "int") with
    | false => rfl
    | true => rw [q] at h1; exact absurd rfl h1
   rw [e] at k; exact k
end
end T13
namespace T13
open PySem L2 Tc
section
variable {P : Program} {w : World} {K : PySem.W.Frag} {mg : Str → Option Value} {base : Heap}
noncomputable abbrev s_common_divisor : Stmt := top 22
theorem sc_common_divisor : FnScope ["top", "bottom", "rest"] ["top", "bottom"] (defScope s_common_divisor) := ⟨rfl, rfl, rfl, by decide +kernel, rfl, by decide +kernel, by decide +kernel⟩
theorem ok_common_divisor {ca : Ca} (D : DefAt K mg "common_divisor" s_common_divisor) (T : Txt K mg ca) : FnAt P w K mg base CX0 1 "common_divisor" ["top", "bottom"] (spCd) := by
 refine D.ok sc_common_divisor (fun vs H Q E h => ?_) (fun _ _ _ _ _ _ us hl => match us, hl with | [_, _], _ => rfl) (fun f cdv A outer s H vs Q E hr h => ?_)
 ·obtain ⟨t, b, rfl, hb, k⟩ := h; rfl
 ·obtain ⟨t, b, rfl, hb, k⟩ := h
  have nd := sc_common_divisor.nd
  refine ⟨_, (@pss_cons _ _ _ _ _ (ps_while PassesOwn.never (pt_cmpR op_ne (pv 1) pe_int (nomark _)) (@pss_cons _ _ _ _ _ (@ps_set _ _ 2 _ _ _ _ nd rfl (Or.inl rfl) (@pe_op _ _ _ _ _ _ _ _ op_modN (pv 0) (pv 1)) (by rfl) (Or.inl rfl))
   (@pss_cons _ _ _ _ _ (@ps_set _ _ 0 _ _ _ _ nd rfl (Or.inl rfl) (pv 1) (by rfl) (Or.inl rfl))
   (@pss_one _ _ _ (@ps_set _ _ 1 _ _ _ _ nd rfl (Or.inl rfl) (pv 2) (by rfl) (Or.inl rfl))))))
   (@pss_one _ _ _ (ps_ret (pv 0)))), ?_⟩
  refine while_by (fun σ H1 => ∃ (x y : Int) (v : Option V), σ = [some (.int x), some (.int y), v] ∧ H1 = H ∧ Dv t b x y)
   (fun σ _ => match σ with | [_, some (.int y), _] => y.natAbs | _ => 0) ⟨t, b, none, rfl, rfl, Dv.start hb⟩ ?_ ?_
  ·rintro σ H1 ⟨x, y, v, rfl, rfl, d⟩
   refine ⟨_, rfl, rfl, _, rfl, ?_⟩
   refine ite2 (fun h1 => ?_) (fun h1 => ?_)
   ·have hy : y ≠ 0 := by
     intro e; subst e; simp at h1
    refine ⟨_, rfl, _, rfl, _, _, rfl, rfl, hy, ?_⟩
    refine ⟨_, rfl, _, rfl, ?_⟩
    exact ⟨⟨_, _, _, rfl, rfl, d.turn hy⟩, Dv.less hy⟩
   ·have hy : y = 0 := by
     by_cases e : y = 0
     ·exact e
     ·exact absurd (by simp [e]) h1
    refine ⟨_, rfl, ?_⟩
    rw [d.done hy hb]; exact k
  ·intro σ H1 Q1 Q2 hq h1
   obtain ⟨v, e, h2, c, e2, h3⟩ := h1
   exact ⟨v, e, h2, c, e2, hq _ _ h3⟩
end
end T13
namespace T13
open PySem L2 Tc
section
variable {P : Program} {w : World} {K : PySem.W.Frag} {mg : Str → Option Value} {base : Heap}
noncomputable abbrev s_is_fraction : Stmt := top 21
theorem sc_is_fraction : FnScope ["thing", "top", "bottom"] ["thing"] (defScope s_is_fraction) := ⟨rfl, rfl, rfl, by decide +kernel, rfl, by decide +kernel, by decide +kernel⟩
theorem ok_is_fraction {ca : Ca} (D : DefAt K mg "is_fraction" s_is_fraction) (T : Txt K mg ca) (G_is_whole : FnAt P w K mg base CX0 1 "is_whole" ["thing"] (spWhole)) (G_common_divisor : FnAt P w K mg base CX0 1 "common_divisor" ["top", "bottom"] (spCd)) : FnAt P w K mg base CX0 2 "is_fraction" ["thing"] (spFr13 K) := by
 refine D.ok sc_is_fraction (fun vs H Q E h => ?_) (fun _ _ _ _ _ _ us hl => match us, hl with | [_], _ => rfl) (fun f cdv A outer s H vs Q E hr h => ?_)
 ·obtain ⟨a, x, y, rfl, hS, hy0, k⟩ := h; rfl
 ·obtain ⟨a, x, y, rfl, hS, hy0, k⟩ := h
  have nd := sc_is_fraction.nd
  refine ⟨_, (@pss_cons _ _ _ _ _ (ps_if (PW.pt (pw_or (pt_not (pt_val (pe_callB (call_isi' (K := K) rfl) (by rfl) T.z_isinstance bt_isinstance (@pa_cons _ _ _ _ _ (pv 0) (@pa_cons _ _ _ _ _ (pe_bltn (v := .ty "tuple") (by rfl) T.z_tuple bt_tuple rfl) pa_nil (by rfl)) (by rfl))))) (pw_or1 (pt_cmpR op_ne (pe_callB (call_len' (K := K) rfl) (by rfl) T.z_len PySem.boot_len (@pa_cons _ _ _ _ _ (pv 0) pa_nil (by rfl))) pe_int (nomark _))))) (@pss_one _ _ _ (ps_ret pe_bl)) pss_nil)
   (@pss_cons _ _ _ _ _ (@ps_set _ _ 1 _ _ _ _ nd rfl (Or.inl rfl) (pe_ix (ix_tup' (K := K) rfl) (pv 0) pe_int (fun _ _ => rfl)) (by rfl) (Or.inl rfl))
   (@pss_cons _ _ _ _ _ (@ps_set _ _ 2 _ _ _ _ nd rfl (Or.inl rfl) (pe_ix (ix_tup' (K := K) rfl) (pv 0) pe_int (fun _ _ => rfl)) (by rfl) (Or.inl rfl))
   (@pss_cons _ _ _ _ _ (ps_if (PW.pt (pw_or (pt_not (pt_val (pe_fn G_is_whole hr (by rfl) pass0 (@pa_cons _ _ _ _ _ (pv 1) pa_nil (by rfl))))) (pw_or (pt_not (pt_val (pe_fn G_is_whole hr (by rfl) pass0 (@pa_cons _ _ _ _ _ (pv 2) pa_nil (by rfl))))) (pw_or1 (pt_cmpR op_lt (pv 2) pe_int (nomark _)))))) (@pss_one _ _ _ (ps_ret pe_bl)) pss_nil)
   (@pss_one _ _ _ (ps_ret (pe_cmpR op_eq (pe_fn G_common_divisor hr (by rfl) pass0 (@pa_cons _ _ _ _ _ (pv 1) (@pa_cons _ _ _ _ _ (pv 2) pa_nil (by rfl)) (by rfl))) pe_int (nomark _)))))))), ?_⟩
  have hv : tyS H (.ref a) = some "tuple" := ty_of hS rfl
  refine ⟨_, rfl, _, _, _, _, rfl, tyOf_of hv, kit_tt (by decide) (by decide), _, rfl, ?_⟩
  refine iteF ?_
  refine ⟨_, rfl, _, _, rfl, .inr ⟨_, SqT.of hS, rfl⟩, rfl, _, rfl, ?_⟩
  refine iteF ?_
  refine ⟨_, rfl, a, _, 0, _, rfl, rfl, SqT.of hS, rfl, ?_⟩
  refine ⟨_, rfl, a, _, 1, _, rfl, rfl, SqT.of hS, rfl, ?_⟩
  refine ⟨_, rfl, .int (x : Nat), "int", rfl, rfl, _, rfl, ?_⟩
  refine iteF ?_
  refine ⟨_, rfl, .int (y : Nat), "int", rfl, rfl, _, rfl, ?_⟩
  refine iteF ?_
  refine ⟨_, rfl, _, _, rfl, rfl, _, rfl, ?_⟩
  refine ite2 (fun h => ?_) (fun _ => ?_)
  ·have h : ((y : Nat) : Int) < 1 := of_decide_eq_true h
   omega
  refine ⟨_, rfl, _, rfl, (x : Nat), (y : Nat), rfl, by omega, ?_⟩
  have e : dv (x : Nat) (y : Nat) = (Int.gcd (x : Int) (y : Int) : Nat) := dv_pos (by omega)
  rw [e]
  have e2 : decide (V.int ((Int.gcd (x : Int) (y : Int) : Nat) : Int) = V.int 1) = decide (Int.gcd (x : Int) (y : Int) = 1) := decide_eq_decide.mpr ⟨fun z => by have := V.int.inj z; omega, fun z => by rw [z]; rfl⟩
  rw [← e2] at k
  exact ⟨rfl, k⟩
end
end T13
namespace T13
open PySem L2 Tc
section
variable {P : Program} {w : World} {K : PySem.W.Frag} {mg : Str → Option Value} {base : Heap}
noncomputable abbrev s_whole_read : Stmt := top 30
theorem sc_whole_read : FnScope ["word"] ["word"] (defScope s_whole_read) := ⟨rfl, rfl, rfl, by decide +kernel, rfl, by decide +kernel, by decide +kernel⟩
theorem ok_whole_read {ca : Ca} (D : DefAt K mg "whole_read" s_whole_read) (T : Txt K mg ca) : FnAt P w K mg base CX0 1 "whole_read" ["word"] (spWr13) := by
 refine D.ok sc_whole_read (fun vs H Q E h => ?_) (fun _ _ _ _ _ _ us hl => match us, hl with | [_], _ => rfl) (fun f cdv A outer s H vs Q E hr h => ?_)
 ·obtain ⟨w, rfl, hw, k⟩ := h; rfl
 ·obtain ⟨w, rfl, hw, k⟩ := h
  have nd := sc_whole_read.nd
  refine ⟨_, (@pss_cons _ _ _ _ _ (ps_if (PW.pt (pw_or (pt_cmpR op_lt (pe_callB (call_len' (K := K) rfl) (by rfl) T.z_len PySem.boot_len (@pa_cons _ _ _ _ _ (pv 0) pa_nil (by rfl))) pe_int (nomark _)) (pw_or1 (pt_cmpR op_gt (pe_callB (call_len' (K := K) rfl) (by rfl) T.z_len PySem.boot_len (@pa_cons _ _ _ _ _ (pv 0) pa_nil (by rfl))) (pe_gint (by rfl) T.g_MOST_FIGURES) (nomark _))))) (@pss_one _ _ _ (ps_ret pe_non)) pss_nil)
   (@pss_cons _ _ _ _ _ (ps_if (pt_not (pt_val (pe_callB (call_all' (K := K) rfl rfl) (by rfl) T.z_all bt_all (@pa_cons _ _ _ _ _ (pe_comp ["figure"] [] [] rfl (by rfl) (pi_str (pv 0)) (fun _ _ _ _ => (pg_name (i := 0) (show List.Nodup (["figure"] : List Str) from by decide) rfl (Or.inl rfl))) (fun _ _ _ _ => pif_none) (fun _ _ _ _ => (pe_cmpR op_in_str (pv 0) (pe_gstr (by rfl) T.g_FIGURES) (by rfl)))) pa_nil (by rfl))))) (@pss_one _ _ _ (ps_ret pe_non)) pss_nil)
   (@pss_cons _ _ _ _ _ (ps_if (PW.pt (pw_and (pt_cmpR op_eq (pe_ix ix_str (pv 0) pe_int (fun _ _ => rfl)) pe_str (nomark _)) (pw_and1 (pt_cmpR op_ne (pv 0) pe_str (nomark _))))) (@pss_one _ _ _ (ps_ret pe_non)) pss_nil)
   (@pss_one _ _ _ (ps_ret (pe_callTy call_intT (by rfl) T.z_int bt_int (@pa_cons _ _ _ _ _ (pv 0) pa_nil (by rfl)))))))), ?_⟩
  have hl : w.length ≤ sizeLine := bigL hw
  have no : okW w = false → ∀ H', Same H H' → Q .non H' := fun z H' s => by
   have k := k H' s
   rw [wr_none z] at k
   exact k
  refine ⟨_, rfl, _, _, rfl, ⟨hl, rfl⟩, _, _, rfl, rfl, _, rfl, ?_⟩
  refine ite2 (fun h => iteT (no ?_ _ (Same.refl _))) (fun h1 => ?_)
  ·have h : ((w.length : Nat) : Int) < 1 := of_decide_eq_true h
   unfold okW
   rw [decide_eq_false (by omega)]; rfl
  have h1 : ¬ ((w.length : Nat) : Int) < 1 := fun z => h1 (decide_eq_true z)
  refine ⟨_, rfl, _, _, rfl, ⟨hl, rfl⟩, _, _, rfl, rfl, _, rfl, ?_⟩
  refine ite2 (fun h => no ?_ _ (Same.refl _)) (fun h2 => ?_)
  ·have h : (12 : Int) < ((w.length : Nat) : Int) := of_decide_eq_true h
   unfold okW
   rw [decide_eq_false (by omega)]; rfl
  have h2 : ¬ (12 : Int) < ((w.length : Nat) : Int) := fun z => h2 (decide_eq_true z)
  have hzz : w.cps.toList.length = w.length := Array.length_toList
  refine ⟨_, rfl, w, rfl, fun D hD => ?_⟩
  refine block_str (fun i σ' H' => ∃ v : Option V, σ' = [v] ∧ Same H H' ∧ H' D = some (.lst (((w.cps.toList.take i).map inF).map V.bl))) ⟨none, rfl, Same.upd hD, upd_same⟩ ?_ ?_
  ·rintro i c σ' H' hc ⟨v, rfl, s1, hd⟩
   have hc' : w.cps.toList[i]? = some c := by simpa using hc
   refine ⟨_, rfl, _, _, rfl, rfl, _, hd, ?_, _, rfl, s1.updD hD, ?_⟩
   ·rw [List.length_map, List.length_map, List.length_take]; exact sz (by omega)
   ·rw [upd_same, List.take_add_one, hc', List.map_append, List.map_append]
    rfl
  rintro σ' H' ⟨v, rfl, s1, hd⟩
  have e1 : w.cps.toList.take w.cps.size = w.cps.toList := by
   rw [← Array.length_toList, List.take_length]
  rw [e1] at hd
  have ea : w.cps.toList.all inF = (w.cps.toList.map inF).all id := by rw [List.all_map]; rfl
  refine ⟨D, _, rfl, SqL.of hd, _, rfl, ?_⟩
  by_cases hf : (w.cps.toList.map inF).all id = true
  ·refine ite2 (fun z => absurd z (by rw [hf]; decide)) (fun _ => ?_)
   obtain ⟨c, hc⟩ : ∃ c, w.cps.toList[0]? = some c := ⟨_, List.getElem?_eq_getElem (by omega)⟩
   have hc2 : atI w.cps.toList 0 = some c := atI_nat (j := 0) hc
   have fin : okW w = true → rIntT [.str w] H' Q := fun z => by
    have e : wr w = some (valD w.cps.toList) := if_pos z
    obtain ⟨e2, _, _⟩ := wr_some e
    have k := k H' s1
    rw [e] at k
    have k : Q (.int ((valD w.cps.toList : Nat) : Int)) H' := k
    have l12 : w.length ≤ 640 := by omega
    refine ⟨_, ((valD w.cps.toList : Nat) : Int), rfl, ?_, l12, k⟩
    have l12' := l12
    rw [e2] at l12'
    have r := int_reads (valD w.cps.toList) l12'
    rw [show Str.ofString (toString ((valD w.cps.toList : Nat) : Int)) = w from e2.symm] at r
    exact r
   have ok0 : (!decide (w.cps.toList[0]? = some 48) || decide (w = Str.ofString "0")) = true → okW w = true := fun z => by
    unfold okW
    rw [decide_eq_true (by omega), ea, hf, z]; rfl
   refine ⟨_, rfl, w, 0, c, rfl, rfl, hl, hc2, rfl, _, rfl, ?_⟩
   have e0 : Str.ofString "0" = ⟨#[48]⟩ := by decide +kernel
   refine ite2 (fun h => ?_) (fun h => ⟨_, rfl, fin (ok0 ?_)⟩)
   ·have hc48 : c = 48 := by
     have h : V.str ⟨#[c]⟩ = V.str (Str.ofString "0") := of_decide_eq_true h
     rw [e0] at h
     have h := V.str.inj h
     have h := Str.mk.inj h
     simpa using h
    refine ⟨_, rfl, rfl, _, rfl, ?_⟩
    refine ite2 (fun h => ?_) (fun h => ⟨_, rfl, fin (ok0 ?_)⟩)
    ·have hne : w ≠ Str.ofString "0" := fun z => by
      rw [z, decide_eq_true rfl] at h; cases h
     refine no ?_ _ s1
     unfold okW
     rw [hc, hc48, decide_eq_true rfl, decide_eq_false hne]
     exact Bool.and_false _
    ·have hw0 : w = Str.ofString "0" := by
      by_cases z : w = Str.ofString "0"
      ·exact z
      ·exact absurd (by rw [decide_eq_false fun q => z (V.str.inj q)]; rfl) h
     rw [decide_eq_true hw0, Bool.or_true]
   ·have hc48 : c ≠ 48 := fun z => h (decide_eq_true (by rw [z, e0]))
    rw [hc, decide_eq_false (fun z => hc48 (Option.some.inj z))]; rfl
  ·refine ite2 (fun _ => no ?_ _ s1) (fun z => absurd (by rw [Bool.eq_false_iff.mpr hf]; rfl) z)
   unfold okW
   rw [ea, Bool.eq_false_iff.mpr hf, Bool.and_false]; rfl
end
end T13
namespace T13
open PySem L2 Tc
section
variable {P : Program} {w : World} {K : PySem.W.Frag} {mg : Str → Option Value} {base : Heap}
noncomputable abbrev s_number_read : Stmt := top 31
theorem sc_number_read : FnScope ["word", "parts", "top", "bottom"] ["word"] (defScope s_number_read) := ⟨rfl, rfl, rfl, by decide +kernel, rfl, by decide +kernel, by decide +kernel⟩
theorem ok_number_read {ca : Ca} (D : DefAt K mg "number_read" s_number_read) (T : Txt K mg ca) (G_whole_read : FnAt P w K mg base CX0 1 "whole_read" ["word"] (spWr13)) (G_is_fraction : FnAt P w K mg base CX0 2 "is_fraction" ["thing"] (spFr13 K)) : FnAt P w K mg base CX0 3 "number_read" ["word"] (spNr13 K) := by
 refine D.ok sc_number_read (fun vs H Q E h => ?_) (fun _ _ _ _ _ _ us hl => match us, hl with | [_], _ => rfl) (fun f cdv A outer s H vs Q E hr h => ?_)
 ·obtain ⟨w, rfl, hw, k⟩ := h; rfl
 ·obtain ⟨w, rfl, hw, k⟩ := h
  have nd := sc_number_read.nd
  refine ⟨_, (@pss_cons _ _ _ _ _ (@ps_set _ _ 1 _ _ _ _ nd rfl (Or.inl rfl) (pe_bm' (K := K) rfl PySem.F.plainAttrs_str PySem.F.slot_str_split PySem.F.type_str_split mt_split (pv 0) (@pa_cons _ _ _ _ _ pe_str pa_nil (by rfl))) (by rfl) (Or.inl rfl))
   (@pss_cons _ _ _ _ _ (@ps_set _ _ 2 _ _ _ _ nd rfl (Or.inl rfl) (pe_fn G_whole_read hr (by rfl) pass0 (@pa_cons _ _ _ _ _ (pe_ix (ix_list' (K := K) rfl) (pv 1) pe_int (fun _ _ => rfl)) pa_nil (by rfl))) (by rfl) (Or.inl rfl))
   (@pss_cons _ _ _ _ _ (ps_if (PW.pt (pw_or (pt_cmpR op_isN (pv 2) pe_non (nomark _)) (pw_or1 (pt_cmpR op_gt (pe_callB (call_len' (K := K) rfl) (by rfl) T.z_len PySem.boot_len (@pa_cons _ _ _ _ _ (pv 1) pa_nil (by rfl))) pe_int (nomark _))))) (@pss_one _ _ _ (ps_ret pe_non)) pss_nil)
   (@pss_cons _ _ _ _ _ (ps_if (pt_cmpR op_eq (pe_callB (call_len' (K := K) rfl) (by rfl) T.z_len PySem.boot_len (@pa_cons _ _ _ _ _ (pv 1) pa_nil (by rfl))) pe_int (nomark _)) (@pss_one _ _ _ (ps_ret (@pe_tup _ _ _ _ _ (@pa_cons _ _ _ _ _ (pv 2) (@pa_cons _ _ _ _ _ pe_int pa_nil (by rfl)) (by rfl))))) pss_nil)
   (@pss_cons _ _ _ _ _ (@ps_set _ _ 3 _ _ _ _ nd rfl (Or.inl rfl) (pe_fn G_whole_read hr (by rfl) pass0 (@pa_cons _ _ _ _ _ (pe_ix (ix_list' (K := K) rfl) (pv 1) pe_int (fun _ _ => rfl)) pa_nil (by rfl))) (by rfl) (Or.inl rfl))
   (@pss_cons _ _ _ _ _ (ps_if (PW.pt (pw_or (pt_cmpR op_isN (pv 3) pe_non (nomark _)) (pw_or (pt_cmpR op_lt (pv 3) pe_int (nomark _)) (pw_or1 (pt_not (pt_val (pe_fn G_is_fraction hr (by rfl) pass0 (@pa_cons _ _ _ _ _ (@pe_tup _ _ _ _ _ (@pa_cons _ _ _ _ _ (pv 2) (@pa_cons _ _ _ _ _ (pv 3) pa_nil (by rfl)) (by rfl))) pa_nil (by rfl))))))))) (@pss_one _ _ _ (ps_ret pe_non)) pss_nil)
   (@pss_one _ _ _ (ps_ret (@pe_tup _ _ _ _ _ (@pa_cons _ _ _ _ _ (pv 2) (@pa_cons _ _ _ _ _ (pv 3) pa_nil (by rfl)) (by rfl))))))))))), ?_⟩
  refine ⟨_, rfl, rfl, w, Str.ofString "/", rfl, rfl, (by decide), by omega, fun p hp => ?_⟩
  have hml : ∀ z ∈ Txt.split w (Str.ofString "/"), z.length ≤ 1000000 := fun z hz => by
   have := split_mem_len (by decide) hz
   omega
  have hpos := PyProof.Rows.split_pos w (Str.ofString "/")
  have hsl := split_len (x := w) (y := Str.ofString "/") (by decide)
  have ud := Same.upd (o := .lst ((Txt.split w (Str.ofString "/")).map V.str)) hp
  have hq : upd H p (.lst ((Txt.split w (Str.ofString "/")).map V.str)) p = some (.lst ((Txt.split w (Str.ofString "/")).map V.str)) := upd_same
  unfold nr at k
  generalize Txt.split w (Str.ofString "/") = zs at *
  match zs, hpos, hml with
  | a :: r, _, hml =>
   refine ⟨_, rfl, p, _, 0, _, rfl, rfl, SqL.of hq, at_0 _ _, a, rfl, hml a (.head _), fun H1 s1 => ?_⟩
   have hq1 := s1 _ _ hq
   have sa := ud.trans s1
   cases ha : wr a with
   | none =>
    refine ⟨_, rfl, rfl, _, rfl, ?_⟩
    refine iteT (k .non H1 sa ?_)
    match r with
    | [] => show NrV H1 .non ((wr a).map fun x => (x, 1)); rw [ha]; rfl
    | [b] => show NrV H1 .non (match wr a, wr b with | some x, some y => if frOk x y = true then some (x, y) else none | _, _ => none); rw [ha]; rfl
    | _ :: _ :: _ => rfl
   | some x =>
    refine ⟨_, rfl, rfl, _, rfl, ?_⟩
    refine iteF ?_
    refine ⟨_, rfl, _, _, rfl, .inl ⟨_, SqL.of hq1, rfl⟩, _, _, rfl, rfl, _, rfl, ?_⟩
    match r with
    | [] =>
     refine iteF ?_
     refine ⟨_, rfl, _, _, rfl, .inl ⟨_, SqL.of hq1, rfl⟩, rfl, _, rfl, ?_⟩
     refine iteT ?_
     refine ⟨_, rfl, sz (by simp), fun p2 h2 => k _ _ (sa.trans (Same.upd h2)) ?_⟩
     show NrV _ _ ((wr a).map fun x => (x, 1))
     rw [ha]
     exact ⟨p2, rfl, upd_same⟩
    | [b] =>
     refine iteF ?_
     refine ⟨_, rfl, _, _, rfl, .inl ⟨_, SqL.of hq1, rfl⟩, rfl, _, rfl, ?_⟩
     refine iteF ?_
     have kk : ∀ v H', Same H H' → NrV H' v (match wr a, wr b with | some x, some y => if frOk x y = true then some (x, y) else none | _, _ => none) → Q v H' := k
     refine ⟨_, rfl, p, _, 1, _, rfl, rfl, SqL.of hq1, at_1 _ _ _, b, rfl, hml b (.tail _ (.head _)), fun H2 s2 => ?_⟩
     have sb := sa.trans s2
     cases hb : wr b with
     | none =>
      refine ⟨_, rfl, rfl, _, rfl, ?_⟩
      refine iteT (kk .non H2 sb ?_)
      rw [ha, hb]; rfl
     | some y =>
      rw [ha, hb] at kk
      have kk : ∀ v H', Same H H' → NrV H' v (if frOk x y = true then some (x, y) else none) → Q v H' := kk
      refine ⟨_, rfl, rfl, _, rfl, ?_⟩
      refine iteF ?_
      refine ⟨_, rfl, _, _, rfl, rfl, _, rfl, ?_⟩
      refine ite2 (fun h => iteT (kk .non H2 sb ?_)) (fun h => ?_)
      ·have h : ((y : Nat) : Int) < 2 := of_decide_eq_true h
       have e : frOk x y = false := by unfold frOk; rw [decide_eq_false (by omega)]; rfl
       rw [e]; rfl
      have hy2 : ¬ ((y : Nat) : Int) < 2 := fun z => h (decide_eq_true z)
      refine ⟨_, rfl, _, rfl, sz (by simp), fun p2 h2 => ⟨p2, x, y, rfl, upd_same, by omega, _, rfl, ?_⟩⟩
      have t2 := Same.upd (o := .tup [.int (x : Nat), .int (y : Nat)]) h2
      have e : frOk x y = decide (Int.gcd (x : Int) (y : Int) = 1) := by unfold frOk; rw [decide_eq_true (by omega), Bool.true_and]
      refine ite2 (fun h => kk .non _ (sb.trans t2) ?_) (fun h => ?_)
      ·have h : (!decide (Int.gcd (x : Int) (y : Int) = 1)) = true := h
       have h' : frOk x y = false := by rw [e]; cases hq : decide (Int.gcd (x : Int) (y : Int) = 1) with | true => rw [hq] at h; cases h | false => rfl
       rw [h']; rfl
      ·have h : ¬ (!decide (Int.gcd (x : Int) (y : Int) = 1)) = true := h
       have h' : frOk x y = true := by rw [e]; cases hq : decide (Int.gcd (x : Int) (y : Int) = 1) with | true => rfl | false => rw [hq] at h; exact absurd rfl h
       refine ⟨_, rfl, _, rfl, sz (by simp), fun p3 h3 => kk _ _ ((sb.trans t2).trans (Same.upd h3)) ?_⟩
       rw [h']
       exact ⟨p3, rfl, upd_same⟩
    | b :: c :: r =>
     refine ite2 (fun _ => k .non H1 sa rfl) (fun h => absurd (decide_eq_true ?_) h)
     rw [List.length_map]
     simp only [List.length_cons]
     omega
end
end T13
namespace T13
open PySem L2 Tc
section
variable {P : Program} {w : World} {K : PySem.W.Frag} {mg : Str → Option Value} {base : Heap}
noncomputable abbrev s_amount_read : Stmt := top 32
theorem sc_amount_read : FnScope ["word", "amount"] ["word"] (defScope s_amount_read) := ⟨rfl, rfl, rfl, by decide +kernel, rfl, by decide +kernel, by decide +kernel⟩
theorem ok_amount_read {ca : Ca} (D : DefAt K mg "amount_read" s_amount_read) (T : Txt K mg ca) (G_number_read : FnAt P w K mg base CX0 3 "number_read" ["word"] (spNr13 K)) : FnAt P w K mg base CX0 4 "amount_read" ["word"] (spAr13 K) := by
 refine D.ok sc_amount_read (fun vs H Q E h => ?_) (fun _ _ _ _ _ _ us hl => match us, hl with | [_], _ => rfl) (fun f cdv A outer s H vs Q E hr h => ?_)
 ·obtain ⟨w, rfl, hw, k⟩ := h; rfl
 ·obtain ⟨w, rfl, hw, k⟩ := h
  have nd := sc_amount_read.nd
  refine ⟨_, (@pss_cons _ _ _ _ _ (@ps_set _ _ 1 _ _ _ _ nd rfl (Or.inl rfl) (pe_fn G_number_read hr (by rfl) pass0 (@pa_cons _ _ _ _ _ (pv 0) pa_nil (by rfl))) (by rfl) (Or.inl rfl))
   (@pss_cons _ _ _ _ _ (ps_if (PW.pt (pw_or (pt_cmpR op_isN (pv 1) pe_non (nomark _)) (pw_or1 (pt_cmpR op_eq (pe_ix (ix_tup' (K := K) rfl) (pv 1) pe_int (fun _ _ => rfl)) pe_int (nomark _))))) (@pss_one _ _ _ (ps_ret pe_non)) pss_nil)
   (@pss_one _ _ _ (ps_ret (pv 1))))), ?_⟩
  unfold ar at k
  refine ⟨_, rfl, w, rfl, hw, fun v H1 s1 hv => ?_⟩
  cases hn : nr w with
  | none =>
   rw [hn] at hv k
   have hv : v = .non := hv
   subst hv
   refine ⟨_, rfl, rfl, _, rfl, ?_⟩
   exact iteT (k .non H1 s1 rfl)
  | some q =>
   rw [hn] at hv k
   obtain ⟨p, rfl, hp⟩ := hv
   have k : ∀ v H', Same H H' → NrV H' v (if q.1 = 0 then none else some q) → Q v H' := k
   refine ⟨_, rfl, rfl, _, rfl, ?_⟩
   refine iteF ?_
   refine ⟨_, rfl, p, _, 0, _, rfl, rfl, SqT.of hp, rfl, rfl, _, rfl, ?_⟩
   refine ite2 (fun h => k .non H1 s1 ?_) (fun h => ⟨_, rfl, k _ H1 s1 ?_⟩)
   ·have h := V.int.inj (of_decide_eq_true h)
    rw [if_pos (by omega)]; rfl
   ·rw [if_neg (fun z => h (decide_eq_true (by rw [z]; rfl)))]
    exact ⟨p, rfl, hp⟩
end
end T13
namespace T13
open PySem L2 Tc
section
variable {P : Program} {w : World} {K : PySem.W.Frag} {mg : Str → Option Value} {base : Heap}
noncomputable abbrev s_share_read : Stmt := top 33
theorem sc_share_read : FnScope ["word", "share"] ["word"] (defScope s_share_read) := ⟨rfl, rfl, rfl, by decide +kernel, rfl, by decide +kernel, by decide +kernel⟩
theorem ok_share_read {ca : Ca} (D : DefAt K mg "share_read" s_share_read) (T : Txt K mg ca) (G_number_read : FnAt P w K mg base CX0 3 "number_read" ["word"] (spNr13 K)) : FnAt P w K mg base CX0 4 "share_read" ["word"] (spSr13 K) := by
 refine D.ok sc_share_read (fun vs H Q E h => ?_) (fun _ _ _ _ _ _ us hl => match us, hl with | [_], _ => rfl) (fun f cdv A outer s H vs Q E hr h => ?_)
 ·obtain ⟨w, rfl, hw, k⟩ := h; rfl
 ·obtain ⟨w, rfl, hw, k⟩ := h
  have nd := sc_share_read.nd
  refine ⟨_, (@pss_cons _ _ _ _ _ (@ps_set _ _ 1 _ _ _ _ nd rfl (Or.inl rfl) (pe_fn G_number_read hr (by rfl) pass0 (@pa_cons _ _ _ _ _ (pv 0) pa_nil (by rfl))) (by rfl) (Or.inl rfl))
   (@pss_cons _ _ _ _ _ (ps_if (PW.pt (pw_or (pt_cmpR op_isN (pv 1) pe_non (nomark _)) (pw_or1 (pt_cmpR op_gt (pe_ix (ix_tup' (K := K) rfl) (pv 1) pe_int (fun _ _ => rfl)) (pe_ix (ix_tup' (K := K) rfl) (pv 1) pe_int (fun _ _ => rfl)) (nomark _))))) (@pss_one _ _ _ (ps_ret pe_non)) pss_nil)
   (@pss_one _ _ _ (ps_ret (pv 1))))), ?_⟩
  unfold sr at k
  refine ⟨_, rfl, w, rfl, hw, fun v H1 s1 hv => ?_⟩
  cases hn : nr w with
  | none =>
   rw [hn] at hv k
   have hv : v = .non := hv
   subst hv
   refine ⟨_, rfl, rfl, _, rfl, ?_⟩
   exact iteT (k .non H1 s1 rfl)
  | some q =>
   rw [hn] at hv k
   obtain ⟨p, rfl, hp⟩ := hv
   have k : ∀ v H', Same H H' → NrV H' v (if q.2 < q.1 then none else some q) → Q v H' := k
   refine ⟨_, rfl, rfl, _, rfl, ?_⟩
   refine iteF ?_
   refine ⟨_, rfl, p, _, 0, _, rfl, rfl, SqT.of hp, rfl, _, rfl, p, _, 1, _, rfl, rfl, SqT.of hp, rfl, _, _, rfl, rfl, _, rfl, ?_⟩
   refine ite2 (fun h => k .non H1 s1 ?_) (fun h => ⟨_, rfl, k _ H1 s1 ?_⟩)
   ·have h : ((q.2 : Nat) : Int) < ((q.1 : Nat) : Int) := of_decide_eq_true h
    rw [if_pos (by omega)]; rfl
   ·rw [if_neg (fun z => h (decide_eq_true (show ((q.2 : Nat) : Int) < ((q.1 : Nat) : Int) by omega)))]
    exact ⟨p, rfl, hp⟩
end
end T13
namespace T13
open PySem L2 Tc
section
variable {P : Program} {w : World} {K : PySem.W.Frag} {mg : Str → Option Value} {base : Heap}
noncomputable abbrev s_check_names : Stmt := top 34
theorem sc_check_names : FnScope ["words", "least"] ["words", "least"] (defScope s_check_names) := ⟨rfl, rfl, rfl, by decide +kernel, rfl, by decide +kernel, by decide +kernel⟩
theorem ok_check_names {ca : Ca} (D : DefAt K mg "check_names" s_check_names) (T : Txt K mg ca) (G_is_name : FnAt P w K mg base CX0 1 "is_name" ["thing"] (spIn13)) : FnAt P w K mg base (CXE P w) 2 "check_names" ["words", "least"] (spCk13 K ca.NoText) := by
 refine D.okE sc_check_names (fun vs H Q E h => ?_) (fun _ _ _ _ _ _ us hl => match us, hl with | [_, _], _ => rfl) (fun f cdv A outer s H vs Q E hr h => ?_)
 ·obtain ⟨a, zs, l, rfl, hS, hz, hzl, k, kE⟩ := h; rfl
 ·obtain ⟨a, zs, l, rfl, hS, hz, hzl, k, kE⟩ := h
  have nd := sc_check_names.nd
  refine ⟨_, (@pss_one _ _ _ (ps_if (PW.pt (pw_or (pt_cmpR op_lt (pe_callB (call_len' (K := K) rfl) (by rfl) T.z_len PySem.boot_len (@pa_cons _ _ _ _ _ (pv 0) pa_nil (by rfl))) (pv 1) (nomark _)) (pw_or1 (pt_not (pt_val (pe_callB (call_all' (K := K) rfl rfl) (by rfl) T.z_all bt_all (@pa_cons _ _ _ _ _ (pe_comp ["word"] [] [] rfl (by rfl) (pi_list' (K := K) rfl (pv 0)) (fun _ _ _ _ => (pg_name (i := 0) (show List.Nodup (["word"] : List Str) from by decide) rfl (Or.inl rfl))) (fun _ _ _ _ => pif_none) (fun _ _ _ _ => (pe_fn G_is_name hr (by rfl) pass0 (@pa_cons _ _ _ _ _ (pv 0) pa_nil (by rfl))))) pa_nil (by rfl)))))))) (@pss_one _ _ _ (ps_raise raises_cx rfl (by rfl) T.c_NoText T.e_NoText PySem.F.excBase_ValueError (@pa_cons _ _ _ _ _ pe_str pa_nil (by rfl)))) pss_nil)), ?_⟩
  refine ⟨_, rfl, _, _, rfl, .inl ⟨_, hS, rfl⟩, _, rfl, _, _, rfl, rfl, _, rfl, ?_⟩
  refine ite2 (fun h => iteT ⟨sz (by simp), kE ?_ _ (Same.refl _)⟩) (fun h => ?_)
  ·have h : (((zs.map V.str).length : Nat) : Int) < ((l : Nat) : Int) := of_decide_eq_true h
   rw [List.length_map] at h
   unfold ckN
   rw [decide_eq_false (by omega)]; rfl
  have hl : l ≤ zs.length := by
   have h : ¬ (((zs.map V.str).length : Nat) : Int) < ((l : Nat) : Int) := fun z => h (decide_eq_true z)
   rw [List.length_map] at h
   omega
  refine ⟨_, rfl, a, rfl, ⟨_, hS⟩, fun D hD => ?_⟩
  refine block_list (xs := zs.map V.str) (fun j σ' H' => ∃ v : Option V, σ' = [v] ∧ Same H H' ∧ H' D = some (.lst (((zs.take j).map nm).map V.bl))) ⟨none, rfl, Same.upd hD, upd_same⟩ ?_ ?_ ?_
  ·rintro j σ' H' hj ⟨v, rfl, s2, hd⟩
   exact s2.seq hS
  ·rintro j y σ' H' hy ⟨v, rfl, s2, hd⟩
   rw [List.getElem?_map] at hy
   obtain ⟨z, hz1, rfl⟩ := Option.map_eq_some_iff.mp hy
   refine ⟨_, rfl, .str z, "str", rfl, rfl, fun e => absurd rfl e, fun z' e => ?_⟩
   have e := V.str.inj e
   subst e
   refine ⟨hzl z (List.mem_of_getElem? hz1), fun H3 s3 => ?_⟩
   refine ⟨_, s3 _ _ hd, ?_, _, rfl, (s2.trans s3).updD hD, ?_⟩
   ·rw [List.length_map, List.length_map, List.length_take]; exact sz (by omega)
   ·rw [upd_same, List.take_add_one, hz1, List.map_append, List.map_append]
    rfl
  rintro σ' H' ⟨v, rfl, s1, hd⟩
  rw [List.length_map, List.take_length] at hd
  have ea : zs.all nm = (zs.map nm).all id := by rw [List.all_map]; rfl
  refine ⟨D, _, rfl, SqL.of hd, _, rfl, ?_⟩
  by_cases hf : (zs.map nm).all id = true
  ·refine ite2 (fun z => absurd z (by rw [hf]; decide)) (fun _ => k ?_ H' s1)
   unfold ckN
   rw [decide_eq_true hl, ea, hf]; rfl
  ·refine ite2 (fun _ => ⟨sz (by simp), kE ?_ H' s1⟩) (fun z => absurd (by rw [Bool.eq_false_iff.mpr hf]; rfl) z)
   unfold ckN
   rw [ea, Bool.eq_false_iff.mpr hf, Bool.and_false]
end
end T13
namespace T13
open PySem L2 Tc
section
variable {P : Program} {w : World} {K : PySem.W.Frag} {mg : Str → Option Value} {base : Heap}
noncomputable abbrev s_measured : Stmt := top 35
theorem sc_measured : FnScope ["words", "number"] ["words", "number"] (defScope s_measured) := ⟨rfl, rfl, rfl, by decide +kernel, rfl, by decide +kernel, by decide +kernel⟩
theorem ok_measured {ca : Ca} (D : DefAt K mg "measured" s_measured) (T : Txt K mg ca) (G_check_names : FnAt P w K mg base (CXE P w) 2 "check_names" ["words", "least"] (spCk13 K ca.NoText)) : FnAt P w K mg base (CXE P w) 3 "measured" ["words", "number"] (spMe13 K ca.NoText) := by
 refine D.okE sc_measured (fun vs H Q E h => ?_) (fun _ _ _ _ _ _ us hl => match us, hl with | [_, _], _ => rfl) (fun f cdv A outer s H vs Q E hr h => ?_)
 ·obtain ⟨a, v, u, x, y, z, o, rfl, hS, hx, hy, hv, k, kE⟩ := h; rfl
 ·obtain ⟨a, v, u, x, y, z, o, rfl, hS, hx, hy, hv, k, kE⟩ := h
  have nd := sc_measured.nd
  refine ⟨_, (@pss_cons _ _ _ _ _ (ps_if (pt_cmpR op_isN (pv 1) pe_non (nomark _)) (@pss_one _ _ _ (ps_raise raises_cx rfl (by rfl) T.c_NoText T.e_NoText PySem.F.excBase_ValueError (@pa_cons _ _ _ _ _ pe_str pa_nil (by rfl)))) pss_nil)
   (@pss_cons _ _ _ _ _ (ps_expr (pe_fn G_check_names hr (by rfl) passE (@pa_cons _ _ _ _ _ (pe_slice (sl_list' (K := K) rfl) (pv 0) (po_some pe_int) (po_some pe_int)) (@pa_cons _ _ _ _ _ pe_int pa_nil (by rfl)) (by rfl))))
   (@pss_one _ _ _ (ps_ret (@pe_tup _ _ _ _ _ (@pa_cons _ _ _ _ _ (pe_ix (ix_list' (K := K) rfl) (pv 0) pe_int (fun _ _ => rfl)) (@pa_cons _ _ _ _ _ (pe_ix (ix_list' (K := K) rfl) (pv 0) pe_int (fun _ _ => rfl)) (@pa_cons _ _ _ _ _ (pe_ix (ix_list' (K := K) rfl) (pv 0) pe_int (fun _ _ => rfl)) (@pa_cons _ _ _ _ _ (pv 1) pa_nil (by rfl)) (by rfl)) (by rfl)) (by rfl))))))), ?_⟩
  cases o with
  | none =>
   have hv : v = .non := hv
   subst hv
   refine ⟨_, rfl, rfl, _, rfl, ?_⟩
   exact iteT ⟨sz (by simp), kE (.inl rfl) _ (Same.refl _)⟩
  | some o =>
   obtain ⟨p, rfl, hp⟩ := hv
   refine ⟨_, rfl, rfl, _, rfl, ?_⟩
   refine iteF ?_
   refine ⟨_, rfl, ⟨1, rfl, 3, rfl, a, _, rfl, hS, fun q hq => ?_⟩⟩
   refine ⟨q, [x, y], 2, rfl, SqL.of upd_same, (show 2 ≤ 100 by decide), ?_, fun hc H1 s1 => ?_, fun hc H1 s1 => kE (.inr hc) H1 ((Same.upd hq).trans s1)⟩
   ·intro w hw
    rcases List.mem_cons.mp hw with e | hw
    ·rw [e]; exact hx
    ·rw [List.mem_singleton.mp hw]; exact hy
   have sa : Same H H1 := (Same.upd hq).trans s1
   have h1 := sa.seq hS
   refine ⟨_, rfl, a, _, 0, _, rfl, rfl, h1, rfl, _, rfl, a, _, 1, _, rfl, rfl, h1, rfl, _, rfl, a, _, 2, _, rfl, rfl, h1, rfl, _, rfl, sz (show 4 ≤ 1000 by decide), fun q2 h2 => k o rfl hc q2 p _ (sa.trans (Same.upd h2)) upd_same ((sa.trans (Same.upd h2)) _ _ hp)⟩
end
end T13
namespace T13
open PySem L2 Tc
section
variable {P : Program} {w : World} {K : PySem.W.Frag} {mg : Str → Option Value} {base : Heap}
noncomputable abbrev s_deed_read : Stmt := top 36
theorem sc_deed_read : FnScope ["words"] ["words"] (defScope s_deed_read) := ⟨rfl, rfl, rfl, by decide +kernel, rfl, by decide +kernel, by decide +kernel⟩
theorem ok_deed_read {ca : Ca} (D : DefAt K mg "deed_read" s_deed_read) (T : Txt K mg ca) (G_check_names : FnAt P w K mg base (CXE P w) 2 "check_names" ["words", "least"] (spCk13 K ca.NoText)) (G_measured : FnAt P w K mg base (CXE P w) 3 "measured" ["words", "number"] (spMe13 K ca.NoText)) (G_amount_read : FnAt P w K mg base CX0 4 "amount_read" ["word"] (spAr13 K)) (G_share_read : FnAt P w K mg base CX0 4 "share_read" ["word"] (spSr13 K)) : FnAt P w K mg base (CXE P w) 5 "deed_read" ["words"] (spDr13 K ca.NoText) := by
 refine D.okE sc_deed_read (fun vs H Q E h => ?_) (fun _ _ _ _ _ _ us hl => match us, hl with | [_], _ => rfl) (fun f cdv A outer s H vs Q E hr h => ?_)
 ·obtain ⟨a, zs, rfl, hS, hne, hzl, k, kE⟩ := h; rfl
 ·obtain ⟨a, zs, rfl, hS, hne, hzl, k, kE⟩ := h
  have nd := sc_deed_read.nd
  refine ⟨_, (@pss_cons _ _ _ _ _ (ps_if (pt_cmpR (op_eqSs (K := K) rfl hr) (pv 0) (@pe_lst _ _ _ _ (@pa_cons _ _ _ _ _ pe_str pa_nil (by rfl))) (nomark _)) (@pss_one _ _ _ (ps_ret (@pe_tup _ _ _ _ _ (@pa_cons _ _ _ _ _ pe_str pa_nil (by rfl))))) pss_nil)
   (@pss_cons _ _ _ _ _ (ps_if (PW.pt (pw_and (pt_cmpR op_eq (pe_ix (ix_list' (K := K) rfl) (pv 0) pe_int (fun _ _ => rfl)) pe_str (nomark _)) (pw_and1 (pt_cmpR op_le (pe_callB (call_len' (K := K) rfl) (by rfl) T.z_len PySem.boot_len (@pa_cons _ _ _ _ _ (pv 0) pa_nil (by rfl))) (@pe_op _ _ _ _ _ _ _ _ op_add (pe_gint (by rfl) T.g_MOST_PLACES) pe_int) (nomark _))))) (@pss_cons _ _ _ _ _ (ps_expr (pe_fn G_check_names hr (by rfl) passE (@pa_cons _ _ _ _ _ (pe_slice (sl_list' (K := K) rfl) (pv 0) (po_some pe_int) po_none) (@pa_cons _ _ _ _ _ pe_int pa_nil (by rfl)) (by rfl))))
   (@pss_one _ _ _ (ps_ret (@pe_tup _ _ _ _ _ (@pa_cons _ _ _ _ _ pe_str (@pa_cons _ _ _ _ _ (pe_ix (ix_list' (K := K) rfl) (pv 0) pe_int (fun _ _ => rfl)) (@pa_cons _ _ _ _ _ (pe_callTy (call_tuple_of' (K := K) rfl) (by rfl) T.z_tuple bt_tuple (@pa_cons _ _ _ _ _ (pe_slice (sl_list' (K := K) rfl) (pv 0) (po_some pe_int) po_none) pa_nil (by rfl))) pa_nil (by rfl)) (by rfl)) (by rfl)))))) pss_nil)
   (@pss_cons _ _ _ _ _ (ps_if (PW.pt (pw_and (pt_cmpR (op_in_seq' (K := K) rfl) (pe_ix (ix_list' (K := K) rfl) (pv 0) pe_int (fun _ _ => rfl)) (@pe_tup _ _ _ _ _ (@pa_cons _ _ _ _ _ pe_str (@pa_cons _ _ _ _ _ pe_str pa_nil (by rfl)) (by rfl))) (by rfl)) (pw_and1 (pt_cmpR op_eq (pe_callB (call_len' (K := K) rfl) (by rfl) T.z_len PySem.boot_len (@pa_cons _ _ _ _ _ (pv 0) pa_nil (by rfl))) pe_int (nomark _))))) (@pss_cons _ _ _ _ _ (ps_expr (pe_fn G_check_names hr (by rfl) passE (@pa_cons _ _ _ _ _ (pe_slice (sl_list' (K := K) rfl) (pv 0) (po_some pe_int) po_none) (@pa_cons _ _ _ _ _ pe_int pa_nil (by rfl)) (by rfl))))
   (@pss_one _ _ _ (ps_ret (pe_callTy (call_tuple_of' (K := K) rfl) (by rfl) T.z_tuple bt_tuple (@pa_cons _ _ _ _ _ (pv 0) pa_nil (by rfl)))))) pss_nil)
   (@pss_cons _ _ _ _ _ (ps_if (PW.pt (pw_and (pt_cmpR (op_in_seq' (K := K) rfl) (pe_ix (ix_list' (K := K) rfl) (pv 0) pe_int (fun _ _ => rfl)) (@pe_tup _ _ _ _ _ (@pa_cons _ _ _ _ _ pe_str (@pa_cons _ _ _ _ _ pe_str pa_nil (by rfl)) (by rfl))) (by rfl)) (pw_and1 (pt_cmpR op_eq (pe_callB (call_len' (K := K) rfl) (by rfl) T.z_len PySem.boot_len (@pa_cons _ _ _ _ _ (pv 0) pa_nil (by rfl))) pe_int (nomark _))))) (@pss_one _ _ _ (ps_ret (pe_fn G_measured hr (by rfl) passE (@pa_cons _ _ _ _ _ (pv 0) (@pa_cons _ _ _ _ _ (pe_fn G_amount_read hr (by rfl) pass0 (@pa_cons _ _ _ _ _ (pe_ix (ix_list' (K := K) rfl) (pv 0) pe_int (fun _ _ => rfl)) pa_nil (by rfl))) pa_nil (by rfl)) (by rfl))))) pss_nil)
   (@pss_cons _ _ _ _ _ (ps_if (PW.pt (pw_and (pt_cmpR op_eq (pe_ix (ix_list' (K := K) rfl) (pv 0) pe_int (fun _ _ => rfl)) pe_str (nomark _)) (pw_and1 (pt_cmpR op_eq (pe_callB (call_len' (K := K) rfl) (by rfl) T.z_len PySem.boot_len (@pa_cons _ _ _ _ _ (pv 0) pa_nil (by rfl))) pe_int (nomark _))))) (@pss_one _ _ _ (ps_ret (pe_fn G_measured hr (by rfl) passE (@pa_cons _ _ _ _ _ (pv 0) (@pa_cons _ _ _ _ _ (pe_fn G_share_read hr (by rfl) pass0 (@pa_cons _ _ _ _ _ (pe_ix (ix_list' (K := K) rfl) (pv 0) pe_int (fun _ _ => rfl)) pa_nil (by rfl))) pa_nil (by rfl)) (by rfl))))) pss_nil)
   (@pss_one _ _ _ (ps_raise raises_cx rfl (by rfl) T.c_NoText T.e_NoText PySem.F.excBase_ValueError (@pa_cons _ _ _ _ _ pe_str pa_nil (by rfl))))))))), ?_⟩
  obtain ⟨u, r, rfl⟩ : ∃ u r, zs = u :: r := by
   cases zs with
   | nil => exact absurd rfl hne
   | cons u r => exact ⟨u, r, rfl⟩
  have hrl : ∀ z ∈ r, z.length ≤ 1000000 := fun z hz => Nat.le_trans (hzl z (.tail _ hz)) (by decide)
  refine ⟨_, rfl, sz (show 1 ≤ 1000 by decide), fun q0 hq0 => ?_⟩
  have s0 := Same.upd (o := .lst [.str (Str.ofString "year")]) hq0
  have h1 := s0.seq hS
  refine ⟨a, q0, u :: r, [Str.ofString "year"], rfl, rfl, h1, SqL.of upd_same, _, rfl, ?_⟩
  refine ite2 (fun h => ?_) (fun hny => ?_)
  ·have h := of_decide_eq_true h
   refine ⟨sz (show 1 ≤ 1000 by decide), fun q hq => k .year ?_ _ _ (s0.trans (Same.upd hq)) ⟨q, rfl, upd_same⟩⟩
   show (if u :: r = [Str.ofString "year"] then some Pd.year else _) = _
   rw [if_pos h]
  have hny : ¬ u :: r = [Str.ofString "year"] := fun z => hny (decide_eq_true z)
  have ed0 : dr (u :: r) = (if u = Str.ofString "do" ∧ r.length ≤ 9 then drD r
    else if u ∈ [Str.ofString "all", Str.ofString "fill"] ∧ r.length = 2 then drT u r
    else if u ∈ [Str.ofString "bring", Str.ofString "move"] ∧ r.length = 3 then drM u (ar (r.getD 2 (Str.ofString ""))) (r.headD (Str.ofString "")) (r.getD 1 (Str.ofString ""))
    else if u = Str.ofString "part" ∧ r.length = 3 then drM u (sr (r.getD 2 (Str.ofString ""))) (r.headD (Str.ofString "")) (r.getD 1 (Str.ofString ""))
    else none) := if_neg hny
  refine ⟨_, rfl, a, _, 0, _, rfl, rfl, h1, at_0 _ _, rfl, _, rfl, ?_⟩
  by_cases c1 : u = Str.ofString "do" ∧ r.length ≤ 9
  ·rw [if_pos c1] at ed0
   rw [ed0] at k kE
   obtain ⟨rfl, hr9⟩ := c1
   refine dec_true rfl ?_
   refine ⟨_, rfl, _, _, rfl, .inl ⟨_, h1, rfl⟩, _, _, rfl, rfl, _, _, rfl, rfl, _, rfl, ?_⟩
   refine ite2 (fun _ => ?_) (fun h => absurd (decide_eq_true (by rw [len1]; show ((r.length + 1 : Nat) : Int) ≤ 8 + 2; omega)) h)
   refine ⟨_, rfl, 1, rfl, a, _, rfl, h1, fun q hq => ?_⟩
   have ecut : upd (upd H q0 (.lst [.str (Str.ofString "year")])) q (.lst (cutV ((Str.ofString "do" :: r).map V.str) (some ((1 : Nat) : Int)) none)) q = some (.lst (((Str.ofString "do" :: r).drop 1).map V.str)) := cut_at (L := Str.ofString "do" :: r) (a := 1) (by simp)
   have sq := s0.trans (Same.upd (o := .lst (cutV ((Str.ofString "do" :: r).map V.str) (some ((1 : Nat) : Int)) none)) hq)
   refine ⟨q, r, 2, rfl, SqL.of ecut, by omega, hrl, fun hc H1 s1 => ?_, fun hc H1 s1 => kE (by unfold drD; rw [hc]; rfl) H1 (sq.trans s1)⟩
   have sa := sq.trans s1
   have h2 := sa.seq hS
   obtain ⟨x, ps, rfl⟩ : ∃ x ps, r = x :: ps := by
    cases r with
    | nil => exact absurd hc (by decide)
    | cons x ps => exact ⟨x, ps, rfl⟩
   refine ⟨_, rfl, a, _, 1, _, rfl, rfl, h2, at_1 _ _ _, _, rfl, 2, rfl, a, _, rfl, h2, fun q2 hq2 => ?_⟩
   have e2 := cut_at (H := H1) (q := q2) (L := Str.ofString "do" :: x :: ps) (a := 2) (by simp)
   refine ⟨q2, _, rfl, .inl ⟨SqL.of e2, fun l hl => ⟨sz (show 3 ≤ 1000 by decide), fun t ht => ?_⟩⟩⟩
   refine k (.dor x ps) (by unfold drD; rw [hc]; rfl) _ _ (((sa.trans (Same.upd hq2)).trans (Same.upd hl)).trans (Same.upd ht)) ⟨t, l, rfl, upd_same, (Same.upd ht) _ _ upd_same⟩
  rw [if_neg c1] at ed0
  refine' by_key0 (fun e1 => ?g1) ?b1
  case g1 =>
   refine ite2 (fun h => ?_) (fun _ => iteF e1)
   refine ⟨_, rfl, _, _, rfl, .inl ⟨_, h1, rfl⟩, _, _, rfl, rfl, _, _, rfl, rfl, _, rfl, ?_⟩
   refine ite2 (fun h2 => ?_) (fun _ => e1)
   have h2 : (((u :: r).map V.str).length : Int) ≤ 8 + 2 := of_decide_eq_true h2
   rw [len1] at h2
   exact absurd ⟨V.str.inj (of_decide_eq_true h), by omega⟩ c1
  case b1 =>
  refine ⟨_, rfl, a, _, 0, _, rfl, rfl, h1, at_0 _ _, sz (show 2 ≤ 1000 by decide), fun q hq => ⟨q, _, rfl, .inr (SqT.of upd_same), rfl, rfl, _, rfl, ?_⟩⟩
  have s1 := s0.trans (Same.upd (o := .tup [.str (Str.ofString "all"), .str (Str.ofString "fill")]) hq)
  have h2 := s1.seq hS
  have i1 : inV (V.str u) [.str (Str.ofString "all"), .str (Str.ofString "fill")] = decide (u ∈ [Str.ofString "all", Str.ofString "fill"]) := inV_str u [Str.ofString "all", Str.ofString "fill"]
  by_cases c2 : u ∈ [Str.ofString "all", Str.ofString "fill"] ∧ r.length = 2
  ·rw [if_pos c2] at ed0
   rw [ed0] at k kE
   refine ite2 (fun _ => ?_) (fun h => absurd (by rw [i1]; exact decide_eq_true c2.1) h)
   refine ⟨_, rfl, _, _, rfl, .inl ⟨_, h2, rfl⟩, rfl, _, rfl, ?_⟩
   refine ite2 (fun _ => ?_) (fun h => absurd (decide_eq_true (congrArg V.int (by rw [len1, c2.2]; rfl))) h)
   obtain ⟨x, y, rfl⟩ : ∃ x y, r = [x, y] := by
    match r, c2.2 with
    | [x, y], _ => exact ⟨x, y, rfl⟩
   refine ⟨_, rfl, 1, rfl, a, _, rfl, h2, fun q2 hq2 => ?_⟩
   have sq := s1.trans (Same.upd (o := .lst (cutV ([u, x, y].map V.str) (some ((1 : Nat) : Int)) none)) hq2)
   refine ⟨q2, [x, y], 2, rfl, SqL.of (cut_at (L := [u, x, y]) (a := 1) (by simp)), (show 2 ≤ 100 by decide), hrl, fun hc H1 s2 => ?_, fun hc H1 s2 => kE (by unfold drT; rw [hc]; rfl) H1 (sq.trans s2)⟩
   have sa := sq.trans s2
   exact ⟨_, rfl, a, _, rfl, .inl ⟨sa.seq hS, fun l hl => k (.two u x y) (by unfold drT; rw [hc]; rfl) _ _ (sa.trans (Same.upd hl)) ⟨l, rfl, upd_same⟩⟩⟩
  rw [if_neg c2] at ed0
  refine' by_key0 (fun e2 => ?g2) ?b2
  case g2 =>
   refine ite2 (fun h => ?_) (fun _ => iteF e2)
   rw [i1] at h
   refine ⟨_, rfl, _, _, rfl, .inl ⟨_, h2, rfl⟩, rfl, _, rfl, ?_⟩
   refine ite2 (fun h3 => ?_) (fun _ => e2)
   have h3 : (((u :: r).map V.str).length : Int) = 3 := V.int.inj (of_decide_eq_true h3)
   rw [len1] at h3
   exact absurd ⟨of_decide_eq_true h, by omega⟩ c2
  case b2 =>
  refine ⟨_, rfl, a, _, 0, _, rfl, rfl, h2, at_0 _ _, sz (show 2 ≤ 1000 by decide), fun q3 hq3 => ⟨q3, _, rfl, .inr (SqT.of upd_same), rfl, rfl, _, rfl, ?_⟩⟩
  have s3 := s1.trans (Same.upd (o := .tup [.str (Str.ofString "bring"), .str (Str.ofString "move")]) hq3)
  have h3 := s3.seq hS
  have i2 : inV (V.str u) [.str (Str.ofString "bring"), .str (Str.ofString "move")] = decide (u ∈ [Str.ofString "bring", Str.ofString "move"]) := inV_str u [Str.ofString "bring", Str.ofString "move"]
  have fin : ∀ {x y n : Str} {o : Option (Nat × Nat)} {v : V} {H1 : Hp}, r = [x, y, n] → dr (u :: r) = drM u o x y → Same H H1 → NrV H1 v o → (spMe13 K ca.NoText) [.ref a, v] H1 Q E := fun {x y n o v H1} er ed s hv => by
   rw [ed] at k kE
   have hx := hrl x (by rw [er]; exact .head _)
   have hy := hrl y (by rw [er]; exact .tail _ (.head _))
   refine ⟨a, v, u, x, y, n, o, rfl, by have := s.seq hS; rw [er] at this; exact this, hx, hy, hv, fun q eo hc t p H' s' ht hp => ?_, fun hn H' s' => ?_⟩
   ·refine k (.mea u x y (q.1 : Nat) (q.2 : Nat)) ?_ _ H' (s.trans s') ⟨t, p, rfl, ht, hp⟩
    rw [eo]
    show (if ckN 2 [x, y] = true then _ else _) = _
    rw [if_pos hc]
   ·refine kE ?_ H' (s.trans s')
    rcases hn with hn | hn
    ·rw [hn]; rfl
    ·cases o with
     | none => rfl
     | some q =>
      show (if ckN 2 [x, y] = true then _ else _) = _
      rw [hn]; rfl
  have three : r.length = 3 → ∃ x y n, r = [x, y, n] := fun h => by
   match r, h with
   | [x, y, n], _ => exact ⟨x, y, n, rfl⟩
  by_cases c3 : u ∈ [Str.ofString "bring", Str.ofString "move"] ∧ r.length = 3
  ·rw [if_pos c3] at ed0
   obtain ⟨x, y, n, er⟩ := three c3.2
   refine ite2 (fun _ => ?_) (fun h => absurd (by rw [i2]; exact decide_eq_true c3.1) h)
   refine ⟨_, rfl, _, _, rfl, .inl ⟨_, h3, rfl⟩, rfl, _, rfl, ?_⟩
   refine ite2 (fun _ => ?_) (fun h => absurd (decide_eq_true (congrArg V.int (by rw [len1, c3.2]; rfl))) h)
   refine ⟨_, rfl, _, rfl, a, _, 3, _, rfl, rfl, h3, by rw [er]; rfl, n, rfl, hzl n (by rw [er]; exact .tail _ (.tail _ (.tail _ (.head _)))), fun v H1 s4 hv => ?_⟩
   exact fin er (by rw [ed0, er]; rfl) (s3.trans s4) hv
  rw [if_neg c3] at ed0
  refine' by_key0 (fun e3 => ?g3) ?b3
  case g3 =>
   refine ite2 (fun h => ?_) (fun _ => iteF e3)
   rw [i2] at h
   refine ⟨_, rfl, _, _, rfl, .inl ⟨_, h3, rfl⟩, rfl, _, rfl, ?_⟩
   refine ite2 (fun h4 => ?_) (fun _ => e3)
   have h4 : (((u :: r).map V.str).length : Int) = 4 := V.int.inj (of_decide_eq_true h4)
   rw [len1] at h4
   exact absurd ⟨of_decide_eq_true h, by omega⟩ c3
  case b3 =>
  refine ⟨_, rfl, a, _, 0, _, rfl, rfl, h3, at_0 _ _, rfl, _, rfl, ?_⟩
  by_cases c4 : u = Str.ofString "part" ∧ r.length = 3
  ·rw [if_pos c4] at ed0
   obtain ⟨x, y, n, er⟩ := three c4.2
   refine dec_true (congrArg V.str c4.1) ?_
   refine ⟨_, rfl, _, _, rfl, .inl ⟨_, h3, rfl⟩, rfl, _, rfl, ?_⟩
   refine ite2 (fun _ => ?_) (fun h => absurd (decide_eq_true (congrArg V.int (by rw [len1, c4.2]; rfl))) h)
   refine ⟨_, rfl, _, rfl, a, _, 3, _, rfl, rfl, h3, by rw [er]; rfl, n, rfl, hzl n (by rw [er]; exact .tail _ (.tail _ (.tail _ (.head _)))), fun v H1 s4 hv => ?_⟩
   exact fin er (by rw [ed0, er]; rfl) (s3.trans s4) hv
  rw [if_neg c4] at ed0
  refine ite2 (fun h => ?_) (fun _ => iteF ⟨sz (by simp), kE ed0 _ s3⟩)
  refine ⟨_, rfl, _, _, rfl, .inl ⟨_, h3, rfl⟩, rfl, _, rfl, ?_⟩
  refine ite2 (fun h5 => ?_) (fun _ => ⟨sz (by simp), kE ed0 _ s3⟩)
  have h5 : (((u :: r).map V.str).length : Int) = 4 := V.int.inj (of_decide_eq_true h5)
  rw [len1] at h5
  exact absurd ⟨V.str.inj (of_decide_eq_true h), by omega⟩ c4
end
end T13
namespace T13
open PySem L2 Tc
section
variable {P : Program} {w : World} {K : PySem.W.Frag} {mg : Str → Option Value} {base : Heap}
noncomputable abbrev s_times_head : Stmt := top 37
theorem sc_times_head : FnScope ["words", "blocks", "within", "many"] ["words", "blocks"] (defScope s_times_head) := ⟨rfl, rfl, rfl, by decide +kernel, rfl, by decide +kernel, by decide +kernel⟩
theorem ok_times_head {ca : Ca} (D : DefAt K mg "times_head" s_times_head) (T : Txt K mg ca) (G_whole_read : FnAt P w K mg base CX0 1 "whole_read" ["word"] (spWr13)) : FnAt P w K mg base (CXE P w) 2 "times_head" ["words", "blocks"] (spTh13 K ca.NoText) := by
 refine D.okE sc_times_head (fun vs H Q E h => ?_) (fun _ _ _ _ _ _ us hl => match us, hl with | [_, _], _ => rfl) (fun f cdv A outer s H vs Q E hr h => ?_)
 ·obtain ⟨a, B, u, r, bs, zs, rfl, hS, hrl, hB, hP, hbl, k, kE⟩ := h; rfl
 ·obtain ⟨a, B, u, r, bs, zs, rfl, hS, hrl, hB, hP, hbl, k, kE⟩ := h
  have nd := sc_times_head.nd
  refine ⟨_, (@pss_cons _ _ _ _ _ (ps_setcomp ["block"] [] [] (i := 2) nd rfl rfl rfl (by rfl) (pi_list' (K := K) rfl (pv 1)) (fun _ _ _ _ => (pg_name (i := 0) (show List.Nodup (["block"] : List Str) from by decide) rfl (Or.inl rfl))) (fun _ _ _ _ => (pif_one (pt_cmpR op_eq (pe_ix (ix_tup' (K := K) rfl) (pv 0) pe_int (fun _ _ => rfl)) pe_str (nomark _)))) (fun _ _ _ _ => (pv 0)))
   (@pss_cons _ _ _ _ _ (@ps_set _ _ 3 _ _ _ _ nd rfl (Or.inl rfl) (pe_ifExp (pt_cmpR op_eq (pe_callB (call_len' (K := K) rfl) (by rfl) T.z_len PySem.boot_len (@pa_cons _ _ _ _ _ (pv 0) pa_nil (by rfl))) pe_int (nomark _)) (pe_fn G_whole_read hr (by rfl) pass0 (@pa_cons _ _ _ _ _ (pe_ix (ix_list' (K := K) rfl) (pv 0) pe_int (fun _ _ => rfl)) pa_nil (by rfl))) pe_non) (by rfl) (Or.inl rfl))
   (@pss_cons _ _ _ _ _ (ps_if (PW.pt (pw_or (pt_cmpR op_isN (pv 3) pe_non (nomark _)) (pw_or (pt_cmpR op_gt (pv 3) (pe_gint (by rfl) T.g_MOST_TIMES) (nomark _)) (pw_or1 (pt_cmpR op_eq (pe_callB (call_len' (K := K) rfl) (by rfl) T.z_len PySem.boot_len (@pa_cons _ _ _ _ _ (pv 2) pa_nil (by rfl))) (pe_gint (by rfl) T.g_MOST_WITHIN) (nomark _)))))) (@pss_one _ _ _ (ps_raise raises_cx rfl (by rfl) T.c_NoText T.e_NoText PySem.F.excBase_ValueError (@pa_cons _ _ _ _ _ pe_str pa_nil (by rfl)))) pss_nil)
   (@pss_one _ _ _ (ps_ret (@pe_tup _ _ _ _ _ (@pa_cons _ _ _ _ _ pe_str (@pa_cons _ _ _ _ _ (pv 3) (@pa_cons _ _ _ _ _ (@pe_lst _ _ _ _ pa_nil) pa_nil (by rfl)) (by rfl)) (by rfl)))))))), ?_⟩
  refine ⟨_, rfl, B, rfl, ⟨_, SqL.of hB⟩, fun D hD => ?_⟩
  refine block_list (xs := bs) (fun j σ' H' => ∃ (v : Option V) (ws : List V), σ' = [v] ∧ Same H H' ∧ H' D = some (.lst ws) ∧ ws.length = ((zs.take j).filter isTm).length) ⟨none, [], rfl, Same.upd hD, upd_same, rfl⟩ ?_ ?_ ?_
  ·rintro j σ' H' hj ⟨v, ws, rfl, s1, hd, hw⟩
   exact SqL.of (s1 _ _ hB)
  ·rintro j b σ' H' hb ⟨v, ws, rfl, s1, hd, hw⟩
   obtain ⟨z, hz, kk, rr, rfl, hkk⟩ := paired_get hP hb
   have hj : j < bs.length := (List.getElem?_eq_some_iff.mp hb).1
   have hwl : ws.length ≤ 100 := by
    rw [hw]
    exact Nat.le_trans (List.length_filter_le _ _) (by rw [List.length_take]; omega)
   have etk : (zs.take (j + 1)).filter isTm = (zs.take j).filter isTm ++ (if isTm z = true then [z] else []) := by
    rw [List.take_add_one, hz, List.filter_append]
    congr 1
    show [z].filter isTm = _
    rw [List.filter_cons, List.filter_nil]
   refine ⟨_, rfl, kk, _, 0, _, rfl, rfl, SqT.of (s1 _ _ hkk), at_0 _ _, rfl, _, rfl, ?_⟩
   refine ite2 (fun h => ?_) (fun h => ?_)
   ·have h : isTm z = true := decide_eq_true (V.str.inj (of_decide_eq_true h))
    exact ⟨_, rfl, _, hd, sz (by omega), _, _, rfl, s1.updD hD, upd_same, by rw [List.length_append, etk, if_pos h, List.length_append, hw]; rfl⟩
   ·have h : ¬ isTm z = true := fun q => h (decide_eq_true (congrArg V.str (of_decide_eq_true q)))
    exact ⟨_, ws, rfl, s1, hd, by rw [etk, if_neg h, List.append_nil]; exact hw⟩
  rintro σ' H1 ⟨v, ws, rfl, s1, hd, hw⟩
  rw [hP.length, List.take_length] at hw
  have hS1 := s1.seq hS
  have el : (((u :: r).map V.str).length : Int) = ((r.length + 1 : Nat) : Int) := len1 u r
  refine ⟨_, rfl, _, _, rfl, .inl ⟨_, hS1, rfl⟩, rfl, _, rfl, ?_⟩
  by_cases h1 : r.length = 1
  ·refine ite2 (fun _ => ?_) (fun h => absurd (decide_eq_true (congrArg V.int (by rw [el, h1]; rfl))) h)
   obtain ⟨x, rfl⟩ : ∃ x, r = [x] := by
    match r, h1 with
    | [x], _ => exact ⟨x, rfl⟩
   have eth : thR [x] (zs.filter isTm).length = (match wr x with
    | some n => if n ≤ 60 ∧ (zs.filter isTm).length ≠ 8 then some n else none
    | none => none) := rfl
   rw [eth] at k kE
   refine ⟨_, rfl, a, _, 1, _, rfl, rfl, hS1, rfl, x, rfl, hrl x (.head _), fun H2 s2 => ?_⟩
   have s12 := s1.trans s2
   cases hwr : wr x with
   | none =>
    rw [hwr] at kE
    refine ⟨_, rfl, rfl, _, rfl, ?_⟩
    exact iteT ⟨sz (by simp), kE rfl _ s12⟩
   | some n =>
    rw [hwr] at k kE
    have k : ∀ m, (if n ≤ 60 ∧ (zs.filter isTm).length ≠ 8 then some n else none) = some m → _ := k
    have kE : (if n ≤ 60 ∧ (zs.filter isTm).length ≠ 8 then some n else none) = none → _ := kE
    refine ⟨_, rfl, rfl, _, rfl, ?_⟩
    refine iteF ?_
    refine ⟨_, rfl, _, _, rfl, rfl, _, rfl, ?_⟩
    refine ite2 (fun h => iteT ⟨sz (by simp), kE ?_ _ s12⟩) (fun h => ?_)
    ·have h : (60 : Int) < ((n : Nat) : Int) := of_decide_eq_true h
     exact if_neg fun z => by omega
    have hn : ¬ (60 : Int) < ((n : Nat) : Int) := fun z => h (decide_eq_true z)
    refine ⟨_, rfl, _, _, rfl, .inl ⟨_, SqL.of (s2 _ _ hd), rfl⟩, rfl, _, rfl, ?_⟩
    refine ite2 (fun h => ⟨sz (by simp), kE ?_ _ s12⟩) (fun h => ?_)
    ·have h := V.int.inj (of_decide_eq_true h)
     exact if_neg fun z => z.2 (by omega)
    have h8 : (zs.filter isTm).length ≠ 8 := fun z => h (decide_eq_true (by rw [hw, z]; rfl))
    refine ⟨_, rfl, sz (by simp), fun L hL => ⟨sz (by simp), fun p hp => ?_⟩⟩
    exact k n (if_pos ⟨by omega, h8⟩) p L _ ((s12.trans (Same.upd hL)).trans (Same.upd hp)) upd_same ((Same.upd hp) _ _ upd_same) (s12.free hL)
  ·have e0 : thR r (zs.filter isTm).length = none := if_neg h1
   refine ite2 (fun h => ?_) (fun _ => ?_)
   ·have h := V.int.inj (of_decide_eq_true h)
    rw [el] at h
    exact absurd (by omega) h1
   refine ⟨_, rfl, rfl, _, rfl, ?_⟩
   exact iteT ⟨sz (by simp), kE e0 _ s1⟩
end
end T13
namespace T13
open PySem L2 Tc
section
variable {P : Program} {w : World} {K : PySem.W.Frag} {mg : Str → Option Value} {base : Heap}
noncomputable abbrev s_rule_head : Stmt := top 38
theorem sc_rule_head : FnScope ["words", "blocks", "rules", "params"] ["words", "blocks", "rules"] (defScope s_rule_head) := ⟨rfl, rfl, rfl, by decide +kernel, rfl, by decide +kernel, by decide +kernel⟩
theorem ok_rule_head {ca : Ca} (D : DefAt K mg "rule_head" s_rule_head) (T : Txt K mg ca) (G_check_names : FnAt P w K mg base (CXE P w) 2 "check_names" ["words", "least"] (spCk13 K ca.NoText)) : FnAt P w K mg base (CXE P w) 3 "rule_head" ["words", "blocks", "rules"] (spRh13 K ca.NoText) := by
 refine D.okE sc_rule_head (fun vs H Q E h => ?_) (fun _ _ _ _ _ _ us hl => match us, hl with | [_, _, _], _ => rfl) (fun f cdv A outer s H vs Q E hr h => ?_)
 ·obtain ⟨a, B, R, k0, L0, u, r, z, v, bs, vs0, rv, rls, rfl, hS, hrl, hB, hk0, hL0, hR, hP, hr4, k, kE⟩ := h; rfl
 ·obtain ⟨a, B, R, k0, L0, u, r, z, v, bs, vs0, rv, rls, rfl, hS, hrl, hB, hk0, hL0, hR, hP, hr4, k, kE⟩ := h
  have nd := sc_rule_head.nd
  refine ⟨_, (@pss_cons _ _ _ _ _ (ps_if (PW.pt (pw_or (pt_cmpR op_gt (pe_callB (call_len' (K := K) rfl) (by rfl) T.z_len PySem.boot_len (@pa_cons _ _ _ _ _ (pv 1) pa_nil (by rfl))) pe_int (nomark _)) (pw_or (pt_cmpR op_gt (pe_callB (call_len' (K := K) rfl) (by rfl) T.z_len PySem.boot_len (@pa_cons _ _ _ _ _ (pe_ix (ix_tup' (K := K) rfl) (pe_ix (ix_list' (K := K) rfl) (pv 1) pe_int (fun _ _ => rfl)) pe_int (fun _ _ => rfl)) pa_nil (by rfl))) pe_int (nomark _)) (pw_or1 (pt_cmpR op_gt (pe_callB (call_len' (K := K) rfl) (by rfl) T.z_len PySem.boot_len (@pa_cons _ _ _ _ _ (pv 0) pa_nil (by rfl))) (@pe_op _ _ _ _ _ _ _ _ op_add (pe_gint (by rfl) T.g_MOST_PLACES) pe_int) (nomark _)))))) (@pss_one _ _ _ (ps_raise raises_cx rfl (by rfl) T.c_NoText T.e_NoText PySem.F.excBase_ValueError (@pa_cons _ _ _ _ _ pe_str pa_nil (by rfl)))) pss_nil)
   (@pss_cons _ _ _ _ _ (ps_expr (pe_fn G_check_names hr (by rfl) passE (@pa_cons _ _ _ _ _ (pe_slice (sl_list' (K := K) rfl) (pv 0) (po_some pe_int) po_none) (@pa_cons _ _ _ _ _ pe_int pa_nil (by rfl)) (by rfl))))
   (@pss_cons _ _ _ _ _ (@ps_set _ _ 3 _ _ _ _ nd rfl (Or.inl rfl) (pe_callTy (call_tuple_of' (K := K) rfl) (by rfl) T.z_tuple bt_tuple (@pa_cons _ _ _ _ _ (pe_slice (sl_list' (K := K) rfl) (pv 0) (po_some pe_int) po_none) pa_nil (by rfl))) (by rfl) (Or.inl rfl))
   (@pss_cons _ _ _ _ _ (ps_if (PW.pt (pw_or (pt_cmpR op_ne (pe_callB call_lenSD (by rfl) T.z_len PySem.boot_len (@pa_cons _ _ _ _ _ (pe_callTy (call_setD' (K := K) rfl rfl) (by rfl) T.z_set bt_set (@pa_cons _ _ _ _ _ (pv 3) pa_nil (by rfl))) pa_nil (by rfl))) (pe_callB (call_len' (K := K) rfl) (by rfl) T.z_len PySem.boot_len (@pa_cons _ _ _ _ _ (pv 3) pa_nil (by rfl))) (nomark _)) (pw_or1 (pt_cmpR (op_in_seq' (K := K) rfl) (pe_ix (ix_list' (K := K) rfl) (pv 0) pe_int (fun _ _ => rfl)) (pe_comp ["rule"] [] [] rfl (by rfl) (pi_list' (K := K) rfl (pv 2)) (fun _ _ _ _ => (pg_name (i := 0) (show List.Nodup (["rule"] : List Str) from by decide) rfl (Or.inl rfl))) (fun _ _ _ _ => pif_none) (fun _ _ _ _ => (pe_ix (ix_tup' (K := K) rfl) (pv 0) pe_int (fun _ _ => rfl)))) (by rfl))))) (@pss_one _ _ _ (ps_raise raises_cx rfl (by rfl) T.c_NoText T.e_NoText PySem.F.excBase_ValueError (@pa_cons _ _ _ _ _ pe_str pa_nil (by rfl)))) pss_nil)
   (@pss_one _ _ _ (ps_ret (@pe_tup _ _ _ _ _ (@pa_cons _ _ _ _ _ pe_str (@pa_cons _ _ _ _ _ (@pe_tup _ _ _ _ _ (@pa_cons _ _ _ _ _ (pe_ix (ix_list' (K := K) rfl) (pv 0) pe_int (fun _ _ => rfl)) (@pa_cons _ _ _ _ _ (pv 3) pa_nil (by rfl)) (by rfl))) (@pa_cons _ _ _ _ _ (@pe_lst _ _ _ _ pa_nil) pa_nil (by rfl)) (by rfl)) (by rfl))))))))), ?_⟩
  have el : (((u :: r).map V.str).length : Int) = ((r.length + 1 : Nat) : Int) := len1 u r
  refine ⟨_, rfl, _, _, rfl, .inl ⟨_, SqL.of hB, rfl⟩, _, _, rfl, rfl, _, rfl, ?_⟩
  cases bs with
  | cons b1 bs =>
   refine ite2 (fun _ => iteT ⟨sz (by simp), kE rfl _ (Same.refl _)⟩) (fun h => absurd (decide_eq_true (show (1 : Int) < (((V.ref k0 :: b1 :: bs).length : Nat) : Int) by simp only [List.length_cons]; omega)) h)
  | nil =>
  refine iteF ?_
  refine ⟨_, rfl, B, _, 0, _, rfl, rfl, SqL.of hB, rfl, k0, _, 2, _, rfl, rfl, SqT.of hk0, rfl, _, _, rfl, .inl ⟨_, SqL.of hL0, rfl⟩, _, _, rfl, rfl, _, rfl, ?_⟩
  cases vs0 with
  | cons b1 vs0 =>
   refine ite2 (fun _ => iteT ⟨sz (by simp), kE rfl _ (Same.refl _)⟩) (fun h => absurd (decide_eq_true (show (0 : Int) < (((b1 :: vs0).length : Nat) : Int) by simp only [List.length_cons]; omega)) h)
  | nil =>
  refine iteF ?_
  refine ⟨_, rfl, _, _, rfl, .inl ⟨_, hS, rfl⟩, _, _, rfl, rfl, _, _, rfl, rfl, _, rfl, ?_⟩
  refine ite2 (fun h => ⟨sz (by simp), kE ?_ _ (Same.refl _)⟩) (fun h => ?_)
  ·have h : (8 : Int) + 2 < (((u :: r).map V.str).length : Int) := of_decide_eq_true h
   rw [el] at h
   unfold rhOk
   rw [decide_eq_false (show ¬ r.length ≤ 9 by omega)]; rfl
  have h9 : r.length ≤ 9 := by
   have h : ¬ (8 : Int) + 2 < (((u :: r).map V.str).length : Int) := fun q => h (decide_eq_true q)
   rw [el] at h
   omega
  refine ⟨_, rfl, 1, rfl, a, _, rfl, hS, fun q hq => ?_⟩
  have sq := Same.upd (o := .lst (cutV ((u :: r).map V.str) (some ((1 : Nat) : Int)) none)) hq
  refine ⟨q, r, 2, rfl, SqL.of (cut_at (L := u :: r) (a := 1) (by simp)), by omega, hrl, fun hc H1 s1 => ?_, fun hc H1 s1 => kE (by unfold rhOk; rw [hc, Bool.and_false]; rfl) H1 (sq.trans s1)⟩
  obtain ⟨x, ps, rfl⟩ : ∃ x ps, r = x :: ps := by
   cases r with
   | nil => exact absurd hc (by decide)
   | cons x ps => exact ⟨x, ps, rfl⟩
  have hps : ps.length ≤ 9 := by simp only [List.length_cons] at h9; omega
  have erh : rhOk true (x :: ps) (rls.map (·.1)) = (decide (ps.Nodup) && !decide (x ∈ rls.map (·.1))) := by
   unfold rhOk
   rw [decide_eq_true h9, hc]; rfl
  have k := fun z => k (erh.trans z)
  have kE := fun z => kE (erh.trans z)
  have sa := sq.trans s1
  have h1 := sa.seq hS
  refine ⟨_, rfl, 2, rfl, a, _, rfl, h1, fun q2 hq2 => ?_⟩
  have e2 := cut_at (H := H1) (q := q2) (L := u :: x :: ps) (a := 2) (by simp)
  refine ⟨q2, _, rfl, .inl ⟨SqL.of e2, fun b hb => ?_⟩⟩
  have sb := (sa.trans (Same.upd (o := .lst (cutV ((u :: x :: ps).map V.str) (some 2) none)) hq2)).trans (Same.upd (o := .tup (ps.map V.str)) hb)
  refine ⟨_, rfl, b, ps, rfl, SqT.of upd_same, by omega, fun S hS2 => ⟨S, ps, rfl, upd_same, by omega, ?_⟩⟩
  have sc := Same.upd (o := setHD P w S ps) hS2
  have hb1 := sc _ _ (upd_same (a := b) (o := .tup (ps.map V.str)))
  have sd := sb.trans sc
  refine ⟨_, rfl, _, _, rfl, .inr ⟨_, SqT.of hb1, rfl⟩, rfl, _, rfl, ?_⟩
  have edc : dct (ps.take ps.length) = ps.length ↔ ps.Nodup := by rw [List.take_length]; exact dct_nd ps
  by_cases hnd : ps.Nodup
  ·refine ite2 (fun h => ?_) (fun _ => ?_)
   ·have h : (!decide (V.int (dct (ps.take ps.length) : Nat) = V.int ((ps.map V.str).length : Nat))) = true := h
    rw [List.length_map, edc.mpr hnd, decide_eq_true rfl] at h
    cases h
   refine ⟨_, rfl, a, _, 1, _, rfl, rfl, sd.seq hS, at_1 _ _ _, _, rfl, R, rfl, ⟨_, SqL.of (sd _ _ hR)⟩, fun D hD => ?_⟩
   refine block_list (xs := rv) (fun j σ' H' => ∃ v : Option V, σ' = [v] ∧ Same (upd _ S (setHD P w S ps)) H' ∧ H' D = some (.lst (((rls.map (·.1)).take j).map V.str))) ⟨none, rfl, Same.upd hD, upd_same⟩ ?_ ?_ ?_
   ·rintro j σ' H' hj ⟨v, rfl, s3, hd⟩
    exact SqL.of ((sd.trans s3) _ _ hR)
   ·rintro j y σ' H' hy ⟨v, rfl, s3, hd⟩
    obtain ⟨r, hr1, ra, rb, rc, us, rfl, hra, _⟩ := paired_get hP hy
    refine ⟨_, rfl, ra, _, 0, _, rfl, rfl, SqT.of ((sd.trans s3) _ _ hra), rfl, _, hd, ?_, _, rfl, s3.updD hD, ?_⟩
    ·rw [List.length_map, List.length_take, List.length_map]; exact sz (by omega)
    ·rw [upd_same, List.take_add_one, List.getElem?_map, hr1, List.map_append]; rfl
   rintro σ' H3 ⟨v, rfl, s3, hd⟩
   have el : ((rls.map (·.1)).take rv.length) = rls.map (·.1) := by
    rw [List.take_of_length_le]; rw [List.length_map, hP.length]; exact Nat.le_refl _
   rw [el] at hd
   have fl : ((rls.map (·.1)).map V.str).all flatV = true := by
    rw [List.all_eq_true]
    intro v hv
    obtain ⟨z, _, rfl⟩ := List.mem_map.mp hv
    rfl
   have se := sd.trans s3
   refine ⟨D, _, rfl, .inl (SqL.of hd), rfl, fl, _, rfl, ?_⟩
   have ei : inV (.str x) ((rls.map (·.1)).map V.str) = decide (x ∈ rls.map (·.1)) := inV_str _ _
   refine ite2 (fun h => ⟨sz (by simp), kE ?_ _ se⟩) (fun h => ?_)
   ·have h : inV (.str x) ((rls.map (·.1)).map V.str) = true := h
    rw [ei] at h
    rw [h, Bool.not_true, Bool.and_false]
   have hx : decide (x ∈ rls.map (·.1)) = false := by
    have h : ¬ inV (.str x) ((rls.map (·.1)).map V.str) = true := h
    rw [ei] at h
    exact Bool.eq_false_iff.mpr h
   refine ⟨_, rfl, a, _, 1, _, rfl, rfl, se.seq hS, at_1 _ _ _, _, rfl, sz (show 2 ≤ 1000 by decide), fun q3 hq3 => ⟨sz (by simp), fun L hL => ⟨sz (show 3 ≤ 1000 by decide), fun p hp => ?_⟩⟩⟩
   have t1 := Same.upd (o := .tup [.str x, .ref b]) hq3
   have t2 := Same.upd (o := .lst []) hL
   have t3 := Same.upd (o := .tup [.str (Str.ofString "rule"), .ref q3, .ref L]) hp
   exact k (by rw [decide_eq_true hnd, hx]; rfl) p q3 b L _ (se.trans (t1.trans (t2.trans t3))) upd_same (t3 _ _ (t2 _ _ upd_same)) (t3 _ _ (t2 _ _ (t1 _ _ (s3 _ _ hb1)))) (t3 _ _ upd_same) ((se.trans t1).free hL)
  ·refine ite2 (fun _ => iteT ⟨sz (by simp), kE ?_ _ sd⟩) (fun h => absurd ?_ h)
   ·rw [decide_eq_false hnd]; rfl
   ·show (!decide (V.int (dct (ps.take ps.length) : Nat) = V.int ((ps.map V.str).length : Nat))) = true
    rw [List.length_map, decide_eq_false (fun e => hnd (edc.mp (by have := V.int.inj e; omega)))]; rfl
end
end T13
namespace T13
open PySem L2 Tc
section
variable {P : Program} {w : World} {K : PySem.W.Frag} {mg : Str → Option Value} {base : Heap}
noncomputable abbrev s_end_block : Stmt := top 39
theorem sc_end_block : FnScope ["blocks", "rules", "block", "deeds"] ["blocks", "rules"] (defScope s_end_block) := ⟨rfl, rfl, rfl, by decide +kernel, rfl, by decide +kernel, by decide +kernel⟩
theorem ok_end_block {ca : Ca} (D : DefAt K mg "end_block" s_end_block) (T : Txt K mg ca) : FnAt P w K mg base (CXE P w) 1 "end_block" ["blocks", "rules"] (spEn13 K ca.NoText) := by
 refine D.okE sc_end_block (fun vs H Q E h => ?_) (fun _ _ _ _ _ _ us hl => match us, hl with | [_, _], _ => rfl) (fun f cdv A outer s H vs Q E hr h => ?_)
 ·obtain ⟨B, R, bs, kk, L, z, c, us, rfl, hB, kE, hk, hL, hLB, h⟩ := h; rfl
 ·obtain ⟨B, R, bs, kk, L, z, c, us, rfl, hB, kE, hk, hL, hLB, h⟩ := h
  have nd := sc_end_block.nd
  refine ⟨_, (@pss_cons _ _ _ _ _ (ps_if (pt_cmpR op_eq (pe_callB (call_len' (K := K) rfl) (by rfl) T.z_len PySem.boot_len (@pa_cons _ _ _ _ _ (pv 0) pa_nil (by rfl))) pe_int (nomark _)) (@pss_one _ _ _ (ps_raise raises_cx rfl (by rfl) T.c_NoText T.e_NoText PySem.F.excBase_ValueError (@pa_cons _ _ _ _ _ pe_str pa_nil (by rfl)))) pss_nil)
   (@pss_cons _ _ _ _ _ (@ps_set _ _ 2 _ _ _ _ nd rfl (Or.inl rfl) (pe_bm0' (K := K) rfl PySem.F.plainAttrs_list PySem.F.slot_list_pop PySem.F.type_list_pop mt_pop (pv 0)) (by rfl) (Or.inl rfl))
   (@pss_cons _ _ _ _ _ (@ps_set _ _ 3 _ _ _ _ nd rfl (Or.inl rfl) (pe_callTy (call_tuple_of' (K := K) rfl) (by rfl) T.z_tuple bt_tuple (@pa_cons _ _ _ _ _ (pe_ix (ix_tup' (K := K) rfl) (pv 2) pe_int (fun _ _ => rfl)) pa_nil (by rfl))) (by rfl) (Or.inl rfl))
   (@pss_one _ _ _ (ps_if (pt_cmpR op_eq (pe_ix (ix_tup' (K := K) rfl) (pv 2) pe_int (fun _ _ => rfl)) pe_str (nomark _)) (@pss_one _ _ _ (ps_expr (pe_bm PySem.F.plainAttrs_list PySem.F.slot_list_append PySem.F.type_list_append mt_append (pv 1) (@pa_cons _ _ _ _ _ (@pe_op _ _ _ _ _ _ _ _ (op_catT' (K := K) rfl) (pe_ix (ix_tup' (K := K) rfl) (pv 2) pe_int (fun _ _ => rfl)) (@pe_tup _ _ _ _ _ (@pa_cons _ _ _ _ _ (pv 3) pa_nil (by rfl)))) pa_nil (by rfl))))) (@pss_one _ _ _ (ps_expr (pe_bm PySem.F.plainAttrs_list PySem.F.slot_list_append PySem.F.type_list_append mt_append (pe_ix (ix_tup' (K := K) rfl) (pe_ix (ix_list' (K := K) rfl) (pv 0) (@pe_op _ _ _ _ _ _ _ _ op_sub (pe_callB (call_len' (K := K) rfl) (by rfl) T.z_len PySem.boot_len (@pa_cons _ _ _ _ _ (pv 0) pa_nil (by rfl))) pe_int) (fun _ _ => rfl)) pe_int (fun _ _ => rfl)) (@pa_cons _ _ _ _ _ (@pe_tup _ _ _ _ _ (@pa_cons _ _ _ _ _ pe_str (@pa_cons _ _ _ _ _ (pe_ix (ix_tup' (K := K) rfl) (pv 2) pe_int (fun _ _ => rfl)) (@pa_cons _ _ _ _ _ (pv 3) pa_nil (by rfl)) (by rfl)) (by rfl))) pa_nil (by rfl)))))))))), ?_⟩
  refine ⟨_, rfl, _, _, rfl, .inl ⟨_, SqL.of hB, rfl⟩, rfl, _, rfl, ?_⟩
  refine ite2 (fun h => ⟨sz (by simp), kE ?_⟩) (fun h0 => ?_)
  ·have h := V.int.inj (of_decide_eq_true h)
   rw [List.length_append, List.length_singleton] at h
   exact List.length_eq_zero_iff.mp (by omega)
  have h := h fun z => h0 (decide_eq_true (by rw [z]; rfl))
  refine ⟨_, rfl, .inl ⟨rfl, _, SqL.of hB⟩, B, _, _, rfl, rfl, hB, (by simp : (bs ++ [V.ref kk])[(bs ++ [V.ref kk]).length - 1]? = some (V.ref kk)), ?_⟩
  rw [List.dropLast_concat]
  have t0 := TSame.updL (o := .lst bs) hB
  have hL1 : upd H B (.lst bs) L = some (.lst us) := by rw [upd_ne hLB]; exact hL
  refine ⟨_, rfl, kk, _, 2, _, rfl, rfl, SqT.of (t0 _ _ hk), rfl, L, us, rfl, .inl ⟨SqL.of hL1, fun b hb => ?_⟩⟩
  have s1 := Same.upd (o := .tup us) hb
  refine ⟨_, rfl, kk, _, 0, _, rfl, rfl, SqT.of (s1 _ _ (t0 _ _ hk)), rfl, rfl, _, rfl, ?_⟩
  rcases h with ⟨rfl, bs', k2, L2, b1, b2, vs2, eb, hk2, hL2, hv2, hLB2, kq⟩ | ⟨rfl, q, x, b', rv, rfl, hq, hR, hv, hRB, kq⟩
  ·refine dec_false (by decide +kernel) ?_
   have hB1 : upd (upd H B (.lst bs)) b (.tup us) B = some (.lst (bs' ++ [.ref k2])) := by rw [← eb]; exact s1 _ _ upd_same
   have hL3 : upd (upd H B (.lst bs)) b (.tup us) L2 = some (.lst vs2) := s1 _ _ (by rw [upd_ne hLB2]; exact hL2)
   refine ⟨_, rfl, _, rfl, _, _, rfl, .inl ⟨_, SqL.of hB1, rfl⟩, _, _, rfl, rfl, B, _, _, _, rfl, rfl, SqL.of hB1, at_end _ _, k2, _, 2, _, rfl, rfl, SqT.of (s1 _ _ (t0 _ _ hk2)), rfl, .inl ⟨rfl, _, SqL.of hL3⟩, _, rfl, kk, _, 1, _, rfl, rfl, SqT.of (s1 _ _ (t0 _ _ hk)), rfl, _, rfl, sz (show 3 ≤ 1000 by decide), fun a ha => ?_⟩
   have s2 := Same.upd (o := .tup [.str (Str.ofString "times"), c, .ref b]) ha
   exact ⟨L2, _, _, rfl, rfl, s2 _ _ hL3, sz (by omega), kq a b _ (s1.trans s2) upd_same (s2 _ _ upd_same)⟩
  ·refine dec_true rfl ?_
   have hR1 : upd (upd H B (.lst bs)) b (.tup us) R = some (.lst rv) := s1 _ _ (by rw [upd_ne hRB]; exact hR)
   refine ⟨_, rfl, .inl ⟨rfl, _, SqL.of hR1⟩, _, rfl, kk, _, 1, _, rfl, rfl, SqT.of (s1 _ _ (t0 _ _ hk)), rfl, _, rfl, sz (show 1 ≤ 1000 by decide), fun d hd => ?_⟩
   have s2 := Same.upd (o := .tup [.ref b]) hd
   refine ⟨q, d, _, _, rfl, rfl, SqT.of (s2 _ _ (s1 _ _ (t0 _ _ hq))), SqT.of upd_same, List.cons_ne_nil _ _, sz (show 3 ≤ 1000 by decide), fun e => absurd e (List.cons_ne_nil _ _), fun _ r hr2 => ?_⟩
   have s3 := Same.upd (o := .tup ([x, b'] ++ [V.ref b])) hr2
   exact ⟨R, _, _, rfl, rfl, s3 _ _ (s2 _ _ hR1), sz (by omega), kq r b _ (s1.trans (s2.trans s3)) upd_same (s3 _ _ (s2 _ _ upd_same))⟩
end
end T13
namespace T13
open PySem L2 Tc
section
variable {P : Program} {w : World} {K : PySem.W.Frag} {mg : Str → Option Value} {base : Heap}
noncomputable abbrev s_read_rows : Stmt := top 40
theorem sc_read_rows : FnScope ["rows", "blocks", "rules", "row", "words"] ["rows"] (defScope s_read_rows) := ⟨rfl, rfl, rfl, by decide +kernel, rfl, by decide +kernel, by decide +kernel⟩
theorem ok_read_rows {ca : Ca} (D : DefAt K mg "read_rows" s_read_rows) (T : Txt K mg ca) (G_rule_head : FnAt P w K mg base (CXE P w) 3 "rule_head" ["words", "blocks", "rules"] (spRh13 K ca.NoText)) (G_times_head : FnAt P w K mg base (CXE P w) 2 "times_head" ["words", "blocks"] (spTh13 K ca.NoText)) (G_end_block : FnAt P w K mg base (CXE P w) 1 "end_block" ["blocks", "rules"] (spEn13 K ca.NoText)) (G_deed_read : FnAt P w K mg base (CXE P w) 5 "deed_read" ["words"] (spDr13 K ca.NoText)) : FnAt P w K mg base (CXE P w) 6 "read_rows" ["rows"] (spRr13 K ca.NoText) := by
 refine D.okE sc_read_rows (fun vs H Q E h => ?_) (fun _ _ _ _ _ _ us hl => match us, hl with | [_], _ => rfl) (fun f cdv A outer s H vs Q E hr h => ?_)
 ·obtain ⟨a, rows, rfl, hS, hrn, hrz, k, kE⟩ := h; rfl
 ·obtain ⟨a, rows, rfl, hS, hrn, hrz, k, kE⟩ := h
  have nd := sc_read_rows.nd
  refine ⟨_, (@pss_cons _ _ _ _ _ (@ps_set _ _ 1 _ _ _ _ nd rfl (Or.inl rfl) (@pe_lst _ _ _ _ (@pa_cons _ _ _ _ _ (@pe_tup _ _ _ _ _ (@pa_cons _ _ _ _ _ pe_str (@pa_cons _ _ _ _ _ pe_non (@pa_cons _ _ _ _ _ (@pe_lst _ _ _ _ pa_nil) pa_nil (by rfl)) (by rfl)) (by rfl))) pa_nil (by rfl))) (by rfl) (Or.inl rfl))
   (@pss_cons _ _ _ _ _ (@ps_set _ _ 2 _ _ _ _ nd rfl (Or.inl rfl) (@pe_lst _ _ _ _ pa_nil) (by rfl) (Or.inl rfl))
   (@pss_cons _ _ _ _ _ (ps_for PassesOwn.leaving rfl (pi_list' (K := K) rfl (pv 0)) (pg_name (i := 3) nd rfl (Or.inl rfl)) (@pss_cons _ _ _ _ _ (@ps_set _ _ 4 _ _ _ _ nd rfl (Or.inl rfl) (pe_bm' (K := K) rfl PySem.F.plainAttrs_str PySem.F.slot_str_split PySem.F.type_str_split mt_split (pv 3) (@pa_cons _ _ _ _ _ pe_str pa_nil (by rfl))) (by rfl) (Or.inl rfl))
   (@pss_one _ _ _ (ps_if (pt_cmpR op_eq (pe_ix (ix_list' (K := K) rfl) (pv 4) pe_int (fun _ _ => rfl)) pe_str (nomark _)) (@pss_one _ _ _ (ps_expr (pe_bm PySem.F.plainAttrs_list PySem.F.slot_list_append PySem.F.type_list_append mt_append (pv 1) (@pa_cons _ _ _ _ _ (pe_fn G_rule_head hr (by rfl) passE (@pa_cons _ _ _ _ _ (pv 4) (@pa_cons _ _ _ _ _ (pv 1) (@pa_cons _ _ _ _ _ (pv 2) pa_nil (by rfl)) (by rfl)) (by rfl))) pa_nil (by rfl))))) (@pss_one _ _ _ (ps_if (pt_cmpR op_eq (pe_ix (ix_list' (K := K) rfl) (pv 4) pe_int (fun _ _ => rfl)) pe_str (nomark _)) (@pss_one _ _ _ (ps_expr (pe_bm PySem.F.plainAttrs_list PySem.F.slot_list_append PySem.F.type_list_append mt_append (pv 1) (@pa_cons _ _ _ _ _ (pe_fn G_times_head hr (by rfl) passE (@pa_cons _ _ _ _ _ (pv 4) (@pa_cons _ _ _ _ _ (pv 1) pa_nil (by rfl)) (by rfl))) pa_nil (by rfl))))) (@pss_one _ _ _ (ps_if (pt_cmpR (op_eqSs (K := K) rfl hr) (pv 4) (@pe_lst _ _ _ _ (@pa_cons _ _ _ _ _ pe_str pa_nil (by rfl))) (nomark _)) (@pss_one _ _ _ (ps_expr (pe_fn G_end_block hr (by rfl) passE (@pa_cons _ _ _ _ _ (pv 1) (@pa_cons _ _ _ _ _ (pv 2) pa_nil (by rfl)) (by rfl))))) (@pss_one _ _ _ (ps_expr (pe_bm PySem.F.plainAttrs_list PySem.F.slot_list_append PySem.F.type_list_append mt_append (pe_ix (ix_tup' (K := K) rfl) (pe_ix (ix_list' (K := K) rfl) (pv 1) (@pe_op _ _ _ _ _ _ _ _ op_sub (pe_callB (call_len' (K := K) rfl) (by rfl) T.z_len PySem.boot_len (@pa_cons _ _ _ _ _ (pv 1) pa_nil (by rfl))) pe_int) (fun _ _ => rfl)) pe_int (fun _ _ => rfl)) (@pa_cons _ _ _ _ _ (pe_fn G_deed_read hr (by rfl) passE (@pa_cons _ _ _ _ _ (pv 4) pa_nil (by rfl))) pa_nil (by rfl)))))))))))))
   (@pss_cons _ _ _ _ _ (ps_if (pt_cmpR op_gt (pe_callB (call_len' (K := K) rfl) (by rfl) T.z_len PySem.boot_len (@pa_cons _ _ _ _ _ (pv 1) pa_nil (by rfl))) pe_int (nomark _)) (@pss_one _ _ _ (ps_raise raises_cx rfl (by rfl) T.c_NoText T.e_NoText PySem.F.excBase_ValueError (@pa_cons _ _ _ _ _ pe_str pa_nil (by rfl)))) pss_nil)
   (@pss_one _ _ _ (ps_ret (@pe_tup _ _ _ _ _ (@pa_cons _ _ _ _ _ (pe_callTy (call_tuple_of' (K := K) rfl) (by rfl) T.z_tuple bt_tuple (@pa_cons _ _ _ _ _ (pv 2) pa_nil (by rfl))) (@pa_cons _ _ _ _ _ (pe_callTy (call_tuple_of' (K := K) rfl) (by rfl) T.z_tuple bt_tuple (@pa_cons _ _ _ _ _ (pe_ix (ix_tup' (K := K) rfl) (pe_ix (ix_list' (K := K) rfl) (pv 1) pe_int (fun _ _ => rfl)) pe_int (fun _ _ => rfl)) pa_nil (by rfl))) pa_nil (by rfl)) (by rfl))))))))), ?_⟩
  refine ⟨sz (by simp), fun L0 hL0 => ⟨sz (by simp), fun k0 hk0 => ⟨sz (by simp), fun B hB => ?_⟩⟩⟩
  refine ⟨sz (by simp), fun R hR => ?_⟩
  have i1 := Same.upd (o := .lst []) hL0
  have i2 := Same.upd (o := .tup [.str (Str.ofString "script"), .non, .ref L0]) hk0
  have i3 := Same.upd (o := .lst [.ref k0]) hB
  have i4 := Same.upd (o := .lst []) hR
  have i0 := i1.trans (i2.trans (i3.trans i4))
  have nB0 : L0 ≠ B := ne_of_none (i2 _ _ upd_same) hB
  have nR0 : L0 ≠ R := ne_of_none (i3 _ _ (i2 _ _ upd_same)) hR
  have nBR : B ≠ R := ne_of_none upd_same hR
  have fB : H B = none := (i1.trans i2).free hB
  have fR : H R = none := (i1.trans (i2.trans i3)).free hR
  refine ⟨_, rfl, a, rfl, ⟨_, i0.seq hS⟩, ?_⟩
  refine for_list (xs := rows.map V.str) (fun i σ H1 => ∃ (v3 v4 : Option V) (s : Ms), σ = [some (.ref a), some (.ref B), some (.ref R), v3, v4] ∧ Same H H1 ∧ mrun (rows.take i) = some s ∧ s.ts.length ≤ i ∧ s.rls.length ≤ i ∧ In13 H H1 B R s) ⟨none, none, ms0, rfl, i0, rfl, Nat.le_refl _, Nat.le_refl _, ?_⟩ ?_ ?_ ?_
  ·refine ⟨[], _, [L0], [.ref k0], [], .base (i4 _ _ (i3 _ _ upd_same)) (i4 _ _ (i3 _ _ (i2 _ _ upd_same))) .nil, fun L hL => ?_, i4 _ _ upd_same, upd_same, .nil, .inl ⟨rfl, rfl, rfl⟩⟩
   rw [List.mem_singleton.mp hL]; exact ⟨hL0, nB0, nR0⟩
  ·rintro i σ H1 hi ⟨v3, v4, s, rfl, s1, _⟩
   exact s1.seq hS
  ·rintro i x σ H1 hx ⟨v3, v4, s, rfl, s1, hrun, hts, hrs, pf, b0, Ls, ks, rv, st, hLs, hB1, hR1, hP, hM⟩
   rw [List.getElem?_map] at hx
   obtain ⟨row, hrow, rfl⟩ := Option.map_eq_some_iff.mp hx
   have hi : i < rows.length := (List.getElem?_eq_some_iff.mp hrow).1
   have hrl := hrz row (List.mem_of_getElem? hrow)
   have hnx := mrun_next hrow hrun
   have bad : msR s row = none → ∀ H', Same H H' → E (.ref ca.NoText) none H' := fun z => kE fun s' hs' => by
    rw [mrun_none (i := i + 1) (by rw [hnx]; exact z)] at hs'
    cases hs'
   refine ⟨_, rfl, rfl, row, Str.ofString " ", rfl, rfl, (by decide), by omega, fun wl hwl => ?_⟩
   have hpos := PyProof.Rows.split_pos row (Str.ofString " ")
   have hml : ∀ z ∈ Txt.split row (Str.ofString " "), z.length ≤ 900000 := fun z hz => by
    have := split_mem_len (by decide) hz
    omega
   unfold msR at hnx bad
   generalize Txt.split row (Str.ofString " ") = ws at *
   obtain ⟨u, r, rfl⟩ : ∃ u r, ws = u :: r := by
    cases ws with
    | nil => exact absurd hpos (by decide)
    | cons u r => exact ⟨u, r, rfl⟩
   have hrw : ∀ z ∈ r, z.length ≤ 1000000 := fun z hz => Nat.le_trans (hml z (.tail _ hz)) (by decide)
   have sw := Same.upd (o := .lst ((u :: r).map V.str)) hwl
   have hw : upd H1 wl (.lst ((u :: r).map V.str)) wl = some (.lst ((u :: r).map V.str)) := upd_same
   obtain ⟨z0, v0, zp, rfl, hz0, hpf, hpz, hp0⟩ := hM.heads
   have hdeep := st.deep
   refine ⟨_, rfl, wl, _, 0, _, rfl, rfl, SqL.of hw, at_0 _ _, rfl, _, rfl, ?_⟩
   have e0 : ms1 s (u :: r) = if u = Str.ofString "rule" then msRule s r else if u = Str.ofString "times" then msTimes s r else if u :: r = [Str.ofString "end"] then msEnd s else msDeed s (u :: r) := rfl
   refine ite2 (fun h => ?_) (fun h => ?_)
   ·rw [if_pos (V.str.inj (of_decide_eq_true h))] at e0
    obtain ⟨k6, L6, vs6, rest, er, a6, b6, h61, h62⟩ := st.bot
    obtain ⟨kf, Lf, zf, vf, vsf, bsf, hBf, hkf, hLf, hone⟩ : ∃ (kf Lf : Addr) (zf vf : V) (vsf bsf : List V), pf ++ ks.reverse = .ref kf :: bsf ∧ H1 kf = some (.tup [zf, vf, .ref Lf]) ∧ H1 Lf = some (.lst vsf) ∧ (bsf.isEmpty && vsf.isEmpty) = (s.cur.isNone && decide (s.d = 8) && s.ts.isEmpty) := by
     rcases hM with ⟨ec, rfl, eb⟩ | ⟨k0', L0', q, b, x, ps, ec, rfl, eb, h5, h6, _⟩
     ·refine ⟨k6, L6, _, _, vs6, rest, er, a6, b6, ?_⟩
      rw [ec]
      by_cases hd : s.d = 8
      ·obtain ⟨q1, q2⟩ := h62 hd
       rw [q1, q2, decide_eq_true hd]; rfl
      ·have hne := h61 (by omega)
       rw [decide_eq_false hd]
       cases rest with
       | nil => exact absurd rfl hne
       | cons _ _ => rfl
     ·refine ⟨k0', L0', _, _, [], ks.reverse, rfl, h5, h6, ?_⟩
      rw [ec, er]; rfl
    rw [hBf] at hB1
    refine ⟨_, rfl, .inl ⟨rfl, _, SqL.of (sw _ _ hB1)⟩, _, rfl, _, rfl, _, rfl, wl, B, R, kf, Lf, u, r, zf, vf, bsf, vsf, rv, s.rls, rfl, SqL.of hw, hrw, sw _ _ hB1, sw _ _ hkf, sw _ _ hLf, sw _ _ hR1, Paired.mapP hP (fun _ _ h => h.ts sw.ts), by omega, fun hok p q b L H2 s2 hp hq hb hL hf => ?_, fun hno H2 s2 => bad ?_ H2 (s1.trans (sw.trans s2))⟩
    ·rw [hone] at hok
     have es : ms1 s (u :: r) = some ⟨s.rls, some (r.headD (Str.ofString ""), r.tail), [], 8⟩ := by rw [e0]; exact if_pos hok
     have h3 : (s.cur.isNone && decide (s.d = 8) && s.ts.isEmpty) = true := by
      unfold rhOk at hok
      rw [Bool.and_eq_true, Bool.and_eq_true, Bool.and_eq_true, Bool.and_eq_true] at hok
      exact hok.1.1.1.1
     rw [Bool.and_eq_true, Bool.and_eq_true] at h3
     obtain ⟨⟨hc, hd⟩, hte⟩ := h3
     have hd := of_decide_eq_true hd
     rcases hM with ⟨ec, rfl, eb⟩ | ⟨_, _, _, _, _, _, ec, _⟩
     rotate_left
     ·rw [ec] at hc; cases hc
     obtain ⟨k5, L5, vs5, rfl, rfl, a5, b5, c5⟩ := st.one hd
     have ev : vs5 = [] := by
      have := c5.emp
      rw [hte] at this
      exact List.isEmpty_iff.mp this
     subst ev
     have s3 := sw.trans s2
     have hBf' : [V.ref k5] = V.ref kf :: bsf := hBf
     obtain ⟨e5, e6⟩ := List.cons.inj hBf'
     have e5 := V.ref.inj e5
     subst e5 e6
     have hB3 := s3 _ _ hB1
     have fL : H1 L = none := sw.free hf
     have nLB : L ≠ B := (ne_of_none hB1 fL).symm
     have nL := hLs L5 (.head _)
     have tS : TSame H1 (upd H2 B (.lst ([V.ref k5] ++ [.ref p]))) := fun c xs hc => TSame.updL hB3 c xs (s3 _ _ hc)
     refine ⟨B, _, _, rfl, rfl, hB3, sz (by simp), _, _, _, rfl, (s1.trans s3).updD fB, hnx.trans es, Nat.zero_le _, by show s.rls.length ≤ i + 1; omega, ?_⟩
     obtain ⟨e8, e9⟩ := List.cons.inj eb
     have e8 := V.str.inj e8
     have e9 := (List.cons.inj e9).1
     subst e8 e9
     refine ⟨[.ref k5], [.str (Str.ofString "rule"), .ref q], [L], [.ref p], rv, .base (TSame.updL hB3 _ _ hp) (by rw [upd_ne nLB]; exact hL) .nil, fun L3 h3 => ?_, upd_same, (by rw [upd_ne (Ne.symm nBR)]; exact s3 _ _ hR1), Paired.mapP hP fun _ _ h => h.ts tS, .inr ⟨k5, L5, q, b, _, _, rfl, rfl, rfl, tS _ _ a5, ?_, ?_, nL.1, nL.2.1, nL.2.2, TSame.updL hB3 _ _ hq, TSame.updL hB3 _ _ hb⟩⟩
     ·rw [List.mem_singleton.mp h3]
      exact ⟨s1.free fL, nLB, (ne_of_none hR1 fL).symm⟩
     ·rw [upd_ne nL.2.1]; exact s3 _ _ b5
     ·intro hm
      rw [← List.mem_singleton.mp hm, b5] at fL; cases fL
    ·rw [hone] at hno
     rw [e0]
     exact if_neg (by rw [hno]; decide)
   have nr : u ≠ Str.ofString "rule" := fun z => h (decide_eq_true (congrArg V.str z))
   rw [if_neg nr] at e0
   refine ⟨_, rfl, wl, _, 0, _, rfl, rfl, SqL.of hw, at_0 _ _, rfl, _, rfl, ?_⟩
   refine ite2 (fun h => ?_) (fun h => ?_)
   ·rw [if_pos (V.str.inj (of_decide_eq_true h))] at e0
    obtain ⟨zs, hkz, hzl⟩ := st.kz hz0
    have hPz : Paired (Kz H1) (pf ++ ks.reverse) (zp ++ zs.reverse) := Paired.app hpz (paired_rev hkz)
    have hcnt : ((zp ++ zs.reverse).filter isTm).length = 8 - s.d := by
     rw [List.filter_append, List.length_append, hp0, List.filter_reverse, List.length_reverse, hzl]; omega
    refine ⟨_, rfl, .inl ⟨rfl, _, SqL.of (sw _ _ hB1)⟩, _, rfl, _, rfl, wl, B, u, r, pf ++ ks.reverse, zp ++ zs.reverse, rfl, SqL.of hw, hrw, sw _ _ hB1, Paired.mapP hPz (fun _ _ h => h.ts sw.ts), ?_, fun n hn p L2 H2 s2 hp2 hL2 hf2 => ?_, fun hn H2 s2 => bad ?_ H2 (s1.trans (sw.trans s2))⟩
    ·rw [List.length_append, List.length_reverse]; omega
    ·rw [hcnt] at hn
     have es : ms1 s (u :: r) = some ⟨s.rls, s.cur, s.ts ++ [.op (n : Nat)], s.d - 1⟩ := by
      rw [e0]
      unfold msTimes
      rw [hn]
     have hnd : n ≤ 60 ∧ 0 < s.d := by
      unfold thR at hn
      split at hn
      ·cases hwr : wr (r.headD (Str.ofString "")) with
       | none => rw [hwr] at hn; cases hn
       | some m =>
        rw [hwr] at hn
        have hn : (if m ≤ 60 ∧ 8 - s.d ≠ 8 then some m else none) = some n := hn
        split at hn
        ·rename_i hq
         have := Option.some.inj hn
         omega
        ·cases hn
      ·cases hn
     have s3 := sw.trans s2
     have fL2 : H1 L2 = none := sw.free hf2
     have hB3 := s3 _ _ hB1
     have tS : TSame H1 (upd H2 B (.lst (pf ++ ks.reverse ++ [.ref p]))) := fun c xs hc => TSame.updL hB3 c xs (s3 _ _ hc)
     have nL2 : L2 ≠ B := (ne_of_none hB1 fL2).symm
     refine ⟨B, _, _, rfl, rfl, hB3, sz ?_, _, _, _, rfl, (s1.trans s3).updD fB, hnx.trans es, by show (s.ts ++ [_]).length ≤ i + 1; rw [List.length_append, List.length_singleton]; omega, by show s.rls.length ≤ i + 1; omega, ?_⟩
     ·rw [List.length_append, List.length_reverse]; omega
     refine ⟨pf, _, L2 :: Ls, .ref p :: ks, rv, ?_, ?_, ?_, ?_, Paired.mapP hP fun _ _ h => h.ts tS, hM.mono tS fun L1 h1 h2 h3 h4 => ⟨?_, ?_⟩⟩
     ·show Stk _ _ _ (s.d - 1) _ _ (s.ts ++ [.op (n : Nat)])
      obtain ⟨d1, hd1⟩ : ∃ d1, s.d = d1 + 1 := ⟨s.d - 1, by omega⟩
      rw [hd1] at st ⊢
      refine .up (st.mono tS fun L3 h3 o ho => ?_) (TSame.updL hB3 _ _ hp2) (by omega) (by omega) ?_ .nil ?_
      ·rw [upd_ne (hLs L3 h3).2.1]; exact s3 _ _ ho
      ·rw [upd_ne nL2]; exact hL2
      ·intro hm
       obtain ⟨_, e⟩ := st.lists L2 hm
       rw [fL2] at e; cases e
     ·intro L3 h3
      rcases List.mem_cons.mp h3 with rfl | h3
      ·exact ⟨s1.free fL2, nL2, (ne_of_none hR1 fL2).symm⟩
      ·exact hLs L3 h3
     ·rw [upd_same]; simp
     ·rw [upd_ne (Ne.symm nBR)]; exact s3 _ _ hR1
     ·rw [upd_ne h3]; exact s3 _ _ h1
     ·intro hm
      rcases List.mem_cons.mp hm with rfl | hm
      ·rw [fL2] at h1; cases h1
      ·exact h2 hm
    ·rw [hcnt] at hn
     rw [e0]
     unfold msTimes
     rw [hn]
   have nt : u ≠ Str.ofString "times" := fun z => h (decide_eq_true (congrArg V.str z))
   rw [if_neg nt] at e0
   refine ⟨_, rfl, sz (show 1 ≤ 1000 by decide), fun e he => ?_⟩
   have s2 := Same.upd (o := .lst [.str (Str.ofString "end")]) he
   have s3 := sw.trans s2
   refine ⟨wl, e, u :: r, [Str.ofString "end"], rfl, rfl, SqL.of (s2 _ _ hw), SqL.of upd_same, _, rfl, ?_⟩
   refine ite2 (fun h => ?_) (fun h => ?_)
   ·rw [if_pos (of_decide_eq_true h)] at e0
    by_cases hd : s.d < 8
    ·have es : ms1 s (u :: r) = some ⟨s.rls, s.cur, s.ts ++ [.cl], s.d + 1⟩ := by rw [e0]; exact if_pos hd
     obtain ⟨n, k5, L5, us, k2, kr2, L2, Lr2, vs2, bb2, e1, e2, hk5, hL5, hk2, hbb2, hL2, hv2, fin⟩ := st.close (m := 2) hd rfl rfl
     obtain ⟨b1, b2, rfl⟩ : ∃ b1 b2, bb2 = [b1, b2] := by
      match bb2, hbb2 with
      | [b1, b2], _ => exact ⟨b1, b2, rfl⟩
     rw [e2] at hLs hM
     rw [e1] at hB1
     have nL5 := hLs L5 (.head _)
     have nL2 := hLs L2 (.tail _ (.head _))
     have hB4 : H1 B = some (.lst ((pf ++ kr2.reverse ++ [.ref k2]) ++ [.ref k5])) := by rw [hB1]; simp
     have eB : pf ++ kr2.reverse ++ [V.ref k2] = pf ++ (V.ref k2 :: kr2).reverse := by simp
     refine ⟨_, rfl, _, rfl, B, R, pf ++ kr2.reverse ++ [.ref k2], k5, L5, Str.ofString "times", .int n, us, rfl, s3 _ _ hB4, fun z => absurd z (by simp), s3 _ _ hk5, s3 _ _ hL5, nL5.2.1, fun _ => .inl ⟨rfl, pf ++ kr2.reverse, k2, L2, b1, b2, vs2, rfl, s3 _ _ hk2, s3 _ _ hL2, ?_, nL2.2.1, fun a6 b6 H6 s6 h6 h7 => ?_⟩⟩
     ·omega
     have kp : ∀ c o, c ≠ B → H1 c = some o → H6 c = some o := fun c o hc h => s6 _ _ (by rw [upd_ne hc]; exact s3 _ _ h)
     have tS6 : TSame H1 H6 := fun c xs hc => kp c _ (by rintro rfl; rw [hB1] at hc; cases hc) hc
     have hL6 := kp _ _ nL2.2.1 hL2
     have tS : TSame H1 (upd H6 L2 (.lst (vs2 ++ [.ref a6]))) := fun c xs hc => TSame.updL hL6 c xs (tS6 c xs hc)
     refine ⟨_, _, _, rfl, ?_, hnx.trans es, by show (s.ts ++ [_]).length ≤ i + 1; rw [List.length_append, List.length_singleton]; omega, by show s.rls.length ≤ i + 1; omega, ?_⟩
     ·exact Same.updD (fun c o hc => kp c o (ne_of_none hc fB) (s1 _ _ hc)) nL2.1
     refine ⟨pf, _, L2 :: Lr2, .ref k2 :: kr2, rv, fin H6 tS6 (fun L3 h3 o ho => kp L3 o (hLs L3 (.tail _ h3)).2.1 ho) a6 b6 h6 h7, fun L3 h3 => hLs L3 (.tail _ h3), ?_, ?_, Paired.mapP hP fun _ _ h => h.ts tS, hM.mono tS fun L1 h1 h2 h3 h4 => ⟨?_, fun hm => h2 (.tail _ hm)⟩⟩
     ·rw [upd_ne (Ne.symm nL2.2.1), ← eB]; exact s6 _ _ upd_same
     ·rw [upd_ne (Ne.symm nL2.2.2)]; exact kp _ _ (Ne.symm nBR) hR1
     ·have ne : L1 ≠ L2 := by rintro rfl; exact h2 (.tail _ (.head _))
      rw [upd_ne ne]; exact kp _ _ h3 h1
    have hd8 : s.d = 8 := by omega
    obtain ⟨k6, L6, vs6, rfl, rfl, a6, b6, c6⟩ := st.one hd8
    have nL := hLs L6 (.head _)
    have e0 : ms1 s (u :: r) = (match s.cur with | some c => some ⟨s.rls ++ [(c.1, c.2, s.ts)], none, [], 8⟩ | none => none) := by rw [e0]; exact if_neg hd
    rcases hM with ⟨ec, rfl, eb⟩ | ⟨k5, L5, q, b, x, ps, ec, rfl, eb, h5, h6, h7, h8, h9, h10, h11, h12⟩
    ·rw [ec] at e0
     have hB4 : H1 B = some (.lst ([] ++ [.ref k6])) := hB1
     exact ⟨_, rfl, _, rfl, B, R, [], k6, L6, z0, v0, vs6, rfl, s3 _ _ hB4, fun _ => bad e0 _ (s1.trans s3), s3 _ _ a6, s3 _ _ b6, nL.2.1, fun z => absurd rfl z⟩
    ·rw [ec] at e0
     have es : ms1 s (u :: r) = some ⟨s.rls ++ [(x, ps, s.ts)], none, [], 8⟩ := e0
     obtain ⟨e8, eb2⟩ := List.cons.inj eb
     have e8 := V.str.inj e8
     have eb2 := (List.cons.inj eb2).1
     subst e8 eb2
     have hB4 : H1 B = some (.lst ([V.ref k5] ++ [.ref k6])) := hB1
     refine ⟨_, rfl, _, rfl, B, R, [.ref k5], k6, L6, Str.ofString "rule", .ref q, vs6, rfl, s3 _ _ hB4, fun z => absurd z (List.cons_ne_nil _ _), s3 _ _ a6, s3 _ _ b6, nL.2.1, fun _ => .inr ⟨rfl, q, .str x, .ref b, rv, rfl, s3 _ _ h11, s3 _ _ hR1, ?_, Ne.symm nBR, fun a7 b7 H7 s7 g7 g8 => ?_⟩⟩
     ·rw [hP.length]; omega
     have tB : TSame H1 (upd (upd (upd H1 wl _) e _) B (.lst [.ref k5])) := fun c xs hc => TSame.updL (s3 _ _ hB4) c xs (s3 _ _ hc)
     have tS7 : TSame H1 H7 := fun c xs hc => s7 _ _ (tB c xs hc)
     have hR7 : H7 R = some (.lst rv) := s7 _ _ (by rw [upd_ne (Ne.symm nBR)]; exact s3 _ _ hR1)
     have tR := TSame.updL (o := .lst (rv ++ [.ref a7])) hR7
     refine ⟨_, _, _, rfl, ?_, hnx.trans es, Nat.zero_le _, by show (s.rls ++ [_]).length ≤ i + 1; rw [List.length_append, List.length_singleton]; omega, ?_⟩
     ·refine Same.updD (fun c o hc => s7 _ _ ?_) fR
      have : c ≠ B := ne_of_none hc fB
      rw [upd_ne this]; exact s3 _ _ (s1 _ _ hc)
     refine ⟨[], _, [L5], [.ref k5], rv ++ [.ref a7], .base (b0 := [.str (Str.ofString "script"), .non]) (tR _ _ (tS7 _ _ h5)) ?_ .nil, ?_, ?_, upd_same, ?_, .inl ⟨rfl, rfl, rfl⟩⟩
     ·rw [upd_ne h10]; exact s7 _ _ (by rw [upd_ne h9]; exact s3 _ _ h6)
     ·intro L3 h3
      rw [List.mem_singleton.mp h3]; exact ⟨h8, h9, h10⟩
     ·rw [upd_ne nBR]; exact s7 _ _ upd_same
     ·have c6' : Rp H1 8 vs6 s.ts := c6
      exact (Paired.mapP hP fun _ _ h => h.ts (fun c xs hc => tR c xs (tS7 c xs hc))).snoc ⟨a7, b, b7, vs6, rfl, tR _ _ g7, tR _ _ (tS7 _ _ h12), tR _ _ g8, (c6'.ts tS7).ts tR⟩
   have ne : ¬ u :: r = [Str.ofString "end"] := fun z => h (decide_eq_true z)
   rw [if_neg ne] at e0
   obtain ⟨kk, kr, L, Lr, vs, bb, rfl, rfl, hkk, hbb, hL, hvl, kst⟩ := st.top (m := 2) rfl rfl
   have hB2 : H1 B = some (.lst ((pf ++ kr.reverse) ++ [.ref kk])) := by rw [hB1]; simp
   have nL := hLs L (.head _)
   refine ⟨_, rfl, _, rfl, _, _, rfl, .inl ⟨_, SqL.of (s3 _ _ hB2), rfl⟩, _, _, rfl, rfl, B, _, _, _, rfl, rfl, SqL.of (s3 _ _ hB2), at_end _ _, kk, _, 2, _, rfl, rfl, SqT.of (s3 _ _ hkk), at2 hbb, .inl ⟨rfl, _, SqL.of (s3 _ _ hL)⟩, _, rfl, wl, u :: r, rfl, SqL.of (s2 _ _ hw), List.cons_ne_nil _ _, hml, fun p hp v H2 s4 hv => ?_, fun hn H2 s4 => bad ?_ H2 (s1.trans (s3.trans s4))⟩
   ·have es : ms1 s (u :: r) = some ⟨s.rls, s.cur, s.ts ++ [.pl p], s.d⟩ := by
     rw [e0]
     unfold msDeed
     rw [hp]
    have s5 := s3.trans s4
    have tS : TSame H1 (upd H2 L (.lst (vs ++ [v]))) := fun c xs hc => TSame.updL (s5 _ _ hL) c xs (s5 _ _ hc)
    refine ⟨L, _, _, rfl, rfl, s5 _ _ hL, sz (by omega), _, _, _, rfl, (s1.trans s5).updD nL.1, hnx.trans es, by show (s.ts ++ [_]).length ≤ i + 1; rw [List.length_append, List.length_singleton]; omega, by show s.rls.length ≤ i + 1; omega, ?_⟩
    refine ⟨pf, _, L :: Lr, .ref kk :: kr, rv, kst H2 s5.ts (fun _ _ o ho => s5 _ _ ho) v [.pl p] (.pl hv (dr_ok hp).1 .nil), hLs, ?_, ?_, Paired.mapP hP fun _ _ h => h.ts tS, hM.mono tS fun L1 h1 h2 h3 h4 => ⟨?_, h2⟩⟩
    ·rw [upd_ne (Ne.symm nL.2.1)]; exact s5 _ _ hB1
    ·rw [upd_ne (Ne.symm nL.2.2)]; exact s5 _ _ hR1
    ·have ne : L1 ≠ L := by rintro rfl; exact h2 (.head _)
     rw [upd_ne ne]; exact s5 _ _ h1
   ·rw [e0]
    unfold msDeed
    rw [hn]
  ·rintro σ H1 ⟨v3, v4, s, rfl, s1, hrun, hts, hrs, pf, b0, Ls, ks, rv, st, hLs, hB1, hR1, hP, hM⟩
   rw [List.length_map, List.take_length] at hrun
   rw [List.length_map] at hts hrs
   have hdeep := st.deep
   refine ⟨_, rfl, _, _, rfl, .inl ⟨_, SqL.of hB1, rfl⟩, _, _, rfl, rfl, _, rfl, ?_⟩
   by_cases hend : s.cur = none ∧ s.d = 8
   ·rcases hM with ⟨ec, rfl, rfl⟩ | ⟨_, _, _, _, _, _, ec, _⟩
    rotate_left
    ·rw [hend.1] at ec; cases ec
    obtain ⟨k6, L6, vs6, rfl, rfl, a6, b6, c6⟩ := st.one hend.2
    refine iteF ?_
    refine ⟨_, rfl, R, rv, rfl, .inl ⟨SqL.of hR1, fun a7 ha7 => ?_⟩⟩
    have s7 := Same.upd (o := .tup rv) ha7
    refine ⟨_, rfl, B, _, 0, _, rfl, rfl, SqL.of (s7 _ _ hB1), rfl, k6, _, 2, _, rfl, rfl, SqT.of (s7 _ _ a6), rfl, L6, vs6, rfl, .inl ⟨SqL.of (s7 _ _ b6), fun a8 ha8 => ⟨sz (show 2 ≤ 1000 by decide), fun p hp => ?_⟩⟩⟩
    have s8 := Same.upd (o := .tup vs6) ha8
    have s9 := Same.upd (o := .tup [.ref a7, .ref a8]) hp
    have sx := s7.trans (s8.trans s9)
    exact k s hrun hend.1 hend.2 _ _ (s1.trans sx) ⟨p, a7, a8, rv, vs6, rfl, upd_same, s9 _ _ (s8 _ _ upd_same), Paired.mapP hP (fun _ _ h => h.ts sx.ts), s9 _ _ upd_same, c6.ts sx.ts⟩
   ·have hlen : 1 < (pf ++ ks.reverse).length := by
     rw [List.length_append, List.length_reverse]
     rcases hM with ⟨ec, rfl, _⟩ | ⟨_, _, _, _, _, _, _, rfl, _⟩
     ·have : s.d ≠ 8 := fun z => hend ⟨ec, z⟩
      simp only [List.length_nil]
      omega
     ·simp only [List.length_cons, List.length_nil]
      omega
    refine ite2 (fun _ => ⟨sz (by simp), kE (fun s' hs' => ?_) H1 s1⟩) (fun h => absurd (decide_eq_true (show (1 : Int) < (((pf ++ ks.reverse).length : Nat) : Int) by omega)) h)
    rw [hrun] at hs'
    rw [← Option.some.inj hs']
    exact hend
end
end T13
namespace T13
open PySem L2 Tc
section
variable {P : Program} {w : World} {K : PySem.W.Frag} {mg : Str → Option Value} {base : Heap}
noncomputable abbrev s_read : Stmt := top 41
theorem sc_read : FnScope ["text", "rows"] ["text"] (defScope s_read) := ⟨rfl, rfl, rfl, by decide +kernel, rfl, by decide +kernel, by decide +kernel⟩
theorem ok_read {ca : Ca} (D : DefAt K mg "read" s_read) (T : Txt K mg ca) (G_read_rows : FnAt P w K mg base (CXE P w) 6 "read_rows" ["rows"] (spRr13 K ca.NoText)) : FnAt P w K mg base (CXE P w) 7 "read" ["text"] (spRd13 K ca.NoText) := by
 refine D.okE sc_read (fun vs H Q E h => ?_) (fun _ _ _ _ _ _ us hl => match us, hl with | [_], _ => rfl) (fun f cdv A outer s H vs Q E hr h => ?_)
 ·obtain ⟨v, n, rfl, hv, kn, kt⟩ := h; rfl
 ·obtain ⟨v, n, rfl, hv, kn, kt⟩ := h
  have nd := sc_read.nd
  refine ⟨_, (@pss_cons _ _ _ _ _ (ps_if (pt_not (pt_val (pe_callB (call_isi' (K := K) rfl) (by rfl) T.z_isinstance bt_isinstance (@pa_cons _ _ _ _ _ (pv 0) (@pa_cons _ _ _ _ _ (pe_bltn (v := .ty "str") (by rfl) T.z_str bt_str rfl) pa_nil (by rfl)) (by rfl))))) (@pss_one _ _ _ (ps_raise raises_cx rfl (by rfl) T.c_NoText T.e_NoText PySem.F.excBase_ValueError (@pa_cons _ _ _ _ _ pe_str pa_nil (by rfl)))) pss_nil)
   (@pss_cons _ _ _ _ _ (ps_if (pt_cmpR op_eq (pv 0) pe_str (nomark _)) (@pss_one _ _ _ (ps_ret (@pe_tup _ _ _ _ _ (@pa_cons _ _ _ _ _ (@pe_tup _ _ _ _ _ pa_nil) (@pa_cons _ _ _ _ _ (@pe_tup _ _ _ _ _ pa_nil) pa_nil (by rfl)) (by rfl))))) pss_nil)
   (@pss_cons _ _ _ _ _ (@ps_set _ _ 1 _ _ _ _ nd rfl (Or.inl rfl) (pe_bm' (K := K) rfl PySem.F.plainAttrs_str PySem.F.slot_str_split PySem.F.type_str_split mt_split (pv 0) (@pa_cons _ _ _ _ _ pe_str pa_nil (by rfl))) (by rfl) (Or.inl rfl))
   (@pss_cons _ _ _ _ _ (ps_if (pt_cmpR op_gt (pe_callB (call_len' (K := K) rfl) (by rfl) T.z_len PySem.boot_len (@pa_cons _ _ _ _ _ (pv 1) pa_nil (by rfl))) (pe_gint (by rfl) T.g_MOST_ROWS) (nomark _)) (@pss_one _ _ _ (ps_raise raises_cx rfl (by rfl) T.c_NoText T.e_NoText PySem.F.excBase_ValueError (@pa_cons _ _ _ _ _ pe_str pa_nil (by rfl)))) pss_nil)
   (@pss_one _ _ _ (ps_ret (pe_fn G_read_rows hr (by rfl) passE (@pa_cons _ _ _ _ _ (pv 1) pa_nil (by rfl))))))))), ?_⟩
  refine ⟨_, rfl, _, _, _, _, rfl, tyOf_of hv, kit_tt (tyS_mem hv) (by decide), _, rfl, ?_⟩
  by_cases hs : n = "str"
  ·subst hs
   obtain ⟨t, rfl⟩ := str_of hv
   obtain ⟨ht, k, kE⟩ := kt t rfl
   refine iteF ?_
   refine ⟨_, rfl, rfl, _, rfl, ?_⟩
   refine ite2 (fun h => ?_) (fun h => ?_)
   ·have h := V.str.inj (of_decide_eq_true h)
    refine ⟨sz (by simp), fun a ha => ⟨sz (by simp), fun b hb => ⟨sz (by simp), fun p hp => ?_⟩⟩⟩
    have s1 := Same.upd (o := .tup []) ha
    have s2 := Same.upd (o := .tup []) hb
    have s3 := Same.upd (o := .tup [.ref a, .ref b]) hp
    exact k [] [] (if_pos h) _ _ (s1.trans (s2.trans s3)) ⟨p, a, b, [], [], rfl, upd_same, s3 _ _ (s2 _ _ upd_same), .nil, s3 _ _ upd_same, .nil⟩
   have h0 : t ≠ Str.ofString "" := fun z => h (decide_eq_true (congrArg V.str z))
   have e0 : rdF t = if (Txt.split t (Str.ofString "\n")).length ≤ 300 then (mrun (Txt.split t (Str.ofString "\n"))).bind msFin else none := if_neg h0
   rw [e0] at kE
   have k := fun rls dts z => k rls dts (e0.trans z)
   have hml : ∀ z ∈ Txt.split t (Str.ofString "\n"), z.length ≤ 800000 := fun z hz => by
    have := split_mem_len (by decide) hz
    omega
   refine ⟨_, rfl, rfl, t, Str.ofString "\n", rfl, rfl, (by decide), by omega, fun p hp => ?_⟩
   generalize Txt.split t (Str.ofString "\n") = rows at *
   have s1 := Same.upd (o := .lst (rows.map V.str)) hp
   refine ⟨_, rfl, _, _, rfl, .inl ⟨_, SqL.of upd_same, rfl⟩, _, _, rfl, rfl, _, rfl, ?_⟩
   refine ite2 (fun h => ⟨sz (by simp), kE ?_ _ s1⟩) (fun h => ?_)
   ·have h : (300 : Int) < (((rows.map V.str).length : Nat) : Int) := of_decide_eq_true h
    rw [List.length_map] at h
    exact if_neg (by omega)
   have hl : rows.length ≤ 300 := by
    have h : ¬ (300 : Int) < (((rows.map V.str).length : Nat) : Int) := fun z => h (decide_eq_true z)
    rw [List.length_map] at h
    omega
   refine ⟨_, rfl, p, rows, rfl, SqL.of upd_same, hl, hml, fun s hs hc hd v H' s' hv => ?_, fun hn H' s' => kE ?_ H' (s1.trans s')⟩
   ·refine k s.rls s.ts ?_ v H' (s1.trans s') hv
    rw [if_pos hl, hs]
    exact if_pos ⟨hc, hd⟩
   ·rw [if_pos hl]
    cases hm : mrun rows with
    | none => rfl
    | some s => exact if_neg (hn s hm)
  ·have e := sub_str hs
   refine ite2 (fun _ => ⟨sz (by simp), kn hs _ (Same.refl _)⟩) (fun h => ?_)
   have h : ¬ (!(subS n "str")) = true := h
   rw [e] at h
   exact absurd rfl h
end
end T13
namespace T13
open PySem L2 Tc
section
variable {P : Program} {w : World} {K : PySem.W.Frag} {mg : Str → Option Value} {base : Heap}
noncomputable abbrev s_number_shown : Stmt := top 43
theorem sc_number_shown : FnScope ["number", "top", "bottom"] ["number"] (defScope s_number_shown) := ⟨rfl, rfl, rfl, by decide +kernel, rfl, by decide +kernel, by decide +kernel⟩
theorem ok_number_shown {ca : Ca} (D : DefAt K mg "number_shown" s_number_shown) (T : Txt K mg ca) : FnAt P w K mg base CX0 1 "number_shown" ["number"] (spShown K) := by
 refine D.ok sc_number_shown (fun vs H Q E h => ?_) (fun _ _ _ _ _ _ us hl => match us, hl with | [_], _ => rfl) (fun f cdv A outer s H vs Q E hr h => ?_)
 ·obtain ⟨a, x, y, rfl, hS, hx0, hx, hy0, hy, k⟩ := h; rfl
 ·obtain ⟨a, x, y, rfl, hS, hx0, hx, hy0, hy, k⟩ := h
  have nd := sc_number_shown.nd
  refine ⟨_, (@pss_cons _ _ _ _ _ (@ps_set _ _ 1 _ _ _ _ nd rfl (Or.inl rfl) (pe_ix (ix_tup' (K := K) rfl) (pv 0) pe_int (fun _ _ => rfl)) (by rfl) (Or.inl rfl))
   (@pss_cons _ _ _ _ _ (@ps_set _ _ 2 _ _ _ _ nd rfl (Or.inl rfl) (pe_ix (ix_tup' (K := K) rfl) (pv 0) pe_int (fun _ _ => rfl)) (by rfl) (Or.inl rfl))
   (@pss_cons _ _ _ _ _ (ps_if (pt_cmpR op_eq (pv 2) pe_int (nomark _)) (@pss_one _ _ _ (ps_ret (pe_js1 (pe_fmt (pv 1))))) pss_nil)
   (@pss_one _ _ _ (ps_ret (pe_js (.cons (pe_fmt (pv 1)) (.cons pe_str (.cons (pe_fmt (pv 2)) .nil))))))))), ?_⟩
  refine ⟨_, rfl, a, _, 0, _, rfl, rfl, hS, rfl, ?_⟩
  refine ⟨_, rfl, a, _, 1, _, rfl, rfl, hS, rfl, ?_⟩
  refine ⟨_, rfl, rfl, _, rfl, ?_⟩
  refine ite2 (fun h1 => ?_) (fun h1 => ?_)
  ·have e : y = 1 := by simpa using h1
   refine ⟨_, rfl, x, rfl, log_small hx0 hx, ?_⟩
   unfold numTxt at k
   rw [if_pos e] at k
   exact k
  ·have e : ¬ y = 1 := by simpa using h1
   unfold numTxt at k
   rw [if_neg e] at k
   have l1 := figs_len hx0 hx
   have l2 := figs_len (by omega) hy
   have ld := slash_len
   refine ⟨_, rfl, x, rfl, log_small hx0 hx, _, rfl, ?a, _, rfl, ?b, _, rfl, y, rfl, log_small (by omega) hy, _, rfl, ?c, ?d, ?e⟩
   case e =>
    have e0 : Str.empty ++ Str.ofString (toString x) = figs x := PySem.W.KT.empty_app _
    rw [e0]
    exact k
   all_goals simp only [strLen_append]
   all_goals have lx : (Str.ofString (toString x)).length ≤ 12 := l1
   all_goals have ly : (Str.ofString (toString y)).length ≤ 12 := l2
   all_goals have le : Str.empty.length = 0 := rfl
   all_goals omega
end
end T13
namespace T13
open PySem L2 Tc
section
variable {P : Program} {w : World} {K : PySem.W.Frag} {mg : Str → Option Value} {base : Heap}
noncomputable abbrev s_row_of : Stmt := top 44
theorem sc_row_of : FnScope ["deed", "words"] ["deed"] (defScope s_row_of) := ⟨rfl, rfl, rfl, by decide +kernel, rfl, by decide +kernel, by decide +kernel⟩
theorem ok_row_of {ca : Ca} (D : DefAt K mg "row_of" s_row_of) (T : Txt K mg ca) (G_number_shown : FnAt P w K mg base CX0 1 "number_shown" ["number"] (spShown K)) : FnAt P w K mg base CX0 2 "row_of" ["deed"] (spRowOf K) := by
 refine D.ok sc_row_of (fun vs H Q E h => ?_) (fun _ _ _ _ _ _ us hl => match us, hl with | [_], _ => rfl) (fun f cdv A outer s H vs Q E hr h => ?_)
 ·obtain ⟨v, d, rfl, hv, ok, k⟩ := h; rfl
 ·obtain ⟨v, d, rfl, hv, ok, k⟩ := h
  have nd := sc_row_of.nd
  refine ⟨_, (@pss_cons _ _ _ _ _ (@ps_set _ _ 1 _ _ _ _ nd rfl (Or.inl rfl) (pe_callTy (call_list_of' (K := K) rfl) (by rfl) T.z_list bt_list (@pa_cons _ _ _ _ _ (pv 0) pa_nil (by rfl))) (by rfl) (Or.inl rfl))
   (@pss_cons _ _ _ _ _ (ps_if (pt_cmpR op_eq (pe_ix (ix_tup' (K := K) rfl) (pv 0) pe_int (fun _ _ => rfl)) pe_str (nomark _)) (@pss_one _ _ _ (@ps_set _ _ 1 _ _ _ _ nd rfl (Or.inl rfl) (@pe_op _ _ _ _ _ _ _ _ op_cat (@pe_lst _ _ _ _ (@pa_cons _ _ _ _ _ pe_str (@pa_cons _ _ _ _ _ (pe_ix (ix_tup' (K := K) rfl) (pv 0) pe_int (fun _ _ => rfl)) pa_nil (by rfl)) (by rfl))) (pe_callTy (call_list_of' (K := K) rfl) (by rfl) T.z_list bt_list (@pa_cons _ _ _ _ _ (pe_ix (ix_tup' (K := K) rfl) (pv 0) pe_int (fun _ _ => rfl)) pa_nil (by rfl)))) (by rfl) (Or.inl rfl))) (@pss_one _ _ _ (ps_if (pt_cmpR (op_in_seq' (K := K) rfl) (pe_ix (ix_tup' (K := K) rfl) (pv 0) pe_int (fun _ _ => rfl)) (@pe_tup _ _ _ _ _ (@pa_cons _ _ _ _ _ pe_str (@pa_cons _ _ _ _ _ pe_str (@pa_cons _ _ _ _ _ pe_str pa_nil (by rfl)) (by rfl)) (by rfl))) (by rfl)) (@pss_one _ _ _ (ps_asg (pe_fn G_number_shown hr (by rfl) pass0 (@pa_cons _ _ _ _ _ (pe_ix (ix_tup' (K := K) rfl) (pv 0) pe_int (fun _ _ => rfl)) pa_nil (by rfl))) (pg_sub (pv 1) pe_int set_list))) pss_nil)))
   (@pss_one _ _ _ (ps_ret (pe_bm' (K := K) rfl PySem.F.plainAttrs_str PySem.F.slot_str_join PySem.F.type_str_join (mt_join' (K := K) rfl) pe_str (@pa_cons _ _ _ _ _ (pv 1) pa_nil (by rfl))))))), ?_⟩
  have rm := join_room (Pd.room ok).1 (Pd.room ok).2
  cases d with
  | year =>
   obtain ⟨a, rfl, ha⟩ := hv
   refine ⟨_, rfl, a, _, rfl, .inr (SqT.of ha), fun l hl => ?_⟩
   have h1 := (Same.upd (o := .lst [.str (Str.ofString "year")]) hl) _ _ ha
   refine ⟨_, rfl, a, _, 0, _, rfl, rfl, SqT.of h1, rfl, rfl, _, rfl, ?_⟩
   refine dec_false (by decide +kernel) ?_
   refine ⟨_, rfl, a, _, 0, _, rfl, rfl, SqT.of h1, rfl, sz (show 3 ≤ 1000 by decide), fun q hq => ⟨q, _, rfl, .inr (SqT.of upd_same), rfl, rfl, _, rfl, ?_⟩⟩
   refine ite2 (fun h => absurd h (by decide +kernel)) (fun _ => ?_)
   have s1 : Same H (upd (upd H l (.lst [.str (Str.ofString "year")])) q (.tup [.str (Str.ofString "bring"), .str (Str.ofString "move"), .str (Str.ofString "part")])) := (Same.upd hl).trans (Same.upd hq)
   exact ⟨rfl, _, rfl, _, l, [Str.ofString "year"], rfl, rfl, SqL.of ((Same.upd hq) _ _ upd_same), rm, k _ s1⟩
  | dor x ps =>
   obtain ⟨a, b, rfl, ha, hb⟩ := hv
   have hp8 := ok.2.2.1
   refine ⟨_, rfl, a, _, rfl, .inr (SqT.of ha), fun l hl => ?_⟩
   have s1 := Same.upd (o := .lst [.str (Str.ofString "do"), .str x, .ref b]) hl
   refine ⟨_, rfl, a, _, 0, _, rfl, rfl, SqT.of (s1 _ _ ha), rfl, rfl, _, rfl, ?_⟩
   refine dec_true rfl ?_
   refine ⟨_, rfl, a, _, 1, _, rfl, rfl, SqT.of (s1 _ _ ha), rfl, sz (show 2 ≤ 1000 by decide), fun q hq => ?_⟩
   have s2 := s1.trans (Same.upd (o := .lst [.str (Str.ofString "do"), .str x]) hq)
   refine ⟨_, rfl, a, _, 2, _, rfl, rfl, SqT.of (s2 _ _ ha), rfl, b, _, rfl, .inr (SqT.of (s2 _ _ hb)), fun m hm => ?_⟩
   have s3 := s2.trans (Same.upd (o := .lst (ps.map V.str)) hm)
   refine ⟨q, m, _, _, rfl, rfl, (Same.upd hm) _ _ upd_same, upd_same, ?_, fun r hr2 => ?_⟩
   ·rw [List.length_map]; exact sz (show 2 + ps.length ≤ 1000 by omega)
   exact ⟨rfl, _, rfl, _, r, Str.ofString "do" :: x :: ps, rfl, rfl, SqL.of upd_same, rm, k _ (s3.trans (Same.upd hr2))⟩
  | two u x y =>
   obtain ⟨a, rfl, ha⟩ := hv
   have hu := ok.1
   have n1 : ¬ V.str u = V.str (Str.ofString "do") := by rcases hu with rfl | rfl <;> decide +kernel
   have n2 : ¬ inV (V.str u) [.str (Str.ofString "bring"), .str (Str.ofString "move"), .str (Str.ofString "part")] = true := by rcases hu with rfl | rfl <;> decide +kernel
   refine ⟨_, rfl, a, _, rfl, .inr (SqT.of ha), fun l hl => ?_⟩
   have h1 := (Same.upd (o := .lst [.str u, .str x, .str y]) hl) _ _ ha
   refine ⟨_, rfl, a, _, 0, _, rfl, rfl, SqT.of h1, rfl, rfl, _, rfl, ?_⟩
   refine dec_false n1 ?_
   refine ⟨_, rfl, a, _, 0, _, rfl, rfl, SqT.of h1, rfl, sz (show 3 ≤ 1000 by decide), fun q hq => ⟨q, _, rfl, .inr (SqT.of upd_same), rfl, rfl, _, rfl, ?_⟩⟩
   refine ite2 (fun h => absurd h n2) (fun _ => ?_)
   exact ⟨rfl, _, rfl, _, l, [u, x, y], rfl, rfl, SqL.of ((Same.upd hq) _ _ upd_same), rm, k _ ((Same.upd hl).trans (Same.upd hq))⟩
  | mea u x y n e =>
   obtain ⟨a, b, rfl, ha, hb⟩ := hv
   obtain ⟨hu, _, _, hn0, hn, he0, he, _⟩ := ok
   have hu : u = Str.ofString "bring" ∨ u = Str.ofString "move" ∨ u = Str.ofString "part" := by rcases hu with ⟨h | h, _⟩ | ⟨h, _⟩; exact .inl h; exact .inr (.inl h); exact .inr (.inr h)
   have n1 : ¬ V.str u = V.str (Str.ofString "do") := by rcases hu with rfl | rfl | rfl <;> decide +kernel
   have n2 : inV (V.str u) [.str (Str.ofString "bring"), .str (Str.ofString "move"), .str (Str.ofString "part")] = true := by rcases hu with rfl | rfl | rfl <;> decide +kernel
   refine ⟨_, rfl, a, _, rfl, .inr (SqT.of ha), fun l hl => ?_⟩
   have s1 := Same.upd (o := .lst [.str u, .str x, .str y, .ref b]) hl
   refine ⟨_, rfl, a, _, 0, _, rfl, rfl, SqT.of (s1 _ _ ha), rfl, rfl, _, rfl, ?_⟩
   refine dec_false n1 ?_
   refine ⟨_, rfl, a, _, 0, _, rfl, rfl, SqT.of (s1 _ _ ha), rfl, sz (show 3 ≤ 1000 by decide), fun q hq => ⟨q, _, rfl, .inr (SqT.of upd_same), rfl, rfl, _, rfl, ?_⟩⟩
   refine ite2 (fun _ => ?_) (fun h => absurd n2 h)
   have s2 := s1.trans (Same.upd (o := .tup [.str (Str.ofString "bring"), .str (Str.ofString "move"), .str (Str.ofString "part")]) hq)
   refine ⟨_, rfl, a, _, 3, _, rfl, rfl, SqT.of (s2 _ _ ha), rfl, b, n, e, rfl, SqT.of (s2 _ _ hb), hn0, hn, he0, he, ?_⟩
   refine ⟨_, rfl, l, _, 3, 3, rfl, rfl, (Same.upd hq) _ _ upd_same, rfl, ?_⟩
   exact ⟨rfl, _, rfl, _, l, [u, x, y, numTxt n e], rfl, rfl, SqL.of upd_same, rm, k _ (s2.updD hl)⟩
end
end T13
namespace T13
open PySem L2 Tc
section
variable {P : Program} {w : World} {K : PySem.W.Frag} {mg : Str → Option Value} {base : Heap}
noncomputable abbrev s_rows_of : Stmt := top 45
theorem sc_rows_of : FnScope ["deeds", "rows", "deed", "many"] ["deeds"] (defScope s_rows_of) := ⟨rfl, rfl, rfl, by decide +kernel, rfl, by decide +kernel, by decide +kernel⟩
theorem ok_rows_of {ca : Ca} (D : DefAt K mg "rows_of" s_rows_of) (T : Txt K mg ca) (G_row_of : FnAt P w K mg base CX0 2 "row_of" ["deed"] (spRowOf K)) : ∀ d, FnAt P w K mg base CX0 (d + 3) "rows_of" ["deeds"] (spRowsOf K d) := by
 intro d
 induction d with
 | zero =>
  refine D.ok sc_rows_of (fun vs H Q E h => ?_) (fun _ _ _ _ _ _ us hl => match us, hl with | [_], _ => rfl) (fun f cdv A outer s H vs Q E hr h => ?_)
  ·exact False.elim (by obtain ⟨_, _, _, _, _, _, e, _⟩ := h; omega)
  ·exact False.elim (by obtain ⟨_, _, _, _, _, _, e, _⟩ := h; omega)
 | succ d G_rows_of =>
 refine D.ok sc_rows_of (fun vs H Q E h => ?_) (fun _ _ _ _ _ _ us hl => match us, hl with | [_], _ => rfl) (fun f cdv A outer s H vs Q E hr h => ?_)
 ·obtain ⟨a, us, ts, e, rfl, ha, ed, hrp, hl, k⟩ := h; rfl
 ·obtain ⟨a, us, ts, e, rfl, ha, ed, hrp, hl, k⟩ := h
  have nd := sc_rows_of.nd
  refine ⟨_, (@pss_cons _ _ _ _ _ (@ps_set _ _ 1 _ _ _ _ nd rfl (Or.inl rfl) (@pe_lst _ _ _ _ pa_nil) (by rfl) (Or.inl rfl))
   (@pss_cons _ _ _ _ _ (ps_for PassesOwn.never rfl (pi_tup' (K := K) rfl (pv 0)) (pg_name (i := 2) nd rfl (Or.inl rfl)) (@pss_one _ _ _ (ps_if (pt_cmpR op_eq (pe_ix (ix_tup' (K := K) rfl) (pv 2) pe_int (fun _ _ => rfl)) pe_str (nomark _)) (@pss_cons _ _ _ _ _ (@ps_set _ _ 3 _ _ _ _ nd rfl (Or.inl rfl) (pe_ix (ix_tup' (K := K) rfl) (pv 2) pe_int (fun _ _ => rfl)) (by rfl) (Or.inl rfl))
   (@pss_cons _ _ _ _ _ (ps_expr (pe_bm PySem.F.plainAttrs_list PySem.F.slot_list_append PySem.F.type_list_append mt_append (pv 1) (@pa_cons _ _ _ _ _ (pe_js (.cons pe_str (.cons (pe_fmt (pv 3)) .nil))) pa_nil (by rfl))))
   (@pss_cons _ _ _ _ _ (ps_expr (pe_bm PySem.F.plainAttrs_list PySem.F.slot_list_extend PySem.F.type_list_extend mt_extend (pv 1) (@pa_cons _ _ _ _ _ (pe_fn G_rows_of hr (by rfl) pass0 (@pa_cons _ _ _ _ _ (pe_ix (ix_tup' (K := K) rfl) (pv 2) pe_int (fun _ _ => rfl)) pa_nil (by rfl)) (by omega)) pa_nil (by rfl))))
   (@pss_one _ _ _ (ps_expr (pe_bm PySem.F.plainAttrs_list PySem.F.slot_list_append PySem.F.type_list_append mt_append (pv 1) (@pa_cons _ _ _ _ _ pe_str pa_nil (by rfl)))))))) (@pss_one _ _ _ (ps_expr (pe_bm PySem.F.plainAttrs_list PySem.F.slot_list_append PySem.F.type_list_append mt_append (pv 1) (@pa_cons _ _ _ _ _ (pe_fn G_row_of hr (by rfl) pass0 (@pa_cons _ _ _ _ _ (pv 2) pa_nil (by rfl)) (by omega)) pa_nil (by rfl))))))))
   (@pss_one _ _ _ (ps_ret (pv 1))))), ?_⟩
  refine ⟨sz (by simp), fun l hl0 => ?_⟩
  have i0 := Same.upd (o := .lst []) hl0
  refine ⟨_, rfl, a, rfl, ⟨_, SqT.of (i0 _ _ ha)⟩, ?_⟩
  refine for_tup (xs := us) (fun i σ H1 => ∃ (v2 v3 : Option V) (t1 t2 : List Tk), σ = [some (.ref a), some (.ref l), v2, v3] ∧ Same H H1 ∧ H1 l = some (.lst ((t1.map Tk.row).map V.str)) ∧ ts = t1 ++ t2 ∧ Rp H1 e (us.drop i) t2) ⟨none, none, [], ts, rfl, i0, upd_same, rfl, hrp.ts i0.ts⟩ ?_ ?_ ?_
  ·rintro i σ H1 hi ⟨v2, v3, t1, t2, rfl, s1, _⟩
   exact SqT.of (s1 _ _ ha)
  ·rintro i x σ H1 hx ⟨v2, v3, t1, t2, rfl, s1, h1, et, hr1⟩
   have edrop : us.drop i = x :: us.drop (i + 1) := by
    obtain ⟨hi, he⟩ := List.getElem?_eq_some_iff.mp hx
    rw [← he]; exact List.drop_eq_getElem_cons hi
   rw [edrop] at hr1
   cases hr1 with
   | @pl _ _ p _ t3 hv ok hr3 =>
    obtain ⟨b, u, r, rfl, hb, hu⟩ := hv.head ok
    refine ⟨_, rfl, b, _, 0, _, rfl, rfl, SqT.of hb, at_0 _ _, rfl, _, rfl, ?_⟩
    refine dec_false hu ?_
    refine ⟨_, rfl, .inl ⟨rfl, _, SqL.of h1⟩, _, rfl, _, p, rfl, hv, ok, fun H2 s2 => ⟨l, _, _, rfl, rfl, s2 _ _ h1, ?_, ?_⟩⟩
    ·rw [rows_n]; rw [et, List.length_append] at hl; exact sz (by omega)
    refine ⟨_, _, t1 ++ [.pl p], t3, rfl, (s1.trans s2).updD hl0, ?_, by rw [et]; simp, (hr3.ts s2.ts).ts (TSame.updL (s2 _ _ h1))⟩
    rw [upd_same, rows_app]; rfl
   | @tm e' b c n us1 _ t3 t4 hb hc h0 h60 hr3 hr4 =>
    have hl' : t1.length + (1 + (t3.length + (1 + t4.length))) ≤ 300 := by
     rw [et] at hl
     simp only [List.length_append, List.length_cons] at hl
     omega
    have lg := log_small h0 (show n < 10 ^ 12 by omega)
    have fl := figs_len h0 (show n < 10 ^ 12 by omega)
    refine ⟨_, rfl, b, _, 0, _, rfl, rfl, SqT.of hb, rfl, rfl, _, rfl, ?_⟩
    refine dec_true rfl ?_
    refine ⟨_, rfl, b, _, 1, _, rfl, rfl, SqT.of hb, rfl, ?_⟩
    refine ⟨_, rfl, .inl ⟨rfl, _, SqL.of h1⟩, _, rfl, ?_, _, rfl, n, rfl, lg, _, rfl, ?_, ?_, l, _, _, rfl, rfl, h1, by rw [rows_n]; exact sz (by omega), ?_⟩
    ·decide
    ·show (Str.empty ++ Str.ofString "times " ++ figs n).length ≤ 16777216
     have e0 : (Str.empty ++ Str.ofString "times ").length = 6 := by decide
     rw [strLen_append, e0]; omega
    ·show (Str.empty ++ Str.ofString "times " ++ figs n).length ≤ 16777216
     have e0 : (Str.empty ++ Str.ofString "times ").length = 6 := by decide
     rw [strLen_append, e0]; omega
    have ep : Str.empty ++ Str.ofString "times " ++ figs n = (Tk.op n).row := by
     rw [← op_row]
     exact congrArg (· ++ figs n) (PySem.W.KT.empty_app _)
    have ep : Str.empty ++ Str.ofString "times " ++ Str.ofString (toString n) = (Tk.op n).row := ep
    rw [ep]
    have tA := TSame.updL (o := .lst ((t1.map Tk.row).map V.str ++ [.str (Tk.op n).row])) h1
    have ea : (t1.map Tk.row).map V.str ++ [V.str (Tk.op n).row] = ((t1 ++ [Tk.op n]).map Tk.row).map V.str := by rw [rows_app]; rfl
    rw [ea] at tA ⊢
    let HA : Hp := upd H1 l (.lst (((t1 ++ [Tk.op n]).map Tk.row).map V.str))
    have hA : HA l = some (.lst (((t1 ++ [Tk.op n]).map Tk.row).map V.str)) := upd_same
    refine ⟨_, rfl, .inl ⟨rfl, _, SqL.of hA⟩, _, rfl, b, _, 2, _, rfl, rfl, SqT.of (tA _ _ hb), rfl, c, us1, t3, e', rfl, tA _ _ hc, by omega, hr3.ts tA, by omega, fun l2 H2 s2 h2 => ⟨l, l2, _, _, rfl, rfl, s2 _ _ hA, h2, by rw [rows_n, rows_n]; rw [List.length_append, List.length_singleton]; exact sz (by omega), ?_⟩⟩
    have hB := s2 _ _ hA
    have tB := TSame.updL (o := .lst (((t1 ++ [Tk.op n]).map Tk.row).map V.str ++ (t3.map Tk.row).map V.str)) hB
    rw [← rows_app] at tB ⊢
    let HB : Hp := upd H2 l (.lst (((t1 ++ [Tk.op n] ++ t3).map Tk.row).map V.str))
    have hB2 : HB l = some (.lst (((t1 ++ [Tk.op n] ++ t3).map Tk.row).map V.str)) := upd_same
    refine ⟨_, rfl, .inl ⟨rfl, _, SqL.of hB2⟩, l, _, _, rfl, rfl, hB2, by rw [rows_n, List.length_append, List.length_append, List.length_singleton]; exact sz (by omega), ?_⟩
    have tC := TSame.updL (o := .lst (((t1 ++ [Tk.op n] ++ t3).map Tk.row).map V.str ++ [.str (Str.ofString "end")])) hB2
    have sAll : Same H HA := s1.updD hl0
    have sB : Same H HB := (sAll.trans s2).updD hl0
    refine ⟨_, _, t1 ++ [Tk.op n] ++ t3 ++ [.cl], t4, rfl, sB.updD hl0, ?_, by rw [et]; simp, hr4.ts (fun p xs hp => tC p xs (tB p xs (s2 _ _ (tA p xs hp))))⟩
    rw [upd_same, rows_app (t1 ++ [Tk.op n] ++ t3) [Tk.cl], cl_row]; rfl
  ·rintro σ H1 ⟨v2, v3, t1, t2, rfl, s1, h1, et, hr1⟩
   rw [List.drop_length] at hr1
   cases hr1
   rw [List.append_nil] at et
   subst et
   exact ⟨_, rfl, k l H1 s1 h1⟩
end
end T13
namespace T13
open PySem L2 Tc
section
variable {P : Program} {w : World} {K : PySem.W.Frag} {mg : Str → Option Value} {base : Heap}
noncomputable abbrev s_shown : Stmt := top 46
theorem sc_shown : FnScope ["script", "rows", "rule"] ["script"] (defScope s_shown) := ⟨rfl, rfl, rfl, by decide +kernel, rfl, by decide +kernel, by decide +kernel⟩
theorem ok_shown {ca : Ca} (D : DefAt K mg "shown" s_shown) (T : Txt K mg ca) (G_rows_of : FnAt P w K mg base CX0 12 "rows_of" ["deeds"] (spRowsOf K 9)) : FnAt P w K mg base CX0 13 "shown" ["script"] (spShow K) := by
 refine D.ok sc_shown (fun vs H Q E h => ?_) (fun _ _ _ _ _ _ us hl => match us, hl with | [_], _ => rfl) (fun f cdv A outer s H vs Q E hr h => ?_)
 ·obtain ⟨v, rls, dts, rfl, hv, sok, hg, hlen, k⟩ := h; rfl
 ·obtain ⟨v, rls, dts, rfl, hv, sok, hg, hlen, k⟩ := h
  have nd := sc_shown.nd
  refine ⟨_, (@pss_cons _ _ _ _ _ (@ps_set _ _ 1 _ _ _ _ nd rfl (Or.inl rfl) (@pe_lst _ _ _ _ pa_nil) (by rfl) (Or.inl rfl))
   (@pss_cons _ _ _ _ _ (ps_for PassesOwn.never rfl (pi_tup' (K := K) rfl (pe_ix (ix_tup' (K := K) rfl) (pv 0) pe_int (fun _ _ => rfl))) (pg_name (i := 2) nd rfl (Or.inl rfl)) (@pss_cons _ _ _ _ _ (ps_expr (pe_bm PySem.F.plainAttrs_list PySem.F.slot_list_append PySem.F.type_list_append mt_append (pv 1) (@pa_cons _ _ _ _ _ (pe_bm' (K := K) rfl PySem.F.plainAttrs_str PySem.F.slot_str_join PySem.F.type_str_join (mt_join' (K := K) rfl) pe_str (@pa_cons _ _ _ _ _ (@pe_op _ _ _ _ _ _ _ _ op_cat (@pe_lst _ _ _ _ (@pa_cons _ _ _ _ _ pe_str (@pa_cons _ _ _ _ _ (pe_ix (ix_tup' (K := K) rfl) (pv 2) pe_int (fun _ _ => rfl)) pa_nil (by rfl)) (by rfl))) (pe_callTy (call_list_of' (K := K) rfl) (by rfl) T.z_list bt_list (@pa_cons _ _ _ _ _ (pe_ix (ix_tup' (K := K) rfl) (pv 2) pe_int (fun _ _ => rfl)) pa_nil (by rfl)))) pa_nil (by rfl))) pa_nil (by rfl))))
   (@pss_cons _ _ _ _ _ (ps_expr (pe_bm PySem.F.plainAttrs_list PySem.F.slot_list_extend PySem.F.type_list_extend mt_extend (pv 1) (@pa_cons _ _ _ _ _ (pe_fn G_rows_of hr (by rfl) pass0 (@pa_cons _ _ _ _ _ (pe_ix (ix_tup' (K := K) rfl) (pv 2) pe_int (fun _ _ => rfl)) pa_nil (by rfl))) pa_nil (by rfl))))
   (@pss_one _ _ _ (ps_expr (pe_bm PySem.F.plainAttrs_list PySem.F.slot_list_append PySem.F.type_list_append mt_append (pv 1) (@pa_cons _ _ _ _ _ pe_str pa_nil (by rfl))))))))
   (@pss_one _ _ _ (ps_ret (pe_bm' (K := K) rfl PySem.F.plainAttrs_str PySem.F.slot_str_join PySem.F.type_str_join (mt_join' (K := K) rfl) pe_str (@pa_cons _ _ _ _ _ (@pe_op _ _ _ _ _ _ _ _ op_cat (pv 1) (pe_fn G_rows_of hr (by rfl) pass0 (@pa_cons _ _ _ _ _ (pe_ix (ix_tup' (K := K) rfl) (pv 0) pe_int (fun _ _ => rfl)) pa_nil (by rfl)))) pa_nil (by rfl))))))), ?_⟩
  obtain ⟨p, a, b, rv, us, rfl, hp, ha, hP, hb, hrp⟩ := hv
  have allok : ∀ t ∈ flatR rls ++ dts, t.Ok := fun t ht => by
   rcases List.mem_append.mp ht with h | h
   ·exact flatR_ok sok.2 t h
   ·exact go_ok hg t h
  refine ⟨sz (by simp), fun l hl0 => ?_⟩
  have i0 := Same.upd (o := .lst []) hl0
  refine ⟨_, rfl, p, _, 0, _, rfl, rfl, SqT.of (i0 _ _ hp), rfl, a, rfl, ⟨_, SqT.of (i0 _ _ ha)⟩, ?_⟩
  refine for_tup (xs := rv) (fun i σ H1 => ∃ v2 : Option V, σ = [some (.ref p), some (.ref l), v2] ∧ Same H H1 ∧ H1 l = some (.lst (((flatR (rls.take i)).map Tk.row).map V.str))) ⟨none, rfl, i0, upd_same⟩ ?_ ?_ ?_
  ·rintro i σ H1 hi ⟨v2, rfl, s1, _⟩
   exact SqT.of (s1 _ _ ha)
  ·rintro i x σ H1 hx ⟨v2, rfl, s1, h1⟩
   obtain ⟨⟨y, ps, t⟩, hr, ra, rb, rc, us1, rfl, hra, hrb, hrc, hrp1⟩ := paired_get hP hx
   have hra : H ra = some (.tup [.str y, .ref rb, .ref rc]) := hra
   have hrb : H rb = some (.tup (ps.map V.str)) := hrb
   have hrp1 : Rp H 8 us1 t := hrp1
   have hmem := List.mem_of_getElem? hr
   obtain ⟨o1, _, o3⟩ := sok.2 _ hmem
   have o1 : (Tk.rl y ps).Ok := o1
   have etake : rls.take (i + 1) = rls.take i ++ [(y, ps, t)] := by rw [List.take_add_one, hr]; rfl
   have hl1 : (flatR (rls.take i)).length + (1 + (t.length + 1)) ≤ 300 := by
    have h1 : (flatR (rls.take (i + 1))).length ≤ (flatR rls).length := by
     have e := flatR_app (rls.take (i + 1)) (rls.drop (i + 1))
     rw [List.take_append_drop] at e
     rw [e, List.length_append]; omega
    rw [etake, flatR_app] at h1
    simp only [flatR, List.length_append, List.length_cons, List.length_nil] at h1
    rw [List.length_append] at hlen
    omega
   refine ⟨_, rfl, .inl ⟨rfl, _, SqL.of h1⟩, rfl, _, rfl, ra, _, 0, _, rfl, rfl, SqT.of (s1 _ _ hra), rfl, sz (show 2 ≤ 1000 by decide), fun q hq => ?_⟩
   have s2 := s1.trans (Same.upd (o := .lst [.str (Str.ofString "rule"), .str y]) hq)
   refine ⟨_, rfl, ra, _, 1, _, rfl, rfl, SqT.of (s2 _ _ hra), rfl, rb, _, rfl, .inr (SqT.of (s2 _ _ hrb)), fun m hm => ?_⟩
   have s3 := s2.trans (Same.upd (o := .lst (ps.map V.str)) hm)
   have o13 := o1.2.2.1
   refine ⟨q, m, _, _, rfl, rfl, (Same.upd hm) _ _ upd_same, upd_same, ?_, fun r hr2 => ?_⟩
   ·rw [List.length_map]; exact sz (show 2 + ps.length ≤ 1000 by omega)
   have rm := join_room (Tk.room o1).1 (Tk.room o1).2
   have h1r : upd (upd (upd H1 q _) m _) r (.lst ([V.str (Str.ofString "rule"), .str y] ++ ps.map V.str)) l = some (.lst (((flatR (rls.take i)).map Tk.row).map V.str)) := (Same.upd hr2) _ _ ((Same.upd hm) _ _ ((Same.upd hq) _ _ h1))
   have s4 := s3.trans (Same.upd (o := .lst ([V.str (Str.ofString "rule"), .str y] ++ ps.map V.str)) hr2)
   refine ⟨_, r, Str.ofString "rule" :: y :: ps, rfl, rfl, SqL.of upd_same, rm, l, _, _, rfl, rfl, h1r, by rw [rows_n]; exact sz (by omega), ?_⟩
   have tA := TSame.updL (o := .lst (((flatR (rls.take i)).map Tk.row).map V.str ++ [.str (Tk.rl y ps).row])) h1r
   have sA : Same H (upd (upd (upd (upd H1 q _) m _) r (.lst ([V.str (Str.ofString "rule"), .str y] ++ ps.map V.str))) l (.lst (((flatR (rls.take i)).map Tk.row).map V.str ++ [.str (Tk.rl y ps).row]))) := s4.updD hl0
   refine ⟨_, rfl, .inl ⟨rfl, _, SqL.of upd_same⟩, _, rfl, ra, _, 2, _, rfl, rfl, SqT.of (sA _ _ hra), rfl, rc, us1, t, 8, rfl, sA _ _ hrc, rfl, hrp1.ts sA.ts, by omega, fun l2 H2 s5 h2 => ⟨l, l2, _, _, rfl, rfl, s5 _ _ upd_same, h2, ?_, ?_⟩⟩
   ·rw [List.length_append, rows_n, rows_n, List.length_singleton]; exact sz (by omega)
   refine ⟨_, rfl, .inl ⟨rfl, _, SqL.of upd_same⟩, l, _, _, rfl, rfl, upd_same, ?_, ?_⟩
   ·rw [List.length_append, List.length_append, rows_n, rows_n, List.length_singleton]; exact sz (by omega)
   refine ⟨_, rfl, ((sA.trans s5).updD hl0).updD hl0, ?_⟩
   rw [upd_same, etake, flatR_app, rows_app]
   have e5 : flatR [(y, ps, t)] = [Tk.rl y ps] ++ t ++ [Tk.cl] := by simp [flatR]
   rw [e5, rows_app, rows_app, cl_row]
   first | (simp; done) | (simp; rfl)
  ·rintro σ H1 ⟨v2, rfl, s1, h1⟩
   have el : rls.take rv.length = rls := by rw [hP.length, List.take_length]
   rw [el] at h1
   refine ⟨rfl, _, rfl, _, rfl, p, _, 1, _, rfl, rfl, SqT.of (s1 _ _ hp), rfl, b, us, dts, 8, rfl, s1 _ _ hb, rfl, hrp.ts s1.ts, by rw [List.length_append] at hlen; omega, fun l2 H2 s2 h2 => ⟨l, l2, _, _, rfl, rfl, s2 _ _ h1, h2, ?_, fun r hr2 => ?_⟩⟩
   ·rw [rows_n, rows_n]; rw [List.length_append] at hlen; exact sz (by omega)
   refine ⟨_, r, (flatR rls ++ dts).map Tk.row, rfl, rfl, SqL.of (by rw [upd_same, rows_app]), (rows_len allok hlen).2, k _ ((s1.trans s2).trans (Same.upd hr2))⟩
end
end T13
namespace T13
open PySem L2 Tc
section
variable {P : Program} {w : World} {K : PySem.W.Frag} {mg : Str → Option Value} {base : Heap}
noncomputable abbrev s__law_cell_at : Stmt := top 48
theorem sc__law_cell_at : FnScope ["_law_script_here", "_law_k"] ["_law_script_here", "_law_k"] (defScope s__law_cell_at) := ⟨rfl, rfl, rfl, by decide +kernel, rfl, by decide +kernel, by decide +kernel⟩
theorem ok__law_cell_at {ca : Ca} (D : DefAt K mg "_law_cell_at" s__law_cell_at) (T : Txt K mg ca) : FnAt P w K mg base CX0 1 "_law_cell_at" ["_law_script_here", "_law_k"] (spCell K) := by
 refine D.ok sc__law_cell_at (fun vs H Q E h => ?_) (fun _ _ _ _ _ _ us hl => match us, hl with | [_, _], _ => rfl) (fun f cdv A outer s H vs Q E hr h => ?_)
 ·obtain ⟨a, ns, j, rfl, hS, hj, k⟩ := h; rfl
 ·obtain ⟨a, ns, j, rfl, hS, hj, k⟩ := h
  have nd := sc__law_cell_at.nd
  refine ⟨_, (@pss_cons _ _ _ _ _ (ps_if (pt_cmpR op_lt (pv 1) (pe_callB (call_len' (K := K) rfl) (by rfl) T.z_len PySem.boot_len (@pa_cons _ _ _ _ _ (pv 0) pa_nil (by rfl))) (nomark _)) (@pss_one _ _ _ (ps_ret (pe_ix (ix_list' (K := K) rfl) (pv 0) (pv 1) (fun _ _ => rfl)))) pss_nil)
   (@pss_one _ _ _ (ps_ret pe_int))), ?_⟩
  refine ⟨_, rfl, _, rfl, _, _, rfl, .inl ⟨_, hS, rfl⟩, _, _, rfl, rfl, _, rfl, ?_⟩
  refine ite2 (fun h1 => ?_) (fun h1 => ?_)
  ·obtain ⟨c, hc⟩ := map_at hj (of_decide_eq_true h1)
   refine ⟨_, rfl, _, rfl, a, _, j, _, rfl, rfl, hS, hc, k c⟩
  ·exact k 0
end
end T13
namespace T13
open PySem L2 Tc
section
variable {P : Program} {w : World} {K : PySem.W.Frag} {mg : Str → Option Value} {base : Heap}
noncomputable abbrev s__law_mixed : Stmt := top 49
theorem sc__law_mixed : FnScope ["_law_cell"] ["_law_cell"] (defScope s__law_mixed) := ⟨rfl, rfl, rfl, by decide +kernel, rfl, by decide +kernel, by decide +kernel⟩
theorem ok__law_mixed {ca : Ca} (D : DefAt K mg "_law_mixed" s__law_mixed) (T : Txt K mg ca) : FnAt P w K mg base CX0 1 "_law_mixed" ["_law_cell"] (spMix) := by
 refine D.ok sc__law_mixed (fun vs H Q E h => ?_) (fun _ _ _ _ _ _ us hl => match us, hl with | [_], _ => rfl) (fun f cdv A outer s H vs Q E hr h => ?_)
 ·obtain ⟨c, rfl, k⟩ := h; rfl
 ·obtain ⟨c, rfl, k⟩ := h
  have nd := sc__law_mixed.nd
  refine ⟨_, (@pss_one _ _ _ (ps_ret (@pe_op _ _ _ _ _ _ _ _ op_add (@pe_op _ _ _ _ _ _ _ _ op_modN (@pe_op _ _ _ _ _ _ _ _ op_mulB (pv 0) pe_int) pe_int) (@pe_op _ _ _ _ _ _ _ _ op_mulB pe_int (@pe_op _ _ _ _ _ _ _ _ op_modN (pv 0) (@pe_op _ _ _ _ _ _ _ _ op_pow pe_int pe_int)))))), ?_⟩
  refine ⟨_, rfl, _, _, rfl, rfl, IntMulOk.of_right (by decide), _, _, rfl, rfl, (show (2147483629 : Int) ≠ 0 by decide), _, rfl, _, _, rfl, rfl, ⟨by decide, by decide, by decide⟩, _, _, rfl, rfl, (by rw [pow10_30]; show (_ : Int) ≠ 0; decide), _, _, rfl, rfl, IntMulOk.of_left (by decide), _, _, rfl, rfl, ?_⟩
  rw [pow10_30]
  have q1 := fmod_lt (c := c * 69621) (m := 2147483629) (by decide)
  have q2 := fmod_lt (c := c) (m := 1000000000000000000000000000000) (by decide)
  exact k _ (by omega) (by unfold BG; omega)
end
end T13
namespace T13
open PySem L2 Tc
section
variable {P : Program} {w : World} {K : PySem.W.Frag} {mg : Str → Option Value} {base : Heap}
noncomputable abbrev s__law_digits : Stmt := top 50
theorem sc__law_digits : FnScope ["_law_number", "_law_many", "_law_top", "_law_found", "_law_k"] ["_law_number", "_law_many", "_law_top"] (defScope s__law_digits) := ⟨rfl, rfl, rfl, by decide +kernel, rfl, by decide +kernel, by decide +kernel⟩
theorem ok__law_digits {ca : Ca} (D : DefAt K mg "_law_digits" s__law_digits) (T : Txt K mg ca) : FnAt P w K mg base CX0 1 "_law_digits" ["_law_number", "_law_many", "_law_top"] (spDigits) := by
 refine D.ok sc__law_digits (fun vs H Q E h => ?_) (fun _ _ _ _ _ _ us hl => match us, hl with | [_, _, _], _ => rfl) (fun f cdv A outer s H vs Q E hr h => ?_)
 ·obtain ⟨n, m, rfl, m0, m10, k⟩ := h; rfl
 ·obtain ⟨n, m, rfl, m0, m10, k⟩ := h
  have nd := sc__law_digits.nd
  refine ⟨_, (@pss_cons _ _ _ _ _ (@ps_set _ _ 3 _ _ _ _ nd rfl (Or.inl rfl) (@pe_lst _ _ _ _ pa_nil) (by rfl) (Or.inl rfl))
   (@pss_cons _ _ _ _ _ (ps_for PassesOwn.never rfl (pi_range1 (by rfl) T.z_range (@pa_cons _ _ _ _ _ (pv 1) pa_nil (by rfl))) (pg_name (i := 4) nd rfl (Or.inl rfl)) (@pss_cons _ _ _ _ _ (ps_expr (pe_bm PySem.F.plainAttrs_list PySem.F.slot_list_append PySem.F.type_list_append mt_append (pv 3) (@pa_cons _ _ _ _ _ (@pe_op _ _ _ _ _ _ _ _ op_modN (pv 0) (pv 2)) pa_nil (by rfl))))
   (@pss_one _ _ _ (@ps_set _ _ 0 _ _ _ _ nd rfl (Or.inl rfl) (@pe_op _ _ _ _ _ _ _ _ op_fdivB (pv 0) (pv 2)) (by rfl) (Or.inl rfl)))))
   (@pss_one _ _ _ (ps_ret (pv 3))))), ?_⟩
  refine ⟨sz (by simp), fun p hp => ?_⟩
  refine ⟨_, rfl, _, rfl, by omega, by omega, ?_⟩
  refine for_range (fun i σ H1 => ∃ (v4 : Option V) (x : Int) (ds : List Int), σ = [some (.int x), some (.int m), some (.int 26), some (.ref p), v4] ∧ Same H H1 ∧ H1 p = some (.lst (ds.map V.int)) ∧ ds.length = i ∧ ∀ d ∈ ds, 0 ≤ d ∧ d < 26) ⟨none, n, [], rfl, Same.upd hp, upd_same, rfl, fun _ z => nomatch z⟩ ?_ ?_
  ·rintro i σ H1 hi ⟨v4, x, ds, rfl, s1, hp1, hl, hb⟩
   refine ⟨_, rfl, .inl ⟨rfl, _, SqL.of hp1⟩, _, rfl, _, rfl, _, _, rfl, rfl, (show (26 : Int) ≠ 0 by decide), p, _, _, rfl, rfl, hp1, by rw [List.length_map]; exact sz (by omega), ?_⟩
   refine ⟨_, rfl, _, rfl, _, _, rfl, rfl, divB_of (by decide) (by decide), ?_⟩
   refine ⟨_, x.fdiv 26, ds ++ [x.fmod 26], rfl, s1.updD hp, ?_, by rw [List.length_append, hl]; rfl, ?_⟩
   ·rw [upd_same, List.map_append]; rfl
   ·intro d hd
    rcases List.mem_append.mp hd with z | z
    ·exact hb d z
    ·have z := List.mem_singleton.mp z
     subst z
     exact fmod_lt (by decide)
  ·rintro σ H1 ⟨v4, x, ds, rfl, s1, hp1, hl, hb⟩
   exact ⟨_, rfl, k p H1 ds s1 hp1 (by have : ds.length = m.toNat := hl; omega) hb⟩
end
end T13
namespace T13
open PySem L2 Tc
section
variable {P : Program} {w : World} {K : PySem.W.Frag} {mg : Str → Option Value} {base : Heap}
noncomputable abbrev s__law_names : Stmt := top 51
theorem sc__law_names : FnScope ["_law_number", "_law_many", "_law_words", "_law_letters", "_law_base", "_law_at", "_law_names_here", "_law_j", "_law_signs"] ["_law_number", "_law_many"] (defScope s__law_names) := ⟨rfl, rfl, rfl, by decide +kernel, rfl, by decide +kernel, by decide +kernel⟩
theorem ok__law_names {ca : Ca} (D : DefAt K mg "_law_names" s__law_names) (T : Txt K mg ca) (G__law_digits : FnAt P w K mg base CX0 1 "_law_digits" ["_law_number", "_law_many", "_law_top"] (spDigits)) : FnAt P w K mg base CX0 2 "_law_names" ["_law_number", "_law_many"] (spNam) := by
 refine D.ok sc__law_names (fun vs H Q E h => ?_) (fun _ _ _ _ _ _ us hl => match us, hl with | [_, _], _ => rfl) (fun f cdv A outer s H vs Q E hr h => ?_)
 ·obtain ⟨c, m, rfl, hm0, hm9, k⟩ := h; rfl
 ·obtain ⟨c, m, rfl, hm0, hm9, k⟩ := h
  have nd := sc__law_names.nd
  refine ⟨_, (@pss_cons _ _ _ _ _ (@ps_set _ _ 2 _ _ _ _ nd rfl (Or.inl rfl) (@pe_lst _ _ _ _ (@pa_cons _ _ _ _ _ pe_str (@pa_cons _ _ _ _ _ pe_str (@pa_cons _ _ _ _ _ pe_str (@pa_cons _ _ _ _ _ pe_str (@pa_cons _ _ _ _ _ pe_str (@pa_cons _ _ _ _ _ pe_str (@pa_cons _ _ _ _ _ pe_str (@pa_cons _ _ _ _ _ pe_str (@pa_cons _ _ _ _ _ pe_str (@pa_cons _ _ _ _ _ pe_str pa_nil (by rfl)) (by rfl)) (by rfl)) (by rfl)) (by rfl)) (by rfl)) (by rfl)) (by rfl)) (by rfl)) (by rfl))) (by rfl) (Or.inl rfl))
   (@pss_cons _ _ _ _ _ (ps_if (PW.pt (pw_and (pt_cmpR op_eq (@pe_op _ _ _ _ _ _ _ _ op_modN (pv 0) pe_int) pe_int (nomark _)) (pw_and1 (pt_cmpR op_lt (pv 1) pe_int (nomark _))))) (@pss_one _ _ _ (ps_ret (pe_slice (sl_list' (K := K) rfl) (pv 2) po_none (po_some (pv 1))))) pss_nil)
   (@pss_cons _ _ _ _ _ (@ps_set _ _ 3 _ _ _ _ nd rfl (Or.inr rfl) pe_str (by rfl) (Or.inl rfl))
   (@pss_cons _ _ _ _ _ (@ps_set _ _ 4 _ _ _ _ nd rfl (Or.inr rfl) (pe_fn G__law_digits hr (by rfl) pass0 (@pa_cons _ _ _ _ _ (@pe_op _ _ _ _ _ _ _ _ op_fdivB (pv 0) pe_int) (@pa_cons _ _ _ _ _ (@pe_op _ _ _ _ _ _ _ _ op_add pe_int (@pe_op _ _ _ _ _ _ _ _ op_modN (@pe_op _ _ _ _ _ _ _ _ op_fdivB (pv 0) pe_int) pe_int)) (@pa_cons _ _ _ _ _ pe_int pa_nil (by rfl)) (by rfl)) (by rfl))) (by rfl) (Or.inl rfl))
   (@pss_cons _ _ _ _ _ (@ps_set _ _ 5 _ _ _ _ nd rfl (Or.inr rfl) (@pe_op _ _ _ _ _ _ _ _ op_modN (@pe_op _ _ _ _ _ _ _ _ op_modN (@pe_op _ _ _ _ _ _ _ _ op_fdivB (pv 0) pe_int) pe_int) (pe_callB (call_len' (K := K) rfl) (by rfl) T.z_len PySem.boot_len (@pa_cons _ _ _ _ _ (pv 4) pa_nil (by rfl)))) (by rfl) (Or.inl rfl))
   (@pss_cons _ _ _ _ _ (@ps_set _ _ 6 _ _ _ _ nd rfl (Or.inl rfl) (@pe_lst _ _ _ _ pa_nil) (by rfl) (Or.inl rfl))
   (@pss_cons _ _ _ _ _ (ps_for PassesOwn.never rfl (pi_range1 (by rfl) T.z_range (@pa_cons _ _ _ _ _ (pv 1) pa_nil (by rfl))) (pg_name (i := 7) nd rfl (Or.inr rfl)) (@pss_cons _ _ _ _ _ (ps_setcomp ["_law_k"] ["_law_letters", "_law_base", "_law_j", "_law_at"] [3, 4, 7, 5] (i := 8) nd rfl rfl rfl (by rfl) (pi_range1 (by rfl) T.z_range (@pa_cons _ _ _ _ _ (pe_callB (call_len' (K := K) rfl) (by rfl) T.z_len PySem.boot_len (@pa_cons _ _ _ _ _ (pv 4) pa_nil (by rfl))) pa_nil (by rfl))) (fun _ _ _ _ => (pg_name (i := 0) (show List.Nodup (["_law_k", "_law_letters", "_law_base", "_law_j", "_law_at"] : List Str) from by decide) rfl (Or.inl rfl))) (fun _ _ _ _ => pif_none) (fun _ _ _ _ => (pe_ix ix_str (pv 1) (@pe_op _ _ _ _ _ _ _ _ op_modN (@pe_op _ _ _ _ _ _ _ _ op_add (pe_ix (ix_list' (K := K) rfl) (pv 2) (pv 0) (fun _ _ => rfl)) (@pe_op _ _ _ _ _ _ _ _ op_mulB (pv 3) (pe_callTy call_int1 (by rfl) T.z_int bt_int (@pa_cons _ _ _ _ _ (pe_cmpR op_eq (pv 0) (pv 4) (nomark _)) pa_nil (by rfl))))) pe_int) (fun _ _ => rfl))))
   (@pss_one _ _ _ (ps_expr (pe_bm PySem.F.plainAttrs_list PySem.F.slot_list_append PySem.F.type_list_append mt_append (pv 6) (@pa_cons _ _ _ _ _ (pe_bm' (K := K) rfl PySem.F.plainAttrs_str PySem.F.slot_str_join PySem.F.type_str_join (mt_join' (K := K) rfl) pe_str (@pa_cons _ _ _ _ _ (pv 8) pa_nil (by rfl))) pa_nil (by rfl)))))))
   (@pss_one _ _ _ (ps_ret (pv 6)))))))))), ?_⟩
  refine ⟨sz (show 10 ≤ 1000 by decide), fun pw hpw => ?_⟩
  have sw := Same.upd (o := .lst (WN.map V.str)) hpw
  refine ⟨_, rfl, _, _, rfl, rfl, (show (4 : Int) ≠ 0 by decide), rfl, _, rfl, ?_⟩
  refine ite2 (fun _ => ?_) (fun _ => ?_)
  ·refine ⟨_, rfl, _, _, rfl, rfl, _, rfl, ?_⟩
   refine ite2 (fun _ => ?_) (fun h => absurd (decide_eq_true (show m < 11 by omega)) h)
   obtain ⟨mm, rfl⟩ := Int.eq_ofNat_of_zero_le hm0
   have hmm : mm ≤ WN.length := by show mm ≤ 10; omega
   refine ⟨_, rfl, _, rfl, _, rfl, pw, WN.map V.str, rfl, SqL.of upd_same, fun q hq => ?_⟩
   refine k q _ (WN.take mm) (sw.trans (Same.upd hq)) (sw.free hq) (by rw [upd_same, cut_upto WN hmm]) ?_ (wn_nd.sublist (List.take_sublist _ _)) (fun z hz => wn_nm z (List.mem_of_mem_take hz))
   rw [List.length_take]; omega
  refine iteF ?_
  have q7 := fmod_lt (c := c.fdiv 4) (m := 7) (by decide)
  refine ⟨_, rfl, _, _, rfl, rfl, dd (by decide) (by decide), _, rfl, _, _, rfl, rfl, dd (by decide) (by decide), _, _, rfl, rfl, (show (7 : Int) ≠ 0 by decide), _, _, rfl, rfl, c.fdiv 56, 1 + (c.fdiv 4).fmod 7, rfl, by omega, by omega, fun D H1 bs s1 hd hl hb => ?_⟩
  have hlen : (bs.map V.int).length = bs.length := List.length_map ..
  have hne : (((bs.map V.int).length : Nat) : Int) ≠ 0 := by rw [hlen]; omega
  refine ⟨_, rfl, _, _, rfl, rfl, dd (by decide) (by decide), _, _, rfl, rfl, (show (7 : Int) ≠ 0 by decide), _, rfl, _, _, rfl, .inl ⟨_, SqL.of hd, rfl⟩, _, _, rfl, rfl, hne, ?_⟩
  have qa := fmod_lt (c := (c.fdiv 28).fmod 7) (m := (((bs.map V.int).length : Nat) : Int)) (by rw [hlen]; omega)
  let av : Int := ((c.fdiv 28).fmod 7).fmod (((bs.map V.int).length : Nat) : Int)
  obtain ⟨a0, ea⟩ : ∃ a0 : Nat, av = (a0 : Nat) := Int.eq_ofNat_of_zero_le qa.1
  have ha0 : a0 < bs.length := by
   have h2 : av < (((bs.map V.int).length : Nat) : Int) := qa.2
   rw [ea, hlen] at h2; omega
  refine ⟨sz (by simp), fun p hp => ?_⟩
  have sp1 := Same.upd (o := .lst []) hp
  have fp : H p = none := (sw.trans s1).free hp
  refine ⟨_, rfl, _, rfl, by omega, by omega, ?_⟩
  refine for_range (fun i σ H2 => ∃ v7 v8 : Option V, σ = [some (.int c), some (.int m), some (.ref pw), some (.str LT), some (.ref D), some (.int av), some (.ref p), v7, v8] ∧ Same H1 H2 ∧ H2 p = some (.lst (((List.range i).map (nam bs av bs.length)).map V.str))) ⟨none, none, rfl, sp1, upd_same⟩ ?_ ?_
  ·rintro i σ H2 hi ⟨v7, v8, rfl, s2, hp2⟩
   have hi : i < m.toNat := hi
   have hd2 := s2 _ _ hd
   refine ⟨_, rfl, _, _, rfl, .inl ⟨_, SqL.of hd2, rfl⟩, _, rfl, by rw [hlen]; omega, by rw [hlen]; omega, fun D2 hD2 => ?_⟩
   refine block_range (fun j σ' H' => ∃ v : Option V, σ' = [v, some (.str LT), some (.ref D), some (.int (0 + (i : Int))), some (.int av)] ∧ Same H2 H' ∧ H' D2 = some (.lst ((((List.range j).map (lr bs av i)).map one1).map V.str))) ⟨none, rfl, Same.upd hD2, upd_same⟩ ?_ ?_
   ·rintro j σ' H' hj ⟨v, rfl, s3, hd3⟩
    have hj : j < bs.length := by
     have hj : j < (((bs.map V.int).length : Nat) : Int).toNat := hj
     rw [hlen] at hj; simpa using hj
    have q26 := fmod_lt (c := bs.getD j 0 + (i : Int) * (if decide (V.int (j : Nat) = V.int av) = true then 1 else 0)) (m := 26) (by decide)
    refine ⟨_, rfl, _, rfl, _, rfl, D, _, _, _, rfl, rfl, SqL.of (s3 _ _ hd2), getD_at' hj, _, rfl, _, rfl, _, rfl, rfl, .inr ⟨_, rfl, _, _, rfl, rfl, mulOk_of 64 (Nat.lt_of_le_of_lt (m := 20) (by omega) (by decide)) ?_ (by decide), _, _, rfl, rfl, _, _, rfl, rfl, (show (26 : Int) ≠ 0 by decide), ?_⟩⟩
    ·refine Nat.lt_of_le_of_lt (m := 1) ?_ (by decide)
     show (if _ then (1 : Int) else 0).natAbs ≤ 1
     split <;> decide
    refine ⟨_, _, lr bs av i j, rfl, rfl, sz (by decide), ?_, ?_⟩
    ·have e1 : (bs.getD j 0 + (0 + (i : Int)) * (if decide (V.int (0 + (j : Int)) = V.int av) = true then 1 else 0)) = bs.getD j 0 + (i : Int) * (if decide (V.int (j : Nat) = V.int av) = true then 1 else 0) := by rw [Int.zero_add, Int.zero_add]
     show atI LT.cps.toList ((bs.getD j 0 + (0 + (i : Int)) * (if decide (V.int (0 + (j : Int)) = V.int av) = true then 1 else 0)).fmod 26) = _
     rw [e1]
     exact lt_at q26
    refine ⟨_, hd3, by rw [List.length_map, List.length_map, List.length_map, List.length_range]; exact sz (by omega), _, rfl, s3.updD hD2, ?_⟩
    rw [upd_same, List.range_succ, List.map_append, List.map_append, List.map_append]; rfl
   ·rintro σ' H3 ⟨v, rfl, s3, hd3⟩
    have ej : (((bs.map V.int).length : Nat) : Int).toNat = bs.length := by rw [hlen]; simp
    have hd3 : H3 D2 = some (.lst (((lrs bs av bs.length i).map one1).map V.str)) := by
     have hd3 : H3 D2 = some (.lst ((((List.range (((bs.map V.int).length : Nat) : Int).toNat).map (lr bs av i)).map one1).map V.str)) := hd3
     rw [ej] at hd3; exact hd3
    have hp3 := s3 _ _ hp2
    refine ⟨_, rfl, .inl ⟨rfl, _, SqL.of hp3⟩, rfl, _, rfl, _, D2, (lrs bs av bs.length i).map one1, rfl, rfl, SqL.of hd3, ?_, p, _, _, rfl, rfl, hp3, by rw [List.length_map, List.length_map, List.length_range]; exact sz (by omega), ?_⟩
    ·rw [sum_ones, List.length_map]
     unfold lrs
     rw [List.length_map, List.length_range]
     show bs.length + bs.length * 0 ≤ _
     omega
    refine ⟨_, _, rfl, (s2.trans s3).updD hp, ?_⟩
    have ez : Txt.join (Str.ofString "") ((lrs bs av bs.length i).map one1) = nam bs av bs.length i := join_cs _
    rw [upd_same, List.range_succ, List.map_append, List.map_append, ez]; rfl
  rintro σ H2 ⟨v7, v8, rfl, s2, hp2⟩
  have hp2 : H2 p = some (.lst (((List.range m.toNat).map (nam bs av bs.length)).map V.str)) := hp2
  refine ⟨_, rfl, k p H2 _ (sw.trans (s1.trans s2)) fp hp2 (by rw [List.length_map, List.length_range]; omega) ?_ fun z hz => ?_⟩
  ·rw [ea]; exact nam_nodup ha0 (by omega)
  ·obtain ⟨x, _, rfl⟩ := List.mem_map.mp hz
   exact nam_nm (by omega) (by omega)
end
end T13
namespace T13
open PySem L2 Tc
section
variable {P : Program} {w : World} {K : PySem.W.Frag} {mg : Str → Option Value} {base : Heap}
noncomputable abbrev s__law_lowest : Stmt := top 52
theorem sc__law_lowest : FnScope ["_law_top", "_law_bottom", "_law_one", "_law_other"] ["_law_top", "_law_bottom"] (defScope s__law_lowest) := ⟨rfl, rfl, rfl, by decide +kernel, rfl, by decide +kernel, by decide +kernel⟩
theorem ok__law_lowest {ca : Ca} (D : DefAt K mg "_law_lowest" s__law_lowest) (T : Txt K mg ca) : FnAt P w K mg base CX0 1 "_law_lowest" ["_law_top", "_law_bottom"] (spLow) := by
 refine D.ok sc__law_lowest (fun vs H Q E h => ?_) (fun _ _ _ _ _ _ us hl => match us, hl with | [_, _], _ => rfl) (fun f cdv A outer s H vs Q E hr h => ?_)
 ·obtain ⟨t, b, rfl, ht, ht2, hb, hb2, k⟩ := h; rfl
 ·obtain ⟨t, b, rfl, ht, ht2, hb, hb2, k⟩ := h
  have nd := sc__law_lowest.nd
  refine ⟨_, (@pss_cons _ _ _ _ _ (@ps_set _ _ 2 _ _ _ _ nd rfl (Or.inl rfl) (pv 0) (by rfl) (Or.inl rfl))
   (@pss_cons _ _ _ _ _ (@ps_set _ _ 3 _ _ _ _ nd rfl (Or.inl rfl) (pv 1) (by rfl) (Or.inl rfl))
   (@pss_cons _ _ _ _ _ (ps_while PassesOwn.never (pt_cmpR op_gt (pv 3) pe_int (nomark _)) (@pss_one _ _ _ (ps_par (i := 2) (j := 3) rfl nd rfl rfl (by decide) rfl rfl (@pa_cons _ _ _ _ _ (pv 3) (@pa_cons _ _ _ _ _ (@pe_op _ _ _ _ _ _ _ _ op_modN (pv 2) (pv 3)) pa_nil (by rfl)) (by rfl)) rfl)))
   (@pss_one _ _ _ (ps_ret (@pe_tup _ _ _ _ _ (@pa_cons _ _ _ _ _ (@pe_op _ _ _ _ _ _ _ _ op_fdivB (pv 0) (pv 2)) (@pa_cons _ _ _ _ _ (@pe_op _ _ _ _ _ _ _ _ op_fdivB (pv 1) (pv 2)) pa_nil (by rfl)) (by rfl)))))))), ?_⟩
  refine ⟨_, rfl, ?_⟩
  refine ⟨_, rfl, ?_⟩
  refine while_by (fun σ H1 => ∃ x y : Int, σ = [some (.int t), some (.int b), some (.int x), some (.int y)] ∧ H1 = H ∧ 0 ≤ x ∧ 0 ≤ y ∧ Int.gcd x y = Int.gcd t b)
   (fun σ _ => match σ with | [_, _, _, some (.int y)] => y.natAbs | _ => 0) ⟨t, b, rfl, rfl, ht, by omega, rfl⟩ ?_ ?_
  ·rintro σ H1 ⟨x, y, rfl, rfl, hx0, hy0, hgc⟩
   refine ⟨_, rfl, _, _, rfl, rfl, _, rfl, ?_⟩
   refine ite2 (fun h1 => ?_) (fun h1 => ?_)
   ·have h1 : 0 < y := of_decide_eq_true h1
    have hy : y ≠ 0 := by omega
    refine ⟨_, rfl, _, rfl, _, rfl, _, _, rfl, rfl, hy, _, _, rfl, ?_⟩
    exact ⟨⟨_, _, rfl, rfl, by omega, (fmod_lt h1).1, (gcd_fmod x y).trans hgc⟩, Dv.less hy⟩
   ·have h1 : ¬ 0 < y := fun z => h1 (decide_eq_true z)
    have hy : y = 0 := by omega
    subst hy
    rw [Int.gcd_zero_right] at hgc
    have eg : x = ((Int.gcd t b : Nat) : Int) := by omega
    obtain ⟨g0, f1, f2, f3, f4, f5, f6, f7⟩ := low_facts ht ht2 hb hb2 eg
    have gle : x ≤ 10 ^ 12 := by
     have : Int.gcd t b ≤ b.natAbs := Int.gcd_le_natAbs_right _ (by omega)
     omega
    have hd : ∀ i, CDivB i x := fun i => divB_of (by omega) (Nat.lt_of_le_of_lt (m := 10 ^ 12) (by omega) (by decide))
    refine ⟨_, rfl, _, rfl, _, _, rfl, rfl, hd _, _, rfl, _, rfl, _, _, rfl, rfl, hd _, sz (by simp), fun p hp => ?_⟩
    exact k p _ _ _ (Same.upd hp) upd_same f1 f2 f3 f4 f5 f6 f7
  ·intro σ H1 Q1 Q2 hq h1
   obtain ⟨v, e, i, j, e1, e2, c, e3, h3⟩ := h1
   exact ⟨v, e, i, j, e1, e2, c, e3, hq _ _ h3⟩
end
end T13
namespace T13
open PySem L2 Tc
section
variable {P : Program} {w : World} {K : PySem.W.Frag} {mg : Str → Option Value} {base : Heap}
noncomputable abbrev s__law_amount : Stmt := top 53
theorem sc__law_amount : FnScope ["_law_number", "_law_top"] ["_law_number"] (defScope s__law_amount) := ⟨rfl, rfl, rfl, by decide +kernel, rfl, by decide +kernel, by decide +kernel⟩
theorem ok__law_amount {ca : Ca} (D : DefAt K mg "_law_amount" s__law_amount) (T : Txt K mg ca) (G__law_lowest : FnAt P w K mg base CX0 1 "_law_lowest" ["_law_top", "_law_bottom"] (spLow)) : FnAt P w K mg base CX0 2 "_law_amount" ["_law_number"] (spAmt) := by
 refine D.ok sc__law_amount (fun vs H Q E h => ?_) (fun _ _ _ _ _ _ us hl => match us, hl with | [_], _ => rfl) (fun f cdv A outer s H vs Q E hr h => ?_)
 ·obtain ⟨n, rfl, hn0, hn, k⟩ := h; rfl
 ·obtain ⟨n, rfl, hn0, hn, k⟩ := h
  have nd := sc__law_amount.nd
  refine ⟨_, (@pss_cons _ _ _ _ _ (ps_if (pt_cmpR op_eq (@pe_op _ _ _ _ _ _ _ _ op_modN (pv 0) pe_int) pe_int (nomark _)) (@pss_one _ _ _ (ps_ret (@pe_tup _ _ _ _ _ (@pa_cons _ _ _ _ _ (@pe_op _ _ _ _ _ _ _ _ op_add pe_int (@pe_op _ _ _ _ _ _ _ _ op_modN (@pe_op _ _ _ _ _ _ _ _ op_fdivB (pv 0) pe_int) pe_int)) (@pa_cons _ _ _ _ _ pe_int pa_nil (by rfl)) (by rfl))))) pss_nil)
   (@pss_cons _ _ _ _ _ (ps_if (pt_cmpR op_eq (@pe_op _ _ _ _ _ _ _ _ op_modN (pv 0) pe_int) pe_int (nomark _)) (@pss_one _ _ _ (ps_ret (pe_fn G__law_lowest hr (by rfl) pass0 (@pa_cons _ _ _ _ _ (@pe_op _ _ _ _ _ _ _ _ op_add pe_int (@pe_op _ _ _ _ _ _ _ _ op_modN (@pe_op _ _ _ _ _ _ _ _ op_fdivB (pv 0) pe_int) pe_int)) (@pa_cons _ _ _ _ _ (@pe_op _ _ _ _ _ _ _ _ op_add pe_int (@pe_op _ _ _ _ _ _ _ _ op_modN (@pe_op _ _ _ _ _ _ _ _ op_fdivB (pv 0) pe_int) pe_int)) pa_nil (by rfl)) (by rfl))))) pss_nil)
   (@pss_cons _ _ _ _ _ (@ps_set _ _ 1 _ _ _ _ nd rfl (Or.inl rfl) (@pe_op _ _ _ _ _ _ _ _ op_add pe_int (@pe_op _ _ _ _ _ _ _ _ op_modN (@pe_op _ _ _ _ _ _ _ _ op_mulB (pv 0) (pv 0)) pe_int)) (by rfl) (Or.inl rfl))
   (@pss_cons _ _ _ _ _ (ps_if (pt_cmpR op_eq (@pe_op _ _ _ _ _ _ _ _ op_modN (pv 0) pe_int) pe_int (nomark _)) (@pss_one _ _ _ (ps_ret (@pe_tup _ _ _ _ _ (@pa_cons _ _ _ _ _ (pv 1) (@pa_cons _ _ _ _ _ pe_int pa_nil (by rfl)) (by rfl))))) pss_nil)
   (@pss_one _ _ _ (ps_ret (pe_fn G__law_lowest hr (by rfl) pass0 (@pa_cons _ _ _ _ _ (pv 1) (@pa_cons _ _ _ _ _ (@pe_op _ _ _ _ _ _ _ _ op_add pe_int (@pe_op _ _ _ _ _ _ _ _ op_modN (@pe_op _ _ _ _ _ _ _ _ op_mulB (@pe_op _ _ _ _ _ _ _ _ op_fdivB (pv 0) pe_int) pe_int) pe_int)) pa_nil (by rfl)) (by rfl))))))))), ?_⟩
  have m4 : (4 : Int) ≠ 0 := by decide
  have q9 := fmod_lt (c := n.fdiv 4) (m := 9) (by decide)
  have q20 := fmod_lt (c := n.fdiv 4) (m := 20) (by decide)
  have q6 := fmod_lt (c := n.fdiv 80) (m := 6) (by decide)
  have qt := fmod_lt (c := n * n) (m := 999999999999) (by decide)
  have qb := fmod_lt (c := n.fdiv 7 * 48271) (m := 999999999999) (by decide)
  refine ⟨_, rfl, _, _, rfl, rfl, m4, rfl, _, rfl, ?_⟩
  refine ite2 (fun _ => ?_) (fun _ => ?_)
  ·refine ⟨_, rfl, _, _, rfl, rfl, dd (by decide) (by decide), _, _, rfl, rfl, (show (9 : Int) ≠ 0 by decide), _, _, rfl, rfl, sz (by simp), fun p hp => ?_⟩
   exact k p _ _ _ (Same.upd hp) upd_same (by omega) (by omega) (by decide) (by decide) (Int.gcd_one_right _)
  refine ⟨_, rfl, _, _, rfl, rfl, m4, rfl, _, rfl, ?_⟩
  refine ite2 (fun _ => ?_) (fun _ => ?_)
  ·refine ⟨_, rfl, _, _, rfl, rfl, dd (by decide) (by decide), _, _, rfl, rfl, (show (20 : Int) ≠ 0 by decide), _, _, rfl, rfl, _, rfl, _, _, rfl, rfl, dd (by decide) (by decide), _, _, rfl, rfl, (show (6 : Int) ≠ 0 by decide), _, _, rfl, rfl, ?_⟩
   exact ⟨_, _, rfl, by omega, by omega, by omega, by omega, fun p x y H' s' hp h1 h2 h3 h4 h5 h6 _ => k p x y H' s' hp (h6 (by omega)) h2 h3 h4 h5⟩
  refine ⟨_, rfl, _, rfl, _, _, rfl, rfl, mulOk_of 256 (big_bits hn0 hn) (big_bits hn0 hn) (by decide), _, _, rfl, rfl, (show (999999999999 : Int) ≠ 0 by decide), _, _, rfl, rfl, ?_⟩
  refine ⟨_, rfl, _, _, rfl, rfl, m4, rfl, _, rfl, ?_⟩
  refine ite2 (fun _ => ?_) (fun _ => ?_)
  ·refine ⟨_, rfl, sz (by simp), fun p hp => ?_⟩
   exact k p _ _ _ (Same.upd hp) upd_same (by omega) (by omega) (by decide) (by decide) (Int.gcd_one_right _)
  refine ⟨_, rfl, _, rfl, _, _, rfl, rfl, dd (by decide) (by decide), _, _, rfl, rfl, IntMulOk.of_right (by decide), _, _, rfl, rfl, (show (999999999999 : Int) ≠ 0 by decide), _, _, rfl, rfl, ?_⟩
  exact ⟨_, _, rfl, by omega, by omega, by omega, by omega, fun p x y H' s' hp h1 h2 h3 h4 h5 h6 _ => k p x y H' s' hp (h6 (by omega)) h2 h3 h4 h5⟩
end
end T13
namespace T13
open PySem L2 Tc
section
variable {P : Program} {w : World} {K : PySem.W.Frag} {mg : Str → Option Value} {base : Heap}
noncomputable abbrev s__law_share : Stmt := top 54
theorem sc__law_share : FnScope ["_law_number", "_law_bottom"] ["_law_number"] (defScope s__law_share) := ⟨rfl, rfl, rfl, by decide +kernel, rfl, by decide +kernel, by decide +kernel⟩
theorem ok__law_share {ca : Ca} (D : DefAt K mg "_law_share" s__law_share) (T : Txt K mg ca) (G__law_lowest : FnAt P w K mg base CX0 1 "_law_lowest" ["_law_top", "_law_bottom"] (spLow)) : FnAt P w K mg base CX0 2 "_law_share" ["_law_number"] (spShr) := by
 refine D.ok sc__law_share (fun vs H Q E h => ?_) (fun _ _ _ _ _ _ us hl => match us, hl with | [_], _ => rfl) (fun f cdv A outer s H vs Q E hr h => ?_)
 ·obtain ⟨n, rfl, hn0, hn, k⟩ := h; rfl
 ·obtain ⟨n, rfl, hn0, hn, k⟩ := h
  have nd := sc__law_share.nd
  refine ⟨_, (@pss_cons _ _ _ _ _ (@ps_set _ _ 1 _ _ _ _ nd rfl (Or.inl rfl) (pe_ix (ix_list' (K := K) rfl) (@pe_lst _ _ _ _ (@pa_cons _ _ _ _ _ pe_int (@pa_cons _ _ _ _ _ pe_int (@pa_cons _ _ _ _ _ pe_int (@pa_cons _ _ _ _ _ (@pe_op _ _ _ _ _ _ _ _ op_add pe_int (@pe_op _ _ _ _ _ _ _ _ op_modN (@pe_op _ _ _ _ _ _ _ _ op_mulB (@pe_op _ _ _ _ _ _ _ _ op_fdivB (pv 0) pe_int) pe_int) pe_int)) pa_nil (by rfl)) (by rfl)) (by rfl)) (by rfl))) (@pe_op _ _ _ _ _ _ _ _ op_modN (pv 0) pe_int) (fun _ _ => rfl)) (by rfl) (Or.inl rfl))
   (@pss_one _ _ _ (ps_ret (pe_fn G__law_lowest hr (by rfl) pass0 (@pa_cons _ _ _ _ _ (@pe_op _ _ _ _ _ _ _ _ op_modN (@pe_op _ _ _ _ _ _ _ _ op_mulB (@pe_op _ _ _ _ _ _ _ _ op_fdivB (pv 0) pe_int) pe_int) (@pe_op _ _ _ _ _ _ _ _ op_add (pv 1) pe_int)) (@pa_cons _ _ _ _ _ (pv 1) pa_nil (by rfl)) (by rfl)))))), ?_⟩
  have qb := fmod_lt (c := n.fdiv 8 * 48271) (m := 999999999999) (by decide)
  have q4 := fmod_lt (c := n) (m := 4) (by decide)
  refine ⟨_, rfl, _, _, rfl, rfl, dd (by decide) (by decide), _, _, rfl, rfl, IntMulOk.of_right (by decide), _, _, rfl, rfl, (show (999999999999 : Int) ≠ 0 by decide), _, _, rfl, rfl, sz (by simp), fun p hp => ?_⟩
  obtain ⟨b, hb0, hb1, hat⟩ : ∃ b : Int, 0 < b ∧ b < 10 ^ 12 ∧ atI [V.int 1, .int 2, .int 3, .int (1 + (n.fdiv 8 * 48271).fmod 999999999999)] (n.fmod 4) = some (V.int b) := by
   have h : n.fmod 4 = 0 ∨ n.fmod 4 = 1 ∨ n.fmod 4 = 2 ∨ n.fmod 4 = 3 := by omega
   rcases h with h | h | h | h <;> rw [h]
   ·exact ⟨1, by decide, by decide, rfl⟩
   ·exact ⟨2, by decide, by decide, rfl⟩
   ·exact ⟨3, by decide, by decide, rfl⟩
   ·exact ⟨_, by omega, by omega, rfl⟩
  refine ⟨_, rfl, _, _, rfl, rfl, (show (4 : Int) ≠ 0 by decide), p, _, _, _, rfl, rfl, SqL.of upd_same, hat, ?_⟩
  have qt := fmod_lt (c := n.fdiv 5 * 69621) (m := b + 1) (by omega)
  refine ⟨_, rfl, _, _, rfl, rfl, dd (by decide) (by decide), _, _, rfl, rfl, IntMulOk.of_right (by decide), _, rfl, _, _, rfl, rfl, _, _, rfl, rfl, (show b + 1 ≠ 0 by omega), _, rfl, ?_⟩
  exact ⟨_, _, rfl, qt.1, by omega, hb0, hb1, fun p2 x y H' s' hp2 h1 h2 h3 h4 h5 _ h7 => k p2 x y H' ((Same.upd hp).trans s') hp2 h1 (h7 (by omega)) h3 h4 h5⟩
end
end T13
namespace T13
open PySem L2 Tc
section
variable {P : Program} {w : World} {K : PySem.W.Frag} {mg : Str → Option Value} {base : Heap}
noncomputable abbrev s__law_number_text : Stmt := top 55
theorem sc__law_number_text : FnScope ["_law_one"] ["_law_one"] (defScope s__law_number_text) := ⟨rfl, rfl, rfl, by decide +kernel, rfl, by decide +kernel, by decide +kernel⟩
theorem ok__law_number_text {ca : Ca} (D : DefAt K mg "_law_number_text" s__law_number_text) (T : Txt K mg ca) : FnAt P w K mg base CX0 1 "_law_number_text" ["_law_one"] (spNT K) := by
 refine D.ok sc__law_number_text (fun vs H Q E h => ?_) (fun _ _ _ _ _ _ us hl => match us, hl with | [_], _ => rfl) (fun f cdv A outer s H vs Q E hr h => ?_)
 ·obtain ⟨a, x, y, rfl, hS, hx0, hx, hy0, hy, k⟩ := h; rfl
 ·obtain ⟨a, x, y, rfl, hS, hx0, hx, hy0, hy, k⟩ := h
  have nd := sc__law_number_text.nd
  refine ⟨_, (@pss_cons _ _ _ _ _ (ps_if (pt_cmpR op_eq (pe_ix (ix_tup' (K := K) rfl) (pv 0) pe_int (fun _ _ => rfl)) pe_int (nomark _)) (@pss_one _ _ _ (ps_ret (pe_callTy call_str_int (by rfl) T.z_str bt_str (@pa_cons _ _ _ _ _ (pe_ix (ix_tup' (K := K) rfl) (pv 0) pe_int (fun _ _ => rfl)) pa_nil (by rfl))))) pss_nil)
   (@pss_one _ _ _ (ps_ret (@pe_op _ _ _ _ _ _ _ _ op_add_str (@pe_op _ _ _ _ _ _ _ _ op_add_str (pe_callTy call_str_int (by rfl) T.z_str bt_str (@pa_cons _ _ _ _ _ (pe_ix (ix_tup' (K := K) rfl) (pv 0) pe_int (fun _ _ => rfl)) pa_nil (by rfl))) pe_str) (pe_callTy call_str_int (by rfl) T.z_str bt_str (@pa_cons _ _ _ _ _ (pe_ix (ix_tup' (K := K) rfl) (pv 0) pe_int (fun _ _ => rfl)) pa_nil (by rfl))))))), ?_⟩
  unfold numTxt at k
  refine ⟨_, rfl, a, _, 1, _, rfl, rfl, hS, rfl, rfl, _, rfl, ?_⟩
  refine ite2 (fun h1 => ?_) (fun h1 => ?_)
  ·rw [if_pos (V.int.inj (of_decide_eq_true h1))] at k
   exact ⟨_, rfl, a, _, 0, _, rfl, rfl, hS, rfl, x, rfl, log_small hx0 hx, k⟩
  ·rw [if_neg (fun z => h1 (decide_eq_true (congrArg V.int z)))] at k
   have l1 := figs_len hx0 hx
   have l2 := figs_len (by omega) hy
   have ld := slash_len
   refine ⟨_, rfl, a, _, 0, _, rfl, rfl, hS, rfl, x, rfl, log_small hx0 hx, _, _, rfl, rfl, sz (show (figs x).length + (Str.ofString "/").length ≤ 1000 by omega), _, rfl, a, _, 1, _, rfl, rfl, hS, rfl, y, rfl, log_small (by omega) hy, _, _, rfl, rfl, sz ?_, k⟩
   show (figs x ++ Str.ofString "/").length + (figs y).length ≤ 1000
   rw [strLen_append]; omega
end
end T13
namespace T13
open PySem L2 Tc
section
variable {P : Program} {w : World} {K : PySem.W.Frag} {mg : Str → Option Value} {base : Heap}
noncomputable abbrev s__law_word : Stmt := top 56
theorem sc__law_word : FnScope ["_law_number"] ["_law_number"] (defScope s__law_word) := ⟨rfl, rfl, rfl, by decide +kernel, rfl, by decide +kernel, by decide +kernel⟩
theorem ok__law_word {ca : Ca} (D : DefAt K mg "_law_word" s__law_word) (T : Txt K mg ca) (G__law_names : FnAt P w K mg base CX0 2 "_law_names" ["_law_number", "_law_many"] (spNam)) : FnAt P w K mg base CX0 3 "_law_word" ["_law_number"] (spWord) := by
 refine D.ok sc__law_word (fun vs H Q E h => ?_) (fun _ _ _ _ _ _ us hl => match us, hl with | [_], _ => rfl) (fun f cdv A outer s H vs Q E hr h => ?_)
 ·obtain ⟨n, rfl, k⟩ := h; rfl
 ·obtain ⟨n, rfl, k⟩ := h
  have nd := sc__law_word.nd
  refine ⟨_, (@pss_one _ _ _ (ps_ret (pe_ix (ix_list' (K := K) rfl) (pe_fn G__law_names hr (by rfl) pass0 (@pa_cons _ _ _ _ _ (pv 0) (@pa_cons _ _ _ _ _ (@pe_op _ _ _ _ _ _ _ _ op_add pe_int (@pe_op _ _ _ _ _ _ _ _ op_modN (@pe_op _ _ _ _ _ _ _ _ op_fdivB (pv 0) pe_int) pe_int)) pa_nil (by rfl)) (by rfl))) (@pe_op _ _ _ _ _ _ _ _ op_modN (@pe_op _ _ _ _ _ _ _ _ op_fdivB (pv 0) pe_int) (@pe_op _ _ _ _ _ _ _ _ op_add pe_int (@pe_op _ _ _ _ _ _ _ _ op_modN (@pe_op _ _ _ _ _ _ _ _ op_fdivB (pv 0) pe_int) pe_int))) (fun _ _ => rfl)))), ?_⟩
  have q9 := fmod_lt (c := n.fdiv 3) (m := 9) (by decide)
  refine ⟨_, rfl, _, rfl, _, _, rfl, rfl, dd (by decide) (by decide), _, _, rfl, rfl, (show (9 : Int) ≠ 0 by decide), _, _, rfl, rfl, n, 1 + (n.fdiv 3).fmod 9, rfl, by omega, by omega, fun p H1 zs s1 _ hp hl _ hz => ?_⟩
  have qi := fmod_lt (c := n.fdiv 27) (m := 1 + (n.fdiv 3).fmod 9) (by omega)
  refine ⟨_, rfl, _, _, rfl, rfl, dd (by decide) (by decide), _, rfl, _, _, rfl, rfl, dd (by decide) (by decide), _, _, rfl, rfl, (show (9 : Int) ≠ 0 by decide), _, _, rfl, rfl, _, _, rfl, rfl, (show 1 + (n.fdiv 3).fmod 9 ≠ 0 by omega), ?_⟩
  obtain ⟨v, hv, hat⟩ := atI_in (xs := zs.map V.str) qi.1 (by rw [List.length_map, hl]; exact qi.2)
  obtain ⟨z, hz1, rfl⟩ := List.mem_map.mp hv
  exact ⟨p, _, _, _, rfl, rfl, SqL.of hp, hat, k z H1 s1 (hz z hz1)⟩
end
end T13
namespace T13
open PySem L2 Tc
section
variable {P : Program} {w : World} {K : PySem.W.Frag} {mg : Str → Option Value} {base : Heap}
noncomputable abbrev s__law_plain : Stmt := top 57
theorem sc__law_plain : FnScope ["_law_number", "_law_word_here", "_law_x", "_law_y", "_law_places", "_law_value"] ["_law_number"] (defScope s__law_plain) := ⟨rfl, rfl, rfl, by decide +kernel, rfl, by decide +kernel, by decide +kernel⟩
theorem ok__law_plain {ca : Ca} (D : DefAt K mg "_law_plain" s__law_plain) (T : Txt K mg ca) (G__law_word : FnAt P w K mg base CX0 3 "_law_word" ["_law_number"] (spWord)) (G__law_amount : FnAt P w K mg base CX0 2 "_law_amount" ["_law_number"] (spAmt)) (G__law_share : FnAt P w K mg base CX0 2 "_law_share" ["_law_number"] (spShr)) (G__law_number_text : FnAt P w K mg base CX0 1 "_law_number_text" ["_law_one"] (spNT K)) : FnAt P w K mg base CX0 4 "_law_plain" ["_law_number"] (spPlain K) := by
 refine D.ok sc__law_plain (fun vs H Q E h => ?_) (fun _ _ _ _ _ _ us hl => match us, hl with | [_], _ => rfl) (fun f cdv A outer s H vs Q E hr h => ?_)
 ·obtain ⟨n, rfl, hn0, hn, k⟩ := h; rfl
 ·obtain ⟨n, rfl, hn0, hn, k⟩ := h
  have nd := sc__law_plain.nd
  refine ⟨_, (@pss_cons _ _ _ _ _ (@ps_set _ _ 1 _ _ _ _ nd rfl (Or.inl rfl) (pe_ix (ix_list' (K := K) rfl) (@pe_lst _ _ _ _ (@pa_cons _ _ _ _ _ pe_str (@pa_cons _ _ _ _ _ pe_str (@pa_cons _ _ _ _ _ pe_str (@pa_cons _ _ _ _ _ pe_str (@pa_cons _ _ _ _ _ pe_str (@pa_cons _ _ _ _ _ pe_str (@pa_cons _ _ _ _ _ pe_str pa_nil (by rfl)) (by rfl)) (by rfl)) (by rfl)) (by rfl)) (by rfl)) (by rfl))) (@pe_op _ _ _ _ _ _ _ _ op_modN (pv 0) pe_int) (fun _ _ => rfl)) (by rfl) (Or.inl rfl))
   (@pss_cons _ _ _ _ _ (@ps_set _ _ 0 _ _ _ _ nd rfl (Or.inr rfl) (@pe_op _ _ _ _ _ _ _ _ op_fdivB (pv 0) pe_int) (by rfl) (Or.inl rfl))
   (@pss_cons _ _ _ _ _ (ps_if (pt_cmpR op_eq (pv 1) pe_str (nomark _)) (@pss_one _ _ _ (ps_ret (@pe_tup _ _ _ _ _ (@pa_cons _ _ _ _ _ (@pe_tup _ _ _ _ _ (@pa_cons _ _ _ _ _ (pv 1) pa_nil (by rfl))) (@pa_cons _ _ _ _ _ (pv 1) pa_nil (by rfl)) (by rfl))))) pss_nil)
   (@pss_cons _ _ _ _ _ (@ps_set _ _ 2 _ _ _ _ nd rfl (Or.inl rfl) (pe_fn G__law_word hr (by rfl) pass0 (@pa_cons _ _ _ _ _ (pv 0) pa_nil (by rfl))) (by rfl) (Or.inl rfl))
   (@pss_cons _ _ _ _ _ (@ps_set _ _ 3 _ _ _ _ nd rfl (Or.inl rfl) (pe_fn G__law_word hr (by rfl) pass0 (@pa_cons _ _ _ _ _ (@pe_op _ _ _ _ _ _ _ _ op_fdivB (pv 0) pe_int) pa_nil (by rfl))) (by rfl) (Or.inl rfl))
   (@pss_cons _ _ _ _ _ (ps_if (pt_cmpR op_eq (pv 1) pe_str (nomark _)) (@pss_cons _ _ _ _ _ (ps_setcomp ["_law_k"] ["_law_number"] [0] (i := 4) nd rfl rfl rfl (by rfl) (pi_range1 (by rfl) T.z_range (@pa_cons _ _ _ _ _ (@pe_op _ _ _ _ _ _ _ _ op_add pe_int (@pe_op _ _ _ _ _ _ _ _ op_modN (@pe_op _ _ _ _ _ _ _ _ op_fdivB (pv 0) pe_int) pe_int)) pa_nil (by rfl))) (fun _ _ _ _ => (pg_name (i := 0) (show List.Nodup (["_law_k", "_law_number"] : List Str) from by decide) rfl (Or.inl rfl))) (fun _ _ _ _ => pif_none) (fun _ _ _ _ => (pe_fn G__law_word hr (by rfl) pass0 (@pa_cons _ _ _ _ _ (@pe_op _ _ _ _ _ _ _ _ op_fdivB (pv 1) (@pe_op _ _ _ _ _ _ _ _ op_add (pv 0) pe_int)) pa_nil (by rfl)))))
   (@pss_one _ _ _ (ps_ret (@pe_tup _ _ _ _ _ (@pa_cons _ _ _ _ _ (@pe_tup _ _ _ _ _ (@pa_cons _ _ _ _ _ (pv 1) (@pa_cons _ _ _ _ _ (pv 2) (@pa_cons _ _ _ _ _ (pe_callTy (call_tuple_of' (K := K) rfl) (by rfl) T.z_tuple bt_tuple (@pa_cons _ _ _ _ _ (pv 4) pa_nil (by rfl))) pa_nil (by rfl)) (by rfl)) (by rfl))) (@pa_cons _ _ _ _ _ (pe_bm' (K := K) rfl PySem.F.plainAttrs_str PySem.F.slot_str_join PySem.F.type_str_join (mt_join' (K := K) rfl) pe_str (@pa_cons _ _ _ _ _ (@pe_op _ _ _ _ _ _ _ _ op_cat (@pe_lst _ _ _ _ (@pa_cons _ _ _ _ _ (pv 1) (@pa_cons _ _ _ _ _ (pv 2) pa_nil (by rfl)) (by rfl))) (pv 4)) pa_nil (by rfl))) pa_nil (by rfl)) (by rfl)))))) pss_nil)
   (@pss_cons _ _ _ _ _ (ps_if (PW.pt (pw_or (pt_cmpR op_eq (pv 1) pe_str (nomark _)) (pw_or1 (pt_cmpR op_eq (pv 1) pe_str (nomark _))))) (@pss_one _ _ _ (ps_ret (@pe_tup _ _ _ _ _ (@pa_cons _ _ _ _ _ (@pe_tup _ _ _ _ _ (@pa_cons _ _ _ _ _ (pv 1) (@pa_cons _ _ _ _ _ (pv 2) (@pa_cons _ _ _ _ _ (pv 3) pa_nil (by rfl)) (by rfl)) (by rfl))) (@pa_cons _ _ _ _ _ (@pe_op _ _ _ _ _ _ _ _ op_add_str (@pe_op _ _ _ _ _ _ _ _ op_add_str (@pe_op _ _ _ _ _ _ _ _ op_add_str (@pe_op _ _ _ _ _ _ _ _ op_add_str (pv 1) pe_str) (pv 2)) pe_str) (pv 3)) pa_nil (by rfl)) (by rfl))))) pss_nil)
   (@pss_cons _ _ _ _ _ (@ps_set _ _ 5 _ _ _ _ nd rfl (Or.inl rfl) (pe_fn G__law_amount hr (by rfl) pass0 (@pa_cons _ _ _ _ _ (@pe_op _ _ _ _ _ _ _ _ op_fdivB (pv 0) pe_int) pa_nil (by rfl))) (by rfl) (Or.inl rfl))
   (@pss_cons _ _ _ _ _ (ps_if (pt_cmpR op_eq (pv 1) pe_str (nomark _)) (@pss_one _ _ _ (@ps_set _ _ 5 _ _ _ _ nd rfl (Or.inl rfl) (pe_fn G__law_share hr (by rfl) pass0 (@pa_cons _ _ _ _ _ (@pe_op _ _ _ _ _ _ _ _ op_fdivB (pv 0) pe_int) pa_nil (by rfl))) (by rfl) (Or.inl rfl))) pss_nil)
   (@pss_one _ _ _ (ps_ret (@pe_tup _ _ _ _ _ (@pa_cons _ _ _ _ _ (@pe_tup _ _ _ _ _ (@pa_cons _ _ _ _ _ (pv 1) (@pa_cons _ _ _ _ _ (pv 2) (@pa_cons _ _ _ _ _ (pv 3) (@pa_cons _ _ _ _ _ (pv 5) pa_nil (by rfl)) (by rfl)) (by rfl)) (by rfl))) (@pa_cons _ _ _ _ _ (@pe_op _ _ _ _ _ _ _ _ op_add_str (@pe_op _ _ _ _ _ _ _ _ op_add_str (@pe_op _ _ _ _ _ _ _ _ op_add_str (@pe_op _ _ _ _ _ _ _ _ op_add_str (@pe_op _ _ _ _ _ _ _ _ op_add_str (@pe_op _ _ _ _ _ _ _ _ op_add_str (pv 1) pe_str) (pv 2)) pe_str) (pv 3)) pe_str) (pe_fn G__law_number_text hr (by rfl) pass0 (@pa_cons _ _ _ _ _ (pv 5) pa_nil (by rfl)))) pa_nil (by rfl)) (by rfl)))))))))))))), ?_⟩
  have q7 := fmod_lt (c := n) (m := 7) (by decide)
  obtain ⟨u, hat, hul, hu⟩ := w7 q7
  refine ⟨sz (show 7 ≤ 1000 by decide), fun pw hpw => ?_⟩
  refine ⟨_, rfl, _, _, rfl, rfl, (show (7 : Int) ≠ 0 by decide), pw, _, _, _, rfl, rfl, SqL.of upd_same, hat, ?_⟩
  have sw := Same.upd (o := .lst W7) hpw
  refine ⟨_, rfl, _, _, rfl, rfl, dd (by decide) (by decide), ?_⟩
  have g7 := fdv hn0 (show (0 : Int) < 7 by decide)
  let N : Int := n.fdiv 7
  have hN0 : 0 ≤ N := g7.1
  have hN : N < BG := by have : N ≤ n := g7.2; omega
  have g11 := fdv hN0 (show (0 : Int) < 11 by decide)
  refine ⟨_, rfl, rfl, _, rfl, ?_⟩
  refine ite2 (fun h => ?_) (fun h0 => ?_)
  ·have h := V.str.inj (of_decide_eq_true h)
   subst h
   refine ⟨_, rfl, sz (show 1 ≤ 1000 by decide), fun d hd => ⟨_, rfl, sz (show 2 ≤ 1000 by decide), fun p hp => ?_⟩⟩
   refine k p (.ref d) .year _ ((sw.trans (Same.upd hd)).trans (Same.upd hp)) (by rw [upd_same, year_row]) ⟨d, rfl, (Same.upd hp) _ _ upd_same⟩ trivial
  refine ⟨_, rfl, N, rfl, fun x H1 s1 hx => ?_⟩
  refine ⟨_, rfl, _, _, rfl, rfl, dd (by decide) (by decide), N.fdiv 5, rfl, fun y H2 s2 hy => ?_⟩
  have s12 := sw.trans (s1.trans s2)
  have lx := nm_short hx
  have ly := nm_short hy
  have ls := sp_len
  refine ⟨_, rfl, rfl, _, rfl, ?_⟩
  refine ite2 (fun h => ?_) (fun h1 => ?_)
  ·have h := V.str.inj (of_decide_eq_true h)
   subst h
   have q8 := fmod_lt (c := N.fdiv 3) (m := 8) (by decide)
   have q8b : 0 ≤ ((n.fdiv 7).fdiv 3).fmod 8 ∧ ((n.fdiv 7).fdiv 3).fmod 8 < 8 := q8
   refine ⟨_, rfl, _, _, rfl, rfl, dd (by decide) (by decide), _, _, rfl, rfl, (show (8 : Int) ≠ 0 by decide), _, _, rfl, rfl, _, rfl, by omega, by omega, fun D hD => ?_⟩
   refine block_range (fun j σ' H' => ∃ (v : Option V) (ps : List Str), σ' = [v, some (.int N)] ∧ Same H2 H' ∧ H' D = some (.lst (ps.map V.str)) ∧ ps.length = j ∧ ∀ p ∈ ps, nm p = true) ⟨none, [], rfl, Same.upd hD, upd_same, rfl, fun _ z => nomatch z⟩ ?_ ?_
   ·rintro j σ' H' hj ⟨v, ps, rfl, s3, hd3, hl, hnm⟩
    have hj : j < (1 + (N.fdiv 3).fmod 8).toNat := hj
    refine ⟨_, rfl, _, rfl, _, _, rfl, rfl, _, _, rfl, rfl, (show CDivB N (0 + (j : Int) + 2) from dd (by omega) (by omega)), _, rfl, fun z H4 s4 hz => ?_⟩
    refine ⟨_, s4 _ _ hd3, by rw [List.length_map]; exact sz (by omega), _, ps ++ [z], rfl, (s3.trans s4).updD hD, ?_, by rw [List.length_append, hl]; rfl, ?_⟩
    ·rw [upd_same, List.map_append]; rfl
    ·intro w hw
     rcases List.mem_append.mp hw with hw | hw
     ·exact hnm w hw
     ·rw [List.mem_singleton.mp hw]; exact hz
   rintro σ' H3 ⟨v, ps, rfl, s3, hd3, hl, hnm⟩
   have hl : ps.length = (1 + (N.fdiv 3).fmod 8).toNat := hl
   have ok : Pd.Ok (.dor x ps) := ⟨hx, by omega, by omega, hnm⟩
   have rm := join_room (Pd.room ok).1 (Pd.room ok).2
   have s3' := s12.trans s3
   refine ⟨_, rfl, _, rfl, _, rfl, D, _, rfl, .inl ⟨SqL.of hd3, fun b hb => ⟨sz (show 3 ≤ 1000 by decide), fun d hd => ?_⟩⟩⟩
   have t1 := Same.upd (o := .tup (ps.map V.str)) hb
   have t2 := Same.upd (o := .tup [.str (Str.ofString "do"), .str x, .ref b]) hd
   refine ⟨rfl, _, rfl, _, rfl, sz (show 2 ≤ 1000 by decide), fun q hq => ?_⟩
   have t3 := Same.upd (o := .lst [.str (Str.ofString "do"), .str x]) hq
   refine ⟨_, rfl, q, D, _, _, rfl, rfl, upd_same, t3 _ _ (t2 _ _ (t1 _ _ hd3)), ?_, fun r hr2 => ?_⟩
   ·rw [List.length_map]; exact sz (show 2 + ps.length ≤ 1000 by omega)
   have t4 := Same.upd (o := .lst ([.str (Str.ofString "do"), .str x] ++ ps.map V.str)) hr2
   refine ⟨_, r, Str.ofString "do" :: x :: ps, rfl, rfl, SqL.of upd_same, rm, sz (show 2 ≤ 1000 by decide), fun p hp => ?_⟩
   have t5 := Same.upd (o := .tup [.ref d, .str (Tk.pl (.dor x ps)).row]) hp
   have t35 := t3.trans (t4.trans t5)
   exact k p (.ref d) (.dor x ps) _ (s3'.trans (t1.trans (t2.trans t35))) upd_same ⟨d, b, rfl, t35 _ _ upd_same, t35 _ _ (t2 _ _ upd_same)⟩ ok
  have two : (u = Str.ofString "all" ∨ u = Str.ofString "fill") → ∀ d H3, Same H H3 → H3 d = some (.tup [.str u, .str x, .str y]) → ∀ p, H3 p = none → Q (.ref p) (upd H3 p (.tup [.ref d, .str (u ++ Str.ofString " " ++ x ++ Str.ofString " " ++ y)])) := fun hu d H3 s3 hd p hp =>
   k p (.ref d) (.two u x y) _ (s3.trans (Same.upd hp)) (by rw [upd_same, row3]; rfl) ⟨d, rfl, (Same.upd hp) _ _ hd⟩ ⟨hu, hx, hy⟩
  have a1 : u.length + (Str.ofString " ").length ≤ sizeLine := sz (by omega)
  have a2 : (u ++ Str.ofString " ").length + x.length ≤ sizeLine := sz (by rw [strLen_append]; omega)
  have a3 : (u ++ Str.ofString " " ++ x).length + (Str.ofString " ").length ≤ sizeLine := sz (by rw [strLen_append, strLen_append]; omega)
  have a4 : (u ++ Str.ofString " " ++ x ++ Str.ofString " ").length + y.length ≤ sizeLine := sz (by rw [strLen_append, strLen_append, strLen_append]; omega)
  refine ⟨_, rfl, rfl, _, rfl, ?_⟩
  refine ite2 (fun h => ?_) (fun h2 => ?_)
  ·have h := V.str.inj (of_decide_eq_true h)
   refine iteT ?_
   refine ⟨_, rfl, _, rfl, _, rfl, sz (show 3 ≤ 1000 by decide), fun d hd => ⟨_, rfl, _, _, rfl, rfl, a1, _, rfl, _, _, rfl, rfl, a2, _, _, rfl, rfl, a3, _, rfl, _, _, rfl, rfl, a4, sz (show 2 ≤ 1000 by decide), fun p hp => ?_⟩⟩
   exact two (.inl h) d _ (s12.trans (Same.upd hd)) upd_same p hp
  refine ⟨_, rfl, rfl, _, rfl, ?_⟩
  refine ite2 (fun h => ?_) (fun h3 => ?_)
  ·have h := V.str.inj (of_decide_eq_true h)
   refine ⟨_, rfl, _, rfl, _, rfl, sz (show 3 ≤ 1000 by decide), fun d hd => ⟨_, rfl, _, _, rfl, rfl, a1, _, rfl, _, _, rfl, rfl, a2, _, _, rfl, rfl, a3, _, rfl, _, _, rfl, rfl, a4, sz (show 2 ≤ 1000 by decide), fun p hp => ?_⟩⟩
   exact two (.inr h) d _ (s12.trans (Same.upd hd)) upd_same p hp
  have no : ∀ z : Str, ¬ decide (V.str u = V.str z) = true → ¬ u = z := fun z h e => h (decide_eq_true (congrArg V.str e))
  have hu3 : (u = Str.ofString "bring" ∨ u = Str.ofString "move") ∨ u = Str.ofString "part" := by
   rcases hu with e | e | (e | e) | e
   ·exact absurd e (no _ h0)
   ·exact absurd e (no _ h1)
   ·exact absurd e (no _ h2)
   ·exact absurd e (no _ h3)
   ·exact e
  have g11' : N.fdiv 11 < BG := by omega
  have a5 : (u ++ Str.ofString " " ++ x ++ Str.ofString " " ++ y).length + (Str.ofString " ").length ≤ sizeLine := sz (by rw [strLen_append, strLen_append, strLen_append, strLen_append]; omega)
  have a6 : ∀ z : Str, z.length ≤ 25 → (u ++ Str.ofString " " ++ x ++ Str.ofString " " ++ y ++ Str.ofString " ").length + z.length ≤ sizeLine := fun z hz => sz (by rw [strLen_append, strLen_append, strLen_append, strLen_append, strLen_append]; omega)
  have mea : ∀ X Y v d H3, Same H H3 → H3 v = some (.tup [.int X, .int Y]) → H3 d = some (.tup [.str u, .str x, .str y, .ref v]) → Pd.Ok (.mea u x y X Y) → ∀ p, H3 p = none → Q (.ref p) (upd H3 p (.tup [.ref d, .str (u ++ Str.ofString " " ++ x ++ Str.ofString " " ++ y ++ Str.ofString " " ++ numTxt X Y)])) := fun X Y v d H3 s3 hv hd ok p hp =>
   k p (.ref d) (.mea u x y X Y) _ (s3.trans (Same.upd hp)) (by rw [upd_same, row4]; rfl) ⟨d, v, rfl, (Same.upd hp) _ _ hd, (Same.upd hp) _ _ hv⟩ ok
  refine ⟨_, rfl, _, _, rfl, rfl, dd (by decide) (by decide), _, rfl, g11.1, g11', fun v X Y H3 s3 hv x1 x2 x3 x4 x5 => ?_⟩
  refine ⟨_, rfl, rfl, _, rfl, ?_⟩
  refine ite2 (fun h => ?_) (fun h4 => ?_)
  ·have h := V.str.inj (of_decide_eq_true h)
   refine ⟨_, rfl, _, _, rfl, rfl, dd (by decide) (by decide), _, rfl, g11.1, g11', fun v2 X2 Y2 H4 s4 hv2 y1 y2 y3 y4 y5 => ?_⟩
   have s5 := s12.trans (s3.trans s4)
   refine ⟨_, rfl, _, rfl, _, rfl, _, rfl, sz (show 4 ≤ 1000 by decide), fun d hd => ?_⟩
   have t1 := Same.upd (o := .tup [.str u, .str x, .str y, .ref v2]) hd
   refine ⟨_, rfl, _, _, rfl, rfl, a1, _, rfl, _, _, rfl, rfl, a2, _, _, rfl, rfl, a3, _, rfl, _, _, rfl, rfl, a4, _, _, rfl, rfl, a5, _, rfl, v2, X2, Y2, rfl, SqT.of (t1 _ _ hv2), y1, by omega, y3, y4, _, _, rfl, rfl, a6 _ (num_len y1 (by omega) y3 y4), sz (show 2 ≤ 1000 by decide), fun p hp => ?_⟩
   exact mea X2 Y2 v2 d _ (s5.trans t1) (t1 _ _ hv2) upd_same ⟨.inr ⟨h, y2⟩, hx, hy, y1, by omega, y3, y4, y5⟩ p hp
  have hu4 : u = Str.ofString "bring" ∨ u = Str.ofString "move" := by
   rcases hu3 with e | e
   ·exact e
   ·exact absurd e (no _ h4)
  refine ⟨_, rfl, _, rfl, _, rfl, _, rfl, sz (show 4 ≤ 1000 by decide), fun d hd => ?_⟩
  have t1 := Same.upd (o := .tup [.str u, .str x, .str y, .ref v]) hd
  refine ⟨_, rfl, _, _, rfl, rfl, a1, _, rfl, _, _, rfl, rfl, a2, _, _, rfl, rfl, a3, _, rfl, _, _, rfl, rfl, a4, _, _, rfl, rfl, a5, _, rfl, v, X, Y, rfl, SqT.of (t1 _ _ hv), by omega, x2, x3, x4, _, _, rfl, rfl, a6 _ (num_len (by omega) x2 x3 x4), sz (show 2 ≤ 1000 by decide), fun p hp => ?_⟩
  exact mea X Y v d _ ((s12.trans s3).trans t1) (t1 _ _ hv) upd_same ⟨.inl ⟨hu4, x1⟩, hx, hy, by omega, x2, x3, x4, x5⟩ p hp
end
end T13
namespace T13
open PySem L2 Tc
section
variable {P : Program} {w : World} {K : PySem.W.Frag} {mg : Str → Option Value} {base : Heap}
noncomputable abbrev s__law_deeds : Stmt := top 58
theorem sc__law_deeds : FnScope ["_law_cells", "_law_rows", "_law_frames", "_law_k", "_law_cell", "_law_number", "_law_many", "_law_deeds_here", "_law_deed", "_law_row"] ["_law_cells", "_law_rows"] (defScope s__law_deeds) := ⟨rfl, rfl, rfl, by decide +kernel, rfl, by decide +kernel, by decide +kernel⟩
theorem ok__law_deeds {ca : Ca} (D : DefAt K mg "_law_deeds" s__law_deeds) (T : Txt K mg ca) (G__law_mixed : FnAt P w K mg base CX0 1 "_law_mixed" ["_law_cell"] (spMix)) (G__law_plain : FnAt P w K mg base CX0 4 "_law_plain" ["_law_number"] (spPlain K)) : FnAt P w K mg base CX0 5 "_law_deeds" ["_law_cells", "_law_rows"] (spDeeds K) := by
 refine D.ok sc__law_deeds (fun vs H Q E h => ?_) (fun _ _ _ _ _ _ us hl => match us, hl with | [_, _], _ => rfl) (fun f cdv A outer s H vs Q E hr h => ?_)
 ·obtain ⟨C, R, ns, rs, rfl, hC, hns, hR, hrs, nCR, k⟩ := h; rfl
 ·obtain ⟨C, R, ns, rs, rfl, hC, hns, hR, hrs, nCR, k⟩ := h
  have nd := sc__law_deeds.nd
  refine ⟨_, (@pss_cons _ _ _ _ _ (@ps_set _ _ 2 _ _ _ _ nd rfl (Or.inl rfl) (@pe_lst _ _ _ _ (@pa_cons _ _ _ _ _ (@pe_tup _ _ _ _ _ (@pa_cons _ _ _ _ _ pe_int (@pa_cons _ _ _ _ _ (@pe_lst _ _ _ _ pa_nil) pa_nil (by rfl)) (by rfl))) pa_nil (by rfl))) (by rfl) (Or.inl rfl))
   (@pss_cons _ _ _ _ _ (ps_for PassesOwn.never rfl (pi_enum (K := K) rfl (by rfl) T.z_enumerate (@pa_cons _ _ _ _ _ (pv 0) pa_nil (by rfl))) (pg_tup rfl (pgs_cons (pg_name (i := 3) nd rfl (Or.inl rfl)) (pgs_cons (pg_name (i := 4) nd rfl (Or.inl rfl)) pgs_nil))) (@pss_cons _ _ _ _ _ (@ps_set _ _ 5 _ _ _ _ nd rfl (Or.inl rfl) (pe_fn G__law_mixed hr (by rfl) pass0 (@pa_cons _ _ _ _ _ (@pe_op _ _ _ _ _ _ _ _ op_add (@pe_op _ _ _ _ _ _ _ _ op_mulB pe_int (pv 4)) (pv 3)) pa_nil (by rfl))) (by rfl) (Or.inl rfl))
   (@pss_one _ _ _ (ps_if (PW.pt (pw_and (pt_cmpR op_eq (@pe_op _ _ _ _ _ _ _ _ op_modN (pv 4) pe_int) pe_int (nomark _)) (pw_and1 (pt_cmpR op_lt (pe_callB (call_len' (K := K) rfl) (by rfl) T.z_len PySem.boot_len (@pa_cons _ _ _ _ _ (pv 2) pa_nil (by rfl))) pe_int (nomark _))))) (@pss_cons _ _ _ _ _ (ps_expr (pe_bm PySem.F.plainAttrs_list PySem.F.slot_list_append PySem.F.type_list_append mt_append (pv 2) (@pa_cons _ _ _ _ _ (@pe_tup _ _ _ _ _ (@pa_cons _ _ _ _ _ (@pe_op _ _ _ _ _ _ _ _ op_modN (pv 5) pe_int) (@pa_cons _ _ _ _ _ (@pe_lst _ _ _ _ pa_nil) pa_nil (by rfl)) (by rfl))) pa_nil (by rfl))))
   (@pss_one _ _ _ (ps_expr (pe_bm PySem.F.plainAttrs_list PySem.F.slot_list_append PySem.F.type_list_append mt_append (pv 1) (@pa_cons _ _ _ _ _ (@pe_op _ _ _ _ _ _ _ _ op_add_str pe_str (pe_callTy call_str_int (by rfl) T.z_str bt_str (@pa_cons _ _ _ _ _ (@pe_op _ _ _ _ _ _ _ _ op_modN (pv 5) pe_int) pa_nil (by rfl)))) pa_nil (by rfl)))))) (@pss_one _ _ _ (ps_if (PW.pt (pw_and (pt_cmpR op_eq (@pe_op _ _ _ _ _ _ _ _ op_modN (pv 4) pe_int) pe_int (nomark _)) (pw_and1 (pt_cmpR op_gt (pe_callB (call_len' (K := K) rfl) (by rfl) T.z_len PySem.boot_len (@pa_cons _ _ _ _ _ (pv 2) pa_nil (by rfl))) pe_int (nomark _))))) (@pss_cons _ _ _ _ _ (ps_asg (pe_bm0' (K := K) rfl PySem.F.plainAttrs_list PySem.F.slot_list_pop PySem.F.type_list_pop mt_pop (pv 2)) (pg_tup rfl (pgs_cons (pg_name (i := 6) nd rfl (Or.inl rfl)) (pgs_cons (pg_name (i := 7) nd rfl (Or.inl rfl)) pgs_nil))))
   (@pss_cons _ _ _ _ _ (ps_expr (pe_bm PySem.F.plainAttrs_list PySem.F.slot_list_append PySem.F.type_list_append mt_append (pv 1) (@pa_cons _ _ _ _ _ pe_str pa_nil (by rfl))))
   (@pss_one _ _ _ (ps_expr (pe_bm PySem.F.plainAttrs_list PySem.F.slot_list_append PySem.F.type_list_append mt_append (pe_ix (ix_tup' (K := K) rfl) (pe_ix (ix_list' (K := K) rfl) (pv 2) (pe_un un_neg pe_int) (fun _ _ => rfl)) pe_int (fun _ _ => rfl)) (@pa_cons _ _ _ _ _ (@pe_tup _ _ _ _ _ (@pa_cons _ _ _ _ _ pe_str (@pa_cons _ _ _ _ _ (pv 6) (@pa_cons _ _ _ _ _ (pe_callTy (call_tuple_of' (K := K) rfl) (by rfl) T.z_tuple bt_tuple (@pa_cons _ _ _ _ _ (pv 7) pa_nil (by rfl))) pa_nil (by rfl)) (by rfl)) (by rfl))) pa_nil (by rfl))))))) (@pss_cons _ _ _ _ _ (ps_asg (pe_fn G__law_plain hr (by rfl) pass0 (@pa_cons _ _ _ _ _ (pv 5) pa_nil (by rfl))) (pg_tup rfl (pgs_cons (pg_name (i := 8) nd rfl (Or.inl rfl)) (pgs_cons (pg_name (i := 9) nd rfl (Or.inl rfl)) pgs_nil))))
   (@pss_cons _ _ _ _ _ (ps_expr (pe_bm PySem.F.plainAttrs_list PySem.F.slot_list_append PySem.F.type_list_append mt_append (pv 1) (@pa_cons _ _ _ _ _ (pv 9) pa_nil (by rfl))))
   (@pss_one _ _ _ (ps_expr (pe_bm PySem.F.plainAttrs_list PySem.F.slot_list_append PySem.F.type_list_append mt_append (pe_ix (ix_tup' (K := K) rfl) (pe_ix (ix_list' (K := K) rfl) (pv 2) (pe_un un_neg pe_int) (fun _ _ => rfl)) pe_int (fun _ _ => rfl)) (@pa_cons _ _ _ _ _ (pv 8) pa_nil (by rfl)))))))))))))
   (@pss_cons _ _ _ _ _ (ps_while PassesOwn.never (pt_cmpR op_gt (pe_callB (call_len' (K := K) rfl) (by rfl) T.z_len PySem.boot_len (@pa_cons _ _ _ _ _ (pv 2) pa_nil (by rfl))) pe_int (nomark _)) (@pss_cons _ _ _ _ _ (ps_asg (pe_bm0' (K := K) rfl PySem.F.plainAttrs_list PySem.F.slot_list_pop PySem.F.type_list_pop mt_pop (pv 2)) (pg_tup rfl (pgs_cons (pg_name (i := 6) nd rfl (Or.inl rfl)) (pgs_cons (pg_name (i := 7) nd rfl (Or.inl rfl)) pgs_nil))))
   (@pss_cons _ _ _ _ _ (ps_expr (pe_bm PySem.F.plainAttrs_list PySem.F.slot_list_append PySem.F.type_list_append mt_append (pv 1) (@pa_cons _ _ _ _ _ pe_str pa_nil (by rfl))))
   (@pss_one _ _ _ (ps_expr (pe_bm PySem.F.plainAttrs_list PySem.F.slot_list_append PySem.F.type_list_append mt_append (pe_ix (ix_tup' (K := K) rfl) (pe_ix (ix_list' (K := K) rfl) (pv 2) (pe_un un_neg pe_int) (fun _ _ => rfl)) pe_int (fun _ _ => rfl)) (@pa_cons _ _ _ _ _ (@pe_tup _ _ _ _ _ (@pa_cons _ _ _ _ _ pe_str (@pa_cons _ _ _ _ _ (pv 6) (@pa_cons _ _ _ _ _ (pe_callTy (call_tuple_of' (K := K) rfl) (by rfl) T.z_tuple bt_tuple (@pa_cons _ _ _ _ _ (pv 7) pa_nil (by rfl))) pa_nil (by rfl)) (by rfl)) (by rfl))) pa_nil (by rfl))))))))
   (@pss_one _ _ _ (ps_ret (pe_callTy (call_tuple_of' (K := K) rfl) (by rfl) T.z_tuple bt_tuple (@pa_cons _ _ _ _ _ (pe_ix (ix_tup' (K := K) rfl) (pe_ix (ix_list' (K := K) rfl) (pv 2) pe_int (fun _ _ => rfl)) pe_int (fun _ _ => rfl)) pa_nil (by rfl)))))))), ?_⟩
  refine ⟨sz (by simp), fun L0 hL0 => ⟨sz (by simp), fun k0 hk0 => ⟨sz (by simp), fun F hF => ?_⟩⟩⟩
  have i1 := Same.upd (o := .lst []) hL0
  have i2 := Same.upd (o := .tup [.int 1, .ref L0]) hk0
  have i3 := Same.upd (o := .lst [.ref k0]) hF
  have i0 := i1.trans (i2.trans i3)
  have fF : H F = none := (i1.trans i2).free hF
  have nFR : F ≠ R := (ne_of_none hR fF).symm
  have d0 : Dee H (upd (upd (upd H L0 (.lst [])) k0 (.tup [.int 1, .ref L0])) F (.lst [.ref k0])) F R rs 8 [] := by
   refine ⟨[L0], [.ref k0], .base (i3 _ _ upd_same) (i3 _ _ (i2 _ _ upd_same)) .nil, fun L hL => ?_, upd_same, ?_, fun c o _ h => i0 _ _ h⟩
   ·rw [List.mem_singleton.mp hL]
    exact ⟨hL0, ne_of_none (i2 _ _ upd_same) hF, (ne_of_none hR hL0).symm⟩
   ·rw [i0 _ _ hR]; simp
  refine ⟨_, rfl, C, ns.map V.int, rfl, SqL.of (i0 _ _ hC), ?_⟩
  refine for_enum (xs := ns.map V.int) (fun i σ H1 => ∃ (v3 v4 v5 v6 v7 v8 v9 : Option V) (d : Nat) (ts : List Tk), σ = [some (.ref C), some (.ref R), some (.ref F), v3, v4, v5, v6, v7, v8, v9] ∧ Dee H H1 F R rs d ts ∧ ts.length = i) ⟨none, none, none, none, none, none, none, 8, [], rfl, d0, rfl⟩ ?_ ?_ ?_
  ·rintro i σ H1 hi ⟨v3, v4, v5, v6, v7, v8, v9, d, ts, rfl, ⟨Ls, ks, _, _, _, _, kp⟩, _⟩
   exact SqL.of (kp _ _ nCR hC)
  ·rintro i x T σ H1 hx ⟨v3, v4, v5, v6, v7, v8, v9, d, ts, rfl, ⟨Ls, ks, st, hLs, hF1, hR1, kp⟩, hts⟩ hT
   rw [List.getElem?_map] at hx
   obtain ⟨c, hc, rfl⟩ := Option.map_eq_some_iff.mp hx
   have hi : i < ns.length := (List.getElem?_eq_some_iff.mp hc).1
   have tT := Same.upd (o := .tup [.int (i : Nat), .int c]) hT
   have deep := st.deep
   refine ⟨T, _, rfl, SqT.of upd_same, rfl, _, _, rfl, _, _, rfl, rfl, ?_⟩
   refine ⟨_, rfl, _, _, rfl, rfl, IntMulOk.of_left (by decide), _, rfl, _, _, rfl, rfl, _, rfl, fun N hN0 hN => ?_⟩
   have lenR : (rs ++ (ts.map Tk.row).map V.str).length < 400 := by rw [List.length_append, rows_n]; omega
   refine ⟨_, rfl, _, _, rfl, rfl, (show (6 : Int) ≠ 0 by decide), rfl, _, rfl, ?_⟩
   have hFT := tT _ _ hF1
   have hRT := tT _ _ hR1
   have m61 : (61 : Int) ≠ 0 := by decide
   have q61 := fmod_lt (c := N) (m := 61) (by decide)
   refine' by_key0 (fun key => ?go) ?body
   case go =>
    refine ite2 (fun _ => ?_) (fun _ => iteF key)
    refine ⟨_, rfl, _, _, rfl, .inl ⟨_, SqL.of hFT, rfl⟩, _, _, rfl, rfl, _, rfl, ?_⟩
    refine ite2 (fun h => ?_) (fun _ => key)
    have h : ((ks.reverse.length : Nat) : Int) < 9 := of_decide_eq_true h
    rw [List.length_reverse] at h
    obtain ⟨d1, rfl⟩ : ∃ d1, d = d1 + 1 := ⟨d - 1, by omega⟩
    refine ⟨_, rfl, .inl ⟨rfl, _, SqL.of hFT⟩, _, rfl, _, _, rfl, rfl, m61, sz (by simp), fun L hL => ⟨sz (by simp), fun kk hk => ?_⟩⟩
    have u1 := Same.upd (o := .lst []) hL
    have u2 := Same.upd (o := .tup [.int (N.fmod 61), .ref L]) hk
    have u0 := tT.trans (u1.trans u2)
    refine ⟨F, _, _, rfl, rfl, u0 _ _ hF1, sz (by rw [List.length_reverse]; omega), ?_⟩
    have fL : H1 L = none := tT.free hL
    have nLF : L ≠ F := (ne_of_none hF1 fL).symm
    have nLR : L ≠ R := (ne_of_none hR1 fL).symm
    have hR5 : upd (upd (upd (upd H1 T (.tup [.int (i : Nat), .int c])) L (.lst [])) kk (.tup [.int (N.fmod 61), .ref L])) F (.lst (ks.reverse ++ [.ref kk])) R = some (.lst (rs ++ (ts.map Tk.row).map V.str)) := by
     rw [upd_ne (Ne.symm nFR)]; exact u0 _ _ hR1
    have lg := log_small q61.1 (show N.fmod 61 < 10 ^ 12 by omega)
    have fl := figs_len q61.1 (show N.fmod 61 < 10 ^ 12 by omega)
    refine ⟨_, rfl, .inl ⟨rfl, _, SqL.of hR5⟩, _, rfl, _, _, rfl, rfl, m61, _, rfl, lg, _, _, rfl, rfl, sz ?_, R, _, _, rfl, rfl, hR5, sz (by omega), ?_⟩
    ·show (Str.ofString "times ").length + (figs (N.fmod 61)).length ≤ 1000
     have e0 : (Str.ofString "times ").length = 6 := by decide
     rw [e0]; omega
    have kp6 : ∀ c' o, c' ≠ F → c' ≠ R → H1 c' = some o → ∀ xs, upd (upd (upd (upd (upd H1 T (.tup [.int (i : Nat), .int c])) L (.lst [])) kk (.tup [.int (N.fmod 61), .ref L])) F (.lst (ks.reverse ++ [.ref kk]))) R xs c' = some o := fun c' o h1 h2 h xs => by
     rw [upd_ne h2, upd_ne h1]; exact u0 _ _ h
    refine ⟨_, _, _, _, _, _, _, d1, ts ++ [.op (N.fmod 61)], rfl, ⟨L :: Ls, .ref kk :: ks, .up (st.mono (fun c' xs h' => kp6 c' _ (by rintro rfl; rw [hF1] at h'; cases h') (by rintro rfl; rw [hR1] at h'; cases h') h' _) fun L' h' o ho => kp6 L' o (hLs L' h').2.1 (hLs L' h').2.2 ho _) ?_ q61.1 (by omega) ?_ .nil ?_, ?_, ?_, ?_, fun c' o hc' h' => ?_⟩, by rw [List.length_append, hts]; rfl⟩
    ·have e1 : kk ≠ F := (ne_of_none (u1 _ _ hFT) hk).symm
     have e2 : kk ≠ R := (ne_of_none (u1 _ _ hRT) hk).symm
     rw [upd_ne e2, upd_ne e1]; exact upd_same
    ·rw [upd_ne nLR, upd_ne nLF]; exact u2 _ _ upd_same
    ·intro hm
     obtain ⟨_, e⟩ := st.lists L hm
     rw [fL] at e; cases e
    ·intro L' h'
     rcases List.mem_cons.mp h' with rfl | h'
     ·refine ⟨?_, nLF, nLR⟩
      cases q : H L' with
      | none => rfl
      | some o => rw [kp _ _ nLR q] at fL; cases fL
     ·exact hLs L' h'
    ·rw [upd_ne nFR, upd_same, List.reverse_cons]
    ·rw [upd_same, rows_app, List.append_assoc]
     have eo := op_row (N.fmod 61)
     show some (HO.lst (rs ++ ((ts.map Tk.row).map V.str ++ [V.str (Str.ofString "times " ++ figs (N.fmod 61))]))) = _
     rw [eo]; rfl
    ·exact kp6 c' o (ne_of_none h' fF) hc' (kp c' o hc' h') _
   refine ⟨_, rfl, _, _, rfl, rfl, (show (6 : Int) ≠ 0 by decide), rfl, _, rfl, ?_⟩
   refine' by_key0 (fun key => ?go2) ?body2
   case go2 =>
    refine ite2 (fun _ => ?_) (fun _ => iteF key)
    refine ⟨_, rfl, _, _, rfl, .inl ⟨_, SqL.of hFT, rfl⟩, _, _, rfl, rfl, _, rfl, ?_⟩
    refine ite2 (fun h => ?_) (fun _ => key)
    have h : (1 : Int) < ((ks.reverse.length : Nat) : Int) := of_decide_eq_true h
    rw [List.length_reverse] at h
    obtain ⟨n, k5, L5, us, k2, kr, L2, Lr, vs2, bb, rfl, rfl, hk5, hL5, hk2, hbb, hL2, hv2, fin⟩ := st.close (m := 1) (by omega) rfl rfl
    have hFT2 : upd H1 T (.tup [.int (i : Nat), .int c]) F = some (.lst ((V.ref k2 :: kr).reverse ++ [.ref k5])) := by rw [hFT, List.reverse_cons]
    refine ⟨_, rfl, .inl ⟨rfl, _, SqL.of hFT2⟩, F, _, _, rfl, rfl, hFT2, (by simp : ((V.ref k2 :: kr).reverse ++ [V.ref k5])[((V.ref k2 :: kr).reverse ++ [V.ref k5]).length - 1]? = some (V.ref k5)), ?_⟩
    rw [List.dropLast_concat]
    have tF := TSame.updL (o := .lst (V.ref k2 :: kr).reverse) hFT2
    have n5 := hLs L5 (.head _)
    have n2 := hLs L2 (.tail _ (.head _))
    refine ⟨k5, _, rfl, SqT.of (tF _ _ (tT _ _ hk5)), rfl, _, _, rfl, _, _, rfl, rfl, ?_⟩
    have hRP : upd (upd H1 T (.tup [.int (i : Nat), .int c])) F (.lst (V.ref k2 :: kr).reverse) R = some (.lst (rs ++ (ts.map Tk.row).map V.str)) := by rw [upd_ne (Ne.symm nFR)]; exact hRT
    refine ⟨_, rfl, .inl ⟨rfl, _, SqL.of hRP⟩, R, _, _, rfl, rfl, hRP, sz (by omega), ?_⟩
    have kpQ : ∀ c' o, c' ≠ F → c' ≠ R → H1 c' = some o → upd (upd (upd H1 T (.tup [.int (i : Nat), .int c])) F (.lst (V.ref k2 :: kr).reverse)) R (.lst (rs ++ (ts.map Tk.row).map V.str ++ [.str (Str.ofString "end")])) c' = some o := fun c' o h1 h2 h => by
     rw [upd_ne h2, upd_ne h1]; exact tT _ _ h
    have tk2 : ∀ {c' xs}, H1 c' = some (.tup xs) → upd (upd (upd H1 T (.tup [.int (i : Nat), .int c])) F (.lst (V.ref k2 :: kr).reverse)) R (.lst (rs ++ (ts.map Tk.row).map V.str ++ [.str (Str.ofString "end")])) c' = some (.tup xs) := fun {c' xs} h' => kpQ c' _ (by rintro rfl; rw [hF1] at h'; cases h') (by rintro rfl; rw [hR1] at h'; cases h') h'
    have hFQ : upd (upd (upd H1 T (.tup [.int (i : Nat), .int c])) F (.lst (V.ref k2 :: kr).reverse)) R (.lst (rs ++ (ts.map Tk.row).map V.str ++ [.str (Str.ofString "end")])) F = some (.lst (kr.reverse ++ [.ref k2])) := by rw [upd_ne nFR, upd_same, List.reverse_cons]
    have hL2Q := kpQ _ _ n2.2.1 n2.2.2 hL2
    refine ⟨_, rfl, _, rfl, F, _, _, _, rfl, rfl, SqL.of hFQ, atI_last _ _, k2, _, 1, _, rfl, rfl, SqT.of (tk2 hk2), at1 hbb, .inl ⟨rfl, _, SqL.of hL2Q⟩, _, rfl, _, rfl, L5, us, rfl, .inl ⟨SqL.of (kpQ _ _ n5.2.1 n5.2.2 hL5), fun b hb => ⟨sz (show 3 ≤ 1000 by decide), fun a ha => ?_⟩⟩⟩
    have v1 := Same.upd (o := .tup us) hb
    have v2 := Same.upd (o := .tup [.str (Str.ofString "times"), .int n, .ref b]) ha
    refine ⟨L2, _, _, rfl, rfl, (v1.trans v2) _ _ hL2Q, sz (by omega), ?_⟩
    refine ⟨_, _, _, _, _, _, _, d + 1, ts ++ [.cl], rfl, Dee.end (H := upd H1 T (.tup [.int (i : Nat), .int c])) nFR fF hLs hFT hRT (fun c' o hc' h' => tT _ _ (kp c' o hc' h')) (fun H6 tS hk => fin H6 (fun c' xs h => tS c' xs (tT _ _ h)) (fun L' h' o ho => hk L' h' o (tT _ _ ho))) (tT _ _ hL2) (v1.trans v2) upd_same (v2 _ _ upd_same), by rw [List.length_append, hts]; rfl⟩
   refine ⟨_, rfl, N, rfl, hN0, hN, fun p dv pd H2 s2 hp hv ok => ⟨p, _, rfl, SqT.of hp, rfl, _, _, rfl, _, _, rfl, rfl, ?_⟩⟩
   have s3 := tT.trans s2
   have hR2 := s3 _ _ hR1
   refine ⟨_, rfl, .inl ⟨rfl, _, SqL.of hR2⟩, _, rfl, R, _, _, rfl, rfl, hR2, sz (by omega), ?_⟩
   obtain ⟨kk, kr, L, Lr, vs, bb, rfl, rfl, hkk, hbb, hL, hvl, kst⟩ := st.top (m := 1) rfl rfl
   have nL := hLs L (.head _)
   have kpR : ∀ c' o, c' ≠ R → H1 c' = some o → upd H2 R (.lst (rs ++ (ts.map Tk.row).map V.str ++ [.str (Tk.pl pd).row])) c' = some o := fun c' o h1 h => by rw [upd_ne h1]; exact s3 _ _ h
   have tR := TSame.updL (o := .lst (rs ++ (ts.map Tk.row).map V.str ++ [.str (Tk.pl pd).row])) hR2
   have hF3 : upd H2 R (.lst (rs ++ (ts.map Tk.row).map V.str ++ [.str (Tk.pl pd).row])) F = some (.lst (kr.reverse ++ [.ref kk])) := by rw [kpR _ _ nFR hF1, List.reverse_cons]
   have hL3 := kpR _ _ nL.2.2 hL
   refine ⟨_, rfl, _, rfl, F, _, _, _, rfl, rfl, SqL.of hF3, atI_last _ _, kk, _, 1, _, rfl, rfl, SqT.of (tR _ _ (s3 _ _ hkk)), at1 hbb, .inl ⟨rfl, _, SqL.of hL3⟩, _, rfl, L, _, _, rfl, rfl, hL3, sz (by omega), ?_⟩
   refine ⟨_, _, _, _, _, _, _, d, ts ++ [.pl pd], rfl, ⟨_, _, kst _ (fun c' xs h => tR _ _ (s3 _ _ h)) (fun L' h' o ho => kpR L' o (hLs L' h').2.2 ho) dv [.pl pd] (.pl (hv.ts tR) ok .nil), hLs, ?_, ?_, fun c' o hc' h' => ?_⟩, by rw [List.length_append, hts]; rfl⟩
   ·rw [upd_ne (Ne.symm nL.2.1), hF3, List.reverse_cons]
   ·rw [upd_ne (Ne.symm nL.2.2), upd_same, rows_app, List.append_assoc]; rfl
   ·rw [upd_ne (ne_of_none h' nL.1)]; exact kpR c' o hc' (kp c' o hc' h')
  ·rintro σ H1 ⟨v3, v4, v5, v6, v7, v8, v9, d, ts, rfl, hdee, hts⟩
   have hts : ts.length = ns.length := by rw [hts, List.length_map]
   have hd8 : d ≤ 8 := by obtain ⟨_, _, st, _⟩ := hdee; exact st.deep.2
   refine while_by (fun σ H1 => ∃ (v3 v4 v5 v6 v7 v8 v9 : Option V) (d : Nat) (ts : List Tk), σ = [some (.ref C), some (.ref R), some (.ref F), v3, v4, v5, v6, v7, v8, v9] ∧ Dee H H1 F R rs d ts ∧ ts.length + (8 - d) ≤ ns.length + 8) (fun _ H1 => match H1 F with | some (.lst xs) => xs.length | _ => 0) ⟨_, _, _, _, _, _, _, d, ts, rfl, hdee, by omega⟩ ?_ ?_
   ·rintro σ H1 ⟨v3, v4, v5, v6, v7, v8, v9, d, ts, rfl, ⟨Ls, ks, st, hLs, hF1, hR1, kp⟩, hts⟩
    have deep := st.deep
    have lenR : (rs ++ (ts.map Tk.row).map V.str).length < 400 := by rw [List.length_append, rows_n]; omega
    refine ⟨_, rfl, _, _, rfl, .inl ⟨_, SqL.of hF1, rfl⟩, _, _, rfl, rfl, _, rfl, ?_⟩
    refine ite2 (fun h => ?_) (fun h => ?_)
    ·have h : (1 : Int) < ((ks.reverse.length : Nat) : Int) := of_decide_eq_true h
     rw [List.length_reverse] at h
     obtain ⟨n, k5, L5, us, k2, kr, L2, Lr, vs2, bb, rfl, rfl, hk5, hL5, hk2, hbb, hL2, hv2, fin⟩ := st.close (m := 1) (by omega) rfl rfl
     have hFT2 : H1 F = some (.lst ((V.ref k2 :: kr).reverse ++ [.ref k5])) := by rw [hF1, List.reverse_cons]
     refine ⟨_, rfl, .inl ⟨rfl, _, SqL.of hFT2⟩, F, _, _, rfl, rfl, hFT2, (by simp : ((V.ref k2 :: kr).reverse ++ [V.ref k5])[((V.ref k2 :: kr).reverse ++ [V.ref k5]).length - 1]? = some (V.ref k5)), ?_⟩
     rw [List.dropLast_concat]
     have tF := TSame.updL (o := .lst (V.ref k2 :: kr).reverse) hFT2
     have n5 := hLs L5 (.head _)
     have n2 := hLs L2 (.tail _ (.head _))
     refine ⟨k5, _, rfl, SqT.of (tF _ _ hk5), rfl, _, _, rfl, _, _, rfl, rfl, ?_⟩
     have hRP : upd H1 F (.lst (V.ref k2 :: kr).reverse) R = some (.lst (rs ++ (ts.map Tk.row).map V.str)) := by rw [upd_ne (Ne.symm nFR)]; exact hR1
     refine ⟨_, rfl, .inl ⟨rfl, _, SqL.of hRP⟩, R, _, _, rfl, rfl, hRP, sz (by omega), ?_⟩
     have kpQ : ∀ c' o, c' ≠ F → c' ≠ R → H1 c' = some o → upd (upd H1 F (.lst (V.ref k2 :: kr).reverse)) R (.lst (rs ++ (ts.map Tk.row).map V.str ++ [.str (Str.ofString "end")])) c' = some o := fun c' o h1 h2 h => by
      rw [upd_ne h2, upd_ne h1]; exact h
     have tk2 : ∀ {c' xs}, H1 c' = some (.tup xs) → upd (upd H1 F (.lst (V.ref k2 :: kr).reverse)) R (.lst (rs ++ (ts.map Tk.row).map V.str ++ [.str (Str.ofString "end")])) c' = some (.tup xs) := fun {c' xs} h' => kpQ c' _ (by rintro rfl; rw [hF1] at h'; cases h') (by rintro rfl; rw [hR1] at h'; cases h') h'
     have hFQ : upd (upd H1 F (.lst (V.ref k2 :: kr).reverse)) R (.lst (rs ++ (ts.map Tk.row).map V.str ++ [.str (Str.ofString "end")])) F = some (.lst (kr.reverse ++ [.ref k2])) := by rw [upd_ne nFR, upd_same, List.reverse_cons]
     have hL2Q := kpQ _ _ n2.2.1 n2.2.2 hL2
     refine ⟨_, rfl, _, rfl, F, _, _, _, rfl, rfl, SqL.of hFQ, atI_last _ _, k2, _, 1, _, rfl, rfl, SqT.of (tk2 hk2), at1 hbb, .inl ⟨rfl, _, SqL.of hL2Q⟩, _, rfl, _, rfl, L5, us, rfl, .inl ⟨SqL.of (kpQ _ _ n5.2.1 n5.2.2 hL5), fun b hb => ⟨sz (show 3 ≤ 1000 by decide), fun a ha => ?_⟩⟩⟩
     have v1 := Same.upd (o := .tup us) hb
     have v2 := Same.upd (o := .tup [.str (Str.ofString "times"), .int n, .ref b]) ha
     have hdee := Dee.end nFR fF hLs hF1 hR1 kp fin hL2 (v1.trans v2) upd_same (v2 _ _ upd_same)
     refine ⟨L2, _, _, rfl, rfl, (v1.trans v2) _ _ hL2Q, sz (by omega), ⟨_, _, _, _, _, _, _, d + 1, ts ++ [.cl], rfl, hdee, ?_⟩, ?_⟩
     ·rw [List.length_append, List.length_singleton]; omega
     ·obtain ⟨Ls', ks', st', _, hF', _⟩ := hdee
      have deep' := st'.deep
      show (match (upd _ L2 _) F with | some (.lst xs) => xs.length | _ => 0) < (match H1 F with | some (.lst xs) => xs.length | _ => 0)
      rw [hF', hF1]
      show ks'.reverse.length < (V.ref k5 :: V.ref k2 :: kr).reverse.length
      rw [List.length_reverse, List.length_reverse]
      omega
    ·have h : ¬ (1 : Int) < ((ks.reverse.length : Nat) : Int) := fun z => h (decide_eq_true z)
     rw [List.length_reverse] at h
     obtain ⟨kb, L, vs, rfl, rfl, a, b, c⟩ := st.one (by omega)
     ·refine ⟨_, rfl, F, _, 0, _, rfl, rfl, SqL.of hF1, rfl, kb, _, 1, _, rfl, rfl, SqT.of a, rfl, L, vs, rfl, .inl ⟨SqL.of b, fun p hp => ?_⟩⟩
      have v1 := Same.upd (o := .tup vs) hp
      exact k p vs ts _ (fun c' o hc' h' => v1 _ _ (kp c' o hc' h')) (v1 _ _ hR1) upd_same (c.ts v1.ts) (by omega)
   ·intro σ H1 Q1 Q2 hq h1
    obtain ⟨v, e, z, w', e1, h2, i', j', e2, e3, c', e4, h3⟩ := h1
    exact ⟨v, e, z, w', e1, h2, i', j', e2, e3, c', e4, hq _ _ h3⟩
end
end T13
namespace T13
open PySem L2 Tc
section
variable {P : Program} {w : World} {K : PySem.W.Frag} {mg : Str → Option Value} {base : Heap}
noncomputable abbrev s__law_script : Stmt := top 59
theorem sc__law_script : FnScope ["_law_cells", "_law_first", "_law_number", "_law_many", "_law_size", "_law_names_here", "_law_rules", "_law_rows", "_law_j", "_law_params", "_law_deeds_here"] ["_law_cells", "_law_first"] (defScope s__law_script) := ⟨rfl, rfl, rfl, by decide +kernel, rfl, by decide +kernel, by decide +kernel⟩
theorem ok__law_script {ca : Ca} (D : DefAt K mg "_law_script" s__law_script) (T : Txt K mg ca) (G__law_mixed : FnAt P w K mg base CX0 1 "_law_mixed" ["_law_cell"] (spMix)) (G__law_names : FnAt P w K mg base CX0 2 "_law_names" ["_law_number", "_law_many"] (spNam)) (G__law_deeds : FnAt P w K mg base CX0 5 "_law_deeds" ["_law_cells", "_law_rows"] (spDeeds K)) : FnAt P w K mg base CX0 6 "_law_script" ["_law_cells", "_law_first"] (spScript K) := by
 refine D.ok sc__law_script (fun vs H Q E h => ?_) (fun _ _ _ _ _ _ us hl => match us, hl with | [_, _], _ => rfl) (fun f cdv A outer s H vs Q E hr h => ?_)
 ·obtain ⟨C, ns, c, rfl, hC, hns, k⟩ := h; rfl
 ·obtain ⟨C, ns, c, rfl, hC, hns, k⟩ := h
  have nd := sc__law_script.nd
  refine ⟨_, (@pss_cons _ _ _ _ _ (@ps_set _ _ 2 _ _ _ _ nd rfl (Or.inl rfl) (pe_fn G__law_mixed hr (by rfl) pass0 (@pa_cons _ _ _ _ _ (pv 1) pa_nil (by rfl))) (by rfl) (Or.inl rfl))
   (@pss_cons _ _ _ _ _ (@ps_set _ _ 3 _ _ _ _ nd rfl (Or.inl rfl) (@pe_op _ _ _ _ _ _ _ _ op_modN (pv 2) pe_int) (by rfl) (Or.inl rfl))
   (@pss_cons _ _ _ _ _ (@ps_set _ _ 4 _ _ _ _ nd rfl (Or.inl rfl) (@pe_op _ _ _ _ _ _ _ _ op_fdivB (pe_callB (call_len' (K := K) rfl) (by rfl) T.z_len PySem.boot_len (@pa_cons _ _ _ _ _ (pv 0) pa_nil (by rfl))) (@pe_op _ _ _ _ _ _ _ _ op_add (pv 3) pe_int)) (by rfl) (Or.inl rfl))
   (@pss_cons _ _ _ _ _ (@ps_set _ _ 5 _ _ _ _ nd rfl (Or.inl rfl) (pe_fn G__law_names hr (by rfl) pass0 (@pa_cons _ _ _ _ _ (@pe_op _ _ _ _ _ _ _ _ op_fdivB (pv 2) pe_int) (@pa_cons _ _ _ _ _ (pv 3) pa_nil (by rfl)) (by rfl))) (by rfl) (Or.inl rfl))
   (@pss_cons _ _ _ _ _ (@ps_set _ _ 6 _ _ _ _ nd rfl (Or.inl rfl) (@pe_lst _ _ _ _ pa_nil) (by rfl) (Or.inl rfl))
   (@pss_cons _ _ _ _ _ (@ps_set _ _ 7 _ _ _ _ nd rfl (Or.inl rfl) (@pe_lst _ _ _ _ pa_nil) (by rfl) (Or.inl rfl))
   (@pss_cons _ _ _ _ _ (ps_for PassesOwn.never rfl (pi_range1 (by rfl) T.z_range (@pa_cons _ _ _ _ _ (pv 3) pa_nil (by rfl))) (pg_name (i := 8) nd rfl (Or.inl rfl)) (@pss_cons _ _ _ _ _ (@ps_set _ _ 9 _ _ _ _ nd rfl (Or.inl rfl) (pe_fn G__law_names hr (by rfl) pass0 (@pa_cons _ _ _ _ _ (@pe_op _ _ _ _ _ _ _ _ op_fdivB (pv 2) (@pe_op _ _ _ _ _ _ _ _ op_add pe_int (pv 8))) (@pa_cons _ _ _ _ _ (@pe_op _ _ _ _ _ _ _ _ op_add pe_int (@pe_op _ _ _ _ _ _ _ _ op_modN (@pe_op _ _ _ _ _ _ _ _ op_fdivB (pv 2) (@pe_op _ _ _ _ _ _ _ _ op_add pe_int (pv 8))) pe_int)) pa_nil (by rfl)) (by rfl))) (by rfl) (Or.inl rfl))
   (@pss_cons _ _ _ _ _ (ps_expr (pe_bm PySem.F.plainAttrs_list PySem.F.slot_list_append PySem.F.type_list_append mt_append (pv 7) (@pa_cons _ _ _ _ _ (pe_bm' (K := K) rfl PySem.F.plainAttrs_str PySem.F.slot_str_join PySem.F.type_str_join (mt_join' (K := K) rfl) pe_str (@pa_cons _ _ _ _ _ (@pe_op _ _ _ _ _ _ _ _ op_cat (@pe_lst _ _ _ _ (@pa_cons _ _ _ _ _ pe_str (@pa_cons _ _ _ _ _ (pe_ix (ix_list' (K := K) rfl) (pv 5) (pv 8) (fun _ _ => rfl)) pa_nil (by rfl)) (by rfl))) (pv 9)) pa_nil (by rfl))) pa_nil (by rfl))))
   (@pss_cons _ _ _ _ _ (@ps_set _ _ 10 _ _ _ _ nd rfl (Or.inl rfl) (pe_fn G__law_deeds hr (by rfl) pass0 (@pa_cons _ _ _ _ _ (pe_slice (sl_list' (K := K) rfl) (pv 0) (po_some (@pe_op _ _ _ _ _ _ _ _ op_mulB (pv 8) (pv 4))) (po_some (@pe_op _ _ _ _ _ _ _ _ op_mulB (@pe_op _ _ _ _ _ _ _ _ op_add (pv 8) pe_int) (pv 4)))) (@pa_cons _ _ _ _ _ (pv 7) pa_nil (by rfl)) (by rfl))) (by rfl) (Or.inl rfl))
   (@pss_cons _ _ _ _ _ (ps_expr (pe_bm PySem.F.plainAttrs_list PySem.F.slot_list_append PySem.F.type_list_append mt_append (pv 7) (@pa_cons _ _ _ _ _ pe_str pa_nil (by rfl))))
   (@pss_one _ _ _ (ps_expr (pe_bm PySem.F.plainAttrs_list PySem.F.slot_list_append PySem.F.type_list_append mt_append (pv 6) (@pa_cons _ _ _ _ _ (@pe_tup _ _ _ _ _ (@pa_cons _ _ _ _ _ (pe_ix (ix_list' (K := K) rfl) (pv 5) (pv 8) (fun _ _ => rfl)) (@pa_cons _ _ _ _ _ (pe_callTy (call_tuple_of' (K := K) rfl) (by rfl) T.z_tuple bt_tuple (@pa_cons _ _ _ _ _ (pv 9) pa_nil (by rfl))) (@pa_cons _ _ _ _ _ (pv 10) pa_nil (by rfl)) (by rfl)) (by rfl))) pa_nil (by rfl))))))))))
   (@pss_one _ _ _ (ps_ret (@pe_tup _ _ _ _ _ (@pa_cons _ _ _ _ _ (@pe_tup _ _ _ _ _ (@pa_cons _ _ _ _ _ (pe_callTy (call_tuple_of' (K := K) rfl) (by rfl) T.z_tuple bt_tuple (@pa_cons _ _ _ _ _ (pv 6) pa_nil (by rfl))) (@pa_cons _ _ _ _ _ (pe_fn G__law_deeds hr (by rfl) pass0 (@pa_cons _ _ _ _ _ (pe_slice (sl_list' (K := K) rfl) (pv 0) (po_some (@pe_op _ _ _ _ _ _ _ _ op_mulB (pv 3) (pv 4))) po_none) (@pa_cons _ _ _ _ _ (pv 7) pa_nil (by rfl)) (by rfl))) pa_nil (by rfl)) (by rfl))) (@pa_cons _ _ _ _ _ (pe_bm' (K := K) rfl PySem.F.plainAttrs_str PySem.F.slot_str_join PySem.F.type_str_join (mt_join' (K := K) rfl) pe_str (@pa_cons _ _ _ _ _ (pv 7) pa_nil (by rfl))) pa_nil (by rfl)) (by rfl)))))))))))), ?_⟩
  refine ⟨_, rfl, c, rfl, fun N hN0 hN => ?_⟩
  have q5 := fmod_lt (c := N) (m := 5) (by decide)
  obtain ⟨m4, hm4⟩ := Int.eq_ofNat_of_zero_le q5.1
  refine ⟨_, rfl, _, _, rfl, rfl, (show (5 : Int) ≠ 0 by decide), ?_⟩
  refine ⟨_, rfl, _, _, rfl, .inl ⟨_, SqL.of hC, rfl⟩, _, rfl, _, _, rfl, rfl, _, _, rfl, rfl, dd (by omega) (by omega), ?_⟩
  let M : Int := N.fmod 5
  let S : Int := (((ns.map V.int).length : Nat) : Int).fdiv (N.fmod 5 + 1)
  have hM : M = (m4 : Int) := hm4
  obtain ⟨sN, hsN, hsm⟩ : ∃ sN : Nat, S = (sN : Int) ∧ (m4 + 1) * sN ≤ ns.length := by
   have e : S = ((ns.length / (m4 + 1) : Nat) : Int) := by
    show (((ns.map V.int).length : Nat) : Int).fdiv (N.fmod 5 + 1) = _
    rw [List.length_map, hm4, Int.fdiv_eq_ediv_of_nonneg _ (by omega)]
    rfl
   exact ⟨_, e, Nat.mul_div_le _ _⟩
  have hm5 : m4 ≤ 4 := by omega
  have hsm' : m4 * sN + sN ≤ ns.length := by rw [Nat.succ_mul] at hsm; exact hsm
  have hs62 : sN ≤ 62 := by omega
  refine ⟨_, rfl, _, _, rfl, rfl, dd (by decide) (by decide), _, rfl, N.fdiv 5, M, rfl, by omega, by omega, fun pn H1 zs s1 fn hn hl nd hz => ?_⟩
  refine ⟨sz (by simp), fun Ru hRu => ?_⟩
  refine ⟨sz (by simp), fun Rw hRw => ?_⟩
  have u1 := Same.upd (o := .lst []) hRu
  have u2 := Same.upd (o := .lst []) hRw
  have nUW : Ru ≠ Rw := ne_of_none upd_same hRw
  have fU : H1 Ru = none := hRu
  have fW : H1 Rw = none := u1.free hRw
  have hC1 := s1 _ _ hC
  refine ⟨_, rfl, _, rfl, by omega, by omega, ?_⟩
  refine for_range (fun i σ H2 => ∃ (v8 v9 v10 : Option V) (rv : List V) (rls : List Rl), σ = [some (.ref C), some (.int c), some (.int N), some (.int M), some (.int S), some (.ref pn), some (.ref Ru), some (.ref Rw), v8, v9, v10] ∧ Same H1 H2 ∧ H2 Ru = some (.lst rv) ∧ Paired (RlV H2) rv rls ∧ H2 Rw = some (.lst (((flatR rls).map Tk.row).map V.str)) ∧ rls.map (·.1) = zs.take i ∧ rls.length = i ∧ (∀ r ∈ rls, (Tk.rl r.1 r.2.1).Ok ∧ r.2.1.Nodup ∧ go r.2.2 8 8) ∧ (flatR rls).length ≤ i * sN + 10 * i) ⟨none, none, none, [], [], rfl, u1.trans u2, u2 _ _ upd_same, .nil, upd_same, rfl, rfl, (fun _ z => nomatch z), Nat.zero_le _⟩ ?_ ?_
  ·rintro i σ H2 hi ⟨v8, v9, v10, rv, rls, rfl, s2, hU, hP, hW, hnames, hrl, hok, hfl⟩
   have hi : i < M.toNat := hi
   have hi : i < m4 := by rw [hM] at hi; simpa using hi
   have him : i * sN ≤ m4 * sN := Nat.mul_le_mul_right _ (by omega)
   have hrvl : rv.length = i := by rw [hP.length, hrl]
   have q8 := fmod_lt (c := N.fdiv (4 + (0 + (i : Int)))) (m := 8) (by decide)
   refine ⟨_, rfl, _, rfl, _, _, rfl, rfl, _, _, rfl, rfl, dd (by omega) (by omega), _, rfl, _, rfl, _, _, rfl, rfl, _, _, rfl, rfl, dd (by omega) (by omega), _, _, rfl, rfl, (show (8 : Int) ≠ 0 by decide), _, _, rfl, rfl, _, _, rfl, by omega, by omega, fun pp H3 ps s3 fp hp hlp ndp hzp => ?_⟩
   obtain ⟨x, hx⟩ : ∃ x, zs[i]? = some x := ⟨_, List.getElem?_eq_getElem (by omega)⟩
   have hxm := List.mem_of_getElem? hx
   have hat : atI (zs.map V.str) (0 + (i : Int)) = some (V.str x) := by rw [Int.zero_add]; exact atI_nat (by rw [List.getElem?_map, hx]; rfl)
   have tok : (Tk.rl x ps).Ok := ⟨hz x hxm, by omega, by omega, hzp⟩
   have rm := join_room (Tk.room tok).1 (Tk.room tok).2
   have s23 := s2.trans s3
   have hn3 := s23 _ _ hn
   have hW3 := s3 _ _ hW
   refine ⟨_, rfl, .inl ⟨rfl, _, SqL.of hW3⟩, rfl, _, rfl, _, rfl, pn, _, _, _, rfl, rfl, SqL.of hn3, hat, sz (show 2 ≤ 1000 by decide), fun q hq => ?_⟩
   have t1 := Same.upd (o := .lst [.str (Str.ofString "rule"), .str x]) hq
   refine ⟨_, rfl, q, pp, _, _, rfl, rfl, upd_same, t1 _ _ hp, by rw [List.length_map]; exact sz (show 2 + ps.length ≤ 1000 by omega), fun r hr2 => ?_⟩
   have t2 := Same.upd (o := .lst ([.str (Str.ofString "rule"), .str x] ++ ps.map V.str)) hr2
   have t12 := t1.trans t2
   have hW4 := t12 _ _ hW3
   refine ⟨_, r, Str.ofString "rule" :: x :: ps, rfl, rfl, SqL.of upd_same, rm, Rw, _, _, rfl, rfl, hW4, by rw [rows_n]; exact sz (by omega), ?_⟩
   let HA : Hp := upd (upd (upd H3 q (.lst [.str (Str.ofString "rule"), .str x])) r (.lst ([.str (Str.ofString "rule"), .str x] ++ ps.map V.str))) Rw (.lst (((flatR rls).map Tk.row).map V.str ++ [.str (Tk.rl x ps).row]))
   have kA : ∀ c' o, c' ≠ Rw → H3 c' = some o → HA c' = some o := fun c' o h1 h => by
    show upd _ Rw _ c' = _
    rw [upd_ne h1]; exact t12 _ _ h
   have sA : Same H1 HA := (s23.trans t12).updD fW
   have hWA : HA Rw = some (.lst (((flatR rls ++ [Tk.rl x ps]).map Tk.row).map V.str)) := by
    show upd _ Rw _ Rw = _
    rw [upd_same, rows_app]; rfl
   have nUW' := nUW
   have nPW : pp ≠ Rw := (ne_of_none hW fp).symm
   have elo : (0 + (i : Int)) * S = ((i * sN : Nat) : Int) := by rw [hsN, Int.zero_add]; exact (Int.natCast_mul i sN).symm
   have ehi : ((0 + (i : Int)) + 1) * S = (((i + 1) * sN : Nat) : Int) := by rw [hsN, Int.zero_add, Int.natCast_mul]; rfl
   have mo : ∀ a : Int, a.natAbs ≤ 100 → IntMulOk a S := fun a h => mulOk_of 64 (Nat.lt_of_le_of_lt h (by decide)) (Nat.lt_of_le_of_lt (m := 62) (by omega) (by decide)) (by decide)
   obtain ⟨ms, hms, hml, hml2⟩ := cut_ints ns (some ((0 + (i : Int)) * S)) (some (((0 + (i : Int)) + 1) * S))
   rw [elo, ehi, HT.sIx_nat, HT.sIx_nat] at hml
   have hml3 : ms.length ≤ sN := by
    have : (i + 1) * sN = i * sN + sN := Nat.succ_mul _ _
    omega
   refine ⟨_, rfl, _, rfl, _, rfl, _, _, rfl, rfl, mo _ (by omega), _, rfl, _, rfl, _, _, rfl, rfl, _, rfl, _, _, rfl, rfl, mo _ (by omega), _, rfl, C, _, rfl, SqL.of (sA _ _ hC1), fun Cq hCq => ?_⟩
   rw [hms]
   have v1 := Same.upd (o := .lst (ms.map V.int)) hCq
   have nCW : Cq ≠ Rw := (ne_of_none hWA hCq).symm
   refine ⟨_, rfl, Cq, Rw, ms, _, rfl, upd_same, by omega, v1 _ _ hWA, by rw [rows_n, List.length_append, List.length_singleton]; omega, nCW, fun p us ts H5 k5 hR5 hp5 hrp hts => ?_⟩
   have k35 : ∀ c' o, c' ≠ Rw → H3 c' = some o → H5 c' = some o := fun c' o h1 h => k5 c' o h1 (v1 _ _ (kA c' o h1 h))
   rw [← rows_app] at hR5
   refine ⟨_, rfl, .inl ⟨rfl, _, SqL.of hR5⟩, Rw, _, _, rfl, rfl, hR5, by rw [rows_n, List.length_append, List.length_append, List.length_singleton]; exact sz (by omega), ?_⟩
   let HB : Hp := upd H5 Rw (.lst (((flatR rls ++ [Tk.rl x ps] ++ ts).map Tk.row).map V.str ++ [.str (Str.ofString "end")]))
   have kB : ∀ c' o, c' ≠ Rw → H5 c' = some o → HB c' = some o := fun c' o h1 h => by
    show upd _ Rw _ c' = _
    rw [upd_ne h1]; exact h
   have kB3 : ∀ c' o, c' ≠ Rw → H3 c' = some o → HB c' = some o := fun c' o h1 h => kB c' o h1 (k35 c' o h1 h)
   have nW1 : ∀ {c' o}, H1 c' = some o → c' ≠ Rw := fun h => ne_of_none h fW
   have sB : Same H1 HB := fun c' o h => kB3 c' o (nW1 h) (s23 _ _ h)
   have hUB : HB Ru = some (.lst rv) := kB3 _ _ nUW (s3 _ _ hU)
   have hpB : HB pp = some (.lst (ps.map V.str)) := kB3 _ _ nPW hp
   refine ⟨_, rfl, .inl ⟨rfl, _, SqL.of hUB⟩, _, rfl, _, rfl, pn, _, _, _, rfl, rfl, SqL.of (sB _ _ hn), hat, _, rfl, pp, _, rfl, .inl ⟨SqL.of hpB, fun tb htb => ⟨_, rfl, sz (show 3 ≤ 1000 by decide), fun ra hra => ?_⟩⟩⟩
   have w1 := Same.upd (o := .tup (ps.map V.str)) htb
   have w2 := Same.upd (o := .tup [.str x, .ref tb, .ref p]) hra
   have w12 := w1.trans w2
   refine ⟨Ru, _, _, rfl, rfl, w12 _ _ hUB, sz (by omega), ?_⟩
   have tW : TSame H5 HB := fun c' xs h => kB c' _ (by rintro rfl; rw [hR5] at h; cases h) h
   have tU : TSame HB (upd (upd (upd HB tb (.tup (ps.map V.str))) ra (.tup [.str x, .ref tb, .ref p])) Ru (.lst (rv ++ [.ref ra]))) := fun c' xs h => TSame.updL (w12 _ _ hUB) c' xs (w12 _ _ h)
   have tU2 : TSame (upd (upd HB tb (.tup (ps.map V.str))) ra (.tup [.str x, .ref tb, .ref p])) (upd (upd (upd HB tb (.tup (ps.map V.str))) ra (.tup [.str x, .ref tb, .ref p])) Ru (.lst (rv ++ [.ref ra]))) := TSame.updL (w12 _ _ hUB)
   have t2B : TSame H2 HB := fun c' xs h => kB3 c' _ (by rintro rfl; rw [hW] at h; cases h) (s3 _ _ h)
   refine ⟨_, _, _, rv ++ [.ref ra], rls ++ [(x, ps, ts)], rfl, (sB.trans w12).updD fU, upd_same, ?_, ?_, ?_, ?_, ?_, ?_⟩
   ·exact (Paired.mapP hP fun _ _ h => h.ts (fun c' xs h' => tU c' xs (t2B c' xs h'))).snoc ⟨ra, tb, p, us, rfl, tU2 _ _ upd_same, tU2 _ _ (w2 _ _ upd_same), tU _ _ (tW _ _ hp5), (hrp.ts tW).ts tU⟩
   ·rw [upd_ne (Ne.symm nUW)]
    refine (w12 _ _ (upd_same (a := Rw))).trans ?_
    rw [flatR_app, rl_one, ← List.append_assoc, ← List.append_assoc, rows_app _ [Tk.cl], cl_row]; rfl
   ·rw [List.map_append, hnames, List.take_add_one, hx]; rfl
   ·rw [List.length_append, hrl]; rfl
   ·intro r hr
    rcases List.mem_append.mp hr with h | h
    ·exact hok r h
    ·rw [List.mem_singleton.mp h]
     exact ⟨tok, ndp, hrp.go (Nat.le_refl _)⟩
   ·rw [flatR_app, rl_one, List.length_append, List.length_append, List.length_append, List.length_singleton, List.length_singleton, Nat.succ_mul]
    omega
  ·rintro σ H2 ⟨v8, v9, v10, rv, rls, rfl, s2, hU, hP, hW, hnames, hrl, hok, hfl⟩
   have em : M.toNat = m4 := by rw [hM]; simp
   have hnames : rls.map (·.1) = zs := by
    rw [hnames]
    refine List.take_of_length_le ?_
    show zs.length ≤ M.toNat
    rw [em]; omega
   have hfl : (flatR rls).length ≤ m4 * sN + 10 * m4 := by
    have h : (flatR rls).length ≤ M.toNat * sN + 10 * M.toNat := hfl
    rw [em] at h; exact h
   refine ⟨_, rfl, Ru, rv, rfl, .inl ⟨SqL.of hU, fun ta hta => ?_⟩⟩
   have w1 := Same.upd (o := .tup rv) hta
   have elo : M * S = ((m4 * sN : Nat) : Int) := by rw [hM, hsN]; exact (Int.natCast_mul m4 sN).symm
   obtain ⟨ms, hms, hml, hml2⟩ := cut_ints ns (some (M * S)) none
   rw [elo, HT.sIx_nat, HT.sIx_none] at hml
   refine ⟨_, rfl, _, rfl, _, rfl, _, _, rfl, rfl, mulOk_of 64 (Nat.lt_of_le_of_lt (m := 62) (by omega) (by decide)) (Nat.lt_of_le_of_lt (m := 62) (by omega) (by decide)) (by decide), _, rfl, C, _, rfl, SqL.of (w1 _ _ (s2 _ _ hC1)), fun Cq hCq => ?_⟩
   rw [hms]
   have v1 := Same.upd (o := .lst (ms.map V.int)) hCq
   have wv := w1.trans v1
   have hWv := wv _ _ hW
   have nCW : Cq ≠ Rw := (ne_of_none (w1 _ _ hW) hCq).symm
   refine ⟨_, rfl, Cq, Rw, ms, _, rfl, upd_same, by omega, hWv, by rw [rows_n]; omega, nCW, fun p us ts H5 k5 hR5 hp5 hrp hts => ?_⟩
   rw [← rows_app] at hR5
   have hlt : (flatR rls ++ ts).length ≤ 300 := by rw [List.length_append]; omega
   have gts := hrp.go (Nat.le_refl _)
   have sok : SOk rls := ⟨by rw [hnames]; exact nd, hok⟩
   have allok : ∀ t ∈ flatR rls ++ ts, t.Ok := fun t ht => by
    rcases List.mem_append.mp ht with h | h
    ·exact flatR_ok sok.2 t h
    ·exact go_ok gts t h
   have t25 : TSame H2 H5 := fun c' xs h => k5 c' _ (by rintro rfl; rw [hW] at h; cases h) (wv _ _ h)
   have hta5 : H5 ta = some (.tup rv) := k5 _ _ (by
    intro e; rw [e] at hta; rw [hW] at hta; cases hta) (v1 _ _ upd_same)
   have s5 : Same H H5 := fun c' o h => k5 c' o (fun e => by rw [e] at h; rw [s1 _ _ h] at fW; cases fW) (wv _ _ (s2 _ _ (s1 _ _ h)))
   refine ⟨sz (show 2 ≤ 1000 by decide), fun sc hsc => ?_⟩
   have x1 := Same.upd (o := .tup [.ref ta, .ref p]) hsc
   refine ⟨rfl, _, rfl, _, Rw, (flatR rls ++ ts).map Tk.row, rfl, rfl, SqL.of (x1 _ _ hR5), (rows_len allok hlt).2, sz (show 2 ≤ 1000 by decide), fun out hout => ?_⟩
   have x2 := Same.upd (o := .tup [.ref sc, .str (rowsT rls ts)]) hout
   have x12 := x1.trans x2
   exact k out (.ref sc) rls ts _ (s5.trans x12) upd_same ⟨sc, ta, p, rv, us, rfl, x2 _ _ upd_same, x12 _ _ hta5, Paired.mapP hP (fun _ _ h => h.ts (fun c' xs h' => x12 _ _ (t25 c' xs h'))), x12 _ _ hp5, hrp.ts x12.ts⟩ sok gts hlt
end
end T13
namespace T13
open PySem L2 Tc
section
variable {P : Program} {w : World} {K : PySem.W.Frag} {mg : Str → Option Value} {base : Heap}
noncomputable abbrev s__law_told : Stmt := top 60
theorem sc__law_told : FnScope ["_law_thing", "_law_found", "_law_kinds", "e"] ["_law_thing"] (defScope s__law_told) := ⟨rfl, rfl, rfl, by decide +kernel, rfl, by decide +kernel, by decide +kernel⟩
theorem ok__law_told {ca : Ca} (D : DefAt K mg "_law_told" s__law_told) (T : Txt K mg ca) (G_read : FnAt P w K mg base (CXE P w) 7 "read" ["text"] (spRd13 K ca.NoText)) : FnAt P w K mg base CX0 8 "_law_told" ["_law_thing"] (spTd13 K) := by
 refine D.ok sc__law_told (fun vs H Q E h => ?_) (fun _ _ _ _ _ _ us hl => match us, hl with | [_], _ => rfl) (fun f cdv A outer s H vs Q E hr h => ?_)
 ·obtain ⟨v, o, rfl, ⟨n, hv, hn, ht⟩, k⟩ := h; rfl
 ·obtain ⟨v, o, rfl, ⟨n, hv, hn, ht⟩, k⟩ := h
  have nd := sc__law_told.nd
  refine ⟨_, (@pss_cons _ _ _ _ _ (@ps_set _ _ 1 _ _ _ _ nd rfl (Or.inl rfl) pe_non (by rfl) (Or.inl rfl))
   (@pss_cons _ _ _ _ _ (@ps_set _ _ 2 _ _ _ _ nd rfl (Or.inl rfl) (@pe_lst _ _ _ _ pa_nil) (by rfl) (Or.inl rfl))
   (@pss_cons _ _ _ _ _ (ps_tryS (i := 1) rfl rfl nd rfl (Or.inl rfl) (pex_fn G_read hr (by rfl) (@pa_cons _ _ _ _ _ (pv 0) pa_nil (by rfl))) (hd_as rfl nd (by rfl) T.c_TierError (i := 3) rfl rfl (fun _ => (@pss_one _ _ _ (@ps_set _ _ 2 _ _ _ _ nd rfl (Or.inl rfl) (@pe_lst _ _ _ _ (@pa_cons _ _ _ _ _ (pe_callB (call_isiE' (K := K) rfl) (by rfl) T.z_isinstance bt_isinstance (@pa_cons _ _ _ _ _ (pv 3) (@pa_cons _ _ _ _ _ (pe_glob (v := .ref _) (by rfl) T.c_NoPlace rfl) pa_nil (by rfl)) (by rfl))) (@pa_cons _ _ _ _ _ (pe_callB (call_isiE' (K := K) rfl) (by rfl) T.z_isinstance bt_isinstance (@pa_cons _ _ _ _ _ (pv 3) (@pa_cons _ _ _ _ _ (pe_glob (v := .ref _) (by rfl) T.c_NoCask rfl) pa_nil (by rfl)) (by rfl))) (@pa_cons _ _ _ _ _ (pe_callB (call_isiE' (K := K) rfl) (by rfl) T.z_isinstance bt_isinstance (@pa_cons _ _ _ _ _ (pv 3) (@pa_cons _ _ _ _ _ (pe_glob (v := .ref _) (by rfl) T.c_NoRule rfl) pa_nil (by rfl)) (by rfl))) (@pa_cons _ _ _ _ _ (pe_callB (call_isiE' (K := K) rfl) (by rfl) T.z_isinstance bt_isinstance (@pa_cons _ _ _ _ _ (pv 3) (@pa_cons _ _ _ _ _ (pe_glob (v := .ref _) (by rfl) T.c_TooMany rfl) pa_nil (by rfl)) (by rfl))) (@pa_cons _ _ _ _ _ (pe_callB (call_isiE' (K := K) rfl) (by rfl) T.z_isinstance bt_isinstance (@pa_cons _ _ _ _ _ (pv 3) (@pa_cons _ _ _ _ _ (pe_glob (v := .ref _) (by rfl) T.c_NoText rfl) pa_nil (by rfl)) (by rfl))) (@pa_cons _ _ _ _ _ (pe_callB (call_isiE' (K := K) rfl) (by rfl) T.z_isinstance bt_isinstance (@pa_cons _ _ _ _ _ (pv 3) (@pa_cons _ _ _ _ _ (pe_bltn (v := .ty "ValueError") (by rfl) T.z_ValueError bt_ValueError rfl) pa_nil (by rfl)) (by rfl))) (@pa_cons _ _ _ _ _ (pe_callB (call_isiE' (K := K) rfl) (by rfl) T.z_isinstance bt_isinstance (@pa_cons _ _ _ _ _ (pv 3) (@pa_cons _ _ _ _ _ (pe_glob (v := .ref _) (by rfl) T.c_NoNumber rfl) pa_nil (by rfl)) (by rfl))) (@pa_cons _ _ _ _ _ (pe_callB (call_isiE' (K := K) rfl) (by rfl) T.z_isinstance bt_isinstance (@pa_cons _ _ _ _ _ (pv 3) (@pa_cons _ _ _ _ _ (pe_glob (v := .ref _) (by rfl) T.c_Lacking rfl) pa_nil (by rfl)) (by rfl))) (@pa_cons _ _ _ _ _ (pe_callB (call_isiE' (K := K) rfl) (by rfl) T.z_isinstance bt_isinstance (@pa_cons _ _ _ _ _ (pv 3) (@pa_cons _ _ _ _ _ (pe_glob (v := .ref _) (by rfl) T.c_Full rfl) pa_nil (by rfl)) (by rfl))) (@pa_cons _ _ _ _ _ (pe_callB (call_isiE' (K := K) rfl) (by rfl) T.z_isinstance bt_isinstance (@pa_cons _ _ _ _ _ (pv 3) (@pa_cons _ _ _ _ _ (pe_glob (v := .ref _) (by rfl) T.c_NotSteady rfl) pa_nil (by rfl)) (by rfl))) (@pa_cons _ _ _ _ _ (pe_callB (call_isiE' (K := K) rfl) (by rfl) T.z_isinstance bt_isinstance (@pa_cons _ _ _ _ _ (pv 3) (@pa_cons _ _ _ _ _ (pe_glob (v := .ref _) (by rfl) T.c_NoDeed rfl) pa_nil (by rfl)) (by rfl))) (@pa_cons _ _ _ _ _ (pe_callB (call_isiE' (K := K) rfl) (by rfl) T.z_isinstance bt_isinstance (@pa_cons _ _ _ _ _ (pv 3) (@pa_cons _ _ _ _ _ (pe_glob (v := .ref _) (by rfl) T.c_Tied rfl) pa_nil (by rfl)) (by rfl))) (@pa_cons _ _ _ _ _ (pe_callB (call_isiE' (K := K) rfl) (by rfl) T.z_isinstance bt_isinstance (@pa_cons _ _ _ _ _ (pv 3) (@pa_cons _ _ _ _ _ (pe_glob (v := .ref _) (by rfl) T.c_NoChange rfl) pa_nil (by rfl)) (by rfl))) (@pa_cons _ _ _ _ _ (pe_callB (call_isiE' (K := K) rfl) (by rfl) T.z_isinstance bt_isinstance (@pa_cons _ _ _ _ _ (pv 3) (@pa_cons _ _ _ _ _ (pe_glob (v := .ref _) (by rfl) T.c_NoRow rfl) pa_nil (by rfl)) (by rfl))) (@pa_cons _ _ _ _ _ (pe_callB (call_isiE' (K := K) rfl) (by rfl) T.z_isinstance bt_isinstance (@pa_cons _ _ _ _ _ (pv 3) (@pa_cons _ _ _ _ _ (pe_glob (v := .ref _) (by rfl) T.c_NoName rfl) pa_nil (by rfl)) (by rfl))) pa_nil (by rfl)) (by rfl)) (by rfl)) (by rfl)) (by rfl)) (by rfl)) (by rfl)) (by rfl)) (by rfl)) (by rfl)) (by rfl)) (by rfl)) (by rfl)) (by rfl)) (by rfl))) (by rfl) (Or.inl rfl)))) hd_none))
   (@pss_one _ _ _ (ps_ret (@pe_tup _ _ _ _ _ (@pa_cons _ _ _ _ _ (pv 1) (@pa_cons _ _ _ _ _ (pv 2) pa_nil (by rfl)) (by rfl)))))))), ?_⟩
  have ho : ∀ t, v = .str t → rdF t = o := fun t e => (ht t e).2
  refine ⟨sz (by simp), fun kk hkk => ?_⟩
  have t0 := Same.upd (o := .lst []) hkk
  refine ⟨_, rfl, v, n, rfl, tyS_same t0 hv, fun h H1 s1 => ?_, fun t e => ⟨(ht t e).1, fun rls dts e2 u H1 s1 hu => ?_, fun e2 H1 s1 => ?_⟩⟩
  rotate_left
  ·refine ⟨_, rfl, _, rfl, sz (by simp), fun p hq => ?_⟩
   have t2 := Same.upd (o := .tup [u, .ref kk]) hq
   exact k p _ (t0.trans (s1.trans t2)) ⟨p, kk, u, rfl, upd_same, .inr ⟨rls, dts, (ho t e).symm.trans e2, t2 _ _ (s1 _ _ upd_same), hu.ts t2.ts⟩⟩
  ·have hno : o = none := (ho t e).symm.trans e2
   refine ⟨true, T.m_NoText_TierError, ?_⟩
   refine iteT ?_
   intro a ha
   have hE : upd H1 a (excO a (.ref ca.NoText)) a = some (excO a (.ref ca.NoText)) := upd_same
   have ta := Same.upd (o := excO a (.ref ca.NoText)) ha
   refine ⟨_, rfl, a, ca.NoText, _, _, rfl, hE, T.x_NoText, .inr (.inl ⟨_, rfl, T.i_NoText_NoPlace⟩), _, rfl, a, ca.NoText, _, _, rfl, hE, T.x_NoText, .inr (.inl ⟨_, rfl, T.i_NoText_NoCask⟩), _, rfl, a, ca.NoText, _, _, rfl, hE, T.x_NoText, .inr (.inl ⟨_, rfl, T.i_NoText_NoRule⟩), _, rfl, a, ca.NoText, _, _, rfl, hE, T.x_NoText, .inr (.inl ⟨_, rfl, T.i_NoText_TooMany⟩), _, rfl, a, ca.NoText, _, _, rfl, hE, T.x_NoText, .inr (.inl ⟨_, rfl, T.i_NoText_NoText⟩), _, rfl, a, ca.NoText, _, _, rfl, hE, T.x_NoText, .inl ⟨_, rfl, T.v_NoText⟩, _, rfl, a, ca.NoText, _, _, rfl, hE, T.x_NoText, .inr (.inl ⟨_, rfl, T.i_NoText_NoNumber⟩), _, rfl, a, ca.NoText, _, _, rfl, hE, T.x_NoText, .inr (.inl ⟨_, rfl, T.i_NoText_Lacking⟩), _, rfl, a, ca.NoText, _, _, rfl, hE, T.x_NoText, .inr (.inl ⟨_, rfl, T.i_NoText_Full⟩), _, rfl, a, ca.NoText, _, _, rfl, hE, T.x_NoText, .inr (.inl ⟨_, rfl, T.i_NoText_NotSteady⟩), _, rfl, a, ca.NoText, _, _, rfl, hE, T.x_NoText, .inr (.inl ⟨_, rfl, T.i_NoText_NoDeed⟩), _, rfl, a, ca.NoText, _, _, rfl, hE, T.x_NoText, .inr (.inl ⟨_, rfl, T.i_NoText_Tied⟩), _, rfl, a, ca.NoText, _, _, rfl, hE, T.x_NoText, .inr (.inl ⟨_, rfl, T.i_NoText_NoChange⟩), _, rfl, a, ca.NoText, _, _, rfl, hE, T.x_NoText, .inr (.inl ⟨_, rfl, T.i_NoText_NoRow⟩), _, rfl, a, ca.NoText, _, _, rfl, hE, T.x_NoText, .inr (.inl ⟨_, rfl, T.i_NoText_NoName⟩), sz (by simp), fun kn hkn => ?_⟩
   have tn := Same.upd (o := .lst (knd 4)) hkn
   refine ⟨_, rfl, _, rfl, sz (by simp), fun p hp => ?_⟩
   have tp := Same.upd (o := .tup [.non, .ref kn]) hp
   exact k p _ (t0.trans (s1.trans (ta.trans (tn.trans tp)))) ⟨p, kn, .non, rfl, upd_same, .inl ⟨hno, rfl, tp _ _ upd_same⟩⟩
  have hno : o = none := hn h
  refine ⟨true, T.m_NoText_TierError, ?_⟩
  refine iteT ?_
  intro a ha
  have hE : upd H1 a (excO a (.ref ca.NoText)) a = some (excO a (.ref ca.NoText)) := upd_same
  have ta := Same.upd (o := excO a (.ref ca.NoText)) ha
  refine ⟨_, rfl, a, ca.NoText, _, _, rfl, hE, T.x_NoText, .inr (.inl ⟨_, rfl, T.i_NoText_NoPlace⟩), _, rfl, a, ca.NoText, _, _, rfl, hE, T.x_NoText, .inr (.inl ⟨_, rfl, T.i_NoText_NoCask⟩), _, rfl, a, ca.NoText, _, _, rfl, hE, T.x_NoText, .inr (.inl ⟨_, rfl, T.i_NoText_NoRule⟩), _, rfl, a, ca.NoText, _, _, rfl, hE, T.x_NoText, .inr (.inl ⟨_, rfl, T.i_NoText_TooMany⟩), _, rfl, a, ca.NoText, _, _, rfl, hE, T.x_NoText, .inr (.inl ⟨_, rfl, T.i_NoText_NoText⟩), _, rfl, a, ca.NoText, _, _, rfl, hE, T.x_NoText, .inl ⟨_, rfl, T.v_NoText⟩, _, rfl, a, ca.NoText, _, _, rfl, hE, T.x_NoText, .inr (.inl ⟨_, rfl, T.i_NoText_NoNumber⟩), _, rfl, a, ca.NoText, _, _, rfl, hE, T.x_NoText, .inr (.inl ⟨_, rfl, T.i_NoText_Lacking⟩), _, rfl, a, ca.NoText, _, _, rfl, hE, T.x_NoText, .inr (.inl ⟨_, rfl, T.i_NoText_Full⟩), _, rfl, a, ca.NoText, _, _, rfl, hE, T.x_NoText, .inr (.inl ⟨_, rfl, T.i_NoText_NotSteady⟩), _, rfl, a, ca.NoText, _, _, rfl, hE, T.x_NoText, .inr (.inl ⟨_, rfl, T.i_NoText_NoDeed⟩), _, rfl, a, ca.NoText, _, _, rfl, hE, T.x_NoText, .inr (.inl ⟨_, rfl, T.i_NoText_Tied⟩), _, rfl, a, ca.NoText, _, _, rfl, hE, T.x_NoText, .inr (.inl ⟨_, rfl, T.i_NoText_NoChange⟩), _, rfl, a, ca.NoText, _, _, rfl, hE, T.x_NoText, .inr (.inl ⟨_, rfl, T.i_NoText_NoRow⟩), _, rfl, a, ca.NoText, _, _, rfl, hE, T.x_NoText, .inr (.inl ⟨_, rfl, T.i_NoText_NoName⟩), sz (by simp), fun kn hkn => ?_⟩
  have tn := Same.upd (o := .lst (knd 4)) hkn
  refine ⟨_, rfl, _, rfl, sz (by simp), fun p hp => ?_⟩
  have tp := Same.upd (o := .tup [.non, .ref kn]) hp
  exact k p _ (t0.trans (s1.trans (ta.trans (tn.trans tp)))) ⟨p, kn, .non, rfl, upd_same, .inl ⟨hno, rfl, tp _ _ upd_same⟩⟩
end
end T13
namespace T13
open PySem L2 Tc
section
variable {P : Program} {w : World} {K : PySem.W.Frag} {mg : Str → Option Value} {base : Heap}
noncomputable abbrev s__law_only : Stmt := top 61
theorem sc__law_only : FnScope ["_law_place"] ["_law_place"] (defScope s__law_only) := ⟨rfl, rfl, rfl, by decide +kernel, rfl, by decide +kernel, by decide +kernel⟩
theorem ok__law_only {ca : Ca} (D : DefAt K mg "_law_only" s__law_only) (T : Txt K mg ca) : FnAt P w K mg base CX0 1 "_law_only" ["_law_place"] (spOnly8) := by
 refine D.ok sc__law_only (fun vs H Q E h => ?_) (fun _ _ _ _ _ _ us hl => match us, hl with | [_], _ => rfl) (fun f cdv A outer s H vs Q E hr h => ?_)
 ·obtain ⟨i, rfl, k⟩ := h; rfl
 ·obtain ⟨i, rfl, k⟩ := h
  have nd := sc__law_only.nd
  refine ⟨_, (@pss_one _ _ _ (ps_ret (pe_comp ["_law_k"] ["_law_place"] [0] rfl (by rfl) (pi_range1 (by rfl) T.z_range (@pa_cons _ _ _ _ _ pe_int pa_nil (by rfl))) (fun _ _ _ _ => (pg_name (i := 0) (show List.Nodup (["_law_k", "_law_place"] : List Str) from by decide) rfl (Or.inl rfl))) (fun _ _ _ _ => pif_none) (fun _ _ _ _ => (pe_or (pe_cmpR op_eq (pv 0) (pv 1) (nomark _)) (pe_one (pe_cmpR op_eq (pv 0) pe_int (nomark _)))))))), ?_⟩
  refine ⟨_, rfl, by decide, by decide, fun D hD => ?_⟩
  refine block_range (fun j σ' H' => ∃ v : Option V, σ' = [v, some (.int i)] ∧ Same H H' ∧ H' D = some (.lst ((List.range j).map fun (j : Nat) => V.bl (decide ((j : Int) = i) || decide ((j : Int) = 5))))) ⟨none, rfl, Same.upd hD, upd_same⟩ ?_ ?_
  ·rintro j σ' H' hj ⟨v, rfl, s1, h1⟩
   have hj : j < 15 := hj
   have e1 : decide (V.int (0 + (j : Nat)) = V.int i) = decide ((j : Int) = i) := by rw [Int.zero_add]; exact decide_eq_decide.mpr ⟨V.int.inj, congrArg V.int⟩
   have e2 : decide (V.int (0 + (j : Nat)) = V.int 5) = decide ((j : Int) = 5) := by rw [Int.zero_add]; exact decide_eq_decide.mpr ⟨V.int.inj, congrArg V.int⟩
   have tl : (((List.range j).map fun (j : Nat) => V.bl (decide ((j : Int) = i) || decide ((j : Int) = 5))).length).succ ≤ 1000 := by rw [List.length_map, List.length_range]; omega
   refine ⟨_, rfl, _, rfl, rfl, _, rfl, ?_⟩
   refine ite2 (fun h => ?_) (fun h => ?_)
   ·refine ⟨_, h1, sz tl, _, rfl, s1.updD hD, ?_⟩
    rw [e1] at h
    rw [upd_same, List.range_succ, List.map_append, List.map_singleton, h, Bool.true_or]
   ·refine ⟨_, rfl, rfl, _, h1, sz tl, _, rfl, s1.updD hD, ?_⟩
    rw [e1] at h
    rw [upd_same, List.range_succ, List.map_append, List.map_singleton, e2, Bool.eq_false_iff.mpr h, Bool.false_or]
  rintro σ' H' ⟨v, rfl, s1, h1⟩
  exact k D H' s1 h1
end
end T13
namespace T13
open PySem L2 Tc
section
variable {P : Program} {w : World} {K : PySem.W.Frag} {mg : Str → Option Value} {base : Heap}
noncomputable abbrev s__law_refused : Stmt := top 62
theorem sc__law_refused : FnScope ["_law_thing"] ["_law_thing"] (defScope s__law_refused) := ⟨rfl, rfl, rfl, by decide +kernel, rfl, by decide +kernel, by decide +kernel⟩
theorem ok__law_refused {ca : Ca} (D : DefAt K mg "_law_refused" s__law_refused) (T : Txt K mg ca) (G__law_told : FnAt P w K mg base CX0 8 "_law_told" ["_law_thing"] (spTd13 K)) (G__law_only : FnAt P w K mg base CX0 1 "_law_only" ["_law_place"] (spOnly8)) : FnAt P w K mg base CX0 9 "_law_refused" ["_law_thing"] (spRf13 K) := by
 refine D.ok sc__law_refused (fun vs H Q E h => ?_) (fun _ _ _ _ _ _ us hl => match us, hl with | [_], _ => rfl) (fun f cdv A outer s H vs Q E hr h => ?_)
 ·obtain ⟨v, o, rfl, hv, k⟩ := h; rfl
 ·obtain ⟨v, o, rfl, hv, k⟩ := h
  have nd := sc__law_refused.nd
  refine ⟨_, (@pss_one _ _ _ (ps_ret (pe_cmpR (op_eqD' (K := K) rfl hr) (pe_ix (ix_tup' (K := K) rfl) (pe_fn G__law_told hr (by rfl) pass0 (@pa_cons _ _ _ _ _ (pv 0) pa_nil (by rfl))) pe_int (fun _ _ => rfl)) (pe_fn G__law_only hr (by rfl) pass0 (@pa_cons _ _ _ _ _ pe_int pa_nil (by rfl))) (nomark _)))), ?_⟩
  refine ⟨_, rfl, v, o, rfl, hv, fun p H1 s1 hT => ?_⟩
  obtain ⟨a, kn, b, e, ha, h⟩ := hT
  cases e
  refine ⟨p, _, 1, _, rfl, rfl, SqT.of ha, rfl, ?_⟩
  refine ⟨4, rfl, fun l H2 s2 hl => ?_⟩
  rcases h with ⟨rfl, _, hk⟩ | ⟨rls, dts, rfl, hk, _⟩
  ·have r1 : RepD K H2 (dKn 4) (.ref kn) := rep_kn (s2 _ _ hk)
   refine ⟨_, _, r1, rep_kn hl, dep_kn _, ?_⟩
   rw [PySem.SeqAt.eqv_refl _ r1.lay]
   exact k _ (s1.trans s2)
  ·refine ⟨_, _, rep_nil (s2 _ _ hk), rep_kn hl, by decide, ?_⟩
   rw [show PyData.eqv (.list []) (dKn 4) = false from rfl]
   exact k _ (s1.trans s2)
end
end T13
namespace T13
open PySem L2 Tc
section
variable {P : Program} {w : World} {K : PySem.W.Frag} {mg : Str → Option Value} {base : Heap}
noncomputable abbrev s__law_stays : Stmt := top 63
theorem sc__law_stays : FnScope ["_law_words", "_law_found", "_law_kinds"] ["_law_words"] (defScope s__law_stays) := ⟨rfl, rfl, rfl, by decide +kernel, rfl, by decide +kernel, by decide +kernel⟩
theorem ok__law_stays {ca : Ca} (D : DefAt K mg "_law_stays" s__law_stays) (T : Txt K mg ca) (G__law_told : FnAt P w K mg base CX0 8 "_law_told" ["_law_thing"] (spTd13 K)) (G_shown : FnAt P w K mg base CX0 13 "shown" ["script"] (spShow K)) : FnAt P w K mg base CX0 14 "_law_stays" ["_law_words"] (spSt13 K) := by
 refine D.ok sc__law_stays (fun vs H Q E h => ?_) (fun _ _ _ _ _ _ us hl => match us, hl with | [_], _ => rfl) (fun f cdv A outer s H vs Q E hr h => ?_)
 ·obtain ⟨t, rfl, ht, k⟩ := h; rfl
 ·obtain ⟨t, rfl, ht, k⟩ := h
  have nd := sc__law_stays.nd
  refine ⟨_, (@pss_cons _ _ _ _ _ (ps_asg (pe_fn G__law_told hr (by rfl) pass0 (@pa_cons _ _ _ _ _ (pv 0) pa_nil (by rfl))) (pg_tup rfl (pgs_cons (pg_name (i := 1) nd rfl (Or.inl rfl)) (pgs_cons (pg_name (i := 2) nd rfl (Or.inl rfl)) pgs_nil))))
   (@pss_one _ _ _ (ps_ret (pe_and (pe_cmpR (op_eqD' (K := K) rfl hr) (pv 2) (@pe_lst _ _ _ _ pa_nil) (nomark _)) (pe_one (pe_cmpR op_eq (pe_fn G_shown hr (by rfl) pass0 (@pa_cons _ _ _ _ _ (pv 1) pa_nil (by rfl))) (pv 0) (nomark _))))))), ?_⟩
  refine ⟨_, rfl, .str t, rdF t, rfl, ⟨_, rfl, fun h => absurd rfl h, fun t' e => (V.str.inj e) ▸ ⟨ht, rfl⟩⟩, fun p H1 s1 hT => ?_⟩
  obtain ⟨a, kn, b, e, ha, h⟩ := hT
  refine ⟨a, _, e, SqT.of ha, rfl, _, _, rfl, _, _, rfl, rfl, ?_⟩
  refine ⟨_, rfl, sz (by simp), fun pe he => ?_⟩
  have ue := Same.upd (o := .lst []) he
  rcases h with ⟨e0, _, hk⟩ | ⟨rls, dts, e0, hk, hb⟩
  ·refine ⟨_, _, rep_kn (ue _ _ hk), rep_nil upd_same, dep_kn _, _, rfl, ?_⟩
   refine iteF ?_
   have k := k _ (s1.trans ue)
   rw [e0] at k
   exact k
  ·refine ⟨_, _, rep_nil (ue _ _ hk), rep_nil upd_same, by decide, _, rfl, ?_⟩
   refine iteT ?_
   obtain ⟨o1, o2, o3, o4⟩ := rdF_ok e0
   refine ⟨_, rfl, b, rls, dts, rfl, hb.ts ue.ts, o1, o2, o3, fun H2 s2 => ?_⟩
   rw [o4]
   refine ⟨_, rfl, rfl, ?_⟩
   have k := k _ (s1.trans (ue.trans s2))
   rw [e0] at k
   have e1 : decide (V.str t = V.str t) = true := decide_eq_true rfl
   rw [e1]
   exact k
end
end T13
namespace T13
open PySem L2 Tc
section
variable {P : Program} {w : World} {K : PySem.W.Frag} {mg : Str → Option Value} {base : Heap}
noncomputable abbrev s__law_odd : Stmt := top 64
theorem sc__law_odd : FnScope ["_law_cell", "_law_some"] ["_law_cell"] (defScope s__law_odd) := ⟨rfl, rfl, rfl, by decide +kernel, rfl, by decide +kernel, by decide +kernel⟩
theorem ok__law_odd {ca : Ca} (D : DefAt K mg "_law_odd" s__law_odd) (T : Txt K mg ca) : FnAt P w K mg base CX0 1 "_law_odd" ["_law_cell"] (spOd13) := by
 refine D.ok sc__law_odd (fun vs H Q E h => ?_) (fun _ _ _ _ _ _ us hl => match us, hl with | [_], _ => rfl) (fun f cdv A outer s H vs Q E hr h => ?_)
 ·obtain ⟨n, rfl, k⟩ := h; rfl
 ·obtain ⟨n, rfl, k⟩ := h
  have nd := sc__law_odd.nd
  refine ⟨_, (@pss_cons _ _ _ _ _ (@ps_set _ _ 1 _ _ _ _ nd rfl (Or.inl rfl) (@pe_lst _ _ _ _ (@pa_cons _ _ _ _ _ pe_str (@pa_cons _ _ _ _ _ pe_str (@pa_cons _ _ _ _ _ pe_str (@pa_cons _ _ _ _ _ pe_str (@pa_cons _ _ _ _ _ pe_str (@pa_cons _ _ _ _ _ pe_str (@pa_cons _ _ _ _ _ pe_str (@pa_cons _ _ _ _ _ pe_str (@pa_cons _ _ _ _ _ pe_str (@pa_cons _ _ _ _ _ pe_str (@pa_cons _ _ _ _ _ pe_str pa_nil (by rfl)) (by rfl)) (by rfl)) (by rfl)) (by rfl)) (by rfl)) (by rfl)) (by rfl)) (by rfl)) (by rfl)) (by rfl))) (by rfl) (Or.inl rfl))
   (@pss_cons _ _ _ _ _ (@ps_set _ _ 1 _ _ _ _ nd rfl (Or.inl rfl) (@pe_op _ _ _ _ _ _ _ _ op_cat (pv 1) (@pe_lst _ _ _ _ (@pa_cons _ _ _ _ _ pe_str (@pa_cons _ _ _ _ _ pe_str (@pa_cons _ _ _ _ _ pe_str (@pa_cons _ _ _ _ _ pe_str (@pa_cons _ _ _ _ _ pe_str (@pa_cons _ _ _ _ _ pe_str pa_nil (by rfl)) (by rfl)) (by rfl)) (by rfl)) (by rfl)) (by rfl)))) (by rfl) (Or.inl rfl))
   (@pss_cons _ _ _ _ _ (@ps_set _ _ 1 _ _ _ _ nd rfl (Or.inl rfl) (@pe_op _ _ _ _ _ _ _ _ op_cat (pv 1) (@pe_lst _ _ _ _ (@pa_cons _ _ _ _ _ pe_str (@pa_cons _ _ _ _ _ pe_str (@pa_cons _ _ _ _ _ pe_str (@pa_cons _ _ _ _ _ pe_str (@pa_cons _ _ _ _ _ pe_str (@pa_cons _ _ _ _ _ pe_str pa_nil (by rfl)) (by rfl)) (by rfl)) (by rfl)) (by rfl)) (by rfl)))) (by rfl) (Or.inl rfl))
   (@pss_cons _ _ _ _ _ (@ps_set _ _ 1 _ _ _ _ nd rfl (Or.inl rfl) (@pe_op _ _ _ _ _ _ _ _ op_cat (pv 1) (@pe_lst _ _ _ _ (@pa_cons _ _ _ _ _ pe_str (@pa_cons _ _ _ _ _ pe_str (@pa_cons _ _ _ _ _ pe_str (@pa_cons _ _ _ _ _ pe_str (@pa_cons _ _ _ _ _ pe_str (@pa_cons _ _ _ _ _ pe_str pa_nil (by rfl)) (by rfl)) (by rfl)) (by rfl)) (by rfl)) (by rfl)))) (by rfl) (Or.inl rfl))
   (@pss_cons _ _ _ _ _ (@ps_set _ _ 1 _ _ _ _ nd rfl (Or.inl rfl) (@pe_op _ _ _ _ _ _ _ _ op_cat (pv 1) (@pe_lst _ _ _ _ (@pa_cons _ _ _ _ _ pe_str (@pa_cons _ _ _ _ _ pe_str (@pa_cons _ _ _ _ _ pe_str (@pa_cons _ _ _ _ _ pe_str (@pa_cons _ _ _ _ _ pe_str (@pa_cons _ _ _ _ _ pe_str (@pa_cons _ _ _ _ _ pe_str pa_nil (by rfl)) (by rfl)) (by rfl)) (by rfl)) (by rfl)) (by rfl)) (by rfl)))) (by rfl) (Or.inl rfl))
   (@pss_cons _ _ _ _ _ (@ps_set _ _ 1 _ _ _ _ nd rfl (Or.inl rfl) (@pe_op _ _ _ _ _ _ _ _ op_cat (pv 1) (@pe_lst _ _ _ _ (@pa_cons _ _ _ _ _ pe_str (@pa_cons _ _ _ _ _ pe_str (@pa_cons _ _ _ _ _ pe_str (@pa_cons _ _ _ _ _ pe_str (@pa_cons _ _ _ _ _ pe_str (@pa_cons _ _ _ _ _ pe_str (@pa_cons _ _ _ _ _ pe_str (@pa_cons _ _ _ _ _ pe_str pa_nil (by rfl)) (by rfl)) (by rfl)) (by rfl)) (by rfl)) (by rfl)) (by rfl)) (by rfl)))) (by rfl) (Or.inl rfl))
   (@pss_cons _ _ _ _ _ (@ps_set _ _ 1 _ _ _ _ nd rfl (Or.inl rfl) (@pe_op _ _ _ _ _ _ _ _ op_cat (pv 1) (@pe_lst _ _ _ _ (@pa_cons _ _ _ _ _ pe_str (@pa_cons _ _ _ _ _ pe_str (@pa_cons _ _ _ _ _ pe_str pa_nil (by rfl)) (by rfl)) (by rfl)))) (by rfl) (Or.inl rfl))
   (@pss_cons _ _ _ _ _ (@ps_set _ _ 1 _ _ _ _ nd rfl (Or.inl rfl) (@pe_op _ _ _ _ _ _ _ _ op_cat (pv 1) (@pe_lst _ _ _ _ (@pa_cons _ _ _ _ _ pe_str (@pa_cons _ _ _ _ _ pe_str (@pa_cons _ _ _ _ _ pe_str (@pa_cons _ _ _ _ _ pe_str (@pa_cons _ _ _ _ _ pe_str (@pa_cons _ _ _ _ _ pe_str (@pa_cons _ _ _ _ _ pe_str pa_nil (by rfl)) (by rfl)) (by rfl)) (by rfl)) (by rfl)) (by rfl)) (by rfl)))) (by rfl) (Or.inl rfl))
   (@pss_cons _ _ _ _ _ (@ps_set _ _ 1 _ _ _ _ nd rfl (Or.inl rfl) (@pe_op _ _ _ _ _ _ _ _ op_cat (pv 1) (@pe_lst _ _ _ _ (@pa_cons _ _ _ _ _ pe_str (@pa_cons _ _ _ _ _ pe_str (@pa_cons _ _ _ _ _ pe_str (@pa_cons _ _ _ _ _ pe_str (@pa_cons _ _ _ _ _ pe_str (@pa_cons _ _ _ _ _ pe_str pa_nil (by rfl)) (by rfl)) (by rfl)) (by rfl)) (by rfl)) (by rfl)))) (by rfl) (Or.inl rfl))
   (@pss_cons _ _ _ _ _ (@ps_set _ _ 1 _ _ _ _ nd rfl (Or.inl rfl) (@pe_op _ _ _ _ _ _ _ _ op_cat (pv 1) (@pe_lst _ _ _ _ (@pa_cons _ _ _ _ _ pe_str (@pa_cons _ _ _ _ _ pe_str (@pa_cons _ _ _ _ _ pe_str (@pa_cons _ _ _ _ _ pe_str (@pa_cons _ _ _ _ _ pe_str (@pa_cons _ _ _ _ _ pe_str (@pa_cons _ _ _ _ _ pe_str (@pa_cons _ _ _ _ _ pe_str (@pa_cons _ _ _ _ _ pe_str pa_nil (by rfl)) (by rfl)) (by rfl)) (by rfl)) (by rfl)) (by rfl)) (by rfl)) (by rfl)) (by rfl)))) (by rfl) (Or.inl rfl))
   (@pss_one _ _ _ (ps_ret (pe_ix (ix_list' (K := K) rfl) (pv 1) (@pe_op _ _ _ _ _ _ _ _ op_modN (pv 0) (pe_callB (call_len' (K := K) rfl) (by rfl) T.z_len PySem.boot_len (@pa_cons _ _ _ _ _ (pv 1) pa_nil (by rfl)))) (fun _ _ => rfl)))))))))))))), ?_⟩
  refine ⟨sz (by simp), fun p0 g0 => ?_⟩
  have s0 := Same.upd (o := .lst (oddL.take 11 |>.map V.str)) g0
  refine ⟨_, rfl, sz (by simp), fun b1 f1 => ⟨p0, b1, _, _, rfl, rfl, Same.upd f1 _ _ upd_same, upd_same, sz (by simp), fun p1 g1 => ?_⟩⟩
  have s1 := s0.trans ((Same.upd (o := .lst ((oddL.drop 11).take 6 |>.map V.str)) f1).trans (Same.upd (o := .lst ((oddL.take 17).map V.str)) g1))
  refine ⟨_, rfl, sz (by simp), fun b2 f2 => ⟨p1, b2, _, _, rfl, rfl, Same.upd f2 _ _ upd_same, upd_same, sz (by simp), fun p2 g2 => ?_⟩⟩
  have s2 := s1.trans ((Same.upd (o := .lst ((oddL.drop 17).take 6 |>.map V.str)) f2).trans (Same.upd (o := .lst ((oddL.take 23).map V.str)) g2))
  refine ⟨_, rfl, sz (by simp), fun b3 f3 => ⟨p2, b3, _, _, rfl, rfl, Same.upd f3 _ _ upd_same, upd_same, sz (by simp), fun p3 g3 => ?_⟩⟩
  have s3 := s2.trans ((Same.upd (o := .lst ((oddL.drop 23).take 6 |>.map V.str)) f3).trans (Same.upd (o := .lst ((oddL.take 29).map V.str)) g3))
  refine ⟨_, rfl, sz (by simp), fun b4 f4 => ⟨p3, b4, _, _, rfl, rfl, Same.upd f4 _ _ upd_same, upd_same, sz (by simp), fun p4 g4 => ?_⟩⟩
  have s4 := s3.trans ((Same.upd (o := .lst ((oddL.drop 29).take 7 |>.map V.str)) f4).trans (Same.upd (o := .lst ((oddL.take 36).map V.str)) g4))
  refine ⟨_, rfl, sz (by simp), fun b5 f5 => ⟨p4, b5, _, _, rfl, rfl, Same.upd f5 _ _ upd_same, upd_same, sz (by simp), fun p5 g5 => ?_⟩⟩
  have s5 := s4.trans ((Same.upd (o := .lst ((oddL.drop 36).take 8 |>.map V.str)) f5).trans (Same.upd (o := .lst ((oddL.take 44).map V.str)) g5))
  refine ⟨_, rfl, sz (by simp), fun b6 f6 => ⟨p5, b6, _, _, rfl, rfl, Same.upd f6 _ _ upd_same, upd_same, sz (by simp), fun p6 g6 => ?_⟩⟩
  have s6 := s5.trans ((Same.upd (o := .lst ((oddL.drop 44).take 3 |>.map V.str)) f6).trans (Same.upd (o := .lst ((oddL.take 47).map V.str)) g6))
  refine ⟨_, rfl, sz (by simp), fun b7 f7 => ⟨p6, b7, _, _, rfl, rfl, Same.upd f7 _ _ upd_same, upd_same, sz (by simp), fun p7 g7 => ?_⟩⟩
  have s7 := s6.trans ((Same.upd (o := .lst ((oddL.drop 47).take 7 |>.map V.str)) f7).trans (Same.upd (o := .lst ((oddL.take 54).map V.str)) g7))
  refine ⟨_, rfl, sz (by simp), fun b8 f8 => ⟨p7, b8, _, _, rfl, rfl, Same.upd f8 _ _ upd_same, upd_same, sz (by simp), fun p8 g8 => ?_⟩⟩
  have s8 := s7.trans ((Same.upd (o := .lst ((oddL.drop 54).take 6 |>.map V.str)) f8).trans (Same.upd (o := .lst ((oddL.take 60).map V.str)) g8))
  refine ⟨_, rfl, sz (by simp), fun b9 f9 => ⟨p8, b9, _, _, rfl, rfl, Same.upd f9 _ _ upd_same, upd_same, sz (by simp), fun p9 g9 => ?_⟩⟩
  have s9 := s8.trans ((Same.upd (o := .lst ((oddL.drop 60).take 9 |>.map V.str)) f9).trans (Same.upd (o := .lst ((oddL.take 69).map V.str)) g9))
  have hlen : (oddL.map V.str).length = 69 := rfl
  have hm : n.fmod ((69 : Nat) : Int) = n % 69 := Int.fmod_eq_emod_of_nonneg _ (by decide)
  obtain ⟨v, hv, hat⟩ := atI_in (xs := oddL.map V.str) (j := n % 69) (by omega) (by rw [hlen]; omega)
  obtain ⟨x, hx, rfl⟩ := List.mem_map.mp hv
  rw [← hm] at hat
  exact ⟨_, rfl, _, rfl, _, rfl, _, 69, rfl, .inl ⟨_, SqL.of upd_same, rfl⟩, _, _, rfl, rfl, (show ((69 : Nat) : Int) ≠ 0 by decide), p9, _, _, _, rfl, rfl, SqL.of upd_same, hat, k _ _ s9 hx⟩
end
end T13
namespace T13
open PySem L2 Tc
section
variable {P : Program} {w : World} {K : PySem.W.Frag} {mg : Str → Option Value} {base : Heap}
noncomputable abbrev s__law_changed : Stmt := top 65
theorem sc__law_changed : FnScope ["_law_words", "_law_script_here", "_law_rows", "_law_at", "_law_cell", "_law_place", "_law_sign"] ["_law_words", "_law_script_here"] (defScope s__law_changed) := ⟨rfl, rfl, rfl, by decide +kernel, rfl, by decide +kernel, by decide +kernel⟩
theorem ok__law_changed {ca : Ca} (D : DefAt K mg "_law_changed" s__law_changed) (T : Txt K mg ca) (G__law_cell_at : FnAt P w K mg base CX0 1 "_law_cell_at" ["_law_script_here", "_law_k"] (spCell K)) : FnAt P w K mg base CX0 2 "_law_changed" ["_law_words", "_law_script_here"] (spCh13 K) := by
 refine D.ok sc__law_changed (fun vs H Q E h => ?_) (fun _ _ _ _ _ _ us hl => match us, hl with | [_, _], _ => rfl) (fun f cdv A outer s H vs Q E hr h => ?_)
 ·obtain ⟨t, a, ns, rfl, ht, hS, k⟩ := h; rfl
 ·obtain ⟨t, a, ns, rfl, ht, hS, k⟩ := h
  have nd := sc__law_changed.nd
  refine ⟨_, (@pss_cons _ _ _ _ _ (@ps_set _ _ 2 _ _ _ _ nd rfl (Or.inl rfl) (pe_bm' (K := K) rfl PySem.F.plainAttrs_str PySem.F.slot_str_split PySem.F.type_str_split mt_split (pv 0) (@pa_cons _ _ _ _ _ pe_str pa_nil (by rfl))) (by rfl) (Or.inl rfl))
   (@pss_cons _ _ _ _ _ (@ps_set _ _ 3 _ _ _ _ nd rfl (Or.inl rfl) (@pe_op _ _ _ _ _ _ _ _ op_modN (pe_fn G__law_cell_at hr (by rfl) pass0 (@pa_cons _ _ _ _ _ (pv 1) (@pa_cons _ _ _ _ _ pe_int pa_nil (by rfl)) (by rfl))) (pe_callB (call_len' (K := K) rfl) (by rfl) T.z_len PySem.boot_len (@pa_cons _ _ _ _ _ (pv 2) pa_nil (by rfl)))) (by rfl) (Or.inl rfl))
   (@pss_cons _ _ _ _ _ (@ps_set _ _ 4 _ _ _ _ nd rfl (Or.inl rfl) (pe_fn G__law_cell_at hr (by rfl) pass0 (@pa_cons _ _ _ _ _ (pv 1) (@pa_cons _ _ _ _ _ pe_int pa_nil (by rfl)) (by rfl))) (by rfl) (Or.inl rfl))
   (@pss_cons _ _ _ _ _ (ps_if (pt_cmpR op_eq (@pe_op _ _ _ _ _ _ _ _ op_modN (pv 4) pe_int) pe_int (nomark _)) (@pss_one _ _ _ (ps_ret (pe_bm' (K := K) rfl PySem.F.plainAttrs_str PySem.F.slot_str_join PySem.F.type_str_join (mt_join' (K := K) rfl) pe_str (@pa_cons _ _ _ _ _ (@pe_op _ _ _ _ _ _ _ _ op_cat (pe_slice (sl_list' (K := K) rfl) (pv 2) po_none (po_some (pv 3))) (pe_slice (sl_list' (K := K) rfl) (pv 2) (po_some (@pe_op _ _ _ _ _ _ _ _ op_add (pv 3) pe_int)) po_none)) pa_nil (by rfl))))) pss_nil)
   (@pss_cons _ _ _ _ _ (ps_if (pt_cmpR op_eq (@pe_op _ _ _ _ _ _ _ _ op_modN (pv 4) pe_int) pe_int (nomark _)) (@pss_one _ _ _ (ps_ret (pe_bm' (K := K) rfl PySem.F.plainAttrs_str PySem.F.slot_str_join PySem.F.type_str_join (mt_join' (K := K) rfl) pe_str (@pa_cons _ _ _ _ _ (@pe_op _ _ _ _ _ _ _ _ op_cat (pe_slice (sl_list' (K := K) rfl) (pv 2) po_none (po_some (@pe_op _ _ _ _ _ _ _ _ op_add (pv 3) pe_int))) (pe_slice (sl_list' (K := K) rfl) (pv 2) (po_some (pv 3)) po_none)) pa_nil (by rfl))))) pss_nil)
   (@pss_cons _ _ _ _ _ (@ps_set _ _ 5 _ _ _ _ nd rfl (Or.inl rfl) (@pe_op _ _ _ _ _ _ _ _ op_modN (pe_fn G__law_cell_at hr (by rfl) pass0 (@pa_cons _ _ _ _ _ (pv 1) (@pa_cons _ _ _ _ _ pe_int pa_nil (by rfl)) (by rfl))) (@pe_op _ _ _ _ _ _ _ _ op_add (pe_callB (call_len' (K := K) rfl) (by rfl) T.z_len PySem.boot_len (@pa_cons _ _ _ _ _ (pv 0) pa_nil (by rfl))) pe_int)) (by rfl) (Or.inl rfl))
   (@pss_cons _ _ _ _ _ (@ps_set _ _ 6 _ _ _ _ nd rfl (Or.inl rfl) (pe_ix (ix_list' (K := K) rfl) (@pe_lst _ _ _ _ (@pa_cons _ _ _ _ _ pe_str (@pa_cons _ _ _ _ _ pe_str (@pa_cons _ _ _ _ _ pe_str (@pa_cons _ _ _ _ _ pe_str (@pa_cons _ _ _ _ _ pe_str (@pa_cons _ _ _ _ _ pe_str (@pa_cons _ _ _ _ _ pe_str (@pa_cons _ _ _ _ _ pe_str (@pa_cons _ _ _ _ _ pe_str pa_nil (by rfl)) (by rfl)) (by rfl)) (by rfl)) (by rfl)) (by rfl)) (by rfl)) (by rfl)) (by rfl))) (@pe_op _ _ _ _ _ _ _ _ op_modN (@pe_op _ _ _ _ _ _ _ _ op_fdivB (pv 4) pe_int) pe_int) (fun _ _ => rfl)) (by rfl) (Or.inl rfl))
   (@pss_cons _ _ _ _ _ (ps_if (pt_cmpR op_eq (@pe_op _ _ _ _ _ _ _ _ op_modN (pv 4) pe_int) pe_int (nomark _)) (@pss_one _ _ _ (ps_ret (@pe_op _ _ _ _ _ _ _ _ op_add_str (@pe_op _ _ _ _ _ _ _ _ op_add_str (pe_slice sl_str (pv 0) po_none (po_some (pv 5))) (pv 6)) (pe_slice sl_str (pv 0) (po_some (pv 5)) po_none)))) pss_nil)
   (@pss_one _ _ _ (ps_ret (@pe_op _ _ _ _ _ _ _ _ op_add_str (@pe_op _ _ _ _ _ _ _ _ op_add_str (pe_slice sl_str (pv 0) po_none (po_some (pv 5))) (pv 6)) (pe_slice sl_str (pv 0) (po_some (@pe_op _ _ _ _ _ _ _ _ op_add (pv 5) pe_int)) po_none)))))))))))), ?_⟩
  have hsl := sl_split t
  have hne := split_ne t (Str.ofString "\n")
  refine ⟨_, rfl, rfl, t, Str.ofString "\n", rfl, rfl, (by decide), by omega, fun p hp => ?_⟩
  generalize Txt.split t (Str.ofString "\n") = rows at *
  have s1 := Same.upd (o := .lst (rows.map V.str)) hp
  have hpos : 0 < rows.length := List.length_pos_iff.mpr hne
  have hlm : (rows.map V.str).length = rows.length := List.length_map ..
  have hll := hsl
  unfold sl at hll
  have hl1 : rows.length ≤ 200001 := by omega
  have hmod : ∀ (n : Int) (m : Nat), 0 < m → ∃ i : Nat, n.fmod (m : Int) = (i : Int) ∧ i < m := fun n m hm => ⟨(n.fmod (m : Int)).toNat, by
   have e : n.fmod (m : Int) = n % (m : Int) := Int.fmod_eq_emod_of_nonneg _ (by omega)
   have h1 := Int.emod_nonneg n (show (m : Int) ≠ 0 by omega)
   have h2 := Int.emod_lt_of_pos n (show 0 < (m : Int) by omega)
   omega⟩
  refine ⟨_, rfl, a, ns, 2, rfl, s1.seq hS, by omega, fun c2 => ⟨_, rfl, _, (rows.map V.str).length, rfl, .inl ⟨_, SqL.of upd_same, rfl⟩, _, _, rfl, rfl, (show (((rows.map V.str).length : Nat) : Int) ≠ 0 by omega), ?_⟩⟩
  obtain ⟨i, hi, hil⟩ := hmod c2 (rows.map V.str).length (by omega)
  show Ends.nx _ [some (.str t), some (.ref a), some (.ref p), some (.int (c2.fmod (((rows.map V.str).length : Nat) : Int))), none, none, none] _
  rw [hi]
  rw [hlm] at hil
  refine ⟨_, rfl, a, ns, 3, rfl, s1.seq hS, by omega, fun c3 => ?_⟩
  refine sealH (F := fun Hx => Same H Hx ∧ Hx p = some (.lst (rows.map V.str))) ⟨s1, upd_same⟩ (fun H1 ⟨s1, hp1⟩ => ?_)
  show Ends.nx _ [some (.str t), some (.ref a), some (.ref p), some (.int (i : Int)), some (.int c3), none, none] H1
  have e1 : cutV (rows.map V.str) none (some (i : Int)) = (rows.take i).map V.str := cut_upto rows (by omega)
  have e2 : cutV (rows.map V.str) none (some ((i : Int) + 1)) = (rows.take (i + 1)).map V.str := cut_upto rows (a := i + 1) (by omega)
  have e3 : cutV (rows.map V.str) (some (i : Int)) none = (rows.drop i).map V.str := cut_from rows (by omega)
  have e4 : cutV (rows.map V.str) (some ((i : Int) + 1)) none = (rows.drop (i + 1)).map V.str := cut_from rows (a := i + 1) (by omega)
  have lt1 : ∀ m, ((rows.take m).map V.str).length ≤ 200001 := fun m => by rw [List.length_map, List.length_take]; omega
  have ld1 : ∀ m, ((rows.drop m).map V.str).length ≤ 200001 := fun m => by rw [List.length_map, List.length_drop]; omega
  have fin : ∀ (m m' : Nat) (H5 : Hp) (q : Addr), Same H1 H5 → H5 q = some (.lst ((rows.take m).map V.str ++ (rows.drop m').map V.str)) → rJoin K (.str (Str.ofString "\n")) [.ref q] H5 Q := fun m m' H5 q s5 hq => by
   have hs5 : sl (rows.take m ++ rows.drop m') ≤ 700000 := by
    rw [sl_app]
    have h1 := sl_take rows m
    have h2 := sl_drop rows m'
    omega
   exact ⟨_, q, rows.take m ++ rows.drop m', rfl, rfl, SqL.of (by rw [hq, List.map_append]), by rw [sl_sum]; omega, k _ _ (s1.trans s5) (Nat.le_trans (sl_join _) hs5)⟩
  refine ⟨_, rfl, _, _, rfl, rfl, (show (5 : Int) ≠ 0 by decide), rfl, _, rfl, ?_⟩
  refine ite2 (fun h => ?_) (fun h => ?_)
  ·refine ⟨rfl, _, rfl, _, rfl, _, rfl, p, _, rfl, SqL.of hp1, fun q1 g1 => ?_⟩
   rw [e1]
   have u1 := Same.upd (o := .lst ((rows.take i).map V.str)) g1
   refine ⟨_, rfl, _, rfl, _, _, rfl, rfl, _, rfl, p, _, rfl, SqL.of (u1 _ _ hp1), fun q2 g2 => ?_⟩
   show rCat (.ref q1) (.ref q2) (upd _ q2 (.lst (cutV (rows.map V.str) (some ((i : Int) + 1)) none))) _
   rw [e4]
   have u2 := Same.upd (o := .lst ((rows.drop (i + 1)).map V.str)) g2
   exact ⟨q1, q2, _, _, rfl, rfl, u2 _ _ upd_same, upd_same, bigL (by have := lt1 i; have := ld1 (i + 1); omega), fun q3 g3 => fin i (i + 1) _ q3 (u1.trans (u2.trans (Same.upd g3))) upd_same⟩
  refine ⟨_, rfl, _, _, rfl, rfl, (show (5 : Int) ≠ 0 by decide), rfl, _, rfl, ?_⟩
  refine ite2 (fun h => ?_) (fun h => ?_)
  ·refine ⟨rfl, _, rfl, _, rfl, _, _, rfl, rfl, _, rfl, p, _, rfl, SqL.of hp1, fun q1 g1 => ?_⟩
   rw [e2]
   have u1 := Same.upd (o := .lst ((rows.take (i + 1)).map V.str)) g1
   refine ⟨_, rfl, _, rfl, _, rfl, p, _, rfl, SqL.of (u1 _ _ hp1), fun q2 g2 => ?_⟩
   show rCat (.ref q1) (.ref q2) (upd _ q2 (.lst (cutV (rows.map V.str) (some (i : Int)) none))) _
   rw [e3]
   have u2 := Same.upd (o := .lst ((rows.drop i).map V.str)) g2
   exact ⟨q1, q2, _, _, rfl, rfl, u2 _ _ upd_same, upd_same, bigL (by have := lt1 (i + 1); have := ld1 i; omega), fun q3 g3 => fin (i + 1) i _ q3 (u1.trans (u2.trans (Same.upd g3))) upd_same⟩
  refine ⟨_, rfl, a, ns, 2, rfl, s1.seq hS, by omega, fun c4 => ⟨_, rfl, _, t.length, rfl, ⟨bigL (by omega), rfl⟩, _, _, rfl, rfl, _, _, rfl, rfl, (show (((t.length : Nat) : Int) + 1) ≠ 0 by omega), ?_⟩⟩
  let pl : Int := c4.fmod (((t.length : Nat) : Int) + 1)
  show Ends.nx _ [some (.str t), some (.ref a), some (.ref p), some (.int (i : Int)), some (.int c3), some (.int pl), none] H1
  obtain ⟨v, hv, hat⟩ := atI_in (xs := ["", "0", "a", "1", "/", "\n", "-", "end", "\t"].map fun z => V.str (Str.ofString z)) (j := (c3.fdiv 5) % 9) (by omega) (by show _ < ((9 : Nat) : Int); omega)
  have hm9 : (c3.fdiv 5).fmod 9 = (c3.fdiv 5) % 9 := Int.fmod_eq_emod_of_nonneg _ (by decide)
  rw [← hm9] at hat
  obtain ⟨z0, hz0, rfl⟩ := List.mem_map.mp hv
  have hzl : (Str.ofString z0).length ≤ 3 := by
   have key : ∀ z ∈ ["", "0", "a", "1", "/", "\n", "-", "end", "\t"], (Str.ofString z).length ≤ 3 := by decide +kernel
   exact key z0 hz0
  refine ⟨sz (by simp), fun q g => ⟨_, rfl, _, _, rfl, rfl, ddv (by decide) (by decide), _, _, rfl, rfl, (show (9 : Int) ≠ 0 by decide), q, _, _, .str (Str.ofString z0), rfl, rfl, SqL.of upd_same, hat, ?_⟩⟩
  have u1 := Same.upd (o := .lst (["", "0", "a", "1", "/", "\n", "-", "end", "\t"].map fun z => V.str (Str.ofString z))) g
  refine sealH (F := fun Hx => Same H1 Hx) u1 (fun H2 s2 => ?_)
  show Ends.nx _ [some (.str t), some (.ref a), some (.ref p), some (.int (i : Int)), some (.int c3), some (.int pl), some (.str (Str.ofString z0))] H2
  have last : ∀ lo hi lo' hi' : Option Int, (Txt.slice t lo hi).length + (Str.ofString z0).length ≤ 1000000 ∧ (Txt.slice t lo hi ++ Str.ofString z0).length + (Txt.slice t lo' hi').length ≤ 1000000 ∧ (Txt.slice t lo hi ++ Str.ofString z0 ++ Txt.slice t lo' hi').length ≤ 700000 := fun lo hi lo' hi' => by
   have h1 := Txt.slice_le t lo hi
   have h2 := Txt.slice_le t lo' hi'
   have h3 := str_len (Txt.slice t lo hi) (Str.ofString z0)
   have h4 := str_len (Txt.slice t lo hi ++ Str.ofString z0) (Txt.slice t lo' hi')
   omega
  refine ⟨_, rfl, _, _, rfl, rfl, (show (5 : Int) ≠ 0 by decide), rfl, _, rfl, ?_⟩
  refine ite2 (fun h => ?_) (fun h => ?_)
  ·exact ⟨_, rfl, _, rfl, _, rfl, t, rfl, bigL (by omega), _, rfl, _, _, rfl, rfl, bigL (last _ _ none none).1, _, rfl, _, rfl, _, rfl, t, rfl, bigL (by omega), _, _, rfl, rfl, bigL (last _ _ _ _).2.1, k _ _ (s1.trans s2) (last _ _ _ _).2.2⟩
  ·exact ⟨_, rfl, _, rfl, _, rfl, t, rfl, bigL (by omega), _, rfl, _, _, rfl, rfl, bigL (last _ _ none none).1, _, rfl, _, rfl, _, _, rfl, rfl, _, rfl, t, rfl, bigL (by omega), _, _, rfl, rfl, bigL (last _ _ _ _).2.1, k _ _ (s1.trans s2) (last _ _ _ _).2.2⟩
end
end T13
namespace T13
open PySem L2 Tc
section
variable {P : Program} {w : World} {K : PySem.W.Frag} {mg : Str → Option Value} {base : Heap}
noncomputable abbrev s__law_blank : Stmt := top 66
theorem sc__law_blank : FnScope ["_law_words", "_law_cell", "_law_rows", "_law_at", "_law_row"] ["_law_words", "_law_cell"] (defScope s__law_blank) := ⟨rfl, rfl, rfl, by decide +kernel, rfl, by decide +kernel, by decide +kernel⟩
theorem ok__law_blank {ca : Ca} (D : DefAt K mg "_law_blank" s__law_blank) (T : Txt K mg ca) : FnAt P w K mg base CX0 1 "_law_blank" ["_law_words", "_law_cell"] (spBk13 K) := by
 refine D.ok sc__law_blank (fun vs H Q E h => ?_) (fun _ _ _ _ _ _ us hl => match us, hl with | [_, _], _ => rfl) (fun f cdv A outer s H vs Q E hr h => ?_)
 ·obtain ⟨t, n, rfl, ht, h0, k⟩ := h; rfl
 ·obtain ⟨t, n, rfl, ht, h0, k⟩ := h
  have nd := sc__law_blank.nd
  refine ⟨_, (@pss_cons _ _ _ _ _ (@ps_set _ _ 2 _ _ _ _ nd rfl (Or.inl rfl) (pe_bm' (K := K) rfl PySem.F.plainAttrs_str PySem.F.slot_str_split PySem.F.type_str_split mt_split (pv 0) (@pa_cons _ _ _ _ _ pe_str pa_nil (by rfl))) (by rfl) (Or.inl rfl))
   (@pss_cons _ _ _ _ _ (@ps_set _ _ 3 _ _ _ _ nd rfl (Or.inl rfl) (@pe_op _ _ _ _ _ _ _ _ op_modN (pv 1) (pe_callB (call_len' (K := K) rfl) (by rfl) T.z_len PySem.boot_len (@pa_cons _ _ _ _ _ (pv 2) pa_nil (by rfl)))) (by rfl) (Or.inl rfl))
   (@pss_cons _ _ _ _ _ (@ps_set _ _ 4 _ _ _ _ nd rfl (Or.inl rfl) (pe_ix (ix_list' (K := K) rfl) (pv 2) (pv 3) (fun _ _ => rfl)) (by rfl) (Or.inl rfl))
   (@pss_cons _ _ _ _ _ (ps_if (pt_cmpR op_eq (@pe_op _ _ _ _ _ _ _ _ op_modN (@pe_op _ _ _ _ _ _ _ _ op_fdivB (pv 1) pe_int) pe_int) pe_int (nomark _)) (@pss_one _ _ _ (@ps_set _ _ 4 _ _ _ _ nd rfl (Or.inl rfl) (@pe_op _ _ _ _ _ _ _ _ op_add_str (pv 4) pe_str) (by rfl) (Or.inl rfl))) (@pss_one _ _ _ (ps_ifRepl (i := 4) (pt_cmpR op_eq (@pe_op _ _ _ _ _ _ _ _ op_modN (@pe_op _ _ _ _ _ _ _ _ op_fdivB (pv 1) pe_int) pe_int) pe_int (nomark _)) (@pss_one _ _ _ (@ps_set _ _ 4 _ _ _ _ nd rfl (Or.inl rfl) (@pe_op _ _ _ _ _ _ _ _ op_add_str pe_str (pv 4)) (by rfl) (Or.inl rfl))) nd rfl (Or.inl rfl) (Or.inl rfl) (by decide) (by decide))))
   (@pss_one _ _ _ (ps_ret (pe_bm' (K := K) rfl PySem.F.plainAttrs_str PySem.F.slot_str_join PySem.F.type_str_join (mt_join' (K := K) rfl) pe_str (@pa_cons _ _ _ _ _ (@pe_op _ _ _ _ _ _ _ _ op_cat (@pe_op _ _ _ _ _ _ _ _ op_cat (pe_slice (sl_list' (K := K) rfl) (pv 2) po_none (po_some (pv 3))) (@pe_lst _ _ _ _ (@pa_cons _ _ _ _ _ (pv 4) pa_nil (by rfl)))) (pe_slice (sl_list' (K := K) rfl) (pv 2) (po_some (@pe_op _ _ _ _ _ _ _ _ op_add (pv 3) pe_int)) po_none)) pa_nil (by rfl))))))))), ?_⟩
  have hml : ∀ z ∈ Txt.split t (Str.ofString "\n"), z.length ≤ 200001 := fun z hz => by
   have := split_mem_len (by decide) hz
   omega
  have hfr := free_nl t
  have hne := split_ne t (Str.ofString "\n")
  have hsl := sl_split t
  have h0s : Txt.split t (Str.ofString "\n") ≠ [Str.ofString ""] := fun z => h0 (by
   have := PySem.StrLaws.join_split t (Str.ofString "\n")
   rw [z] at this
   exact this.symm)
  refine ⟨_, rfl, rfl, t, Str.ofString "\n", rfl, rfl, (by decide), by omega, fun p hp => ?_⟩
  generalize Txt.split t (Str.ofString "\n") = rows at *
  have s1 := Same.upd (o := .lst (rows.map V.str)) hp
  have hpos : 0 < rows.length := List.length_pos_iff.mpr hne
  have hlm : (rows.map V.str).length = rows.length := List.length_map ..
  obtain ⟨i, hi, hil⟩ : ∃ i : Nat, n.fmod (((rows.map V.str).length : Nat) : Int) = (i : Int) ∧ i < rows.length := ⟨(n.fmod (((rows.map V.str).length : Nat) : Int)).toNat, by
   rw [hlm]
   have e : n.fmod ((rows.length : Nat) : Int) = n % ((rows.length : Nat) : Int) := Int.fmod_eq_emod_of_nonneg _ (by omega)
   have h1 := Int.emod_nonneg n (show ((rows.length : Nat) : Int) ≠ 0 by omega)
   have h2 := Int.emod_lt_of_pos n (show 0 < ((rows.length : Nat) : Int) by omega)
   omega⟩
  refine ⟨_, rfl, _, rfl, _, (rows.map V.str).length, rfl, .inl ⟨_, SqL.of upd_same, rfl⟩, _, _, rfl, rfl, (show (((rows.map V.str).length : Nat) : Int) ≠ 0 by omega), ?_⟩
  show Ends.nx _ [some (.str t), some (.int n), some (.ref p), some (.int (n.fmod (((rows.map V.str).length : Nat) : Int))), none] _
  rw [hi]
  have hro : rows[i]? = some rows[i] := List.getElem?_eq_getElem hil
  obtain ⟨row, hrow⟩ : ∃ row, rows[i] = row := ⟨_, rfl⟩
  rw [hrow] at hro
  have hrm : row ∈ rows := List.mem_of_getElem? hro
  have hrl := hml row hrm
  have hrf := hfr row hrm
  refine ⟨_, rfl, _, rfl, p, _, _, .str row, rfl, rfl, SqL.of upd_same, atI_nat (by rw [List.getElem?_map, hro]; rfl), ?_⟩
  refine sealH (F := fun Hx => Same H Hx ∧ Hx p = some (.lst (rows.map V.str))) ⟨s1, upd_same⟩ (fun H1 ⟨s1, hp1⟩ => ?_)
  show Ends.nx _ [some (.str t), some (.int n), some (.ref p), some (.int (i : Int)), some (.str row)] H1
  refine ⟨_, rfl, _, _, rfl, rfl, ddv (by decide) (by decide), _, _, rfl, rfl, (show (3 : Int) ≠ 0 by decide), rfl, _, rfl, ?_⟩
  refine' by_key1 (C := fun (w : Str) => Str.ofString "" ∈ Txt.split w (Str.ofString " ") ∧ 10 ∉ w.cps.toList ∧ w.length ≤ 2 * row.length + 2 ∧ w ≠ Str.ofString "") (fun key => ?go) ?body
  case go =>
   have f32 : 10 ∉ (Str.ofString " ").cps.toList := by decide +kernel
   refine ite2 (fun h => ?_) (fun h => ?_)
   ·refine ⟨_, rfl, row, Str.ofString " ", rfl, rfl, bigL (by rw [sp_len1]; omega), ?_⟩
    obtain ⟨w, ew⟩ : ∃ w, w = row ++ Str.ofString " " := ⟨_, rfl⟩
    have hw : Str.ofString "" ∈ Txt.split w (Str.ofString " ") ∧ 10 ∉ w.cps.toList ∧ w.length ≤ 2 * row.length + 2 ∧ w ≠ Str.ofString "" := by
     have hl : w.length = row.length + 1 := by rw [ew, str_len, sp_len1]
     refine ⟨by rw [ew]; exact bl1 row, by rw [ew]; exact free_app hrf f32, by omega, fun z => ?_⟩
     rw [z] at hl
     exact absurd hl (by rw [show (Str.ofString "").length = 0 by decide +kernel]; omega)
    show Ends.nx _ [some (.str t), some (.int n), some (.ref p), some (.int (i : Int)), some (.str (row ++ Str.ofString " "))] H1
    rw [← ew]
    exact key w hw
   ·have els : ∀ w, w = Str.ofString " " ++ row → Str.ofString "" ∈ Txt.split w (Str.ofString " ") ∧ 10 ∉ w.cps.toList ∧ w.length ≤ 2 * row.length + 2 ∧ w ≠ Str.ofString "" := fun w ew => by
     have hl : w.length = 1 + row.length := by rw [ew, str_len, sp_len1]
     refine ⟨by rw [ew]; exact bl2 row, by rw [ew]; exact free_app f32 hrf, by omega, fun z => ?_⟩
     rw [z] at hl
     exact absurd hl (by rw [show (Str.ofString "").length = 0 by decide +kernel]; omega)
    refine ⟨_, rfl, _, _, rfl, rfl, ddv (by decide) (by decide), _, _, rfl, rfl, (show (3 : Int) ≠ 0 by decide), rfl, _, rfl, ?_⟩
    refine ite2 (fun h => ?_) (fun h => ?_)
    ·refine ⟨_, rfl, Str.ofString " ", row, rfl, rfl, bigL (by rw [sp_len1]; omega), ?_⟩
     obtain ⟨w, ew⟩ : ∃ w, w = Str.ofString " " ++ row := ⟨_, rfl⟩
     show Ends.nx _ [some (.str t), some (.int n), some (.ref p), some (.int (i : Int)), some (.str (Str.ofString " " ++ row))] H1
     rw [← ew]
     exact key w (els w ew)
    ·refine ⟨row, rfl, by omega, ?_⟩
     refine ite2 (fun h => ?_) (fun h => ?_)
     ·obtain ⟨w, ew⟩ : ∃ w, w = Txt.replace row (Str.ofString " ") (Str.ofString "  ") := ⟨_, rfl⟩
      have hw : Str.ofString "" ∈ Txt.split w (Str.ofString " ") ∧ 10 ∉ w.cps.toList ∧ w.length ≤ 2 * row.length + 2 ∧ w ≠ Str.ofString "" := by
       refine ⟨by rw [ew]; exact bl3 h, by rw [ew]; exact repl_free hrf, by rw [ew]; exact repl_len row, fun z => ?_⟩
       have h32 : 32 ∈ row.cps.toList := by
        have e : Txt.contains row (Str.ofString " ") = decide (32 ∈ row.cps.toList) := by rw [sp1_eq]; exact PySem.StrLaws.found_one row 32
        rw [e] at h
        exact of_decide_eq_true h
       have e : PySem.StrLaws.dbl 32 row.cps.toList = [] := by
        rw [← PySem.StrLaws.replace_double, show (⟨#[32, 32]⟩ : Str) = Str.ofString "  " by decide +kernel, ← sp1_eq, ← ew, z]
        decide +kernel
       cases hl : row.cps.toList with
       | nil => rw [hl] at h32; cases h32
       | cons a r =>
        rw [hl] at e
        have e : (if a = 32 then a :: a :: PySem.StrLaws.dbl 32 r else a :: PySem.StrLaws.dbl 32 r) = [] := e
        split at e <;> cases e
      show Ends.nx _ [some (.str t), some (.int n), some (.ref p), some (.int (i : Int)), some (.str (Txt.replace row (Str.ofString " ") (Str.ofString "  ")))] H1
      rw [← ew]
      exact key w hw
     ·refine ⟨_, rfl, Str.ofString " ", row, rfl, rfl, bigL (by rw [sp_len1]; omega), ?_⟩
      obtain ⟨w, ew⟩ : ∃ w, w = Str.ofString " " ++ row := ⟨_, rfl⟩
      show Ends.nx _ [some (.str t), some (.int n), some (.ref p), some (.int (i : Int)), some (.str (Str.ofString " " ++ row))] H1
      rw [← ew]
      exact key w (els w ew)
  case body =>
   intro w hw
   obtain ⟨w1, w2, w3, w4⟩ := hw
   have hin : i ≤ rows.length := by omega
   refine ⟨rfl, _, rfl, _, rfl, _, rfl, p, _, rfl, SqL.of hp1, fun q1 g1 => ⟨_, rfl, sz (by simp), fun q2 g2 => ?_⟩⟩
   have e1 : cutV (rows.map V.str) none (some (i : Int)) = (rows.take i).map V.str := cut_upto rows hin
   have e4 : cutV (rows.map V.str) (some ((i : Int) + 1)) none = (rows.drop (i + 1)).map V.str := cut_from rows (a := i + 1) (by omega)
   rw [e1] at g2 ⊢
   have u1 := Same.upd (o := .lst ((rows.take i).map V.str)) g1
   have u2 := Same.upd (o := .lst [V.str w]) g2
   have hll := hsl
   unfold sl at hll
   have hl1 : rows.length ≤ 200001 := by omega
   have ht1 : ((rows.take i).map V.str).length ≤ 200001 := by rw [List.length_map, List.length_take]; omega
   refine ⟨q1, q2, _, _, rfl, rfl, u2 _ _ upd_same, upd_same, bigL (by show _ + 1 ≤ _; omega), fun q3 g3 => ?_⟩
   have u3 := Same.upd (o := .lst ((rows.take i).map V.str ++ [V.str w])) g3
   refine ⟨_, rfl, _, rfl, _, _, rfl, rfl, _, rfl, p, _, rfl, SqL.of (u3 _ _ (u2 _ _ (u1 _ _ hp1))), fun q4 g4 => ?_⟩
   show rCat (.ref q3) (.ref q4) (upd _ q4 (.lst (cutV (rows.map V.str) (some ((i : Int) + 1)) none))) _
   rw [e4]
   have u4 := Same.upd (o := .lst ((rows.drop (i + 1)).map V.str)) g4
   have ht2 : ((rows.drop (i + 1)).map V.str).length ≤ 200001 := by rw [List.length_map, List.length_drop]; omega
   refine ⟨q3, q4, _, _, rfl, rfl, u4 _ _ upd_same, upd_same, bigL (by rw [List.length_append]; show _ + 1 + _ ≤ _; omega), fun q5 g5 => ?_⟩
   have u5 := Same.upd (o := .lst ((rows.take i).map V.str ++ [V.str w] ++ (rows.drop (i + 1)).map V.str)) g5
   have eq5 : (rows.take i).map V.str ++ [V.str w] ++ (rows.drop (i + 1)).map V.str = (rows.take i ++ [w] ++ rows.drop (i + 1)).map V.str := by
    rw [List.map_append, List.map_append, List.map_singleton]
   have hs5 : sl (rows.take i ++ [w] ++ rows.drop (i + 1)) ≤ 700000 := by
    rw [sl_app, sl_app]
    have := sl_td rows i
    have e : sl [w] = w.length + 0 + 1 := rfl
    omega
   refine ⟨_, q5, rows.take i ++ [w] ++ rows.drop (i + 1), rfl, rfl, SqL.of (by rw [upd_same, eq5]), by rw [sl_sum]; omega, ?_⟩
   refine k _ _ (s1.trans (u1.trans (u2.trans (u3.trans (u4.trans u5))))) (Nat.le_trans (sl_join _) hs5) (bad_rows (row := w) (by simp) (fun y hy => ?_) (row_bad w1) (fun z => ?_))
   ·rcases List.mem_append.mp hy with hy | hy
    ·rcases List.mem_append.mp hy with hy | hy
     ·exact hfr y (List.mem_of_mem_take hy)
     ·rw [List.mem_singleton.mp hy]; exact w2
    ·exact hfr y (List.mem_of_mem_drop hy)
   ·have hm : w ∈ [Str.ofString ""] := by rw [← z]; simp
    exact w4 (List.mem_singleton.mp hm)
end
end T13
namespace T13
open PySem L2 Tc
section
variable {P : Program} {w : World} {K : PySem.W.Frag} {mg : Str → Option Value} {base : Heap}
noncomputable abbrev s__law_deep : Stmt := top 67
theorem sc__law_deep : FnScope ["_law_cell", "_law_deep_here", "_law_words"] ["_law_cell"] (defScope s__law_deep) := ⟨rfl, rfl, rfl, by decide +kernel, rfl, by decide +kernel, by decide +kernel⟩
theorem ok__law_deep {ca : Ca} (D : DefAt K mg "_law_deep" s__law_deep) (T : Txt K mg ca) (G__law_refused : FnAt P w K mg base CX0 9 "_law_refused" ["_law_thing"] (spRf13 K)) (G__law_stays : FnAt P w K mg base CX0 14 "_law_stays" ["_law_words"] (spSt13 K)) : FnAt P w K mg base CX0 15 "_law_deep" ["_law_cell"] (spDp13 K) := by
 refine D.ok sc__law_deep (fun vs H Q E h => ?_) (fun _ _ _ _ _ _ us hl => match us, hl with | [_], _ => rfl) (fun f cdv A outer s H vs Q E hr h => ?_)
 ·obtain ⟨n, rfl, k⟩ := h; rfl
 ·obtain ⟨n, rfl, k⟩ := h
  have nd := sc__law_deep.nd
  refine ⟨_, (@pss_cons _ _ _ _ _ (@ps_set _ _ 1 _ _ _ _ nd rfl (Or.inl rfl) (@pe_op _ _ _ _ _ _ _ _ op_add pe_int (@pe_op _ _ _ _ _ _ _ _ op_modN (pv 0) pe_int)) (by rfl) (Or.inl rfl))
   (@pss_cons _ _ _ _ _ (@ps_set _ _ 2 _ _ _ _ nd rfl (Or.inl rfl) (@pe_op _ _ _ _ _ _ _ _ op_add_str (@pe_op _ _ _ _ _ _ _ _ op_add_str (@pe_op _ _ _ _ _ _ _ _ op_mulS pe_str (pv 1)) pe_str) (@pe_op _ _ _ _ _ _ _ _ op_mulS pe_str (pv 1))) (by rfl) (Or.inl rfl))
   (@pss_cons _ _ _ _ _ (ps_if (pt_cmpR op_eq (@pe_op _ _ _ _ _ _ _ _ op_modN (@pe_op _ _ _ _ _ _ _ _ op_fdivB (pv 0) pe_int) pe_int) pe_int (nomark _)) (@pss_one _ _ _ (@ps_set _ _ 2 _ _ _ _ nd rfl (Or.inl rfl) (@pe_op _ _ _ _ _ _ _ _ op_add_str (@pe_op _ _ _ _ _ _ _ _ op_add_str pe_str (pv 2)) pe_str) (by rfl) (Or.inl rfl))) pss_nil)
   (@pss_cons _ _ _ _ _ (ps_if (pt_cmpR op_gt (pv 1) pe_int (nomark _)) (@pss_one _ _ _ (ps_ret (pe_fn G__law_refused hr (by rfl) pass0 (@pa_cons _ _ _ _ _ (pv 2) pa_nil (by rfl))))) pss_nil)
   (@pss_one _ _ _ (ps_ret (pe_fn G__law_stays hr (by rfl) pass0 (@pa_cons _ _ _ _ _ (pv 2) pa_nil (by rfl))))))))), ?_⟩
  obtain ⟨d, hd, hb⟩ : ∃ d : Nat, 6 + n.fmod 5 = (d : Int) ∧ 6 ≤ d ∧ d ≤ 10 := ⟨(6 + n.fmod 5).toNat, by
   have : n.fmod 5 = n % 5 := Int.fmod_eq_emod_of_nonneg _ (by decide)
   omega⟩
  obtain ⟨o1, o2, l1, l2, l3⟩ := deep_ok hb
  have hm1 : n.fdiv 5 = n.fdiv 5 := rfl
  have y4 : (Str.ofString "year").length = 4 := by decide +kernel
  have e4 : (Str.ofString "\nend").length = 4 := by decide +kernel
  have r9 : (Str.ofString "rule a b\n").length = 9 := by decide +kernel
  refine ⟨_, rfl, _, _, rfl, rfl, (show (5 : Int) ≠ 0 by decide), _, _, rfl, rfl, ?_⟩
  show Ends.nx _ [some (.int n), some (.int (6 + n.fmod 5)), none] H
  rw [hd]
  refine ⟨_, rfl, Str.ofString "times 2\n", (d : Int), rfl, rfl, (by omega), (by omega), (by decide), (by decide), mS d (Str.ofString "times 2\n"), Str.ofString "year", rfl, rfl, bigL (by omega), _, rfl, Str.ofString "\nend", (d : Int), rfl, rfl, (by omega), (by omega), (by decide), (by decide), mS d (Str.ofString "times 2\n") ++ Str.ofString "year", mS d (Str.ofString "\nend"), rfl, rfl, bigL (by rw [str_len]; omega), ?_⟩
  show Ends.nx _ [some (.int n), some (.int (d : Int)), some (.str (dT d))] H
  refine ⟨_, rfl, _, _, rfl, rfl, ddv (by decide) (by decide), _, _, rfl, rfl, (show (2 : Int) ≠ 0 by decide), rfl, _, rfl, ?_⟩
  refine' by_key1 (C := fun t => (rdF t).isSome = decide (d ≤ 8) ∧ t.length ≤ 700000) (fun key => ?go) ?body
  case go =>
   refine ite2 (fun h => ?_) (fun h => ?_)
   ·refine ⟨_, rfl, Str.ofString "rule a b\n", dT d, rfl, rfl, bigL (by omega), Str.ofString "rule a b\n" ++ dT d, Str.ofString "\nend", rfl, rfl, bigL (by rw [str_len]; omega), ?_⟩
    obtain ⟨t, et⟩ : ∃ t, t = dR d := ⟨_, rfl⟩
    have hl : (dR d).length ≤ 700000 := by
     show (Str.ofString "rule a b\n" ++ dT d ++ Str.ofString "\nend").length ≤ _
     rw [str_len, str_len]
     omega
    show Ends.nx _ [some (.int n), some (.int (d : Int)), some (.str (dR d))] H
    rw [← et]
    exact key t (by rw [et]; exact ⟨o2, hl⟩)
   ·exact key (dT d) ⟨o1, by omega⟩
  case body =>
   intro t ht
   refine ⟨_, rfl, _, _, rfl, rfl, _, rfl, ?_⟩
   refine ite2 (fun h => ?_) (fun h => ?_)
   ·refine ⟨_, rfl, .str t, rdF t, rfl, RdO.str ht.2, fun H' s' => ?_⟩
    have h : (8 : Int) < (d : Int) := of_decide_eq_true h
    rw [none_of (ht.1.trans (decide_eq_false (by omega)))]
    exact k H' s'
   ·have h : ¬ (8 : Int) < (d : Int) := fun z => h (decide_eq_true z)
    refine ⟨_, rfl, t, rfl, ht.2, fun H' s' => ?_⟩
    rw [ht.1, decide_eq_true (show d ≤ 8 by omega)]
    exact k H' s'
end
end T13
namespace T13
open PySem L2 Tc
section
variable {P : Program} {w : World} {K : PySem.W.Frag} {mg : Str → Option Value} {base : Heap}
noncomputable abbrev s__law_bounds : Stmt := top 68
theorem sc__law_bounds : FnScope ["_law_cell", "_law_many", "_law_words"] ["_law_cell"] (defScope s__law_bounds) := ⟨rfl, rfl, rfl, by decide +kernel, rfl, by decide +kernel, by decide +kernel⟩
theorem ok__law_bounds {ca : Ca} (D : DefAt K mg "_law_bounds" s__law_bounds) (T : Txt K mg ca) (G__law_refused : FnAt P w K mg base CX0 9 "_law_refused" ["_law_thing"] (spRf13 K)) (G__law_stays : FnAt P w K mg base CX0 14 "_law_stays" ["_law_words"] (spSt13 K)) : FnAt P w K mg base CX0 15 "_law_bounds" ["_law_cell"] (spDp13 K) := by
 refine D.ok sc__law_bounds (fun vs H Q E h => ?_) (fun _ _ _ _ _ _ us hl => match us, hl with | [_], _ => rfl) (fun f cdv A outer s H vs Q E hr h => ?_)
 ·obtain ⟨n, rfl, k⟩ := h; rfl
 ·obtain ⟨n, rfl, k⟩ := h
  have nd := sc__law_bounds.nd
  refine ⟨_, (@pss_cons _ _ _ _ _ (@ps_set _ _ 1 _ _ _ _ nd rfl (Or.inl rfl) (@pe_op _ _ _ _ _ _ _ _ op_mulS pe_str (@pe_op _ _ _ _ _ _ _ _ op_add pe_int (@pe_op _ _ _ _ _ _ _ _ op_modN (pv 0) pe_int))) (by rfl) (Or.inl rfl))
   (@pss_cons _ _ _ _ _ (@ps_set _ _ 2 _ _ _ _ nd rfl (Or.inl rfl) (pe_ix (ix_list' (K := K) rfl) (@pe_lst _ _ _ _ (@pa_cons _ _ _ _ _ (@pe_op _ _ _ _ _ _ _ _ op_add_str pe_str (pv 1)) (@pa_cons _ _ _ _ _ (@pe_op _ _ _ _ _ _ _ _ op_add_str (@pe_op _ _ _ _ _ _ _ _ op_add_str pe_str (pv 1)) pe_str) (@pa_cons _ _ _ _ _ (@pe_op _ _ _ _ _ _ _ _ op_add_str pe_str (pv 1)) (@pa_cons _ _ _ _ _ (@pe_op _ _ _ _ _ _ _ _ op_add_str pe_str (pv 1)) pa_nil (by rfl)) (by rfl)) (by rfl)) (by rfl))) (@pe_op _ _ _ _ _ _ _ _ op_modN (@pe_op _ _ _ _ _ _ _ _ op_fdivB (pv 0) pe_int) pe_int) (fun _ _ => rfl)) (by rfl) (Or.inl rfl))
   (@pss_cons _ _ _ _ _ (ps_if (PW.pt (pw_or (pt_cmpR op_eq (pe_cmpR op_eq (@pe_op _ _ _ _ _ _ _ _ op_modN (pv 0) pe_int) pe_int (nomark _)) (pe_fn G__law_stays hr (by rfl) pass0 (@pa_cons _ _ _ _ _ (pv 2) pa_nil (by rfl))) (nomark _)) (pw_or1 (pt_cmpR op_ne (pe_cmpR op_eq (@pe_op _ _ _ _ _ _ _ _ op_modN (pv 0) pe_int) pe_int (nomark _)) (pe_fn G__law_refused hr (by rfl) pass0 (@pa_cons _ _ _ _ _ (pv 2) pa_nil (by rfl))) (nomark _))))) (@pss_one _ _ _ (ps_ret pe_bl)) pss_nil)
   (@pss_cons _ _ _ _ _ (@ps_set _ _ 2 _ _ _ _ nd rfl (Or.inl rfl) (@pe_op _ _ _ _ _ _ _ _ op_add_str pe_str (@pe_op _ _ _ _ _ _ _ _ op_mulS pe_str (@pe_op _ _ _ _ _ _ _ _ op_add pe_int (@pe_op _ _ _ _ _ _ _ _ op_modN (@pe_op _ _ _ _ _ _ _ _ op_fdivB (pv 0) pe_int) pe_int)))) (by rfl) (Or.inl rfl))
   (@pss_cons _ _ _ _ _ (ps_if (pt_cmpR op_eq (pe_cmpR op_eq (@pe_op _ _ _ _ _ _ _ _ op_modN (@pe_op _ _ _ _ _ _ _ _ op_fdivB (pv 0) pe_int) pe_int) pe_int (nomark _)) (pe_fn G__law_stays hr (by rfl) pass0 (@pa_cons _ _ _ _ _ (pv 2) pa_nil (by rfl))) (nomark _)) (@pss_one _ _ _ (ps_ret pe_bl)) pss_nil)
   (@pss_cons _ _ _ _ _ (@ps_set _ _ 2 _ _ _ _ nd rfl (Or.inl rfl) (pe_bm' (K := K) rfl PySem.F.plainAttrs_str PySem.F.slot_str_join PySem.F.type_str_join (mt_join' (K := K) rfl) pe_str (@pa_cons _ _ _ _ _ (@pe_op _ _ _ _ _ _ _ _ op_rep (@pe_lst _ _ _ _ (@pa_cons _ _ _ _ _ pe_str pa_nil (by rfl))) (@pe_op _ _ _ _ _ _ _ _ op_add pe_int (@pe_op _ _ _ _ _ _ _ _ op_modN (@pe_op _ _ _ _ _ _ _ _ op_fdivB (pv 0) pe_int) pe_int))) pa_nil (by rfl))) (by rfl) (Or.inl rfl))
   (@pss_one _ _ _ (ps_ret (pe_and (pe_cmpR op_ne (pe_cmpR op_eq (@pe_op _ _ _ _ _ _ _ _ op_modN (@pe_op _ _ _ _ _ _ _ _ op_fdivB (pv 0) pe_int) pe_int) pe_int (nomark _)) (pe_fn G__law_stays hr (by rfl) pass0 (@pa_cons _ _ _ _ _ (pv 2) pa_nil (by rfl))) (nomark _)) (pe_one (pe_cmpR op_eq (pe_cmpR op_eq (@pe_op _ _ _ _ _ _ _ _ op_modN (@pe_op _ _ _ _ _ _ _ _ op_fdivB (pv 0) pe_int) pe_int) pe_int (nomark _)) (pe_fn G__law_refused hr (by rfl) pass0 (@pa_cons _ _ _ _ _ (pv 2) pa_nil (by rfl))) (nomark _)))))))))))), ?_⟩
  obtain ⟨a, ha, ha3⟩ : ∃ a : Nat, n.fmod 3 = (a : Int) ∧ a < 3 := ⟨(n.fmod 3).toNat, by
   have : n.fmod 3 = n % 3 := Int.fmod_eq_emod_of_nonneg _ (by decide)
   omega⟩
  obtain ⟨c, hc, hc3⟩ : ∃ c : Nat, (n.fdiv 12).fmod 3 = (c : Int) ∧ c < 3 := ⟨((n.fdiv 12).fmod 3).toNat, by
   have : (n.fdiv 12).fmod 3 = (n.fdiv 12) % 3 := Int.fmod_eq_emod_of_nonneg _ (by decide)
   omega⟩
  obtain ⟨e, he, he3⟩ : ∃ e : Nat, (n.fdiv 36).fmod 3 = (e : Int) ∧ e < 3 := ⟨((n.fdiv 36).fmod 3).toNat, by
   have : (n.fdiv 36).fmod 3 = (n.fdiv 36) % 3 := Int.fmod_eq_emod_of_nonneg _ (by decide)
   omega⟩
  have hm4 : (n.fdiv 3).fmod 4 = (n.fdiv 3) % 4 := Int.fmod_eq_emod_of_nonneg _ (by decide)
  obtain ⟨hn20, hbw⟩ := bw_ok a ha3
  obtain ⟨hdw, hdl, hdl2⟩ := dw_ok c hc3
  have hrw := rw_ok (m := 299 + e) (by omega)
  refine ⟨_, rfl, _, _, rfl, rfl, (show (3 : Int) ≠ 0 by decide), _, _, rfl, rfl, ?_⟩
  show rMulS (.str (Str.ofString "9")) (.int (11 + n.fmod 3)) H _
  rw [ha]
  refine ⟨_, _, rfl, rfl, (by omega), (by omega), (by decide), (by decide), ?_⟩
  show Ends.nx _ [some (.int n), some (.str (nines a)), none] H
  have b1 : (Str.ofString "bring a b ").length = 10 := by decide +kernel
  have b2 : (Str.ofString "move a b ").length = 9 := by decide +kernel
  have b3 : (Str.ofString "move a b 1/").length = 11 := by decide +kernel
  have b4 : (Str.ofString "part a b 1/").length = 11 := by decide +kernel
  have b5 : (Str.ofString "/2").length = 2 := by decide +kernel
  have b6 : (Str.ofString "do a").length = 4 := by decide +kernel
  obtain ⟨v, hv, hat⟩ := atI_in (xs := (bW a).map V.str) (j := (n.fdiv 3) % 4) (by omega) (by show _ < ((4 : Nat) : Int); omega)
  obtain ⟨t1, ht1, rfl⟩ := List.mem_map.mp hv
  obtain ⟨hs1, hl1⟩ := hbw t1 ht1
  rw [← hm4] at hat
  refine ⟨_, rfl, _, _, rfl, rfl, bigL (by omega), _, rfl, _, _, rfl, rfl, bigL (by omega), _, _, rfl, rfl, bigL (by rw [str_len]; omega), _, rfl, _, _, rfl, rfl, bigL (by omega), _, rfl, _, _, rfl, rfl, bigL (by omega), sz (by simp), fun p hp => ?_⟩
  have s1 := Same.upd (o := .lst ((bW a).map V.str)) hp
  refine ⟨_, rfl, _, _, rfl, rfl, ddv (by decide) (by decide), _, _, rfl, rfl, (show (4 : Int) ≠ 0 by decide), p, _, _, .str t1, rfl, rfl, SqL.of upd_same, hat, ?_⟩
  refine sealH (F := fun Hx => Same H Hx) s1 (fun H1 s1 => ?_)
  show Ends.nx _ [some (.int n), some (.str (nines a)), some (.str t1)] H1
  have ea : decide (V.int (n.fmod 3) = V.int 2) = decide (a = 2) := by rw [ha]; exact decide_eq_decide.mpr ⟨fun z => by have := V.int.inj z; omega, fun z => by rw [z]; rfl⟩
  have ec : decide (V.int ((n.fdiv 12).fmod 3) = V.int 2) = decide (c = 2) := by rw [hc]; exact decide_eq_decide.mpr ⟨fun z => by have := V.int.inj z; omega, fun z => by rw [z]; rfl⟩
  have ee : decide (V.int ((n.fdiv 36).fmod 3) = V.int 2) = decide (e = 2) := by rw [he]; exact decide_eq_decide.mpr ⟨fun z => by have := V.int.inj z; omega, fun z => by rw [z]; rfl⟩
  refine ⟨_, rfl, _, _, rfl, rfl, (show (3 : Int) ≠ 0 by decide), rfl, _, rfl, t1, rfl, (by omega), fun H2 s2 => ⟨rfl, _, rfl, ?_⟩⟩
  refine ite2 (fun h => absurd h ?_) (fun _ => ?_)
  ·refine ne_t ?_
   rw [ea]
   exact nbE hs1
  refine ⟨_, rfl, _, _, rfl, rfl, (show (3 : Int) ≠ 0 by decide), rfl, _, rfl, .str t1, rdF t1, rfl, RdO.str (by omega), fun H3 s3 => ⟨rfl, _, rfl, ?_⟩⟩
  refine ite2 (fun h => absurd h ?_) (fun _ => ?_)
  ·refine ne_t ?_
   rw [ea, ybE (by rw [isN, hs1, Bool.not_not])]
   rfl
  refine ⟨_, rfl, _, _, rfl, rfl, ddv (by decide) (by decide), _, _, rfl, rfl, (show (3 : Int) ≠ 0 by decide), _, _, rfl, rfl, ?_⟩
  show rMulS (.str (Str.ofString " b")) (.int (7 + (n.fdiv 12).fmod 3)) H3 _
  rw [hc]
  refine ⟨_, _, rfl, rfl, (by omega), (by omega), (by decide), (by decide), Str.ofString "do a", mS (7 + c) (Str.ofString " b"), rfl, rfl, bigL (by omega), ?_⟩
  show Ends.nx _ [some (.int n), some (.str (nines a)), some (.str (dW c))] H3
  refine ⟨_, rfl, _, _, rfl, rfl, ddv (by decide) (by decide), _, _, rfl, rfl, (show (3 : Int) ≠ 0 by decide), rfl, _, rfl, dW c, rfl, (by omega), fun H4 s4 => ⟨rfl, _, rfl, ?_⟩⟩
  refine ite2 (fun h => absurd h ?_) (fun _ => ?_)
  ·refine ne_t ?_
   rw [ec]
   exact nbE hdw
  refine ⟨rfl, sz (by simp), fun p5 hp5 => ⟨_, rfl, _, _, rfl, rfl, ddv (by decide) (by decide), _, _, rfl, rfl, (show (3 : Int) ≠ 0 by decide), _, _, rfl, rfl, ?_⟩⟩
  have a7 : allR.length = 7 := by decide +kernel
  have n1 : (Str.ofString "\n").length = 1 := by decide +kernel
  have hsum : ((List.replicate (299 + e) allR).map (·.length)).sum + (List.replicate (299 + e) allR).length * (Str.ofString "\n").length ≤ 3000 := by
   rw [List.map_replicate, List.sum_replicate_nat, List.length_replicate, a7, n1]
   omega
  have hlr : (rW (299 + e)).length ≤ 3000 := by
   unfold rW
   rw [tj]
   exact Nat.le_trans (PySem.StrLaws.join_length_le _ _) hsum
  show rRep (.ref p5) (.int (299 + (n.fdiv 36).fmod 3)) _ _
  rw [he]
  refine ⟨p5, _, _, rfl, rfl, upd_same, (by omega), (by omega), bigL (by show 1 * (299 + e) ≤ _; omega), fun p6 hp6 => ?_⟩
  have s6 := Same.upd (o := .lst (List.replicate (299 + e) [V.str allR]).flatten) hp6
  have h6 : upd (upd H4 p5 (.lst [V.str allR])) p6 (.lst (List.replicate (299 + e) [V.str allR]).flatten) p6 = some (.lst ((List.replicate (299 + e) allR).map V.str)) := by
   rw [upd_same, List.flatten_replicate_singleton, List.map_replicate]
  refine ⟨_, p6, List.replicate (299 + e) allR, rfl, rfl, SqL.of h6, Nat.le_trans hsum (by decide), ?_⟩
  have s56 := (Same.upd (o := .lst [V.str allR]) hp5).trans s6
  refine sealH (F := fun Hx => Same H4 Hx) s56 (fun H6 s6 => ?_)
  show Ends.nx _ [some (.int n), some (.str (nines a)), some (.str (rW (299 + e)))] H6
  have hrw2 : (rdF (rW (299 + e))).isSome = !decide (e = 2) := by
   rw [hrw, ← decide_not]
   exact decide_eq_decide.mpr (by omega)
  refine ⟨_, rfl, _, _, rfl, rfl, ddv (by decide) (by decide), _, _, rfl, rfl, (show (3 : Int) ≠ 0 by decide), rfl, _, rfl, rW (299 + e), rfl, (by omega), fun H7 s7 => ⟨rfl, _, rfl, ?_⟩⟩
  refine ite2 (fun _ => ?_) (fun h => absurd ?_ h)
  ·refine ⟨_, rfl, _, _, rfl, rfl, ddv (by decide) (by decide), _, _, rfl, rfl, (show (3 : Int) ≠ 0 by decide), rfl, _, rfl, .str (rW (299 + e)), _, rfl, RdO.str (by omega), fun H8 s8 => ⟨rfl, ?_⟩⟩
   rw [ee, ybE (by rw [isN, hrw2, Bool.not_not])]
   exact k H8 (s1.trans (s2.trans (s3.trans (s4.trans (s6.trans (s7.trans s8))))))
  ·rw [ee, nbE hrw2]
   rfl
end
end T13
namespace T13
open PySem L2 Tc
section
variable {P : Program} {w : World} {K : PySem.W.Frag} {mg : Str → Option Value} {base : Heap}
noncomputable abbrev s__law_rules_alike : Stmt := top 69
theorem sc__law_rules_alike : FnScope ["_law_number", "_law_names_here", "_law_one", "_law_other"] ["_law_number"] (defScope s__law_rules_alike) := ⟨rfl, rfl, rfl, by decide +kernel, rfl, by decide +kernel, by decide +kernel⟩
theorem ok__law_rules_alike {ca : Ca} (D : DefAt K mg "_law_rules_alike" s__law_rules_alike) (T : Txt K mg ca) (G__law_names : FnAt P w K mg base CX0 2 "_law_names" ["_law_number", "_law_many"] (spNam)) (G__law_stays : FnAt P w K mg base CX0 14 "_law_stays" ["_law_words"] (spSt13 K)) (G__law_refused : FnAt P w K mg base CX0 9 "_law_refused" ["_law_thing"] (spRf13 K)) : FnAt P w K mg base CX0 15 "_law_rules_alike" ["_law_number"] (spRa13 K) := by
 refine D.ok sc__law_rules_alike (fun vs H Q E h => ?_) (fun _ _ _ _ _ _ us hl => match us, hl with | [_], _ => rfl) (fun f cdv A outer s H vs Q E hr h => ?_)
 ·obtain ⟨n, rfl, hn, hn2, k⟩ := h; rfl
 ·obtain ⟨n, rfl, hn, hn2, k⟩ := h
  have nd := sc__law_rules_alike.nd
  refine ⟨_, (@pss_cons _ _ _ _ _ (@ps_set _ _ 1 _ _ _ _ nd rfl (Or.inl rfl) (pe_fn G__law_names hr (by rfl) pass0 (@pa_cons _ _ _ _ _ (pv 0) (@pa_cons _ _ _ _ _ pe_int pa_nil (by rfl)) (by rfl))) (by rfl) (Or.inl rfl))
   (@pss_cons _ _ _ _ _ (@ps_set _ _ 2 _ _ _ _ nd rfl (Or.inl rfl) (@pe_op _ _ _ _ _ _ _ _ op_add_str (@pe_op _ _ _ _ _ _ _ _ op_add_str (@pe_op _ _ _ _ _ _ _ _ op_add_str (@pe_op _ _ _ _ _ _ _ _ op_add_str pe_str (pe_ix (ix_list' (K := K) rfl) (pv 1) pe_int (fun _ _ => rfl))) pe_str) (pe_ix (ix_list' (K := K) rfl) (@pe_lst _ _ _ _ (@pa_cons _ _ _ _ _ pe_str (@pa_cons _ _ _ _ _ pe_str (@pa_cons _ _ _ _ _ pe_str pa_nil (by rfl)) (by rfl)) (by rfl))) (@pe_op _ _ _ _ _ _ _ _ op_modN (pv 0) pe_int) (fun _ _ => rfl))) pe_str) (by rfl) (Or.inl rfl))
   (@pss_cons _ _ _ _ _ (@ps_set _ _ 3 _ _ _ _ nd rfl (Or.inl rfl) (@pe_op _ _ _ _ _ _ _ _ op_add_str (@pe_op _ _ _ _ _ _ _ _ op_add_str pe_str (pe_ix (ix_list' (K := K) rfl) (pv 1) pe_int (fun _ _ => rfl))) pe_str) (by rfl) (Or.inl rfl))
   (@pss_cons _ _ _ _ _ (ps_if (PW.pt (pw_or (pt_not (pt_val (pe_fn G__law_stays hr (by rfl) pass0 (@pa_cons _ _ _ _ _ (@pe_op _ _ _ _ _ _ _ _ op_add_str (@pe_op _ _ _ _ _ _ _ _ op_add_str (pv 2) (pv 3)) pe_str) pa_nil (by rfl))))) (pw_or1 (pt_not (pt_val (pe_fn G__law_stays hr (by rfl) pass0 (@pa_cons _ _ _ _ _ (@pe_op _ _ _ _ _ _ _ _ op_add_str (@pe_op _ _ _ _ _ _ _ _ op_add_str (@pe_op _ _ _ _ _ _ _ _ op_add_str (@pe_op _ _ _ _ _ _ _ _ op_add_str (pv 3) (pv 2)) pe_str) (pe_ix (ix_list' (K := K) rfl) (pv 1) pe_int (fun _ _ => rfl))) pe_str) pa_nil (by rfl)))))))) (@pss_one _ _ _ (ps_ret pe_bl)) pss_nil)
   (@pss_cons _ _ _ _ _ (ps_if (PW.pt (pw_or (pt_not (pt_val (pe_fn G__law_refused hr (by rfl) pass0 (@pa_cons _ _ _ _ _ (@pe_op _ _ _ _ _ _ _ _ op_add_str (@pe_op _ _ _ _ _ _ _ _ op_add_str (@pe_op _ _ _ _ _ _ _ _ op_add_str (pv 2) (pv 3)) (pv 2)) pe_str) pa_nil (by rfl))))) (pw_or1 (pt_not (pt_val (pe_fn G__law_refused hr (by rfl) pass0 (@pa_cons _ _ _ _ _ (@pe_op _ _ _ _ _ _ _ _ op_add_str (@pe_op _ _ _ _ _ _ _ _ op_add_str (pv 2) (pv 2)) pe_str) pa_nil (by rfl)))))))) (@pss_one _ _ _ (ps_ret pe_bl)) pss_nil)
   (@pss_cons _ _ _ _ _ (ps_if (PW.pt (pw_or (pt_not (pt_val (pe_fn G__law_refused hr (by rfl) pass0 (@pa_cons _ _ _ _ _ (@pe_op _ _ _ _ _ _ _ _ op_add_str (@pe_op _ _ _ _ _ _ _ _ op_add_str pe_str (pv 2)) pe_str) pa_nil (by rfl))))) (pw_or1 (pt_not (pt_val (pe_fn G__law_refused hr (by rfl) pass0 (@pa_cons _ _ _ _ _ (pe_slice sl_str (@pe_op _ _ _ _ _ _ _ _ op_add_str (@pe_op _ _ _ _ _ _ _ _ op_add_str (pv 3) pe_str) (pv 2)) po_none (po_some (pe_un un_neg pe_int))) pa_nil (by rfl)))))))) (@pss_one _ _ _ (ps_ret pe_bl)) pss_nil)
   (@pss_one _ _ _ (ps_ret (pe_fn G__law_refused hr (by rfl) pass0 (@pa_cons _ _ _ _ _ (@pe_op _ _ _ _ _ _ _ _ op_add_str (@pe_op _ _ _ _ _ _ _ _ op_add_str (@pe_op _ _ _ _ _ _ _ _ op_add_str (@pe_op _ _ _ _ _ _ _ _ op_add_str (pv 3) (pv 2)) pe_str) (pe_ix (ix_list' (K := K) rfl) (pv 1) pe_int (fun _ _ => rfl))) pe_str) pa_nil (by rfl))))))))))), ?_⟩
  refine ⟨_, rfl, n, 3, rfl, (by decide), (by decide), fun p H1 zs s1 _ hp hzl hnd hnm => ?_⟩
  show Ends.nx _ [some (.int n), some (.ref p), none, none] H1
  match zs, hzl, hnd, hnm, hp with
  | [z, z', z2], hzl, hnd, hnm, hp =>
   have hz := hnm z (by simp)
   have hz' := hnm z' (by simp)
   have hne : z ≠ z' := fun e => by
    subst e
    simp at hnd
   have l1 := nm_short hz
   have l2 := nm_short hz'
   have hp : H1 p = some (.lst [.str z, .str z', .str z2]) := hp
   obtain ⟨e, he, he3⟩ : ∃ e : Nat, n.fmod 3 = (e : Int) ∧ e < 3 := ⟨(n.fmod 3).toNat, by
    have : n.fmod 3 = n % 3 := Int.fmod_eq_emod_of_nonneg _ (by decide)
    omega⟩
   have b5 : (Str.ofString "rule ").length = 5 := by decide +kernel
   have b3 : (Str.ofString " x\n").length = 3 := by decide +kernel
   have b4 : (Str.ofString "end\n").length = 4 := by decide +kernel
   have b7 : (Str.ofString " x\nend\n").length = 7 := by decide +kernel
   have bb : (bT e).length ≤ 8 := by
    have : e = 0 ∨ e = 1 ∨ e = 2 := by omega
    rcases this with rfl | rfl | rfl <;> decide +kernel
   have k1 := str_len (Str.ofString "rule ") z
   have k2 := str_len (Str.ofString "rule " ++ z) (Str.ofString " x\n")
   have k3 := str_len (Str.ofString "rule " ++ z ++ Str.ofString " x\n") (bT e)
   have k4 := str_len (Str.ofString "rule " ++ z ++ Str.ofString " x\n" ++ bT e) (Str.ofString "end\n")
   have k5 := str_len (Str.ofString "rule ") z'
   have k6 := str_len (Str.ofString "rule " ++ z') (Str.ofString " x\nend\n")
   have hat : atI [V.str (Str.ofString "year\n"), V.str (Str.ofString ""), V.str (Str.ofString "all x b\n")] (n.fmod 3) = some (.str (bT e)) := by
    rw [he]
    refine atI_nat ?_
    have : e = 0 ∨ e = 1 ∨ e = 2 := by omega
    rcases this with rfl | rfl | rfl <;> rfl
   refine ⟨_, rfl, p, _, 0, .str z, rfl, rfl, SqL.of hp, rfl, _, _, rfl, rfl, bigL (by omega), _, _, rfl, rfl, bigL (by omega), sz (by simp), fun b1 g1 => ⟨_, rfl, _, _, rfl, rfl, (show (3 : Int) ≠ 0 by decide), b1, _, _, .str (bT e), rfl, rfl, SqL.of upd_same, hat, _, _, rfl, rfl, bigL (by omega), _, _, rfl, rfl, bigL (by omega), ?_⟩⟩
   have u1 := Same.upd (o := .lst [V.str (Str.ofString "year\n"), V.str (Str.ofString ""), V.str (Str.ofString "all x b\n")]) g1
   obtain ⟨o, ho⟩ : ∃ o, o = Str.ofString "rule " ++ z ++ Str.ofString " x\n" ++ bT e ++ Str.ofString "end\n" := ⟨_, rfl⟩
   show Ends.nx _ [some (.int n), some (.ref p), some (.str (Str.ofString "rule " ++ z ++ Str.ofString " x\n" ++ bT e ++ Str.ofString "end\n")), none] _
   rw [← ho] at k4 ⊢
   refine sealH (F := fun Hx => Same H Hx ∧ Hx p = some (.lst [.str z, .str z', .str z2])) ⟨s1.trans u1, u1 _ _ hp⟩ (fun H2 ⟨q2, hp2⟩ => ?_)
   refine ⟨_, rfl, p, _, 1, .str z', rfl, rfl, SqL.of hp2, rfl, _, _, rfl, rfl, bigL (by omega), _, _, rfl, rfl, bigL (by omega), ?_⟩
   obtain ⟨q, hq⟩ : ∃ q, q = Str.ofString "rule " ++ z' ++ Str.ofString " x\nend\n" := ⟨_, rfl⟩
   show Ends.nx _ [some (.int n), some (.ref p), some (.str o), some (.str (Str.ofString "rule " ++ z' ++ Str.ofString " x\nend\n"))] H2
   rw [← hq] at k6 ⊢
   have lo : o.length ≤ 40 := by omega
   have lq : q.length ≤ 40 := by omega
   obtain ⟨r1, r2, r3, r4, r5, r6⟩ := seven hz hz' hne e (ho.trans (one_jn z e)) (hq.trans (other_jn z'))
   have r7 := eighth hz hz' e (ho.trans (one_jn z e)) (hq.trans (other_jn z'))
   have c4 : (Str.ofString "year").length = 4 := by decide +kernel
   have c5 : (Str.ofString "year\n").length = 5 := by decide +kernel
   have c3 : (Str.ofString "do ").length = 3 := by decide +kernel
   have c2 : (Str.ofString " a").length = 2 := by decide +kernel
   have c8 : (Str.ofString "all a b\n").length = 8 := by decide +kernel
   have c9 : (Str.ofString " y\nend\nyear").length = 11 := by decide +kernel
   have rb : ∀ {H : Hp} {t : Str}, t.length ≤ 700000 → rdF t = none → RdO H (.str t) none := fun hl h => h ▸ RdO.str hl
   have r1 : (rdF (o ++ q ++ Str.ofString "year")).isSome = true := r1
   refine ⟨_, rfl, _, rfl, _, _, rfl, rfl, bigL (by (try simp only [str_len]); omega), _, _, rfl, rfl, bigL (by (try simp only [str_len]); omega), o ++ q ++ Str.ofString "year", rfl, (by simp only [str_len]; omega), fun H3 s3 => ⟨_, rfl, ?_⟩⟩
   rw [r1]
   refine iteF ?_
   have hp3 := s3 _ _ hp2
   refine ⟨_, rfl, _, rfl, _, _, rfl, rfl, bigL (by (try simp only [str_len]); omega), _, _, rfl, rfl, bigL (by (try simp only [str_len]); omega), _, rfl, p, _, 0, .str z, rfl, rfl, SqL.of hp3, rfl, _, _, rfl, rfl, bigL (by (try simp only [str_len]); omega), _, _, rfl, rfl, bigL (by (try simp only [str_len]); omega), q ++ o ++ Str.ofString "do " ++ z ++ Str.ofString " a", rfl, (by simp only [str_len]; omega), fun H4 s4 => ⟨_, rfl, ?_⟩⟩
   rw [r2]
   refine iteF ?_
   have hp4 := s4 _ _ hp3
   refine ⟨_, rfl, _, rfl, _, _, rfl, rfl, bigL (by (try simp only [str_len]); omega), _, rfl, _, _, rfl, rfl, bigL (by (try simp only [str_len]); omega), _, _, rfl, rfl, bigL (by (try simp only [str_len]); omega), _, none, rfl, rb (by simp only [str_len]; omega) r3, fun H5 s5 => ⟨_, rfl, ?_⟩⟩
   refine iteF ?_
   refine ⟨_, rfl, _, rfl, _, _, rfl, rfl, bigL (by (try simp only [str_len]); omega), _, _, rfl, rfl, bigL (by (try simp only [str_len]); omega), _, none, rfl, rb (by simp only [str_len]; omega) r4, fun H6 s6 => ⟨_, rfl, ?_⟩⟩
   refine iteF ?_
   refine ⟨_, rfl, _, _, rfl, rfl, bigL (by (try simp only [str_len]); omega), _, _, rfl, rfl, bigL (by (try simp only [str_len]); omega), _, none, rfl, rb (by simp only [str_len]; omega) r5, fun H7 s7 => ⟨_, rfl, ?_⟩⟩
   refine iteF ?_
   refine ⟨_, rfl, _, _, rfl, rfl, bigL (by (try simp only [str_len]); omega), _, rfl, _, _, rfl, rfl, bigL (by (try simp only [str_len]); omega), 1, rfl, _, rfl, _, rfl, bigL (by (try simp only [str_len]); omega), _, none, rfl, rb (Nat.le_trans (Txt.slice_le _ _ _) (by simp only [str_len]; omega)) r7, fun H8 s8 => ⟨_, rfl, ?_⟩⟩
   refine iteF ?_
   have hp8 := s8 _ _ (s7 _ _ (s6 _ _ (s5 _ _ hp4)))
   refine ⟨_, rfl, _, rfl, _, _, rfl, rfl, bigL (by (try simp only [str_len]); omega), _, _, rfl, rfl, bigL (by (try simp only [str_len]); omega), _, rfl, p, _, 1, .str z', rfl, rfl, SqL.of hp8, rfl, _, _, rfl, rfl, bigL (by (try simp only [str_len]); omega), _, _, rfl, rfl, bigL (by (try simp only [str_len]); omega), _, none, rfl, rb (by simp only [str_len]; omega) r6, fun H9 s9 => ?_⟩
   exact k H9 (q2.trans (s3.trans (s4.trans (s5.trans (s6.trans (s7.trans (s8.trans s9)))))))
end
end T13
namespace T13
open PySem L2 Tc
section
variable {P : Program} {w : World} {K : PySem.W.Frag} {mg : Str → Option Value} {base : Heap}
noncomputable abbrev s_law : Stmt := top 70
theorem sc_law : FnScope ["_law_script_here", "_law_words", "_law_rows", "_law_at", "_law_odd_here", "_law_cell", "_law_thing"] ["_law_script_here"] (defScope s_law) := ⟨rfl, rfl, rfl, by decide +kernel, rfl, by decide +kernel, by decide +kernel⟩
theorem ok_law {ca : Ca} {f : Addr} {fd : FuncData} (D : Fun K "law" "law" s_law f fd) (T : Txt K mg ca) (G__law_script : FnAt P w K mg base CX0 6 "_law_script" ["_law_cells", "_law_first"] (spScript K)) (G__law_cell_at : FnAt P w K mg base CX0 1 "_law_cell_at" ["_law_script_here", "_law_k"] (spCell K)) (G__law_odd : FnAt P w K mg base CX0 1 "_law_odd" ["_law_cell"] (spOd13)) (G__law_refused : FnAt P w K mg base CX0 9 "_law_refused" ["_law_thing"] (spRf13 K)) (G__law_blank : FnAt P w K mg base CX0 1 "_law_blank" ["_law_words", "_law_cell"] (spBk13 K)) (G__law_changed : FnAt P w K mg base CX0 2 "_law_changed" ["_law_words", "_law_script_here"] (spCh13 K)) (G__law_stays : FnAt P w K mg base CX0 14 "_law_stays" ["_law_words"] (spSt13 K)) (G__law_rules_alike : FnAt P w K mg base CX0 15 "_law_rules_alike" ["_law_number"] (spRa13 K)) (G__law_mixed : FnAt P w K mg base CX0 1 "_law_mixed" ["_law_cell"] (spMix)) (G__law_bounds : FnAt P w K mg base CX0 15 "_law_bounds" ["_law_cell"] (spDp13 K)) (G__law_deep : FnAt P w K mg base CX0 15 "_law_deep" ["_law_cell"] (spDp13 K)) : FnOk P w K mg base CX0 16 f fd ["_law_script_here"] (spLaw K) := by
 refine D.ok sc_law (fun vs H Q E h => ?_) (fun cdv A outer s H vs Q E hr h => ?_)
 ·obtain ⟨a, ns, rfl, hS, hlen, k⟩ := h; rfl
 ·obtain ⟨a, ns, rfl, hS, hlen, k⟩ := h
  have nd := sc_law.nd
  refine ⟨_, (@pss_cons _ _ _ _ _ (@ps_set _ _ 1 _ _ _ _ nd rfl (Or.inl rfl) (pe_ix (ix_tup' (K := K) rfl) (pe_fn G__law_script hr (by rfl) pass0 (@pa_cons _ _ _ _ _ (pe_slice (sl_list' (K := K) rfl) (pv 0) (po_some pe_int) (po_some pe_int)) (@pa_cons _ _ _ _ _ (pe_fn G__law_cell_at hr (by rfl) pass0 (@pa_cons _ _ _ _ _ (pv 0) (@pa_cons _ _ _ _ _ pe_int pa_nil (by rfl)) (by rfl))) pa_nil (by rfl)) (by rfl))) pe_int (fun _ _ => rfl)) (by rfl) (Or.inl rfl))
   (@pss_cons _ _ _ _ _ (@ps_set _ _ 2 _ _ _ _ nd rfl (Or.inl rfl) (pe_bm' (K := K) rfl PySem.F.plainAttrs_str PySem.F.slot_str_split PySem.F.type_str_split mt_split (pv 1) (@pa_cons _ _ _ _ _ pe_str pa_nil (by rfl))) (by rfl) (Or.inl rfl))
   (@pss_cons _ _ _ _ _ (@ps_set _ _ 3 _ _ _ _ nd rfl (Or.inl rfl) (@pe_op _ _ _ _ _ _ _ _ op_modN (pe_fn G__law_cell_at hr (by rfl) pass0 (@pa_cons _ _ _ _ _ (pv 0) (@pa_cons _ _ _ _ _ pe_int pa_nil (by rfl)) (by rfl))) (@pe_op _ _ _ _ _ _ _ _ op_add (pe_callB (call_len' (K := K) rfl) (by rfl) T.z_len PySem.boot_len (@pa_cons _ _ _ _ _ (pv 2) pa_nil (by rfl))) pe_int)) (by rfl) (Or.inl rfl))
   (@pss_cons _ _ _ _ _ (@ps_set _ _ 4 _ _ _ _ nd rfl (Or.inl rfl) (pe_fn G__law_odd hr (by rfl) pass0 (@pa_cons _ _ _ _ _ (pe_fn G__law_cell_at hr (by rfl) pass0 (@pa_cons _ _ _ _ _ (pv 0) (@pa_cons _ _ _ _ _ pe_int pa_nil (by rfl)) (by rfl))) pa_nil (by rfl))) (by rfl) (Or.inl rfl))
   (@pss_cons _ _ _ _ _ (ps_if (PW.pt (pw_and (pt_cmpR op_ne (pv 1) pe_str (nomark _)) (pw_and1 (pt_not (pt_val (pe_fn G__law_refused hr (by rfl) pass0 (@pa_cons _ _ _ _ _ (pe_bm' (K := K) rfl PySem.F.plainAttrs_str PySem.F.slot_str_join PySem.F.type_str_join (mt_join' (K := K) rfl) pe_str (@pa_cons _ _ _ _ _ (@pe_op _ _ _ _ _ _ _ _ op_cat (@pe_op _ _ _ _ _ _ _ _ op_cat (pe_slice (sl_list' (K := K) rfl) (pv 2) po_none (po_some (pv 3))) (@pe_lst _ _ _ _ (@pa_cons _ _ _ _ _ (pv 4) pa_nil (by rfl)))) (pe_slice (sl_list' (K := K) rfl) (pv 2) (po_some (pv 3)) po_none)) pa_nil (by rfl))) pa_nil (by rfl)))))))) (@pss_one _ _ _ (ps_ret pe_bl)) pss_nil)
   (@pss_cons _ _ _ _ _ (ps_if (PW.pt (pw_or (PW.pt (pw_and (pt_cmpR op_ne (pv 4) pe_str (nomark _)) (pw_and1 (pt_not (pt_val (pe_fn G__law_refused hr (by rfl) pass0 (@pa_cons _ _ _ _ _ (pv 4) pa_nil (by rfl)))))))) (pw_or1 (pt_not (pt_val (pe_fn G__law_refused hr (by rfl) pass0 (@pa_cons _ _ _ _ _ (@pe_op _ _ _ _ _ _ _ _ op_add_str (pv 4) pe_str) pa_nil (by rfl)))))))) (@pss_one _ _ _ (ps_ret pe_bl)) pss_nil)
   (@pss_cons _ _ _ _ _ (ps_if (PW.pt (pw_and (pt_cmpR op_ne (pv 1) pe_str (nomark _)) (pw_and1 (pt_not (pt_val (pe_fn G__law_refused hr (by rfl) pass0 (@pa_cons _ _ _ _ _ (pe_fn G__law_blank hr (by rfl) pass0 (@pa_cons _ _ _ _ _ (pv 1) (@pa_cons _ _ _ _ _ (pe_fn G__law_cell_at hr (by rfl) pass0 (@pa_cons _ _ _ _ _ (pv 0) (@pa_cons _ _ _ _ _ pe_int pa_nil (by rfl)) (by rfl))) pa_nil (by rfl)) (by rfl))) pa_nil (by rfl)))))))) (@pss_one _ _ _ (ps_ret pe_bl)) pss_nil)
   (@pss_cons _ _ _ _ _ (@ps_set _ _ 1 _ _ _ _ nd rfl (Or.inl rfl) (pe_fn G__law_changed hr (by rfl) pass0 (@pa_cons _ _ _ _ _ (pv 1) (@pa_cons _ _ _ _ _ (pv 0) pa_nil (by rfl)) (by rfl))) (by rfl) (Or.inl rfl))
   (@pss_cons _ _ _ _ _ (ps_if (PW.pt (pw_and (pt_not (pt_val (pe_fn G__law_stays hr (by rfl) pass0 (@pa_cons _ _ _ _ _ (pv 1) pa_nil (by rfl))))) (pw_and1 (pt_not (pt_val (pe_fn G__law_refused hr (by rfl) pass0 (@pa_cons _ _ _ _ _ (pv 1) pa_nil (by rfl)))))))) (@pss_one _ _ _ (ps_ret pe_bl)) pss_nil)
   (@pss_cons _ _ _ _ _ (@ps_set _ _ 5 _ _ _ _ nd rfl (Or.inl rfl) (pe_fn G__law_cell_at hr (by rfl) pass0 (@pa_cons _ _ _ _ _ (pv 0) (@pa_cons _ _ _ _ _ pe_int pa_nil (by rfl)) (by rfl))) (by rfl) (Or.inl rfl))
   (@pss_cons _ _ _ _ _ (@ps_set _ _ 6 _ _ _ _ nd rfl (Or.inl rfl) (pe_ix (ix_list' (K := K) rfl) (@pe_lst _ _ _ _ (@pa_cons _ _ _ _ _ pe_non (@pa_cons _ _ _ _ _ pe_bl (@pa_cons _ _ _ _ _ (@pe_op _ _ _ _ _ _ _ _ op_modN (pv 5) (@pe_op _ _ _ _ _ _ _ _ op_pow pe_int pe_int)) (@pa_cons _ _ _ _ _ (@pe_lst _ _ _ _ (@pa_cons _ _ _ _ _ (pv 1) pa_nil (by rfl))) (@pa_cons _ _ _ _ _ (@pe_tup _ _ _ _ _ (@pa_cons _ _ _ _ _ (pv 1) pa_nil (by rfl))) (@pa_cons _ _ _ _ _ pe_dnewT (@pa_cons _ _ _ _ _ (@pe_tup _ _ _ _ _ (@pa_cons _ _ _ _ _ (@pe_tup _ _ _ _ _ pa_nil) (@pa_cons _ _ _ _ _ (@pe_tup _ _ _ _ _ pa_nil) pa_nil (by rfl)) (by rfl))) (@pa_cons _ _ _ _ _ (@pe_lst _ _ _ _ (@pa_cons _ _ _ _ _ pe_str pa_nil (by rfl))) pa_nil (by rfl)) (by rfl)) (by rfl)) (by rfl)) (by rfl)) (by rfl)) (by rfl)) (by rfl))) (@pe_op _ _ _ _ _ _ _ _ op_modN (pv 5) pe_int) (fun _ _ => rfl)) (by rfl) (Or.inl rfl))
   (@pss_cons _ _ _ _ _ (ps_if (pt_not (pt_val (pe_fn G__law_rules_alike hr (by rfl) pass0 (@pa_cons _ _ _ _ _ (pe_fn G__law_mixed hr (by rfl) pass0 (@pa_cons _ _ _ _ _ (pv 5) pa_nil (by rfl))) pa_nil (by rfl))))) (@pss_one _ _ _ (ps_ret pe_bl)) pss_nil)
   (@pss_one _ _ _ (ps_ret (pe_and (pe_fn G__law_refused hr (by rfl) pass0 (@pa_cons _ _ _ _ _ (pv 6) pa_nil (by rfl))) (pe_and (pe_fn G__law_deep hr (by rfl) pass0 (@pa_cons _ _ _ _ _ (pv 5) pa_nil (by rfl))) (pe_one (pe_fn G__law_bounds hr (by rfl) pass0 (@pa_cons _ _ _ _ _ (@pe_op _ _ _ _ _ _ _ _ op_fdivB (pv 5) pe_int) pa_nil (by rfl)))))))))))))))))))), ?_⟩
  obtain ⟨ms, hms, hml, _⟩ := cut_ints ns (some ((5 : Nat) : Int)) (some ((63 : Nat) : Int))
  rw [HT.sIx_nat, HT.sIx_nat] at hml
  have hms' : cutV (ns.map V.int) (some 5) (some 63) = ms.map V.int := hms
  have rb : ∀ {H : Hp} {t : Str}, t.length ≤ 700000 → rdF t = none → RdO H (.str t) none := fun hl h => h ▸ RdO.str hl
  refine ⟨_, rfl, 5, rfl, 63, rfl, a, _, rfl, hS, fun Cq hCq => ?_⟩
  rw [hms']
  have t0 := Same.upd (o := .lst (ms.map V.int)) hCq
  refine ⟨_, rfl, a, ns, 0, rfl, t0.seq hS, by omega, fun c => ⟨Cq, ms, c, rfl, upd_same, by omega, fun p v rls dts H1 s1 hp hv sok hg hl => ⟨p, _, 1, _, rfl, rfl, SqT.of hp, rfl, ?_⟩⟩⟩
  have hok : ∀ t ∈ flatR rls ++ dts, t.Ok := fun t ht => (List.mem_append.mp ht).elim (flatR_ok sok.2 t) (go_ok hg t)
  have htl : (rowsT rls dts).length ≤ 200000 := by
   have h : ∀ w ∈ (flatR rls ++ dts).map Tk.row, w.length ≤ 260 := fun w hw => by
    obtain ⟨t, ht, rfl⟩ := List.mem_map.mp hw
    exact row_len (hok t ht)
   have h1 := join_len (c := 10) h
   rw [List.length_map] at h1
   unfold rowsT
   rw [tj, nl_eq]
   omega
  have q1 := t0.trans s1
  refine sealH (F := fun Hx => Same H Hx) q1 (fun H2 q2 => ?_)
  obtain ⟨t, et⟩ : ∃ t, t = rowsT rls dts := ⟨_, rfl⟩
  show Ends.nx _ [some (.ref a), some (.str (rowsT rls dts)), none, none, none, none, none] H2
  rw [← et] at htl ⊢
  have hfr := free_nl t
  have hne := split_ne t (Str.ofString "\n")
  have hsl := sl_split t
  refine ⟨_, rfl, rfl, t, Str.ofString "\n", rfl, rfl, (by decide), by omega, fun p2 hp2 => ?_⟩
  generalize Txt.split t (Str.ofString "\n") = rows at *
  have u2 := Same.upd (o := .lst (rows.map V.str)) hp2
  have hlm : (rows.map V.str).length = rows.length := List.length_map ..
  have hpos : 0 < rows.length := List.length_pos_iff.mpr hne
  have hll := hsl
  unfold sl at hll
  have hl1 : rows.length ≤ 200001 := by omega
  show Ends.nx _ [some (.ref a), some (.str t), some (.ref p2), none, none, none, none] _
  refine sealH (F := fun Hx => Same H Hx ∧ Hx p2 = some (.lst (rows.map V.str))) ⟨q2.trans u2, upd_same⟩ (fun H3 ⟨q3, hp3⟩ => ?_)
  show Ends.nx _ [some (.ref a), some (.str t), some (.ref p2), none, none, none, none] H3
  refine ⟨_, rfl, a, ns, 1, rfl, q3.seq hS, by omega, fun c1 => ⟨_, rfl, _, (rows.map V.str).length, rfl, .inl ⟨_, SqL.of hp3, rfl⟩, _, _, rfl, rfl, _, _, rfl, rfl, (show ((((rows.map V.str).length : Nat) : Int) + 1) ≠ 0 by omega), ?_⟩⟩
  obtain ⟨i, hi, hil⟩ : ∃ i : Nat, c1.fmod ((((rows.map V.str).length : Nat) : Int) + 1) = (i : Int) ∧ i ≤ rows.length := ⟨(c1.fmod ((((rows.map V.str).length : Nat) : Int) + 1)).toNat, by
   rw [hlm]
   have e : c1.fmod (((rows.length : Nat) : Int) + 1) = c1 % (((rows.length : Nat) : Int) + 1) := Int.fmod_eq_emod_of_nonneg _ (by omega)
   have h1 := Int.emod_nonneg c1 (show (((rows.length : Nat) : Int) + 1) ≠ 0 by omega)
   have h2 := Int.emod_lt_of_pos c1 (show 0 < (((rows.length : Nat) : Int) + 1) by omega)
   omega⟩
  show Ends.nx _ [some (.ref a), some (.str t), some (.ref p2), some (.int (c1.fmod ((((rows.map V.str).length : Nat) : Int) + 1))), none, none, none] H3
  rw [hi]
  refine ⟨_, rfl, a, ns, 4, rfl, q3.seq hS, by omega, fun c4 => ⟨c4, rfl, fun x H4 s4 hx => ?_⟩⟩
  obtain ⟨ox1, ox2, ox3⟩ := odd_bad x hx
  show Ends.nx _ [some (.ref a), some (.str t), some (.ref p2), some (.int (i : Int)), some (.str x), none, none] H4
  have q4 := q3.trans s4
  have hp4 := s4 _ _ hp3
  refine ⟨_, rfl, rfl, _, rfl, ?_⟩
  refine' by_key1 (α := Hp) (C := fun Hx => Same H Hx) (fun key => ?go) ?body
  case go =>
   refine ite2 (fun h => ?_) (fun h => ?_)
   ·refine ⟨rfl, _, rfl, _, rfl, _, rfl, p2, _, rfl, SqL.of hp4, fun b1 g1 => ⟨_, rfl, sz (by simp), fun b2 g2 => ?_⟩⟩
    have e1 : cutV (rows.map V.str) none (some (i : Int)) = (rows.take i).map V.str := cut_upto rows hil
    have e4 : cutV (rows.map V.str) (some (i : Int)) none = (rows.drop i).map V.str := cut_from rows hil
    rw [e1] at g2 ⊢
    have u1 := Same.upd (o := .lst ((rows.take i).map V.str)) g1
    have u2 := Same.upd (o := .lst [V.str x]) g2
    have ht1 : ((rows.take i).map V.str).length ≤ 200001 := by rw [List.length_map, List.length_take]; omega
    refine ⟨b1, b2, _, _, rfl, rfl, u2 _ _ upd_same, upd_same, bigL (by show _ + 1 ≤ _; omega), fun b3 g3 => ?_⟩
    have u3 := Same.upd (o := .lst ((rows.take i).map V.str ++ [V.str x])) g3
    refine ⟨_, rfl, _, rfl, _, rfl, p2, _, rfl, SqL.of (u3 _ _ (u2 _ _ (u1 _ _ hp4))), fun b4 g4 => ?_⟩
    show rCat (.ref b3) (.ref b4) (upd _ b4 (.lst (cutV (rows.map V.str) (some (i : Int)) none))) _
    rw [e4]
    have u4 := Same.upd (o := .lst ((rows.drop i).map V.str)) g4
    have ht2 : ((rows.drop i).map V.str).length ≤ 200001 := by rw [List.length_map, List.length_drop]; omega
    refine ⟨b3, b4, _, _, rfl, rfl, u4 _ _ upd_same, upd_same, bigL (by rw [List.length_append]; show _ + 1 + _ ≤ _; omega), fun b5 g5 => ?_⟩
    have u5 := Same.upd (o := .lst ((rows.take i).map V.str ++ [V.str x] ++ (rows.drop i).map V.str)) g5
    have eq5 : (rows.take i).map V.str ++ [V.str x] ++ (rows.drop i).map V.str = (rows.take i ++ [x] ++ rows.drop i).map V.str := by
     rw [List.map_append, List.map_append, List.map_singleton]
    have hs5 : sl (rows.take i ++ [x] ++ rows.drop i) ≤ 700000 := by
     rw [sl_app, sl_app]
     have := sl_take rows i
     have := sl_drop rows i
     have e : sl [x] = x.length + 0 + 1 := rfl
     omega
    have hbd : rdF (Txt.join (Str.ofString "\n") (rows.take i ++ [x] ++ rows.drop i)) = none := by
     refine bad_rows (row := x) (by simp) (fun y hy => ?_) ox1 (fun z => ?_)
     ·rcases List.mem_append.mp hy with hy | hy
      ·rcases List.mem_append.mp hy with hy | hy
       ·exact hfr y (List.mem_of_mem_take hy)
       ·rw [List.mem_singleton.mp hy]; exact ox3
      ·exact hfr y (List.mem_of_mem_drop hy)
     ·have := congrArg List.length z
      simp only [List.length_append, List.length_take, List.length_drop, List.length_singleton] at this
      omega
    refine ⟨_, b5, rows.take i ++ [x] ++ rows.drop i, rfl, rfl, SqL.of (by rw [upd_same, eq5]), by rw [sl_sum]; omega, _, none, rfl, rb (Nat.le_trans (sl_join _) hs5) hbd, fun H9 s9 => ⟨_, rfl, ?_⟩⟩
    refine iteF ?_
    exact key H9 (q4.trans (u1.trans (u2.trans (u3.trans (u4.trans (u5.trans s9))))))
   ·refine iteF ?_
    exact key H4 q4
  case body =>
   intro H5 q5
   have oxl : x.length ≤ 700000 := by omega
   have rx : x ≠ Str.ofString "" → rdF x = none := fun hx0 => by
    have h := bad_rows (ys := [x]) (row := x) (.head _) (fun y hy => by rw [List.mem_singleton.mp hy]; exact ox3) ox1 (fun z => hx0 (List.cons.inj z).1)
    rw [tj] at h
    exact h
   have ry : rdF (x ++ Str.ofString "\nyear") = none := by
    have h := bad_rows (ys := [x, Str.ofString "year"]) (row := x) (.head _) (fun y hy => by
     rcases List.mem_cons.mp hy with rfl | hy
     ·exact ox3
     ·rw [List.mem_singleton.mp hy]; decide +kernel) ox1 (fun z => by have := congrArg List.length z; simp at this)
    have e : Txt.join (Str.ofString "\n") [x, Str.ofString "year"] = x ++ Str.ofString "\nyear" := by
     rw [tj]
     show x ++ Str.ofString "\n" ++ Str.ofString "year" = _
     rw [app_as, show Str.ofString "\n" ++ Str.ofString "year" = Str.ofString "\nyear" by decide +kernel]
    rw [e] at h
    exact h
   have yl : (Str.ofString "\nyear").length = 5 := by decide +kernel
   refine ⟨_, rfl, rfl, _, rfl, ?_⟩
   refine' by_key1 (α := Hp) (C := fun Hx => Same H Hx) (fun key => ?go2) ?body2
   case go2 =>
    refine ite2 (fun h => ?_) (fun h => ?_)
    ·have hx0 : x ≠ Str.ofString "" := fun z => by
      have h : (!decide (V.str x = V.str (Str.ofString ""))) = true := h
      rw [z, decide_eq_true rfl] at h
      cases h
     refine ⟨_, rfl, .str x, none, rfl, rb oxl (rx hx0), fun H9 s9 => ⟨_, rfl, ?_⟩⟩
     refine iteF ?_
     exact key H9 (q5.trans s9)
    ·refine iteF ?_
     exact key H5 q5
   case body2 =>
    intro H6 q6
    refine ⟨_, rfl, _, _, rfl, rfl, bigL (by omega), _, none, rfl, rb (by rw [str_len]; omega) ry, fun H7 s7 => ⟨_, rfl, ?_⟩⟩
    refine iteF ?_
    have q7 := q6.trans s7
    refine ⟨_, rfl, rfl, _, rfl, ?_⟩
    refine' by_key1 (α := Hp) (C := fun Hx => Same H Hx) (fun key => ?go3) ?body3
    case go3 =>
     refine ite2 (fun h => ?_) (fun h => ?_)
     ·have ht0 : t ≠ Str.ofString "" := fun z => by
       have h : (!decide (V.str t = V.str (Str.ofString ""))) = true := h
       rw [z, decide_eq_true rfl] at h
       cases h
      refine ⟨_, rfl, _, rfl, a, ns, 1, rfl, q7.seq hS, by omega, fun c => ⟨t, c, rfl, htl, ht0, fun t' H8 s8 hl8 hb8 => ⟨.str t', none, rfl, rb hl8 hb8, fun H9 s9 => ⟨_, rfl, ?_⟩⟩⟩⟩
      refine iteF ?_
      exact key H9 (q7.trans (s8.trans s9))
     ·refine iteF ?_
      exact key H7 q7
    case body3 =>
     intro H8 q8
     refine ⟨_, rfl, _, rfl, t, a, ns, rfl, htl, q8.seq hS, fun t2 H9 s9 hl9 => ?_⟩
     have q9 := q8.trans s9
     show Ends.nx _ [some (.ref a), some (.str t2), some (.ref p2), some (.int (i : Int)), some (.str x), none, none] H9
     refine ⟨_, rfl, t2, rfl, hl9, fun H10 s10 => ⟨_, rfl, ?_⟩⟩
     have q10 := q9.trans s10
     refine' by_key1 (α := Hp) (C := fun Hx => Same H Hx) (fun key => ?go4) ?body4
     case go4 =>
      cases ho : rdF t2 with
      | none =>
       refine iteT ?_
       refine ⟨_, rfl, .str t2, none, rfl, rb hl9 ho, fun H11 s11 => ⟨_, rfl, ?_⟩⟩
       refine iteF ?_
       exact key H11 (q10.trans s11)
      | some o =>
       refine iteF ?_
       refine iteF ?_
       exact key H10 q10
     case body4 =>
      intro H11 q11
      refine ⟨_, rfl, a, ns, 4, rfl, q11.seq hS, by omega, fun c5 => ?_⟩
      show Ends.nx _ [some (.ref a), some (.str t2), some (.ref p2), some (.int (i : Int)), some (.str x), some (.int c5), none] H11
      refine ⟨_, rfl, _, _, rfl, rfl, ⟨(by decide), (by decide), (by decide)⟩, _, _, rfl, rfl, (show ((10 : Int) ^ (20 : Int).toNat) ≠ 0 by decide), _, rfl, sz (by simp), fun b1 g1 => ⟨_, rfl, sz (by simp), fun b2 g2 => fun b3 g3 => ⟨sz (by simp), fun b4 g4 => ⟨sz (by simp), fun b5 g5 => ⟨sz (by simp), fun b6 g6 => ⟨sz (by simp), fun b7 g7 => ⟨sz (by simp), fun b8 g8 => ?_⟩⟩⟩⟩⟩⟩⟩
      have u1 := Same.upd (o := .lst [V.str t2]) g1
      have u2 := Same.upd (o := .tup [V.str t2]) g2
      have u3 := Same.upd (o := .dT []) g3
      have u4 := Same.upd (o := .tup []) g4
      have u5 := Same.upd (o := .tup []) g5
      have u6 := Same.upd (o := .tup [.ref b4, .ref b5]) g6
      have u7 := Same.upd (o := .lst [V.str (Str.ofString "year")]) g7
      let L8 : List V := [.non, .bl true, .int (c5.fmod ((10 : Int) ^ (20 : Int).toNat)), .ref b1, .ref b2, .ref b3, .ref b6, .ref b7]
      have u8 := Same.upd (o := .lst L8) g8
      obtain ⟨v, hv, hat⟩ := atI_in (xs := L8) (j := c5 % 8) (by omega) (by show _ < ((8 : Nat) : Int); omega)
      have hm8 : c5.fmod 8 = c5 % 8 := Int.fmod_eq_emod_of_nonneg _ (by decide)
      rw [← hm8] at hat
      refine ⟨_, rfl, _, _, rfl, rfl, (show (8 : Int) ≠ 0 by decide), b8, L8, _, v, rfl, rfl, SqL.of upd_same, hat, ?_⟩
      have hq := q11.trans (u1.trans (u2.trans (u3.trans (u4.trans (u5.trans (u6.trans (u7.trans u8)))))))
      have k1 := u8 _ _ (u7 _ _ (u6 _ _ (u5 _ _ (u4 _ _ (u3 _ _ (u2 _ _ (upd_same (H := H11) (a := b1) (o := .lst [V.str t2]))))))))
      have k2 := u8 _ _ (u7 _ _ (u6 _ _ (u5 _ _ (u4 _ _ (u3 _ _ (upd_same (a := b2) (o := .tup [V.str t2])))))))
      have k3 := u8 _ _ (u7 _ _ (u6 _ _ (u5 _ _ (u4 _ _ (upd_same (a := b3) (o := .dT []))))))
      have k6 := u8 _ _ (u7 _ _ (upd_same (a := b6) (o := .tup [.ref b4, .ref b5])))
      have k7 := u8 _ _ (upd_same (a := b7) (o := .lst [V.str (Str.ofString "year")]))
      show Ends.nx _ [some (.ref a), some (.str t2), some (.ref p2), some (.int (i : Int)), some (.str x), some (.int c5), some v] _
      refine sealH (F := fun Hx => Same H Hx ∧ ∃ n, tyS Hx v = some n ∧ n ≠ "str") ⟨hq, ?_⟩ (fun H12 ⟨q12, n, hn1, hn2⟩ => ?_)
      ·simp only [L8, List.mem_cons, List.mem_nil_iff, or_false] at hv
       rcases hv with rfl | rfl | rfl | rfl | rfl | rfl | rfl | rfl
       ·exact ⟨_, rfl, by decide⟩
       ·exact ⟨_, rfl, by decide⟩
       ·exact ⟨_, rfl, by decide⟩
       ·exact ⟨"list", by show tyH _ = _; rw [k1]; rfl, by decide⟩
       ·exact ⟨"tuple", by show tyH _ = _; rw [k2]; rfl, by decide⟩
       ·exact ⟨"dict", by show tyH _ = _; rw [k3]; rfl, by decide⟩
       ·exact ⟨"tuple", by show tyH _ = _; rw [k6]; rfl, by decide⟩
       ·exact ⟨"list", by show tyH _ = _; rw [k7]; rfl, by decide⟩
      refine ⟨_, rfl, c5, rfl, fun m hm0 hm1 => ⟨m, rfl, hm0, hm1, fun H13 s13 => ⟨_, rfl, ?_⟩⟩⟩
      refine iteF ?_
      have hrd : RdO H13 v none := ⟨n, tyS_same s13 hn1, fun _ => rfl, fun z e => by
       rw [e] at hn1
       exact absurd (Option.some.inj hn1).symm hn2⟩
      refine ⟨_, rfl, v, none, rfl, hrd, fun H14 s14 => ⟨_, rfl, ?_⟩⟩
      refine iteT ?_
      refine ⟨_, rfl, c5, rfl, fun H15 s15 => ⟨_, rfl, ?_⟩⟩
      refine iteT ?_
      exact ⟨_, rfl, _, _, rfl, rfl, ddv (by decide) (by decide), _, rfl, fun H16 s16 => k H16⟩
end
end T13
namespace T13
open PySem L2 Tc
theorem all_mk {l : PySem.W.OpenLaw} {w : World} {K : PySem.W.Frag} {h : Heap} {mg : Str → Option Value} {fa : Addr} (X : K.In h) (G : h.Ns mainGlobals mg) (hfa : mg "law" = some (.ref fa))
  {k_Full : Addr}
  {k_Lacking : Addr}
  {k_NoCask : Addr}
  {k_NoChange : Addr}
  {k_NoDeed : Addr}
  {k_NoName : Addr}
  {k_NoNumber : Addr}
  {k_NoPlace : Addr}
  {k_NoRow : Addr}
  {k_NoRule : Addr}
  {k_NoText : Addr}
  {k_NotSteady : Addr}
  {k_Tied : Addr}
  {k_TierError : Addr}
  {k_TooMany : Addr}
  {f0 : Addr} {oc0 kV0 dc0 pm0 cd0 ct0 : Value} {od0 an0 : Option Addr} {sl0 : Array (Option Value)}
  {f1 : Addr} {oc1 kV1 dc1 pm1 cd1 ct1 : Value} {od1 an1 : Option Addr} {sl1 : Array (Option Value)}
  {f2 : Addr} {oc2 kV2 dc2 pm2 cd2 ct2 : Value} {od2 an2 : Option Addr} {sl2 : Array (Option Value)}
  {f3 : Addr} {oc3 kV3 dc3 pm3 cd3 ct3 : Value} {od3 an3 : Option Addr} {sl3 : Array (Option Value)}
  {f4 : Addr} {oc4 kV4 dc4 pm4 cd4 ct4 : Value} {od4 an4 : Option Addr} {sl4 : Array (Option Value)}
  {f5 : Addr} {oc5 kV5 dc5 pm5 cd5 ct5 : Value} {od5 an5 : Option Addr} {sl5 : Array (Option Value)}
  {f6 : Addr} {oc6 kV6 dc6 pm6 cd6 ct6 : Value} {od6 an6 : Option Addr} {sl6 : Array (Option Value)}
  {f7 : Addr} {oc7 kV7 dc7 pm7 cd7 ct7 : Value} {od7 an7 : Option Addr} {sl7 : Array (Option Value)}
  {f8 : Addr} {oc8 kV8 dc8 pm8 cd8 ct8 : Value} {od8 an8 : Option Addr} {sl8 : Array (Option Value)}
  {f9 : Addr} {oc9 kV9 dc9 pm9 cd9 ct9 : Value} {od9 an9 : Option Addr} {sl9 : Array (Option Value)}
  {f10 : Addr} {oc10 kV10 dc10 pm10 cd10 ct10 : Value} {od10 an10 : Option Addr} {sl10 : Array (Option Value)}
  {f11 : Addr} {oc11 kV11 dc11 pm11 cd11 ct11 : Value} {od11 an11 : Option Addr} {sl11 : Array (Option Value)}
  {f12 : Addr} {oc12 kV12 dc12 pm12 cd12 ct12 : Value} {od12 an12 : Option Addr} {sl12 : Array (Option Value)}
  {f13 : Addr} {oc13 kV13 dc13 pm13 cd13 ct13 : Value} {od13 an13 : Option Addr} {sl13 : Array (Option Value)}
  {f14 : Addr} {oc14 kV14 dc14 pm14 cd14 ct14 : Value} {od14 an14 : Option Addr} {sl14 : Array (Option Value)}
  {f15 : Addr} {oc15 kV15 dc15 pm15 cd15 ct15 : Value} {od15 an15 : Option Addr} {sl15 : Array (Option Value)}
  {f16 : Addr} {oc16 kV16 dc16 pm16 cd16 ct16 : Value} {od16 an16 : Option Addr} {sl16 : Array (Option Value)}
  {f17 : Addr} {oc17 kV17 dc17 pm17 cd17 ct17 : Value} {od17 an17 : Option Addr} {sl17 : Array (Option Value)}
  {f18 : Addr} {oc18 kV18 dc18 pm18 cd18 ct18 : Value} {od18 an18 : Option Addr} {sl18 : Array (Option Value)}
  {f19 : Addr} {oc19 kV19 dc19 pm19 cd19 ct19 : Value} {od19 an19 : Option Addr} {sl19 : Array (Option Value)}
  {f20 : Addr} {oc20 kV20 dc20 pm20 cd20 ct20 : Value} {od20 an20 : Option Addr} {sl20 : Array (Option Value)}
  {f21 : Addr} {oc21 kV21 dc21 pm21 cd21 ct21 : Value} {od21 an21 : Option Addr} {sl21 : Array (Option Value)}
  {f22 : Addr} {oc22 kV22 dc22 pm22 cd22 ct22 : Value} {od22 an22 : Option Addr} {sl22 : Array (Option Value)}
  {f23 : Addr} {oc23 kV23 dc23 pm23 cd23 ct23 : Value} {od23 an23 : Option Addr} {sl23 : Array (Option Value)}
  {f24 : Addr} {oc24 kV24 dc24 pm24 cd24 ct24 : Value} {od24 an24 : Option Addr} {sl24 : Array (Option Value)}
  {f25 : Addr} {oc25 kV25 dc25 pm25 cd25 ct25 : Value} {od25 an25 : Option Addr} {sl25 : Array (Option Value)}
  {f26 : Addr} {oc26 kV26 dc26 pm26 cd26 ct26 : Value} {od26 an26 : Option Addr} {sl26 : Array (Option Value)}
  {f27 : Addr} {oc27 kV27 dc27 pm27 cd27 ct27 : Value} {od27 an27 : Option Addr} {sl27 : Array (Option Value)}
  {f28 : Addr} {oc28 kV28 dc28 pm28 cd28 ct28 : Value} {od28 an28 : Option Addr} {sl28 : Array (Option Value)}
  {f29 : Addr} {oc29 kV29 dc29 pm29 cd29 ct29 : Value} {od29 an29 : Option Addr} {sl29 : Array (Option Value)}
  {f30 : Addr} {oc30 kV30 dc30 pm30 cd30 ct30 : Value} {od30 an30 : Option Addr} {sl30 : Array (Option Value)}
  {f31 : Addr} {oc31 kV31 dc31 pm31 cd31 ct31 : Value} {od31 an31 : Option Addr} {sl31 : Array (Option Value)}
  {f32 : Addr} {oc32 kV32 dc32 pm32 cd32 ct32 : Value} {od32 an32 : Option Addr} {sl32 : Array (Option Value)}
  {f33 : Addr} {oc33 kV33 dc33 pm33 cd33 ct33 : Value} {od33 an33 : Option Addr} {sl33 : Array (Option Value)}
  {f34 : Addr} {oc34 kV34 dc34 pm34 cd34 ct34 : Value} {od34 an34 : Option Addr} {sl34 : Array (Option Value)}
  {f35 : Addr} {oc35 kV35 dc35 pm35 cd35 ct35 : Value} {od35 an35 : Option Addr} {sl35 : Array (Option Value)}
  {f36 : Addr} {oc36 kV36 dc36 pm36 cd36 ct36 : Value} {od36 an36 : Option Addr} {sl36 : Array (Option Value)}
  {f37 : Addr} {oc37 kV37 dc37 pm37 cd37 ct37 : Value} {od37 an37 : Option Addr} {sl37 : Array (Option Value)}
  {f38 : Addr} {oc38 kV38 dc38 pm38 cd38 ct38 : Value} {od38 an38 : Option Addr} {sl38 : Array (Option Value)}
  {f39 : Addr} {oc39 kV39 dc39 pm39 cd39 ct39 : Value} {od39 an39 : Option Addr} {sl39 : Array (Option Value)}
  {f40 : Addr} {oc40 kV40 dc40 pm40 cd40 ct40 : Value} {od40 an40 : Option Addr} {sl40 : Array (Option Value)}
  {f41 : Addr} {oc41 kV41 dc41 pm41 cd41 ct41 : Value} {od41 an41 : Option Addr} {sl41 : Array (Option Value)}
  {f42 : Addr} {oc42 kV42 dc42 pm42 cd42 ct42 : Value} {od42 an42 : Option Addr} {sl42 : Array (Option Value)}
  (a0 : PySem.W.nsIn K mainGlobals "is_name" = some (some (.ref f0))) (l0 : K.lookup f0 = some ⟨oc0, od0, .func (PySem.W.fnOf "is_name" "is_name" (defArgs s_is_name) (defBody s_is_name) (defScope s_is_name) .none kV0 dc0 pm0 an0 cd0 ct0), sl0⟩) (c0 : PySem.W.codeIn K cd0 "is_name" = true) (k0 : PySem.W.keepIn K (.ref f0) = true)
  (a1 : PySem.W.nsIn K mainGlobals "is_whole" = some (some (.ref f1))) (l1 : K.lookup f1 = some ⟨oc1, od1, .func (PySem.W.fnOf "is_whole" "is_whole" (defArgs s_is_whole) (defBody s_is_whole) (defScope s_is_whole) .none kV1 dc1 pm1 an1 cd1 ct1), sl1⟩) (c1 : PySem.W.codeIn K cd1 "is_whole" = true) (k1 : PySem.W.keepIn K (.ref f1) = true)
  (a2 : PySem.W.nsIn K mainGlobals "common_divisor" = some (some (.ref f2))) (l2 : K.lookup f2 = some ⟨oc2, od2, .func (PySem.W.fnOf "common_divisor" "common_divisor" (defArgs s_common_divisor) (defBody s_common_divisor) (defScope s_common_divisor) .none kV2 dc2 pm2 an2 cd2 ct2), sl2⟩) (c2 : PySem.W.codeIn K cd2 "common_divisor" = true) (k2 : PySem.W.keepIn K (.ref f2) = true)
  (a3 : PySem.W.nsIn K mainGlobals "is_fraction" = some (some (.ref f3))) (l3 : K.lookup f3 = some ⟨oc3, od3, .func (PySem.W.fnOf "is_fraction" "is_fraction" (defArgs s_is_fraction) (defBody s_is_fraction) (defScope s_is_fraction) .none kV3 dc3 pm3 an3 cd3 ct3), sl3⟩) (c3 : PySem.W.codeIn K cd3 "is_fraction" = true) (k3 : PySem.W.keepIn K (.ref f3) = true)
  (a4 : PySem.W.nsIn K mainGlobals "whole_read" = some (some (.ref f4))) (l4 : K.lookup f4 = some ⟨oc4, od4, .func (PySem.W.fnOf "whole_read" "whole_read" (defArgs s_whole_read) (defBody s_whole_read) (defScope s_whole_read) .none kV4 dc4 pm4 an4 cd4 ct4), sl4⟩) (c4 : PySem.W.codeIn K cd4 "whole_read" = true) (k4 : PySem.W.keepIn K (.ref f4) = true)
  (a5 : PySem.W.nsIn K mainGlobals "number_read" = some (some (.ref f5))) (l5 : K.lookup f5 = some ⟨oc5, od5, .func (PySem.W.fnOf "number_read" "number_read" (defArgs s_number_read) (defBody s_number_read) (defScope s_number_read) .none kV5 dc5 pm5 an5 cd5 ct5), sl5⟩) (c5 : PySem.W.codeIn K cd5 "number_read" = true) (k5 : PySem.W.keepIn K (.ref f5) = true)
  (a6 : PySem.W.nsIn K mainGlobals "amount_read" = some (some (.ref f6))) (l6 : K.lookup f6 = some ⟨oc6, od6, .func (PySem.W.fnOf "amount_read" "amount_read" (defArgs s_amount_read) (defBody s_amount_read) (defScope s_amount_read) .none kV6 dc6 pm6 an6 cd6 ct6), sl6⟩) (c6 : PySem.W.codeIn K cd6 "amount_read" = true) (k6 : PySem.W.keepIn K (.ref f6) = true)
  (a7 : PySem.W.nsIn K mainGlobals "share_read" = some (some (.ref f7))) (l7 : K.lookup f7 = some ⟨oc7, od7, .func (PySem.W.fnOf "share_read" "share_read" (defArgs s_share_read) (defBody s_share_read) (defScope s_share_read) .none kV7 dc7 pm7 an7 cd7 ct7), sl7⟩) (c7 : PySem.W.codeIn K cd7 "share_read" = true) (k7 : PySem.W.keepIn K (.ref f7) = true)
  (a8 : PySem.W.nsIn K mainGlobals "check_names" = some (some (.ref f8))) (l8 : K.lookup f8 = some ⟨oc8, od8, .func (PySem.W.fnOf "check_names" "check_names" (defArgs s_check_names) (defBody s_check_names) (defScope s_check_names) .none kV8 dc8 pm8 an8 cd8 ct8), sl8⟩) (c8 : PySem.W.codeIn K cd8 "check_names" = true) (k8 : PySem.W.keepIn K (.ref f8) = true)
  (a9 : PySem.W.nsIn K mainGlobals "measured" = some (some (.ref f9))) (l9 : K.lookup f9 = some ⟨oc9, od9, .func (PySem.W.fnOf "measured" "measured" (defArgs s_measured) (defBody s_measured) (defScope s_measured) .none kV9 dc9 pm9 an9 cd9 ct9), sl9⟩) (c9 : PySem.W.codeIn K cd9 "measured" = true) (k9 : PySem.W.keepIn K (.ref f9) = true)
  (a10 : PySem.W.nsIn K mainGlobals "deed_read" = some (some (.ref f10))) (l10 : K.lookup f10 = some ⟨oc10, od10, .func (PySem.W.fnOf "deed_read" "deed_read" (defArgs s_deed_read) (defBody s_deed_read) (defScope s_deed_read) .none kV10 dc10 pm10 an10 cd10 ct10), sl10⟩) (c10 : PySem.W.codeIn K cd10 "deed_read" = true) (k10 : PySem.W.keepIn K (.ref f10) = true)
  (a11 : PySem.W.nsIn K mainGlobals "times_head" = some (some (.ref f11))) (l11 : K.lookup f11 = some ⟨oc11, od11, .func (PySem.W.fnOf "times_head" "times_head" (defArgs s_times_head) (defBody s_times_head) (defScope s_times_head) .none kV11 dc11 pm11 an11 cd11 ct11), sl11⟩) (c11 : PySem.W.codeIn K cd11 "times_head" = true) (k11 : PySem.W.keepIn K (.ref f11) = true)
  (a12 : PySem.W.nsIn K mainGlobals "rule_head" = some (some (.ref f12))) (l12 : K.lookup f12 = some ⟨oc12, od12, .func (PySem.W.fnOf "rule_head" "rule_head" (defArgs s_rule_head) (defBody s_rule_head) (defScope s_rule_head) .none kV12 dc12 pm12 an12 cd12 ct12), sl12⟩) (c12 : PySem.W.codeIn K cd12 "rule_head" = true) (k12 : PySem.W.keepIn K (.ref f12) = true)
  (a13 : PySem.W.nsIn K mainGlobals "end_block" = some (some (.ref f13))) (l13 : K.lookup f13 = some ⟨oc13, od13, .func (PySem.W.fnOf "end_block" "end_block" (defArgs s_end_block) (defBody s_end_block) (defScope s_end_block) .none kV13 dc13 pm13 an13 cd13 ct13), sl13⟩) (c13 : PySem.W.codeIn K cd13 "end_block" = true) (k13 : PySem.W.keepIn K (.ref f13) = true)
  (a14 : PySem.W.nsIn K mainGlobals "read_rows" = some (some (.ref f14))) (l14 : K.lookup f14 = some ⟨oc14, od14, .func (PySem.W.fnOf "read_rows" "read_rows" (defArgs s_read_rows) (defBody s_read_rows) (defScope s_read_rows) .none kV14 dc14 pm14 an14 cd14 ct14), sl14⟩) (c14 : PySem.W.codeIn K cd14 "read_rows" = true) (k14 : PySem.W.keepIn K (.ref f14) = true)
  (a15 : PySem.W.nsIn K mainGlobals "read" = some (some (.ref f15))) (l15 : K.lookup f15 = some ⟨oc15, od15, .func (PySem.W.fnOf "read" "read" (defArgs s_read) (defBody s_read) (defScope s_read) .none kV15 dc15 pm15 an15 cd15 ct15), sl15⟩) (c15 : PySem.W.codeIn K cd15 "read" = true) (k15 : PySem.W.keepIn K (.ref f15) = true)
  (a16 : PySem.W.nsIn K mainGlobals "number_shown" = some (some (.ref f16))) (l16 : K.lookup f16 = some ⟨oc16, od16, .func (PySem.W.fnOf "number_shown" "number_shown" (defArgs s_number_shown) (defBody s_number_shown) (defScope s_number_shown) .none kV16 dc16 pm16 an16 cd16 ct16), sl16⟩) (c16 : PySem.W.codeIn K cd16 "number_shown" = true) (k16 : PySem.W.keepIn K (.ref f16) = true)
  (a17 : PySem.W.nsIn K mainGlobals "row_of" = some (some (.ref f17))) (l17 : K.lookup f17 = some ⟨oc17, od17, .func (PySem.W.fnOf "row_of" "row_of" (defArgs s_row_of) (defBody s_row_of) (defScope s_row_of) .none kV17 dc17 pm17 an17 cd17 ct17), sl17⟩) (c17 : PySem.W.codeIn K cd17 "row_of" = true) (k17 : PySem.W.keepIn K (.ref f17) = true)
  (a18 : PySem.W.nsIn K mainGlobals "rows_of" = some (some (.ref f18))) (l18 : K.lookup f18 = some ⟨oc18, od18, .func (PySem.W.fnOf "rows_of" "rows_of" (defArgs s_rows_of) (defBody s_rows_of) (defScope s_rows_of) .none kV18 dc18 pm18 an18 cd18 ct18), sl18⟩) (c18 : PySem.W.codeIn K cd18 "rows_of" = true) (k18 : PySem.W.keepIn K (.ref f18) = true)
  (a19 : PySem.W.nsIn K mainGlobals "shown" = some (some (.ref f19))) (l19 : K.lookup f19 = some ⟨oc19, od19, .func (PySem.W.fnOf "shown" "shown" (defArgs s_shown) (defBody s_shown) (defScope s_shown) .none kV19 dc19 pm19 an19 cd19 ct19), sl19⟩) (c19 : PySem.W.codeIn K cd19 "shown" = true) (k19 : PySem.W.keepIn K (.ref f19) = true)
  (a20 : PySem.W.nsIn K mainGlobals "_law_cell_at" = some (some (.ref f20))) (l20 : K.lookup f20 = some ⟨oc20, od20, .func (PySem.W.fnOf "_law_cell_at" "_law_cell_at" (defArgs s__law_cell_at) (defBody s__law_cell_at) (defScope s__law_cell_at) .none kV20 dc20 pm20 an20 cd20 ct20), sl20⟩) (c20 : PySem.W.codeIn K cd20 "_law_cell_at" = true) (k20 : PySem.W.keepIn K (.ref f20) = true)
  (a21 : PySem.W.nsIn K mainGlobals "_law_mixed" = some (some (.ref f21))) (l21 : K.lookup f21 = some ⟨oc21, od21, .func (PySem.W.fnOf "_law_mixed" "_law_mixed" (defArgs s__law_mixed) (defBody s__law_mixed) (defScope s__law_mixed) .none kV21 dc21 pm21 an21 cd21 ct21), sl21⟩) (c21 : PySem.W.codeIn K cd21 "_law_mixed" = true) (k21 : PySem.W.keepIn K (.ref f21) = true)
  (a22 : PySem.W.nsIn K mainGlobals "_law_digits" = some (some (.ref f22))) (l22 : K.lookup f22 = some ⟨oc22, od22, .func (PySem.W.fnOf "_law_digits" "_law_digits" (defArgs s__law_digits) (defBody s__law_digits) (defScope s__law_digits) .none kV22 dc22 pm22 an22 cd22 ct22), sl22⟩) (c22 : PySem.W.codeIn K cd22 "_law_digits" = true) (k22 : PySem.W.keepIn K (.ref f22) = true)
  (a23 : PySem.W.nsIn K mainGlobals "_law_names" = some (some (.ref f23))) (l23 : K.lookup f23 = some ⟨oc23, od23, .func (PySem.W.fnOf "_law_names" "_law_names" (defArgs s__law_names) (defBody s__law_names) (defScope s__law_names) .none kV23 dc23 pm23 an23 cd23 ct23), sl23⟩) (c23 : PySem.W.codeIn K cd23 "_law_names" = true) (k23 : PySem.W.keepIn K (.ref f23) = true)
  (a24 : PySem.W.nsIn K mainGlobals "_law_lowest" = some (some (.ref f24))) (l24 : K.lookup f24 = some ⟨oc24, od24, .func (PySem.W.fnOf "_law_lowest" "_law_lowest" (defArgs s__law_lowest) (defBody s__law_lowest) (defScope s__law_lowest) .none kV24 dc24 pm24 an24 cd24 ct24), sl24⟩) (c24 : PySem.W.codeIn K cd24 "_law_lowest" = true) (k24 : PySem.W.keepIn K (.ref f24) = true)
  (a25 : PySem.W.nsIn K mainGlobals "_law_amount" = some (some (.ref f25))) (l25 : K.lookup f25 = some ⟨oc25, od25, .func (PySem.W.fnOf "_law_amount" "_law_amount" (defArgs s__law_amount) (defBody s__law_amount) (defScope s__law_amount) .none kV25 dc25 pm25 an25 cd25 ct25), sl25⟩) (c25 : PySem.W.codeIn K cd25 "_law_amount" = true) (k25 : PySem.W.keepIn K (.ref f25) = true)
  (a26 : PySem.W.nsIn K mainGlobals "_law_share" = some (some (.ref f26))) (l26 : K.lookup f26 = some ⟨oc26, od26, .func (PySem.W.fnOf "_law_share" "_law_share" (defArgs s__law_share) (defBody s__law_share) (defScope s__law_share) .none kV26 dc26 pm26 an26 cd26 ct26), sl26⟩) (c26 : PySem.W.codeIn K cd26 "_law_share" = true) (k26 : PySem.W.keepIn K (.ref f26) = true)
  (a27 : PySem.W.nsIn K mainGlobals "_law_number_text" = some (some (.ref f27))) (l27 : K.lookup f27 = some ⟨oc27, od27, .func (PySem.W.fnOf "_law_number_text" "_law_number_text" (defArgs s__law_number_text) (defBody s__law_number_text) (defScope s__law_number_text) .none kV27 dc27 pm27 an27 cd27 ct27), sl27⟩) (c27 : PySem.W.codeIn K cd27 "_law_number_text" = true) (k27 : PySem.W.keepIn K (.ref f27) = true)
  (a28 : PySem.W.nsIn K mainGlobals "_law_word" = some (some (.ref f28))) (l28 : K.lookup f28 = some ⟨oc28, od28, .func (PySem.W.fnOf "_law_word" "_law_word" (defArgs s__law_word) (defBody s__law_word) (defScope s__law_word) .none kV28 dc28 pm28 an28 cd28 ct28), sl28⟩) (c28 : PySem.W.codeIn K cd28 "_law_word" = true) (k28 : PySem.W.keepIn K (.ref f28) = true)
  (a29 : PySem.W.nsIn K mainGlobals "_law_plain" = some (some (.ref f29))) (l29 : K.lookup f29 = some ⟨oc29, od29, .func (PySem.W.fnOf "_law_plain" "_law_plain" (defArgs s__law_plain) (defBody s__law_plain) (defScope s__law_plain) .none kV29 dc29 pm29 an29 cd29 ct29), sl29⟩) (c29 : PySem.W.codeIn K cd29 "_law_plain" = true) (k29 : PySem.W.keepIn K (.ref f29) = true)
  (a30 : PySem.W.nsIn K mainGlobals "_law_deeds" = some (some (.ref f30))) (l30 : K.lookup f30 = some ⟨oc30, od30, .func (PySem.W.fnOf "_law_deeds" "_law_deeds" (defArgs s__law_deeds) (defBody s__law_deeds) (defScope s__law_deeds) .none kV30 dc30 pm30 an30 cd30 ct30), sl30⟩) (c30 : PySem.W.codeIn K cd30 "_law_deeds" = true) (k30 : PySem.W.keepIn K (.ref f30) = true)
  (a31 : PySem.W.nsIn K mainGlobals "_law_script" = some (some (.ref f31))) (l31 : K.lookup f31 = some ⟨oc31, od31, .func (PySem.W.fnOf "_law_script" "_law_script" (defArgs s__law_script) (defBody s__law_script) (defScope s__law_script) .none kV31 dc31 pm31 an31 cd31 ct31), sl31⟩) (c31 : PySem.W.codeIn K cd31 "_law_script" = true) (k31 : PySem.W.keepIn K (.ref f31) = true)
  (a32 : PySem.W.nsIn K mainGlobals "_law_told" = some (some (.ref f32))) (l32 : K.lookup f32 = some ⟨oc32, od32, .func (PySem.W.fnOf "_law_told" "_law_told" (defArgs s__law_told) (defBody s__law_told) (defScope s__law_told) .none kV32 dc32 pm32 an32 cd32 ct32), sl32⟩) (c32 : PySem.W.codeIn K cd32 "_law_told" = true) (k32 : PySem.W.keepIn K (.ref f32) = true)
  (a33 : PySem.W.nsIn K mainGlobals "_law_only" = some (some (.ref f33))) (l33 : K.lookup f33 = some ⟨oc33, od33, .func (PySem.W.fnOf "_law_only" "_law_only" (defArgs s__law_only) (defBody s__law_only) (defScope s__law_only) .none kV33 dc33 pm33 an33 cd33 ct33), sl33⟩) (c33 : PySem.W.codeIn K cd33 "_law_only" = true) (k33 : PySem.W.keepIn K (.ref f33) = true)
  (a34 : PySem.W.nsIn K mainGlobals "_law_refused" = some (some (.ref f34))) (l34 : K.lookup f34 = some ⟨oc34, od34, .func (PySem.W.fnOf "_law_refused" "_law_refused" (defArgs s__law_refused) (defBody s__law_refused) (defScope s__law_refused) .none kV34 dc34 pm34 an34 cd34 ct34), sl34⟩) (c34 : PySem.W.codeIn K cd34 "_law_refused" = true) (k34 : PySem.W.keepIn K (.ref f34) = true)
  (a35 : PySem.W.nsIn K mainGlobals "_law_stays" = some (some (.ref f35))) (l35 : K.lookup f35 = some ⟨oc35, od35, .func (PySem.W.fnOf "_law_stays" "_law_stays" (defArgs s__law_stays) (defBody s__law_stays) (defScope s__law_stays) .none kV35 dc35 pm35 an35 cd35 ct35), sl35⟩) (c35 : PySem.W.codeIn K cd35 "_law_stays" = true) (k35 : PySem.W.keepIn K (.ref f35) = true)
  (a36 : PySem.W.nsIn K mainGlobals "_law_odd" = some (some (.ref f36))) (l36 : K.lookup f36 = some ⟨oc36, od36, .func (PySem.W.fnOf "_law_odd" "_law_odd" (defArgs s__law_odd) (defBody s__law_odd) (defScope s__law_odd) .none kV36 dc36 pm36 an36 cd36 ct36), sl36⟩) (c36 : PySem.W.codeIn K cd36 "_law_odd" = true) (k36 : PySem.W.keepIn K (.ref f36) = true)
  (a37 : PySem.W.nsIn K mainGlobals "_law_changed" = some (some (.ref f37))) (l37 : K.lookup f37 = some ⟨oc37, od37, .func (PySem.W.fnOf "_law_changed" "_law_changed" (defArgs s__law_changed) (defBody s__law_changed) (defScope s__law_changed) .none kV37 dc37 pm37 an37 cd37 ct37), sl37⟩) (c37 : PySem.W.codeIn K cd37 "_law_changed" = true) (k37 : PySem.W.keepIn K (.ref f37) = true)
  (a38 : PySem.W.nsIn K mainGlobals "_law_blank" = some (some (.ref f38))) (l38 : K.lookup f38 = some ⟨oc38, od38, .func (PySem.W.fnOf "_law_blank" "_law_blank" (defArgs s__law_blank) (defBody s__law_blank) (defScope s__law_blank) .none kV38 dc38 pm38 an38 cd38 ct38), sl38⟩) (c38 : PySem.W.codeIn K cd38 "_law_blank" = true) (k38 : PySem.W.keepIn K (.ref f38) = true)
  (a39 : PySem.W.nsIn K mainGlobals "_law_deep" = some (some (.ref f39))) (l39 : K.lookup f39 = some ⟨oc39, od39, .func (PySem.W.fnOf "_law_deep" "_law_deep" (defArgs s__law_deep) (defBody s__law_deep) (defScope s__law_deep) .none kV39 dc39 pm39 an39 cd39 ct39), sl39⟩) (c39 : PySem.W.codeIn K cd39 "_law_deep" = true) (k39 : PySem.W.keepIn K (.ref f39) = true)
  (a40 : PySem.W.nsIn K mainGlobals "_law_bounds" = some (some (.ref f40))) (l40 : K.lookup f40 = some ⟨oc40, od40, .func (PySem.W.fnOf "_law_bounds" "_law_bounds" (defArgs s__law_bounds) (defBody s__law_bounds) (defScope s__law_bounds) .none kV40 dc40 pm40 an40 cd40 ct40), sl40⟩) (c40 : PySem.W.codeIn K cd40 "_law_bounds" = true) (k40 : PySem.W.keepIn K (.ref f40) = true)
  (a41 : PySem.W.nsIn K mainGlobals "_law_rules_alike" = some (some (.ref f41))) (l41 : K.lookup f41 = some ⟨oc41, od41, .func (PySem.W.fnOf "_law_rules_alike" "_law_rules_alike" (defArgs s__law_rules_alike) (defBody s__law_rules_alike) (defScope s__law_rules_alike) .none kV41 dc41 pm41 an41 cd41 ct41), sl41⟩) (c41 : PySem.W.codeIn K cd41 "_law_rules_alike" = true) (k41 : PySem.W.keepIn K (.ref f41) = true)
  (a42 : PySem.W.nsIn K mainGlobals "law" = some (some (.ref f42))) (l42 : K.lookup f42 = some ⟨oc42, od42, .func (PySem.W.fnOf "law" "law" (defArgs s_law) (defBody s_law) (defScope s_law) .none kV42 dc42 pm42 an42 cd42 ct42), sl42⟩) (c42 : PySem.W.codeIn K cd42 "law" = true) (k42 : PySem.W.keepIn K (.ref f42) = true)
  (z_ValueError : PySem.W.nsIn K mainGlobals "ValueError" = some none)
  (z_all : PySem.W.nsIn K mainGlobals "all" = some none)
  (z_bool : PySem.W.nsIn K mainGlobals "bool" = some none)
  (z_enumerate : PySem.W.nsIn K mainGlobals "enumerate" = some none)
  (z_int : PySem.W.nsIn K mainGlobals "int" = some none)
  (z_isinstance : PySem.W.nsIn K mainGlobals "isinstance" = some none)
  (z_len : PySem.W.nsIn K mainGlobals "len" = some none)
  (z_list : PySem.W.nsIn K mainGlobals "list" = some none)
  (z_range : PySem.W.nsIn K mainGlobals "range" = some none)
  (z_set : PySem.W.nsIn K mainGlobals "set" = some none)
  (z_str : PySem.W.nsIn K mainGlobals "str" = some none)
  (z_tuple : PySem.W.nsIn K mainGlobals "tuple" = some none)
  {t_FIGURES : Tok} (w_FIGURES : PySem.W.nsIn K mainGlobals "FIGURES" = some (some (.str "0123456789" t_FIGURES)))
  {t_LETTERS : Tok} (w_LETTERS : PySem.W.nsIn K mainGlobals "LETTERS" = some (some (.str "abcdefghijklmnopqrstuvwxyz" t_LETTERS)))
  {t_MOST_FIGURES : Tok} (w_MOST_FIGURES : PySem.W.nsIn K mainGlobals "MOST_FIGURES" = some (some (.int 12 t_MOST_FIGURES)))
  {t_MOST_PLACES : Tok} (w_MOST_PLACES : PySem.W.nsIn K mainGlobals "MOST_PLACES" = some (some (.int 8 t_MOST_PLACES)))
  {t_MOST_ROWS : Tok} (w_MOST_ROWS : PySem.W.nsIn K mainGlobals "MOST_ROWS" = some (some (.int 300 t_MOST_ROWS)))
  {t_MOST_TIMES : Tok} (w_MOST_TIMES : PySem.W.nsIn K mainGlobals "MOST_TIMES" = some (some (.int 60 t_MOST_TIMES)))
  {t_MOST_WITHIN : Tok} (w_MOST_WITHIN : PySem.W.nsIn K mainGlobals "MOST_WITHIN" = some (some (.int 8 t_MOST_WITHIN)))
  (y_Full : PySem.W.nsIn K mainGlobals "Full" = some (some (.ref k_Full)))
  (y_Lacking : PySem.W.nsIn K mainGlobals "Lacking" = some (some (.ref k_Lacking)))
  (y_NoCask : PySem.W.nsIn K mainGlobals "NoCask" = some (some (.ref k_NoCask)))
  (y_NoChange : PySem.W.nsIn K mainGlobals "NoChange" = some (some (.ref k_NoChange)))
  (y_NoDeed : PySem.W.nsIn K mainGlobals "NoDeed" = some (some (.ref k_NoDeed)))
  (y_NoName : PySem.W.nsIn K mainGlobals "NoName" = some (some (.ref k_NoName)))
  (y_NoNumber : PySem.W.nsIn K mainGlobals "NoNumber" = some (some (.ref k_NoNumber)))
  (y_NoPlace : PySem.W.nsIn K mainGlobals "NoPlace" = some (some (.ref k_NoPlace)))
  (y_NoRow : PySem.W.nsIn K mainGlobals "NoRow" = some (some (.ref k_NoRow)))
  (y_NoRule : PySem.W.nsIn K mainGlobals "NoRule" = some (some (.ref k_NoRule)))
  (y_NoText : PySem.W.nsIn K mainGlobals "NoText" = some (some (.ref k_NoText)))
  (y_NotSteady : PySem.W.nsIn K mainGlobals "NotSteady" = some (some (.ref k_NotSteady)))
  (y_Tied : PySem.W.nsIn K mainGlobals "Tied" = some (some (.ref k_Tied)))
  (y_TierError : PySem.W.nsIn K mainGlobals "TierError" = some (some (.ref k_TierError)))
  (y_TooMany : PySem.W.nsIn K mainGlobals "TooMany" = some (some (.ref k_TooMany)))
  (e_NoText : PySem.W.excIn K k_NoText [.type "ValueError", .type "Exception", .type "BaseException", .type "object"] "ValueError.__new__" = true)
  (x_NoText : ExcK K k_NoText)
  (i_NoText_Full : PySem.W.kitOne K (.ref k_NoText) (.ref k_Full) = some false)
  (m_NoText_Full : PySem.W.exmOne K (.ref k_NoText) (.ref k_Full) = some false)
  (i_NoText_Lacking : PySem.W.kitOne K (.ref k_NoText) (.ref k_Lacking) = some false)
  (m_NoText_Lacking : PySem.W.exmOne K (.ref k_NoText) (.ref k_Lacking) = some false)
  (i_NoText_NoCask : PySem.W.kitOne K (.ref k_NoText) (.ref k_NoCask) = some false)
  (m_NoText_NoCask : PySem.W.exmOne K (.ref k_NoText) (.ref k_NoCask) = some false)
  (i_NoText_NoChange : PySem.W.kitOne K (.ref k_NoText) (.ref k_NoChange) = some false)
  (m_NoText_NoChange : PySem.W.exmOne K (.ref k_NoText) (.ref k_NoChange) = some false)
  (i_NoText_NoDeed : PySem.W.kitOne K (.ref k_NoText) (.ref k_NoDeed) = some false)
  (m_NoText_NoDeed : PySem.W.exmOne K (.ref k_NoText) (.ref k_NoDeed) = some false)
  (i_NoText_NoName : PySem.W.kitOne K (.ref k_NoText) (.ref k_NoName) = some false)
  (m_NoText_NoName : PySem.W.exmOne K (.ref k_NoText) (.ref k_NoName) = some false)
  (i_NoText_NoNumber : PySem.W.kitOne K (.ref k_NoText) (.ref k_NoNumber) = some false)
  (m_NoText_NoNumber : PySem.W.exmOne K (.ref k_NoText) (.ref k_NoNumber) = some false)
  (i_NoText_NoPlace : PySem.W.kitOne K (.ref k_NoText) (.ref k_NoPlace) = some false)
  (m_NoText_NoPlace : PySem.W.exmOne K (.ref k_NoText) (.ref k_NoPlace) = some false)
  (i_NoText_NoRow : PySem.W.kitOne K (.ref k_NoText) (.ref k_NoRow) = some false)
  (m_NoText_NoRow : PySem.W.exmOne K (.ref k_NoText) (.ref k_NoRow) = some false)
  (i_NoText_NoRule : PySem.W.kitOne K (.ref k_NoText) (.ref k_NoRule) = some false)
  (m_NoText_NoRule : PySem.W.exmOne K (.ref k_NoText) (.ref k_NoRule) = some false)
  (i_NoText_NoText : PySem.W.kitOne K (.ref k_NoText) (.ref k_NoText) = some true)
  (m_NoText_NoText : PySem.W.exmOne K (.ref k_NoText) (.ref k_NoText) = some true)
  (i_NoText_NotSteady : PySem.W.kitOne K (.ref k_NoText) (.ref k_NotSteady) = some false)
  (m_NoText_NotSteady : PySem.W.exmOne K (.ref k_NoText) (.ref k_NotSteady) = some false)
  (i_NoText_Tied : PySem.W.kitOne K (.ref k_NoText) (.ref k_Tied) = some false)
  (m_NoText_Tied : PySem.W.exmOne K (.ref k_NoText) (.ref k_Tied) = some false)
  (i_NoText_TierError : PySem.W.kitOne K (.ref k_NoText) (.ref k_TierError) = some true)
  (m_NoText_TierError : PySem.W.exmOne K (.ref k_NoText) (.ref k_TierError) = some true)
  (i_NoText_TooMany : PySem.W.kitOne K (.ref k_NoText) (.ref k_TooMany) = some false)
  (m_NoText_TooMany : PySem.W.exmOne K (.ref k_NoText) (.ref k_TooMany) = some false)
  (v_NoText : PySem.W.kitOne K (.ref k_NoText) (.type "ValueError") = some true)
  : ∃ fd : FuncData, (∀ (s : Shared) (v : Value), BindsTo s fd ⟨[v], []⟩ [("_law_script_here", v)]) ∧ ∀ base : Heap, K.In base → base.Ns mainGlobals mg → FnOk l.prog w K mg base CX0 16 fa fd ["_law_script_here"] (spLaw K) := by
 have T : Txt K mg (⟨k_Full, k_Lacking, k_NoCask, k_NoChange, k_NoDeed, k_NoName, k_NoNumber, k_NoPlace, k_NoRow, k_NoRule, k_NoText, k_NotSteady, k_Tied, k_TierError, k_TooMany⟩ : Ca) := ⟨PySem.W.mg_none_of X G z_ValueError, PySem.W.mg_none_of X G z_all, PySem.W.mg_none_of X G z_bool, PySem.W.mg_none_of X G z_enumerate, PySem.W.mg_none_of X G z_int, PySem.W.mg_none_of X G z_isinstance, PySem.W.mg_none_of X G z_len, PySem.W.mg_none_of X G z_list, PySem.W.mg_none_of X G z_range, PySem.W.mg_none_of X G z_set, PySem.W.mg_none_of X G z_str, PySem.W.mg_none_of X G z_tuple, PySem.W.mg_of X G y_Full, PySem.W.mg_of X G y_Lacking, PySem.W.mg_of X G y_NoCask, PySem.W.mg_of X G y_NoChange, PySem.W.mg_of X G y_NoDeed, PySem.W.mg_of X G y_NoName, PySem.W.mg_of X G y_NoNumber, PySem.W.mg_of X G y_NoPlace, PySem.W.mg_of X G y_NoRow, PySem.W.mg_of X G y_NoRule, PySem.W.mg_of X G y_NoText, PySem.W.mg_of X G y_NotSteady, PySem.W.mg_of X G y_Tied, PySem.W.mg_of X G y_TierError, PySem.W.mg_of X G y_TooMany, ⟨_, PySem.W.mg_of X G w_FIGURES⟩, ⟨_, PySem.W.mg_of X G w_LETTERS⟩, ⟨_, PySem.W.mg_of X G w_MOST_FIGURES⟩, ⟨_, PySem.W.mg_of X G w_MOST_PLACES⟩, ⟨_, PySem.W.mg_of X G w_MOST_ROWS⟩, ⟨_, PySem.W.mg_of X G w_MOST_TIMES⟩, ⟨_, PySem.W.mg_of X G w_MOST_WITHIN⟩, e_NoText, x_NoText, i_NoText_Full, m_NoText_Full, i_NoText_Lacking, m_NoText_Lacking, i_NoText_NoCask, m_NoText_NoCask, i_NoText_NoChange, m_NoText_NoChange, i_NoText_NoDeed, m_NoText_NoDeed, i_NoText_NoName, m_NoText_NoName, i_NoText_NoNumber, m_NoText_NoNumber, i_NoText_NoPlace, m_NoText_NoPlace, i_NoText_NoRow, m_NoText_NoRow, i_NoText_NoRule, m_NoText_NoRule, i_NoText_NoText, m_NoText_NoText, i_NoText_NotSteady, m_NoText_NotSteady, i_NoText_Tied, m_NoText_Tied, i_NoText_TierError, m_NoText_TierError, i_NoText_TooMany, m_NoText_TooMany, v_NoText⟩
 have D_is_name : DefAt K mg "is_name" s_is_name := DefAt.mk' X G a0 l0 c0 k0
 have D_is_whole : DefAt K mg "is_whole" s_is_whole := DefAt.mk' X G a1 l1 c1 k1
 have D_common_divisor : DefAt K mg "common_divisor" s_common_divisor := DefAt.mk' X G a2 l2 c2 k2
 have D_is_fraction : DefAt K mg "is_fraction" s_is_fraction := DefAt.mk' X G a3 l3 c3 k3
 have D_whole_read : DefAt K mg "whole_read" s_whole_read := DefAt.mk' X G a4 l4 c4 k4
 have D_number_read : DefAt K mg "number_read" s_number_read := DefAt.mk' X G a5 l5 c5 k5
 have D_amount_read : DefAt K mg "amount_read" s_amount_read := DefAt.mk' X G a6 l6 c6 k6
 have D_share_read : DefAt K mg "share_read" s_share_read := DefAt.mk' X G a7 l7 c7 k7
 have D_check_names : DefAt K mg "check_names" s_check_names := DefAt.mk' X G a8 l8 c8 k8
 have D_measured : DefAt K mg "measured" s_measured := DefAt.mk' X G a9 l9 c9 k9
 have D_deed_read : DefAt K mg "deed_read" s_deed_read := DefAt.mk' X G a10 l10 c10 k10
 have D_times_head : DefAt K mg "times_head" s_times_head := DefAt.mk' X G a11 l11 c11 k11
 have D_rule_head : DefAt K mg "rule_head" s_rule_head := DefAt.mk' X G a12 l12 c12 k12
 have D_end_block : DefAt K mg "end_block" s_end_block := DefAt.mk' X G a13 l13 c13 k13
 have D_read_rows : DefAt K mg "read_rows" s_read_rows := DefAt.mk' X G a14 l14 c14 k14
 have D_read : DefAt K mg "read" s_read := DefAt.mk' X G a15 l15 c15 k15
 have D_number_shown : DefAt K mg "number_shown" s_number_shown := DefAt.mk' X G a16 l16 c16 k16
 have D_row_of : DefAt K mg "row_of" s_row_of := DefAt.mk' X G a17 l17 c17 k17
 have D_rows_of : DefAt K mg "rows_of" s_rows_of := DefAt.mk' X G a18 l18 c18 k18
 have D_shown : DefAt K mg "shown" s_shown := DefAt.mk' X G a19 l19 c19 k19
 have D__law_cell_at : DefAt K mg "_law_cell_at" s__law_cell_at := DefAt.mk' X G a20 l20 c20 k20
 have D__law_mixed : DefAt K mg "_law_mixed" s__law_mixed := DefAt.mk' X G a21 l21 c21 k21
 have D__law_digits : DefAt K mg "_law_digits" s__law_digits := DefAt.mk' X G a22 l22 c22 k22
 have D__law_names : DefAt K mg "_law_names" s__law_names := DefAt.mk' X G a23 l23 c23 k23
 have D__law_lowest : DefAt K mg "_law_lowest" s__law_lowest := DefAt.mk' X G a24 l24 c24 k24
 have D__law_amount : DefAt K mg "_law_amount" s__law_amount := DefAt.mk' X G a25 l25 c25 k25
 have D__law_share : DefAt K mg "_law_share" s__law_share := DefAt.mk' X G a26 l26 c26 k26
 have D__law_number_text : DefAt K mg "_law_number_text" s__law_number_text := DefAt.mk' X G a27 l27 c27 k27
 have D__law_word : DefAt K mg "_law_word" s__law_word := DefAt.mk' X G a28 l28 c28 k28
 have D__law_plain : DefAt K mg "_law_plain" s__law_plain := DefAt.mk' X G a29 l29 c29 k29
 have D__law_deeds : DefAt K mg "_law_deeds" s__law_deeds := DefAt.mk' X G a30 l30 c30 k30
 have D__law_script : DefAt K mg "_law_script" s__law_script := DefAt.mk' X G a31 l31 c31 k31
 have D__law_told : DefAt K mg "_law_told" s__law_told := DefAt.mk' X G a32 l32 c32 k32
 have D__law_only : DefAt K mg "_law_only" s__law_only := DefAt.mk' X G a33 l33 c33 k33
 have D__law_refused : DefAt K mg "_law_refused" s__law_refused := DefAt.mk' X G a34 l34 c34 k34
 have D__law_stays : DefAt K mg "_law_stays" s__law_stays := DefAt.mk' X G a35 l35 c35 k35
 have D__law_odd : DefAt K mg "_law_odd" s__law_odd := DefAt.mk' X G a36 l36 c36 k36
 have D__law_changed : DefAt K mg "_law_changed" s__law_changed := DefAt.mk' X G a37 l37 c37 k37
 have D__law_blank : DefAt K mg "_law_blank" s__law_blank := DefAt.mk' X G a38 l38 c38 k38
 have D__law_deep : DefAt K mg "_law_deep" s__law_deep := DefAt.mk' X G a39 l39 c39 k39
 have D__law_bounds : DefAt K mg "_law_bounds" s__law_bounds := DefAt.mk' X G a40 l40 c40 k40
 have D__law_rules_alike : DefAt K mg "_law_rules_alike" s__law_rules_alike := DefAt.mk' X G a41 l41 c41 k41
 have e := hfa.symm.trans (PySem.W.mg_of X G a42)
 cases e
 refine ⟨PySem.W.fnOf "law" "law" (defArgs s_law) (defBody s_law) (defScope s_law) .none kV42 dc42 pm42 an42 cd42 ct42, fun s v => .of_eq rfl, fun base _ _ => ?_⟩
 have G_is_name := ok_is_name (P := l.prog) (w := w) (base := base) D_is_name T 
 have G_is_whole := ok_is_whole (P := l.prog) (w := w) (base := base) D_is_whole T 
 have G_common_divisor := ok_common_divisor (P := l.prog) (w := w) (base := base) D_common_divisor T 
 have G_is_fraction := ok_is_fraction (P := l.prog) (w := w) (base := base) D_is_fraction T G_is_whole G_common_divisor
 have G_whole_read := ok_whole_read (P := l.prog) (w := w) (base := base) D_whole_read T 
 have G_number_read := ok_number_read (P := l.prog) (w := w) (base := base) D_number_read T G_whole_read G_is_fraction
 have G_amount_read := ok_amount_read (P := l.prog) (w := w) (base := base) D_amount_read T G_number_read
 have G_share_read := ok_share_read (P := l.prog) (w := w) (base := base) D_share_read T G_number_read
 have G_check_names := ok_check_names (P := l.prog) (w := w) (base := base) D_check_names T G_is_name
 have G_measured := ok_measured (P := l.prog) (w := w) (base := base) D_measured T G_check_names
 have G_deed_read := ok_deed_read (P := l.prog) (w := w) (base := base) D_deed_read T G_check_names G_measured G_amount_read G_share_read
 have G_times_head := ok_times_head (P := l.prog) (w := w) (base := base) D_times_head T G_whole_read
 have G_rule_head := ok_rule_head (P := l.prog) (w := w) (base := base) D_rule_head T G_check_names
 have G_end_block := ok_end_block (P := l.prog) (w := w) (base := base) D_end_block T 
 have G_read_rows := ok_read_rows (P := l.prog) (w := w) (base := base) D_read_rows T G_rule_head G_times_head G_end_block G_deed_read
 have G_read := ok_read (P := l.prog) (w := w) (base := base) D_read T G_read_rows
 have G_number_shown := ok_number_shown (P := l.prog) (w := w) (base := base) D_number_shown T 
 have G_row_of := ok_row_of (P := l.prog) (w := w) (base := base) D_row_of T G_number_shown
 have G_rows_of := ok_rows_of (P := l.prog) (w := w) (base := base) D_rows_of T G_row_of 9
 have G_shown := ok_shown (P := l.prog) (w := w) (base := base) D_shown T G_rows_of
 have G__law_cell_at := ok__law_cell_at (P := l.prog) (w := w) (base := base) D__law_cell_at T 
 have G__law_mixed := ok__law_mixed (P := l.prog) (w := w) (base := base) D__law_mixed T 
 have G__law_digits := ok__law_digits (P := l.prog) (w := w) (base := base) D__law_digits T 
 have G__law_names := ok__law_names (P := l.prog) (w := w) (base := base) D__law_names T G__law_digits
 have G__law_lowest := ok__law_lowest (P := l.prog) (w := w) (base := base) D__law_lowest T 
 have G__law_amount := ok__law_amount (P := l.prog) (w := w) (base := base) D__law_amount T G__law_lowest
 have G__law_share := ok__law_share (P := l.prog) (w := w) (base := base) D__law_share T G__law_lowest
 have G__law_number_text := ok__law_number_text (P := l.prog) (w := w) (base := base) D__law_number_text T 
 have G__law_word := ok__law_word (P := l.prog) (w := w) (base := base) D__law_word T G__law_names
 have G__law_plain := ok__law_plain (P := l.prog) (w := w) (base := base) D__law_plain T G__law_word G__law_amount G__law_share G__law_number_text
 have G__law_deeds := ok__law_deeds (P := l.prog) (w := w) (base := base) D__law_deeds T G__law_mixed G__law_plain
 have G__law_script := ok__law_script (P := l.prog) (w := w) (base := base) D__law_script T G__law_mixed G__law_names G__law_deeds
 have G__law_told := ok__law_told (P := l.prog) (w := w) (base := base) D__law_told T G_read
 have G__law_only := ok__law_only (P := l.prog) (w := w) (base := base) D__law_only T 
 have G__law_refused := ok__law_refused (P := l.prog) (w := w) (base := base) D__law_refused T G__law_told G__law_only
 have G__law_stays := ok__law_stays (P := l.prog) (w := w) (base := base) D__law_stays T G__law_told G_shown
 have G__law_odd := ok__law_odd (P := l.prog) (w := w) (base := base) D__law_odd T 
 have G__law_changed := ok__law_changed (P := l.prog) (w := w) (base := base) D__law_changed T G__law_cell_at
 have G__law_blank := ok__law_blank (P := l.prog) (w := w) (base := base) D__law_blank T 
 have G__law_deep := ok__law_deep (P := l.prog) (w := w) (base := base) D__law_deep T G__law_refused G__law_stays
 have G__law_bounds := ok__law_bounds (P := l.prog) (w := w) (base := base) D__law_bounds T G__law_refused G__law_stays
 have G__law_rules_alike := ok__law_rules_alike (P := l.prog) (w := w) (base := base) D__law_rules_alike T G__law_names G__law_stays G__law_refused
 exact ok_law (fun_mk (st := s_law) l42 c42 k42) T G__law_script G__law_cell_at G__law_odd G__law_refused G__law_blank G__law_changed G__law_stays G__law_rules_alike G__law_mixed G__law_bounds G__law_deep
end T13
namespace PySem.W.Fast
def tw12478770775968932803 := 0
def tw4084394352569098482 := 0
def tw16686207952016423991 := 0
def tw15254692487366960151 := 0
def tw7786551728378711727 := 0
def tw9193806491001252051 := 0
def tw11637524080768205254 := 0
def tw17470549297123409845 := 0
def tw438177028809172930 := 0
def tw16155322426789532582 := 0
def tw9110071317322134425 := 0
def tw3523389677658714617 := 0
def tw9255975067557188643 := 0
def tw16244479072438465655 := 0
def tw15030265678001119818 := 0
def tw7755856267327040421 := 0
def tw11134317064735088316 := 0
def tw2597714993115383502 := 0
def tw1844902461425120991 := 0
def tw16435397615025194182 := 0
def tw12771653086507370914 := 0
def tw6973995019619127003 := 0
def tw16080374463252244273 := 0
def tw9042061914487524756 := 0
def tw3154147296566516406 := 0
def tw6172544494454179004 := 0
def tw2023628952277521606 := 0
def tw749400040831212503 := 0
def tw3537763123509024659 := 0
def tw15120280350585255972 := 0
def tw16238229963133044796 := 0
def tw15142360072582414530 := 0
def tw15017202056448682764 := 0
def tw2082615989164718589 := 0
def tw2641929573898291340 := 0
def tw6410713776422768388 := 0
def tw9007242836102599601 := 0
def tw17435187308333422994 := 0
def tw13764408069600791350 := 0
def tw1131717488910539131 := 0
def tw10346481948878422089 := 0
def tw15212371296391737969 := 0
def tw6086338459981567628 := 0
def tw17433416630633667358 := 0
def tw11793557057808321998 := 0
def tw17672027702634497122 := 0
def tw18384828469767052159 := 0
def tw9149142119537347962 := 0
def tw8040670732520069271 := 0
def tw17253801946125447836 := 0
def tw9984482433587286240 := 0
def tw14094586285288625124 := 0
def tw3935672625674289194 := 0
def tw16573680867432290597 := 0
def tw12541499800612662040 := 0
def tw14287670669202177306 := 0
def tw1437906666010778062 := 0
def tw10704792629826111695 := 0
def tw16438974993695488007 := 0
def tw4483721858924763449 := 0
def tw11748359088896729412 := 0
def tw490702430068573242 := 0
def tw5928764248490814244 := 0
def tw9750912277350857285 := 0
def tw18286109232291003289 := 0
def tw2689887915591360540 := 0
def tw1201268330883013427 := 0
def tw16836602743682136853 := 0
def tw12549748327082068522 := 0
def tw12753080205942374919 := 0
def tw15616887839835754073 := 0
def tw12026267594652364257 := 0
def tw3288419737391622069 := 0
def tw15262681779940310736 := 0
def tw10469467515453432553 := 0
def tw2302064892971733551 := 0
def tw12026207409133163756 := 0
def tw5102678707474152164 := 0
def tw16372516175864247915 := 0
def tw17117113349518971353 := 0
def tw17902388181182328125 := 0
def tw13149287934146843774 := 0
def tw802456909457752077 := 0
def tw15764228753726382432 := 0
def tw11912906949211528077 := 0
def tw17689936809292962853 := 0
def tw14063596594618299421 := 0
def tw8425354134142987638 := 0
def tw8159954856890988781 := 0
def tw1981908735692780480 := 0
def tw8184308515110619073 := 0
def tw16296069015604556944 := 0
def tw15447647882827471407 := 0
def tw4636867347142703060 := 0
def tw3138463638628044549 := 0
def tw5209367026289034865 := 0
def tw8727192043166382998 := 0
def tw13060472929873550431 := 0
def tw652126350668749849 := 0
def tw8518594458151694998 := 0
def tw11875387302210956865 := 0
def tw17836860415816762395 := 0
def tw10684887720793946983 := 0
def tw6576614464731010126 := 0
def tw9363488229700517569 := 0
def tw8690195961509941327 := 0
def tw2549697493032893660 := 0
def tw14617164346169146024 := 0
def tw14038755188293813712 := 0
def tw11723336635268846118 := 0
def tw9838896779541573522 := 0
def tw12182768151573053720 := 0
def tw5515218838724265750 := 0
def tw12454034487122852606 := 0
def tw13323463077620308282 := 0
def tw15580763774538897633 := 0
def tw3327159751011865985 := 0
def tw3296860661948129447 := 0
def tw193851539522416477 := 0
def tw12893106705836056963 := 0
def tw13253162472623102789 := 0
def tw13374909246589793274 := 0
def tw9732384168044264133 := 0
def tw17358664455296602527 := 0
def tw12793022291923462674 := 0
def tw13206972266751530278 := 0
def tw15449261694818319345 := 0
def tw4823618666372926542 := 0
def tw14241487793665475329 := 0
def tw11479964730589639450 := 0
def tw8931753392970150739 := 0
def tw17019650042257916112 := 0
def tw2074236242513466098 := 0
def tw13432347495715977686 := 0
def tw5706642413213729394 := 0
def tw5577045297261449340 := 0
def tw927228539082730335 := 0
def tw6154701856401842562 := 0
def tw10978345492002184788 := 0
def tw6745835973783328608 := 0
def tw12050190456552690706 := 0
def tw7007786234921295907 := 0
def tw7976467512361220175 := 0
def tw100960804253438493 := 0
def tw16769748153404258740 := 0
def tw18131141009274782829 := 0
def tw7160161315560213407 := 0
def tw9972989770506592743 := 0
def tw7056452405055275773 := 0
def tw18320114128094602972 := 0
def tw1457449384351981510 := 0
def tw6231125814569744549 := 0
def tw4281522569260759998 := 0
def tw14273724674124076370 := 0
def tw11934563821579467814 := 0
def tw2246403612280900618 := 0
def tw2762305916336746612 := 0
def tw18266513841996810722 := 0
def tw12191257119670863095 := 0
def tw3299977760341040118 := 0
def tw5034313961450043140 := 0
def tw13276986619360314273 := 0
def tw17509805942403093989 := 0
def tw17375337512021417640 := 0
def tw12901396345103883931 := 0
def tw3389478236750796453 := 0
def tw1377205141407037636 := 0
def tw17377693865557243170 := 0
def tw13972442612566880614 := 0
def tw1699761889302566247 := 0
def tw5898518556068541507 := 0
def tw2239158169749480990 := 0
def tw15157920834720866654 := 0
def tw14569638310709832866 := 0
def tw9638505612974780438 := 0
def tw3204993208909700693 := 0
def tw15863067956431998273 := 0
def tw9353015760252284801 := 0
def tw5790855379190162215 := 0
def tw14950641374006310640 := 0
def tw5419750292513821139 := 0
def tw9231925307102488059 := 0
def tw12720275804649376569 := 0
def tw2840220855350979727 := 0
def tw13746681733018889133 := 0
def tw11615154633656115265 := 0
def tw5117463558208084220 := 0
def tw4979792480029773235 := 0
def tw3381678689044096127 := 0
def tw4260917648179356099 := 0
def tw16977779287472338532 := 0
def tw15458955633443816747 := 0
def tw5529834482484668254 := 0
def tw4118133014453321305 := 0
def tw3463313299533845463 := 0
def tw5367700515592492071 := 0
def tw10633844594514706487 := 0
def tw6442332280032608743 := 0
def tw9010434838199210178 := 0
def tw6591507127342886873 := 0
def tw17683058712271692968 := 0
def tw13734737377834118641 := 0
def tw13427910940981051111 := 0
def tw13971367886733203931 := 0
def tw11391772085636061840 := 0
def tw8578849138980827013 := 0
def tw17153586522364187957 := 0
def tw12980039442197296304 := 0
def tw13699242529345226893 := 0
def tw3726920967979766364 := 0
def tw16711165028459067625 := 0
def tw15322409763851870075 := 0
def tw18078744537220539813 := 0
def tw17287973141321923150 := 0
def tw13136514130172492223 := 0
def tw14473098314121901705 := 0
def tw5082511772828258724 := 0
def tw8482943539094219972 := 0
def tw14119639569418771905 := 0
def tw8610939121055551498 := 0
def tw12797637040341843671 := 0
def tw7439209472405465497 := 0
def tw8487999546976213606 := 0
def tw8065362040977125175 := 0
def tw12108080847743802011 := 0
def tw1756405713190164243 := 0
def tw12545343516958814376 := 0
def tw9450956463329551660 := 0
def tw12958879212023236158 := 0
def tw7381690025658735717 := 0
def tw11864042179930863882 := 0
def tw9532000064734070837 := 0
def tw17053358264776527718 := 0
def tw6152025604667672041 := 0
def tw7812398693917651040 := 0
def tw13877133881233223945 := 0
def tw8280871546750629425 := 0
def tw18429065580931520704 := 0
def tw102706102755998129 := 0
def tw13988238624957222491 := 0
def tw1884509944552314116 := 0
def tw12658831312972863936 := 0
def tw11193556159375709750 := 0
def tw18252855485933712445 := 0
def tw14367712066101205588 := 0
def tw8532860301091555911 := 0
def tw12713735351602492174 := 0
def tw4582177526083693560 := 0
def tw1954236572143992833 := 0
def tw3819767763694689616 := 0
def tw7552969526483306924 := 0
def tw10916349427408208136 := 0
def tw4845078129861869883 := 0
def tw14412271028638067669 := 0
def tw13878854161067241860 := 0
def tw3716732283179716451 := 0
def tw9961805259036892295 := 0
def tw17313696045094101056 := 0
def tw13031706862720265842 := 0
def tw17971278039409968869 := 0
def tw14786050529694431445 := 0
def tw1126850383360888116 := 0
def tw14051591473188117221 := 0
def tw2018908171377732218 := 0
def tw13348177632924548478 := 0
def tw1928613683745871096 := 0
def tw2110303808959635727 := 0
def tw5830144899421781521 := 0
def tw17570779620743106882 := 0
def tw6143505771516005524 := 0
def tw12331921264327262910 := 0
def tw13209384963054494534 := 0
def tw6409748917827823132 := 0
def tw13511945858379130971 := 0
def tw996446994486482275 := 0
def tw8036898098605544578 := 0
def tw4140730402074764207 := 0
def tw18397303013912394390 := 0
def tw16474793990789460163 := 0
def tw18239503368192575777 := 0
def tw17047001992217018159 := 0
def tw14742146454743811513 := 0
def tw17027417797888891849 := 0
def tw12060904701958350536 := 0
def tw3188428723512697967 := 0
def tw12352448646524041879 := 0
def tw4405091003042923331 := 0
def tw18310483331413512410 := 0
def tw11780393702573697890 := 0
def tw13430577910699817319 := 0
def tw3805613418011739297 := 0
def tw1090802969528065551 := 0
def tw18041562496040580453 := 0
def tw6911253776346428807 := 0
def tw7909779503567867049 := 0
def tw2543669055624606810 := 0
def tw8458427323923978786 := 0
def tw9758511228424982588 := 0
def tw13373049714218184657 := 0
def tw6884864897709313298 := 0
def tw6700637367219137140 := 0
def tw3269411261863349244 := 0
def tw11557603941444017646 := 0
def tw2049307137802013167 := 0
def tw12421711812926686048 := 0
def tw3781508407965909445 := 0
def tw8597275612761993259 := 0
def tw490293142688210631 := 0
def tw13662348034377470798 := 0
def tw4492882160576587007 := 0
def tw4245686021015651417 := 0
def tw3902519372727322762 := 0
def tw11907664805025724992 := 0
def tw17445764749101633324 := 0
def tw10645979134559898167 := 0
def tw2348760873506672611 := 0
def tw10909665430755931137 := 0
def tw5154801240732462258 := 0
def tw13475209995790249830 := 0
def tw9130459905411634584 := 0
def tw14064620343332656336 := 0
def tw8724977555176842750 := 0
def tw13943777115130282999 := 0
def tw2463354263476207346 := 0
def tw8210010119692689580 := 0
def tw1630910185956285270 := 0
def tw3102009782739481064 := 0
def tw7910627401536610120 := 0
def tw5847624443181747135 := 0
def tw665023441971972211 := 0
def tw9936658411017061478 := 0
def tw10368375157354255202 := 0
def tw6932726755350654025 := 0
def tw7106247319902048302 := 0
def tw257472151896991537 := 0
def tw9763433891622966228 := 0
def tw4124903582925045965 := 0
def tw15158859760203645870 := 0
def tw18055973951143009558 := 0
def tw13758613905064871238 := 0
def tw4277662587707519753 := 0
def tw3786875735849129190 := 0
def tw5673529654876150698 := 0
def tw8339746089349890540 := 0
def tw6721879999319252694 := 0
def tw15870757324476578135 := 0
def tw10273551909914468596 := 0
def tw7201031879251132155 := 0
def tw4857445741116921024 := 0
def tw276385759025472652 := 0
def tw16716831074666410128 := 0
def tw16210636426104604419 := 0
def tw16168406738235764850 := 0
def tw13549230239154297759 := 0
def tw3670860243125852007 := 0
def tw15108772661562969062 := 0
def tw1431099833949889133 := 0
def tw12587315148061327160 := 0
def tw17382468565762079527 := 0
def tw9796194293789648417 := 0
def tw4836469467792820250 := 0
def tw2286631007845697496 := 0
def tw16754730856265464993 := 0
def tw12238534042110591576 := 0
def tw485128165212197968 := 0
def tw8014598104091251537 := 0
def tw14814044824669092778 := 0
def tw1420481607944772540 := 0
def tw12358802280295478895 := 0
def tw3836797587272995658 := 0
def tw13773608007281116673 := 0
def tw4249698628357153297 := 0
def tw859210667989354136 := 0
def tw4021525553404435247 := 0
def tw1666501885684651110 := 0
def tw14057801260453425865 := 0
def tw11824674360832435848 := 0
def tw15941479707861333819 := 0
def tw12120597419659271199 := 0
def tw17495989877262136540 := 0
def tw2343360439192555827 := 0
def tw16746511810560642956 := 0
def tw15236736494456942798 := 0
def tw14766763784838396732 := 0
def tw9059194219112587005 := 0
def tw15006054099515603217 := 0
def tw9700235473782834055 := 0
def tw16467330641382110144 := 0
def tw5906995631231568155 := 0
def tw10435523094763638184 := 0
def tw12333757027098364498 := 0
def tw9435195703306999966 := 0
def tw17050027640586763612 := 0
def tw17603229906850363471 := 0
def tw9158715544919225178 := 0
def tw4120916538014356589 := 0
def tw5433020463951397708 := 0
def tw18299472553838289304 := 0
def tw7135013271750419463 := 0
def tw7481146778435009458 := 0
def tw12030700701045151710 := 0
def tw14941871063322917341 := 0
def tw11833466078867529259 := 0
def tw16236820206601829569 := 0
def tw1030289810282569096 := 0
def tw12267765034221418858 := 0
def tw13600241081024169235 := 0
def tw13244280291470829223 := 0
def tw394927345253166992 := 0
def tw467999686794127055 := 0
def tw11694079235401130119 := 0
def tw15533059092545314909 := 0
def tw9870751232165717240 := 0
def tw1085574112849846965 := 0
def tw10687702757480623397 := 0
def tw3992159809554258715 := 0
def tw5501399841560819227 := 0
def tw5899739654063989068 := 0
def tw5510930627872226769 := 0
def tw10809373824411820981 := 0
def tw5323907832280171887 := 0
def tw210711976917367698 := 0
def tw8584435020517576760 := 0
def tw2114403425784468176 := 0
def tw17541763909673911136 := 0
def tw4371867487047096678 := 0
def tw10922558294725362165 := 0
def tw7488410246546180399 := 0
def tw13010562193022881114 := 0
def tw12285511146417032999 := 0
def tw16143506261786627352 := 0
def tw3742033843783743495 := 0
def tw5964886157690136711 := 0
def tw3906114877200563095 := 0
def tw13396897210550420654 := 0
def tw2925508621792140838 := 0
def tw15678509776840682127 := 0
def tw5058092874329027913 := 0
def tw8224332552861031284 := 0
def tw2763411483626750796 := 0
def tw14727509473932202678 := 0
def tw10502635564227148066 := 0
def tw1940076860212487444 := 0
def tw6337743517605802838 := 0
def tw14614193762530455104 := 0
def tw13912172738077941374 := 0
def tw6074199804919018491 := 0
def tw12660092245743037489 := 0
def tw14946593541942254890 := 0
def tw6027459312094705705 := 0
def tw16913484540650020247 := 0
def tw14375630376088633526 := 0
def tw6508881682539367089 := 0
def tw13027636478463549134 := 0
def tw7561892924905172908 := 0
def tw1751345969590601857 := 0
def tw14985540091362630234 := 0
def tw18009238909152162741 := 0
def tw2246048106758202269 := 0
def tw8065563994894302378 := 0
def tw7582253157035908271 := 0
def tw8746798117227849586 := 0
def tw18394870198019621106 := 0
def tw3947425799662567223 := 0
def tw2376458057458583834 := 0
def tw2070612982043668991 := 0
def tw2523325984224586706 := 0
def tw16183153696396610297 := 0
def tw15075903435273063067 := 0
def tw15339997113333990992 := 0
def tw13020726587192447836 := 0
def tw7109019628634772863 := 0
def tw16181894644855704761 := 0
def tw16340154580697284206 := 0
def tw14108236912420242011 := 0
def tw13378810431833092253 := 0
def tw11162477771893348913 := 0
def tw17337046217427692850 := 0
def tw5073018090916375088 := 0
def tw13517333877355076897 := 0
def tw3535193840969537758 := 0
def tw6061640498646318464 := 0
def tw16506440034148844689 := 0
def tw11321842949306332354 := 0
def tw534286571188053949 := 0
def tw14513121145583110434 := 0
def tw7343284987953134789 := 0
def tw1206889216077636523 := 0
def tw7581383816827239195 := 0
def tw10517558062999599310 := 0
def tw3405318125772080900 := 0
def tw11534914855433402684 := 0
def tw2237148584399306328 := 0
def tw10225652338799442015 := 0
def tw15614689531161203775 := 0
def tw8556456770725483952 := 0
def tw10182006988547175286 := 0
def tw17458546377427250212 := 0
def tw9445677627105204607 := 0
def tw12544390828287842718 := 0
def tw2273562750809267443 := 0
def tw4935886790095953308 := 0
def tw3758198986795299099 := 0
def tw5143075831988930603 := 0
def tw14014237324530441391 := 0
def tw16395091085028679279 := 0
def tw1588247998851311335 := 0
def tw17463149263059291758 := 0
end PySem.W.Fast
open PySem PySem.W PyProof.Rows
set_option maxRecDepth 100000 in
set_option maxHeartbeats 0 in
theorem PySem.Challenge.cw_tiercask_k13_no_script_holds : PySem.Challenge.rw_tiercask_k13_no_script.Holds := by
 w_on; o_law; k_head; (case hw => w_witness2)
 k_fill
 refine L2.walk_ofK (l := PySem.Challenge.rw_tiercask_k13_no_script) (n := 63) (k := 16) (x := "_law_script_here") (CX := L2.CX0) (sp := Tc.spLaw) rfl (by decide) rfl ⟨rfl, by decide, by decide⟩ (fun w h Y => PySem.W.kIn_of Y) ?F ?S ?C
 case F =>
  intro w mg fa h KX G hmg
  refine' T13.all_mk KX G hmg ?a0 ?l0 ?c0 ?k0 ?a1 ?l1 ?c1 ?k1 ?a2 ?l2 ?c2 ?k2 ?a3 ?l3 ?c3 ?k3 ?a4 ?l4 ?c4 ?k4 ?a5 ?l5 ?c5 ?k5 ?a6 ?l6 ?c6 ?k6 ?a7 ?l7 ?c7 ?k7 ?a8 ?l8 ?c8 ?k8 ?a9 ?l9 ?c9 ?k9 ?a10 ?l10 ?c10 ?k10 ?a11 ?l11 ?c11 ?k11 ?a12 ?l12 ?c12 ?k12 ?a13 ?l13 ?c13 ?k13 ?a14 ?l14 ?c14 ?k14 ?a15 ?l15 ?c15 ?k15 ?a16 ?l16 ?c16 ?k16 ?a17 ?l17 ?c17 ?k17 ?a18 ?l18 ?c18 ?k18 ?a19 ?l19 ?c19 ?k19 ?a20 ?l20 ?c20 ?k20 ?a21 ?l21 ?c21 ?k21 ?a22 ?l22 ?c22 ?k22 ?a23 ?l23 ?c23 ?k23 ?a24 ?l24 ?c24 ?k24 ?a25 ?l25 ?c25 ?k25 ?a26 ?l26 ?c26 ?k26 ?a27 ?l27 ?c27 ?k27 ?a28 ?l28 ?c28 ?k28 ?a29 ?l29 ?c29 ?k29 ?a30 ?l30 ?c30 ?k30 ?a31 ?l31 ?c31 ?k31 ?a32 ?l32 ?c32 ?k32 ?a33 ?l33 ?c33 ?k33 ?a34 ?l34 ?c34 ?k34 ?a35 ?l35 ?c35 ?k35 ?a36 ?l36 ?c36 ?k36 ?a37 ?l37 ?c37 ?k37 ?a38 ?l38 ?c38 ?k38 ?a39 ?l39 ?c39 ?k39 ?a40 ?l40 ?c40 ?k40 ?a41 ?l41 ?c41 ?k41 ?a42 ?l42 ?c42 ?k42 ?z_ValueError ?z_all ?z_bool ?z_enumerate ?z_int ?z_isinstance ?z_len ?z_list ?z_range ?z_set ?z_str ?z_tuple ?w_FIGURES ?w_LETTERS ?w_MOST_FIGURES ?w_MOST_PLACES ?w_MOST_ROWS ?w_MOST_TIMES ?w_MOST_WITHIN ?y_Full ?y_Lacking ?y_NoCask ?y_NoChange ?y_NoDeed ?y_NoName ?y_NoNumber ?y_NoPlace ?y_NoRow ?y_NoRule ?y_NoText ?y_NotSteady ?y_Tied ?y_TierError ?y_TooMany ?e_NoText ?x_NoText ?i_NoText_Full ?m_NoText_Full ?i_NoText_Lacking ?m_NoText_Lacking ?i_NoText_NoCask ?m_NoText_NoCask ?i_NoText_NoChange ?m_NoText_NoChange ?i_NoText_NoDeed ?m_NoText_NoDeed ?i_NoText_NoName ?m_NoText_NoName ?i_NoText_NoNumber ?m_NoText_NoNumber ?i_NoText_NoPlace ?m_NoText_NoPlace ?i_NoText_NoRow ?m_NoText_NoRow ?i_NoText_NoRule ?m_NoText_NoRule ?i_NoText_NoText ?m_NoText_NoText ?i_NoText_NotSteady ?m_NoText_NotSteady ?i_NoText_Tied ?m_NoText_Tied ?i_NoText_TierError ?m_NoText_TierError ?i_NoText_TooMany ?m_NoText_TooMany ?v_NoText
  (case a0 => k_is); (case l0 => k_is); (case c0 => k_is); (case k0 => k_is); (case a1 => k_is); (case l1 => k_is); (case c1 => k_is); (case k1 => k_is)
  (case a2 => k_is); (case l2 => k_is); (case c2 => k_is); (case k2 => k_is); (case a3 => k_is); (case l3 => k_is); (case c3 => k_is); (case k3 => k_is)
  (case a4 => k_is); (case l4 => k_is); (case c4 => k_is); (case k4 => k_is); (case a5 => k_is); (case l5 => k_is); (case c5 => k_is); (case k5 => k_is)
  (case a6 => k_is); (case l6 => k_is); (case c6 => k_is); (case k6 => k_is); (case a7 => k_is); (case l7 => k_is); (case c7 => k_is); (case k7 => k_is)
  (case a8 => k_is); (case l8 => k_is); (case c8 => k_is); (case k8 => k_is); (case a9 => k_is); (case l9 => k_is); (case c9 => k_is); (case k9 => k_is)
  (case a10 => k_is); (case l10 => k_is); (case c10 => k_is); (case k10 => k_is); (case a11 => k_is); (case l11 => k_is); (case c11 => k_is); (case k11 => k_is)
  (case a12 => k_is); (case l12 => k_is); (case c12 => k_is); (case k12 => k_is); (case a13 => k_is); (case l13 => k_is); (case c13 => k_is); (case k13 => k_is)
  (case a14 => k_is); (case l14 => k_is); (case c14 => k_is); (case k14 => k_is); (case a15 => k_is); (case l15 => k_is); (case c15 => k_is); (case k15 => k_is)
  (case a16 => k_is); (case l16 => k_is); (case c16 => k_is); (case k16 => k_is); (case a17 => k_is); (case l17 => k_is); (case c17 => k_is); (case k17 => k_is)
  (case a18 => k_is); (case l18 => k_is); (case c18 => k_is); (case k18 => k_is); (case a19 => k_is); (case l19 => k_is); (case c19 => k_is); (case k19 => k_is)
  (case a20 => k_is); (case l20 => k_is); (case c20 => k_is); (case k20 => k_is); (case a21 => k_is); (case l21 => k_is); (case c21 => k_is); (case k21 => k_is)
  (case a22 => k_is); (case l22 => k_is); (case c22 => k_is); (case k22 => k_is); (case a23 => k_is); (case l23 => k_is); (case c23 => k_is); (case k23 => k_is)
  (case a24 => k_is); (case l24 => k_is); (case c24 => k_is); (case k24 => k_is); (case a25 => k_is); (case l25 => k_is); (case c25 => k_is); (case k25 => k_is)
  (case a26 => k_is); (case l26 => k_is); (case c26 => k_is); (case k26 => k_is); (case a27 => k_is); (case l27 => k_is); (case c27 => k_is); (case k27 => k_is)
  (case a28 => k_is); (case l28 => k_is); (case c28 => k_is); (case k28 => k_is); (case a29 => k_is); (case l29 => k_is); (case c29 => k_is); (case k29 => k_is)
  (case a30 => k_is); (case l30 => k_is); (case c30 => k_is); (case k30 => k_is); (case a31 => k_is); (case l31 => k_is); (case c31 => k_is); (case k31 => k_is)
  (case a32 => k_is); (case l32 => k_is); (case c32 => k_is); (case k32 => k_is); (case a33 => k_is); (case l33 => k_is); (case c33 => k_is); (case k33 => k_is)
  (case a34 => k_is); (case l34 => k_is); (case c34 => k_is); (case k34 => k_is); (case a35 => k_is); (case l35 => k_is); (case c35 => k_is); (case k35 => k_is)
  (case a36 => k_is); (case l36 => k_is); (case c36 => k_is); (case k36 => k_is); (case a37 => k_is); (case l37 => k_is); (case c37 => k_is); (case k37 => k_is)
  (case a38 => k_is); (case l38 => k_is); (case c38 => k_is); (case k38 => k_is); (case a39 => k_is); (case l39 => k_is); (case c39 => k_is); (case k39 => k_is)
  (case a40 => k_is); (case l40 => k_is); (case c40 => k_is); (case k40 => k_is); (case a41 => k_is); (case l41 => k_is); (case c41 => k_is); (case k41 => k_is)
  (case a42 => k_is); (case l42 => k_is); (case c42 => k_is); (case k42 => k_is); (case z_ValueError => k_is); (case z_all => k_is); (case z_bool => k_is); (case z_enumerate => k_is)
  (case z_int => k_is); (case z_isinstance => k_is); (case z_len => k_is); (case z_list => k_is); (case z_range => k_is); (case z_set => k_is); (case z_str => k_is); (case z_tuple => k_is)
  (case w_FIGURES => k_is); (case w_LETTERS => k_is); (case w_MOST_FIGURES => k_is); (case w_MOST_PLACES => k_is); (case w_MOST_ROWS => k_is); (case w_MOST_TIMES => k_is); (case w_MOST_WITHIN => k_is); (case y_Full => k_is)
  (case y_Lacking => k_is); (case y_NoCask => k_is); (case y_NoChange => k_is); (case y_NoDeed => k_is); (case y_NoName => k_is); (case y_NoNumber => k_is); (case y_NoPlace => k_is); (case y_NoRow => k_is)
  (case y_NoRule => k_is); (case y_NoText => k_is); (case y_NotSteady => k_is); (case y_Tied => k_is); (case y_TierError => k_is); (case y_TooMany => k_is)
  (case e_NoText => k_exc)
  (case x_NoText => refine ⟨?_, ?_, ?_, ?_, ?_⟩ <;> k_is)
  (case i_NoText_Full => kit_is)
  (case m_NoText_Full => kts_exm)
  (case i_NoText_Lacking => kit_is)
  (case m_NoText_Lacking => kts_exm)
  (case i_NoText_NoCask => kit_is)
  (case m_NoText_NoCask => kts_exm)
  (case i_NoText_NoChange => kit_is)
  (case m_NoText_NoChange => kts_exm)
  (case i_NoText_NoDeed => kit_is)
  (case m_NoText_NoDeed => kts_exm)
  (case i_NoText_NoName => kit_is)
  (case m_NoText_NoName => kts_exm)
  (case i_NoText_NoNumber => kit_is)
  (case m_NoText_NoNumber => kts_exm)
  (case i_NoText_NoPlace => kit_is)
  (case m_NoText_NoPlace => kts_exm)
  (case i_NoText_NoRow => kit_is)
  (case m_NoText_NoRow => kts_exm)
  (case i_NoText_NoRule => kit_is)
  (case m_NoText_NoRule => kts_exm)
  (case i_NoText_NoText => kit_is)
  (case m_NoText_NoText => kts_exm)
  (case i_NoText_NotSteady => kit_is)
  (case m_NoText_NotSteady => kts_exm)
  (case i_NoText_Tied => kit_is)
  (case m_NoText_Tied => kts_exm)
  (case i_NoText_TierError => kit_is)
  (case m_NoText_TierError => kts_exm)
  (case i_NoText_TooMany => kit_is)
  (case m_NoText_TooMany => kts_exm)
  (case v_NoText => kit_is)
 case S => exact fun K H a ns hl hO hS => ⟨a, ns, rfl, hS, hl, fun _ => rfl⟩
 case C => exact fun H s e s' z => z

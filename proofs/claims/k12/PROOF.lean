import PyProof.Rows.All
import Wide.All
import OpenK.AllK
import Wide.FinOn
import Lean
import PyProof.EqAt
import PyProof.EqKinds
import PyProof.TupleCall
import PySem.Challenge.RW_tiercask_k12_whole_written_and_read
set_option Elab.async false
set_option linter.all false
set_option maxRecDepth 100000
set_option genSizeOf false
set_option maxHeartbeats 4000000
set_option exponentiation.threshold 100000
/-! THE HAND LAYER, for ints, bools, texts, own classes, LISTS and tuples (index, slices, in, append, pop ..), calls, loops. Paste it whole ahead of your own text; what your proof does not reach may be deleted. -/
namespace L2
open PySem PySem.Spec PyProof.Rows

noncomputable abbrev Key := Sum Int Str
noncomputable def keyIs : Key → Value → Bool
  | .inl k, v => Value.isInt k v
  | .inr x, v => Value.isStrOf x v
noncomputable def keyH (w : World) : Key → Int
  | .inl k => hashInt k
  | .inr x => hashStr w x
theorem keyIs_shape : ∀ {k : Key} {v : Value}, keyIs k v = true → (∃ i t, k = Sum.inl i ∧ v = Value.int i t) ∨ (∃ x t, k = Sum.inr x ∧ v = Value.str x t)
  | .inl i, v, h => by
    obtain ⟨t, e⟩ := Value.isInt_shape (k := i) (v := v) h
    exact .inl ⟨i, t, rfl, e⟩
  | .inr x, v, h => by
    obtain ⟨t, e⟩ := Value.isStrOf_shape (x := x) (v := v) h
    exact .inr ⟨x, t, rfl, e⟩
theorem keyIs_str (x : Str) (t : Tok) : keyIs (.inr x) (.str x t) = true := by simp [keyIs, Value.isStrOf]
theorem key_ll (a b : Int) : decide ((Sum.inl a : Key) = Sum.inl b) = (a == b) := by
  by_cases e : a = b
  · subst e; simp
  · have h : ¬ (Sum.inl a : Key) = Sum.inl b := fun q => e (Sum.inl.inj q)
    rw [decide_eq_false h]
    exact (beq_eq_false_iff_ne.mpr e).symm
theorem key_rr (a b : Str) : decide ((Sum.inr a : Key) = Sum.inr b) = decide (a = b) := by
  by_cases e : a = b
  · subst e; simp
  · have h : ¬ (Sum.inr a : Key) = Sum.inr b := fun q => e (Sum.inr.inj q)
    rw [decide_eq_false h, decide_eq_false e]
theorem key_lr (a : Int) (b : Str) : decide ((Sum.inl a : Key) = Sum.inr b) = false := decide_eq_false (fun q => nomatch q)
theorem key_rl (a : Str) (b : Int) : decide ((Sum.inr a : Key) = Sum.inl b) = false := decide_eq_false (fun q => nomatch q)

noncomputable def mixKind (prog : Program) (w : World) : PySem.KeyKind prog w Key where
  is := keyIs
  hash := keyH w
  inj := fun v a b ha hb => by
    rcases keyIs_shape ha with ⟨i, t, rfl, rfl⟩ | ⟨x, t, rfl, rfl⟩
    · rcases keyIs_shape hb with ⟨j, u, rfl, e⟩ | ⟨y, u, rfl, e⟩
      · injection e with e1 _; rw [e1]
      · exact nomatch e
    · rcases keyIs_shape hb with ⟨j, u, rfl, e⟩ | ⟨y, u, rfl, e⟩
      · exact nomatch e
      · injection e with e1 _; rw [e1]
  byValue := fun k v h => by
    rcases keyIs_shape h with ⟨i, t, rfl, rfl⟩ | ⟨x, t, rfl, rfl⟩ <;> rfl
  pyHash := fun hv h => by
    rcases keyIs_shape hv with ⟨i, t, rfl, rfl⟩ | ⟨x, t, rfl, rfl⟩
    · exact wpAny_pyHash_int h
    · exact wpAny_pyHash_str h
  eqBool := fun hu hv h => by
    rcases keyIs_shape hu with ⟨i, t, rfl, rfl⟩ | ⟨x, t, rfl, rfl⟩
    · rcases keyIs_shape hv with ⟨j, u, rfl, rfl⟩ | ⟨y, u, rfl, rfl⟩
      · rw [key_ll] at h; exact wpAny_eqBool_int h
      · rw [key_lr] at h; exact SeqAt.EqAt.int_str i t y u _ _ _ _ h
    · rcases keyIs_shape hv with ⟨j, u, rfl, rfl⟩ | ⟨y, u, rfl, rfl⟩
      · rw [key_rl] at h; exact SeqAt.EqAt.str_int x t j u _ _ _ _ h
      · rw [key_rr] at h; exact wpAny_eqBool_str h
  «strs» := fun k x t v h => by
    rcases keyIs_shape h with ⟨i, u, rfl, e⟩ | ⟨y, u, rfl, e⟩
    · exact nomatch e
    · injection e with e1 _
      subst e1
      cases v <;> rfl

end L2

namespace L2
open PySem PySem.Spec PyProof.Rows

inductive V where
  | non | bl (b : Bool) | int (i : Int) | str (x : Str) | byt (b : Array UInt8) | flt (b : UInt64) | ref (a : Addr) | ty (n : String)
  deriving DecidableEq

noncomputable def RelV : V → Value → Prop
  | .non, u => u = Value.none
  | .bl b, u => u = Value.bool b
  | .int i, u => ∃ t, u = Value.int i t
  | .str x, u => ∃ t, u = Value.str x t
  | .byt b, u => ∃ t, u = Value.bytes b t
  | .flt b, u => ∃ t, u = Value.float b t
  | .ref a, u => u = Value.ref a
  | .ty n, u => u = Value.type n

noncomputable abbrev Vals : List V → List Value → Prop := Paired RelV
theorem Vals.length {xs : List V} {us : List Value} (r : Vals xs us) : xs.length = us.length := Paired.length r
theorem Vals.get : ∀ {xs : List V} {us : List Value} {i : Nat} {x : V}, Vals xs us → xs[i]? = some x → ∃ u, us[i]? = some u ∧ RelV x u
  | _, _, _, _, .nil, e => by simp at e
  | _, _, 0, _, .cons r _, e => by simp at e; subst e; exact ⟨_, rfl, r⟩
  | _, _, i + 1, x, .cons _ t, e => by
    obtain ⟨u, h1, h2⟩ := Vals.get (i := i) (x := x) t (by simpa using e)
    exact ⟨u, by simpa using h1, h2⟩
theorem Vals.set {x : V} {u : Value} (r : RelV x u) : ∀ {xs : List V} {us : List Value} (i : Nat), Vals xs us → Vals (xs.set i x) (us.set i u)
  | _, _, _, .nil => .nil
  | _, _, 0, .cons _ t => .cons r t
  | _, _, i + 1, .cons q t => .cons q (Vals.set r i t)
theorem Vals.append : ∀ {xs ys : List V} {us ws : List Value}, Vals xs us → Vals ys ws → Vals (xs ++ ys) (us ++ ws)
  | _, _, _, _, .nil, s => s
  | _, _, _, _, .cons r t, s => .cons r (Vals.append t s)
theorem Vals.take : ∀ {xs : List V} {us : List Value} (n : Nat), Vals xs us → Vals (xs.take n) (us.take n)
  | _, _, 0, _ => .nil
  | _, _, _ + 1, .nil => .nil
  | _, _, n + 1, .cons r t => .cons r (Vals.take n t)
theorem Vals.drop : ∀ {xs : List V} {us : List Value} (n : Nat), Vals xs us → Vals (xs.drop n) (us.drop n)
  | _, _, 0, r => r
  | _, _, _ + 1, .nil => .nil
  | _, _, n + 1, .cons _ t => Vals.drop n t
noncomputable def RelO : Option V → Option Value → Prop
  | some v, some u => RelV v u
  | none, none => True
  | _, _ => False
noncomputable def KV {κ : Type} : List (κ × V) → List (κ × Value) → Prop := Paired fun (p : κ × V) (q : κ × Value) => p.1 = q.1 ∧ RelV p.2 q.2

noncomputable def kV : Key → V
  | .inl i => .int i
  | .inr x => .str x

inductive HO where
  | lst (xs : List V)
  | tup (xs : List V)
  | dK (kvs : List (Key × V)) | dT (kvs : List (List Key × V))
  | set (S : Int → Bool) (n : Nat)
  | ins (C dx : Addr) (fs : List (Str × V))
  | own (x : Addr)
  | xd (fs : List (Str × V))
  | met (f x : Addr)
  | rng (lo hi : Int)
  | frz (o : Obj) (u : HO)
  | tbl (ps : Array Value)
  | ext (φ : Heap → Prop)

noncomputable abbrev Hp := Addr → Option HO
noncomputable def upd (H : Hp) (a : Addr) (o : HO) : Hp := fun b => if b = a then some o else H b
theorem upd_same {H : Hp} {a : Addr} {o : HO} : upd H a o a = some o := by unfold upd; rw [if_pos rfl]
theorem upd_ne {H : Hp} {a b : Addr} {o : HO} (h : b ≠ a) : upd H a o b = H b := by unfold upd; rw [if_neg h]
theorem ne_of_none {H : Hp} {a b : Addr} {o : HO} (h : H a = some o) (h' : H b = none) : a ≠ b := by
  intro e; subst e; rw [h] at h'; cases h'

section
variable (P : Program) (w : World)
noncomputable def ObjOk (H : Hp) (h : Heap) (a : Addr) : HO → Prop
  | .lst xs => xs.length ≤ sizeLine ∧ ∃ (its : List Value) (n : Nat), Vals xs its ∧ h.get? a = some { cls := .type "list", data := .seq its.toArray n }
  | .tup xs => xs.length ≤ sizeLine ∧ ∃ its : List Value, Vals xs its ∧ IsTup h a its.toArray
  | .dK kvs => kvs.length ≤ sizeLine ∧ (a == sysModules) = false ∧ ∃ vs, KV kvs vs ∧ h.DictOf (mixKind P w) a vs
  | .dT kvs => kvs.length ≤ sizeLine ∧ (a == sysModules) = false ∧ ∃ xs : List (List Key × Addr × Value),
      Paired (fun (p : List Key × V) (q : List Key × Addr × Value) => p.1 = q.1 ∧ H q.2.1 = some (.tup (p.1.map kV)) ∧ RelV p.2 q.2.2) kvs xs ∧
      ∃ o es ep, h.get? a = some o ∧ o.ExactDict ∧ o.data = .dict es ep ∧ es.toList = xs.map (entryOfKey (tupleKind (mixKind P w))) ∧ (xs.map (·.1)).Nodup
  | .set S n => h.SetOf (intKind P w) a S n
  | .ins C dx fs => H dx = some (.own a) ∧ fs.length ≤ 1000 ∧ dx ≠ a ∧ h.get? a = some (PySem.W.instObj C dx) ∧
      ∃ mA, h.Ns1 dx mA ∧ (∀ f, RelO (fs.lookup f) (mA f)) ∧ PySem.Within mA (fs.map (·.1))
  | .own _ => ∃ o, h.get? a = some o
  | .xd fs => ∃ mA, h.Ns1 a mA ∧ ∀ f, RelO (fs.lookup f) (mA f)
  | .rng lo hi => ∃ t u v, h.get? a = some { cls := .type "range", data := .fields #[.int lo t, .int hi u, .int 1 v] }
  | .frz o u => h.get? a = some o ∧ ObjOk H h a u
  | .tbl ps => h.get? a = some { cls := .none, data := .fields ps }
  | .met f x => h.get? a = some (PySem.W.methodObj (.ref f) (.ref x))
  | .ext φ => φ h ∧ (∃ o, h.get? a = some o) ∧ ∀ h1 h2 : Heap, φ h1 → (∀ o, h1.get? a = some o → h2.get? a = some o) → φ h2
noncomputable def HOk (H : Hp) (h : Heap) : Prop := ∀ a o, H a = some o → ObjOk P w H h a o
end

section
variable {P : Program} {w : World} {H H' : Hp} {h h' : Heap} {a : Addr} {o : HO}
theorem ObjOk.lt (x : ObjOk P w H h a o) : a < h.objs.size := by
  cases o with
  | lst xs => obtain ⟨_, _, _, _, e⟩ := x; exact Heap.lt_size e
  | tup xs => obtain ⟨_, _, _, p⟩ := x; exact p.lt
  | dK kvs => obtain ⟨_, _, _, _, o, _, _, e, _⟩ := x; exact Heap.lt_size e
  | dT kvs => obtain ⟨_, _, _, _, o, _, _, e, _⟩ := x; exact Heap.lt_size e
  | set S n => obtain ⟨o, _, _, _, e, _⟩ := x; exact Heap.lt_size e
  | ins C dx fs => obtain ⟨_, _, _, e, _⟩ := x; exact Heap.lt_size e
  | own y => obtain ⟨_, e⟩ := x; exact Heap.lt_size e
  | xd fs => obtain ⟨_, ⟨_, _, _, e, _⟩, _⟩ := x; exact Heap.lt_size e
  | rng lo hi => obtain ⟨_, _, _, e⟩ := x; exact Heap.lt_size e
  | frz ob u => obtain ⟨e, _⟩ := x; exact Heap.lt_size e
  | tbl ps => exact Heap.lt_size (show h.get? a = some _ from x)
  | met f y => exact Heap.lt_size (show h.get? a = some _ from x)
  | ext φ => obtain ⟨_, ⟨_, e⟩, _⟩ := x; exact Heap.lt_size e
theorem Paired.mapP {α β : Type} {F G : α → β → Prop} : ∀ {l₁ : List α} {l₂ : List β}, Paired F l₁ l₂ → (∀ a b, F a b → G a b) → Paired G l₁ l₂
  | _, _, .nil, _ => .nil
  | _, _, .cons r t, f => .cons (f _ _ r) (Paired.mapP t f)
theorem ObjOk.stay (x : ObjOk P w H h a o) (k : ∀ b u, (b = a ∨ H b = some (.own a)) → h.get? b = some u → h'.get? b = some u)
    (ho : ∀ b, H b = some (.own a) → H' b = some (.own a)) (ht : ∀ b xs, H b = some (.tup xs) → H' b = some (.tup xs)) : ObjOk P w H' h' a o := by
  induction o with
  | lst xs => obtain ⟨z, its, n, r, e⟩ := x; exact ⟨z, its, n, r, k _ _ (.inl rfl) e⟩
  | tup xs => obtain ⟨z, its, r, ob, e, c⟩ := x; exact ⟨z, its, r, ob, k _ _ (.inl rfl) e, c⟩
  | dK kvs => obtain ⟨z, y, vs, r, ob, es, ep, e, c⟩ := x; exact ⟨z, y, vs, r, ob, es, ep, k _ _ (.inl rfl) e, c⟩
  | dT kvs =>
    obtain ⟨z, y, xs, r, ob, es, ep, e, c⟩ := x
    exact ⟨z, y, xs, Paired.mapP r fun p q z => ⟨z.1, ht _ _ z.2.1, z.2.2⟩, ob, es, ep, k _ _ (.inl rfl) e, c⟩
  | set S n => obtain ⟨ob, es, ep, t, e, c⟩ := x; exact ⟨ob, es, ep, t, k _ _ (.inl rfl) e, c⟩
  | ins C dx fs =>
    obtain ⟨d, z, ne, e, mA, ⟨od, es, ep, e2, c⟩, r⟩ := x
    exact ⟨ho _ d, z, ne, k _ _ (.inl rfl) e, mA, ⟨od, es, ep, k _ _ (.inr d) e2, c⟩, r⟩
  | own y => obtain ⟨ob, e⟩ := x; exact ⟨ob, k _ _ (.inl rfl) e⟩
  | xd fs => obtain ⟨mA, ⟨od, es, ep, e, c⟩, r⟩ := x; exact ⟨mA, ⟨od, es, ep, k _ _ (.inl rfl) e, c⟩, r⟩
  | rng lo hi => obtain ⟨t, u, v, e⟩ := x; exact ⟨t, u, v, k _ _ (.inl rfl) e⟩
  | frz ob u ih => obtain ⟨e, q⟩ := x; exact ⟨k _ _ (.inl rfl) e, ih q⟩
  | tbl ps =>
    have e : h.get? a = some { cls := .none, data := .fields ps } := x
    show h'.get? a = some { cls := .none, data := .fields ps }
    exact k a _ (.inl rfl) e
  | met f y =>
    have e : h.get? a = some (PySem.W.methodObj (.ref f) (.ref y)) := x
    show h'.get? a = some (PySem.W.methodObj (.ref f) (.ref y))
    exact k a _ (.inl rfl) e
  | ext φ => obtain ⟨p, ⟨o, e⟩, st⟩ := x; exact ⟨st _ _ p fun o q => k _ _ (.inl rfl) q, ⟨o, k _ _ (.inl rfl) e⟩, st⟩
theorem HOk.lt (x : HOk P w H h) (e : H a = some o) : a < h.objs.size := (x a o e).lt
theorem HOk.fresh (x : HOk P w H h) (e : h.objs.size ≤ a) : H a = none := by
  cases q : H a with
  | none => rfl
  | some u => exact absurd (Nat.lt_of_lt_of_le (x.lt q) e) (Nat.lt_irrefl _)
theorem HOk.kept (x : HOk P w H h) (k : ∀ b u, h.get? b = some u → h'.get? b = some u) : HOk P w H h' := fun a o e =>
  (x a o e).stay (fun b u _ q => k b u q) (fun _ q => q) fun _ _ q => q
theorem HOk.laid (x : HOk P w H h) (k : ∀ b u, h.get? b = some u → h'.get? b = some u) (hp : h.objs.size ≤ a) (new : ObjOk P w (upd H a o) h' a o) : HOk P w (upd H a o) h' := fun b u e => by
  have hn := x.fresh hp
  by_cases hb : b = a
  · subst hb; rw [upd_same] at e; cases e; exact new
  · rw [upd_ne hb] at e
    exact (x b u e).stay (fun c v _ q => k c v q) (fun c q => by rw [upd_ne (ne_of_none q hn)]; exact q) fun c xs q => by rw [upd_ne (ne_of_none q hn)]; exact q
end

noncomputable def Rd (H : Hp) (a : Addr) (u : HO) : Prop := H a = some u ∨ ∃ o, H a = some (.frz o u)
theorem Rd.ok {P : Program} {w : World} {H : Hp} {h : Heap} {a : Addr} {u : HO} (r : Rd H a u) (x : HOk P w H h) : ObjOk P w H h a u := by
  rcases r with r | ⟨o, r⟩
  · exact x a u r
  · obtain ⟨_, q⟩ := x a _ r
    exact q
noncomputable def Mut : Option HO → Prop
  | some (.lst _) => True
  | some (.dK _) => True
  | some (.dT _) => True
  | some (.set _ _) => True
  | some (.ins _ _ _) => True
  | some (.ext _) => True
  | _ => False
section
variable {P : Program} {w : World} {H : Hp} {h h' : Heap} {x e : Addr} {o' : HO}
theorem HOk.write (ok : HOk P w H h) (mu : Mut (H x)) (he : e = x ∨ H e = some (.own x)) (k : ∀ b u, b ≠ e → h.get? b = some u → h'.get? b = some u) (heo : ∃ u, h'.get? e = some u)
    (new : ObjOk P w (upd H x o') h' x o') : HOk P w (upd H x o') h' := fun b u q => by
  have nown : ∀ c y, H c = some (.own y) → c ≠ x := fun c y r z => by subst z; rw [r] at mu; exact mu
  have ntup : ∀ c xs, H c = some (.tup xs) → c ≠ x := fun c xs r z => by subst z; rw [r] at mu; exact mu
  by_cases hb : b = x
  · subst hb; rw [upd_same] at q; cases q; exact new
  · rw [upd_ne hb] at q
    by_cases hbe : b = e
    · have q' : H b = some (.own x) := by
        rcases he with z | z
        · exact absurd (hbe.trans z) hb
        · rw [hbe]; exact z
      rw [q] at q'; cases q'
      obtain ⟨v, hv⟩ := heo
      exact ⟨v, by rw [hbe]; exact hv⟩
    · refine (ok b u q).stay (fun c v hc r => k c v ?_ r) (fun c r => by rw [upd_ne (nown c b r)]; exact r) fun c xs r => by rw [upd_ne (ntup c xs r)]; exact r
      rcases hc with rfl | hc
      · exact hbe
      · rintro rfl
        rcases he with z | z
        · exact nown c b hc z
        · rw [hc] at z; cases z; exact hb rfl
end

/-! ### kept unless tracked; of the frames at fs (the callers') the slots may change (an exception that passes writes there); of the records at ex (iterators) nothing is said -/
structure Un (fs ex : List Addr) (H H' : Hp) (h h' : Heap) : Prop where
  keep : ∀ b o, h.get? b = some o → H b = none → b ∉ fs → b ∉ ex → h'.get? b = some o
  slot : ∀ b o, h.get? b = some o → H b = none → b ∈ fs → b ∉ ex → ∃ sl, h'.get? b = some { o with slots := sl }
  free : ∀ b o, h.get? b = some o → H b = none → b ∉ ex → H' b = none
  there : ∀ b o, h.get? b = some o → b ∉ ex → ∃ o', h'.get? b = some o'
  tups : ∀ b xs, H b = some (.tup xs) → H' b = some (.tup xs)
  frzs : ∀ b o u, H b = some (.frz o u) → H' b = some (.frz o u)
  tbls : ∀ b ps, H b = some (.tbl ps) → ∃ more, H' b = some (.tbl (ps ++ more))
section
variable {fs fs' ex ex' : List Addr} {H H1 H2 : Hp} {h h1 h2 h' : Heap} {a x e : Addr} {o : HO}
theorem Un.any (u : Un fs ex H H1 h h1) {b : Addr} {ob : Obj} (q : h.get? b = some ob) (n : H b = none) (hx : b ∉ ex) : ∃ sl, h1.get? b = some { ob with slots := sl } := by
  by_cases hb : b ∈ fs
  · exact u.slot b ob q n hb hx
  · exact ⟨ob.slots, u.keep b ob q n hb hx⟩
theorem Un.kept (k : ∀ b u, h.get? b = some u → h'.get? b = some u) : Un fs ex H H h h' :=
  ⟨fun b ob q _ _ _ => k b ob q, fun b ob q _ _ _ => ⟨ob.slots, k b ob q⟩, fun _ _ _ n _ => n, fun b ob q _ => ⟨ob, k b ob q⟩, fun _ _ q => q, fun _ _ _ q => q, fun _ ps q => ⟨#[], by rw [q]; simp⟩⟩
theorem Un.refl : Un fs ex H H h h := Un.kept fun _ _ q => q
theorem Un.laid (k : ∀ b u, h.get? b = some u → h'.get? b = some u) (hp : h.objs.size ≤ a) (hn : H a = none) : Un fs ex H (upd H a o) h h' where
  keep := fun b u q _ _ _ => k b u q
  slot := fun b u q _ _ _ => ⟨u.slots, k b u q⟩
  free := fun b u q n _ => by rw [upd_ne (Nat.ne_of_lt (Nat.lt_of_lt_of_le (Heap.lt_size q) hp))]; exact n
  there := fun b u q _ => ⟨u, k b u q⟩
  tups := fun b xs q => by rw [upd_ne (ne_of_none q hn)]; exact q
  frzs := fun b u xs q => by rw [upd_ne (ne_of_none q hn)]; exact q
  tbls := fun b ps q => ⟨#[], by rw [upd_ne (ne_of_none q hn), q]; simp⟩
theorem Un.write (mu : Mut (H x)) (he : e = x ∨ H e = some (.own x)) (k : ∀ b u, b ≠ e → h.get? b = some u → h'.get? b = some u) (heo : ∃ u, h'.get? e = some u) : Un fs ex H (upd H x o) h h' := by
  have hx : ∀ b, H b = none → b ≠ x := fun b n z => by subst z; rw [n] at mu; exact mu
  have hb : ∀ b, H b = none → b ≠ e := fun b n z => by
    subst z
    rcases he with r | r
    · exact hx b n r
    · rw [n] at r; cases r
  have hm : ∀ b u, H b = some u → ¬ Mut (some u) → b ≠ x := fun b u q nm z => by subst z; rw [q] at mu; exact nm mu
  refine ⟨fun b u q n _ _ => k b u (hb b n) q, fun b u q n _ _ => ⟨u.slots, k b u (hb b n) q⟩, fun b u q n _ => by rw [upd_ne (hx b n)]; exact n, fun b u q _ => ?_,
    fun b xs q => by rw [upd_ne (hm b _ q fun z => z)]; exact q, fun b u xs q => by rw [upd_ne (hm b _ q fun z => z)]; exact q, fun b ps q => ⟨#[], by rw [upd_ne (hm b _ q fun z => z), q]; simp⟩⟩
  by_cases hbe : b = e
  · subst hbe; exact heo
  · exact ⟨u, k b u hbe q⟩
end

/-! ### the heap without what is tracked -/
noncomputable def trk (h : Heap) (H : Hp) : List Addr := (List.range h.objs.size).filter fun a => (H a).isSome
noncomputable def hidT (h : Heap) (H : Hp) : Heap := PySem.W.hideAll h (trk h H)
theorem hidT_size (h : Heap) (H : Hp) : (hidT h H).objs.size = h.objs.size := PySem.W.hideAll_size _ _
theorem hidT_get {h : Heap} {H : Hp} {b : Addr} {o : Obj} (e : h.get? b = some o) (n : H b = none) : (hidT h H).get? b = some o :=
  PySem.W.hideAll_get _ e fun hm => by
    have q : (H b).isSome = true := (List.mem_filter.mp hm).2
    rw [n] at q; simp at q
theorem of_hidT {h : Heap} {H : Hp} {b : Addr} {o : Obj} (e : (hidT h H).get? b = some o) : h.get? b = some o ∧ H b = none := by
  have e' : h.get? b = some o := PySem.W.of_hideAll (trk h H) e
  refine ⟨e', ?_⟩
  cases q : H b with
  | none => rfl
  | some x =>
    have hm : b ∈ trk h H := List.mem_filter.mpr ⟨List.mem_range.mpr (Heap.lt_size e'), by simp [q]⟩
    have z : (hidT h H).get? b = none := PySem.W.hideAll_none (trk h H) hm
    rw [z] at e; cases e

/-! ### OpenK's ledger, filled with every new object but one -/
noncomputable def allNews (g h : Heap) (L : Addr) : List (Addr × Obj) := (List.range h.objs.size).filterMap fun a => if a = L ∨ (g.get? a).isSome = true then none else (h.get? a).map fun o => (a, o)
theorem mem_allNews {g h : Heap} {L a : Addr} {o : Obj} (h1 : a ≠ L) (h2 : g.get? a = none) (h3 : h.get? a = some o) : (a, o) ∈ allNews g h L :=
  List.mem_filterMap.mpr ⟨a, List.mem_range.mpr (Heap.lt_size h3), by simp [h1, h2, h3]⟩
theorem of_mem_allNews {g h : Heap} {L : Addr} {p : Addr × Obj} (hp : p ∈ allNews g h L) : p.1 ≠ L ∧ g.get? p.1 = none ∧ h.get? p.1 = some p.2 := by
  obtain ⟨b, _, e⟩ := List.mem_filterMap.mp hp
  split at e
  · cases e
  · rename_i hn
    cases q : h.get? b with
    | none => rw [q] at e; simp at e
    | some u =>
      rw [q] at e
      simp only [Option.map_some, Option.some.injEq] at e
      subst e
      refine ⟨fun z => hn (.inl z), ?_, q⟩
      show g.get? b = none
      cases r : g.get? b with
      | none => rfl
      | some v => exact (hn (.inr (by simp [r]))).elim
theorem news_all {g h : Heap} {L : Addr} : News g L h (allNews g h L) := fun p hp => let ⟨a, b, c⟩ := of_mem_allNews hp; ⟨c, a, b⟩
end L2

namespace L2
open PySem PySem.Spec PyProof.Rows

structure Mod (K : PySem.W.Frag) (mg : Str → Option Value) (base : Heap) : Prop where
  kin : K.In base
  glob : base.Ns mainGlobals mg
  blt : ∃ mb, base.Ns builtinsNs mb ∧ ∀ x : Str, x ≠ "__name__" → mb x = bootBuiltins x
  nolimit : base.NoLimit

set_option genInjectivity false in
structure Cx where
  prog : Program
  w : World
  K : PySem.W.Frag
  mg : Str → Option Value
  base : Heap
  A : Around
  N : List Str
  s₀ : Shared
  H₀ : Hp
  env : Env
  outer : List Env
  stack : List Env
  ex : List Addr
  fn : Str → Bool
  calm : Bool
  pn : List (Addr × Obj)
  xe : Value → Shared → Prop
noncomputable def frs (l : List Env) : List Addr := l.filterMap (·.frame)
noncomputable abbrev Cx.fs (X : Cx) : List Addr := frs X.outer

noncomputable def Vis (sc : Scope) (x : Str) : Prop := sc.names.lookup x = some .local ∨ sc.names.lookup x = some .cell ∨ sc.names.lookup x = some .free
noncomputable def Loc (sc : Scope) (x : Str) : Prop := sc.names.lookup x = some .local ∨ sc.names.lookup x = some .cell
noncomputable def Look (env : Env) (h : Heap) (m : Str → Option Value) (x : Str) (u : Value) : Prop :=
  (env.kindOf x = some .local ∧ m x = some u) ∨ ((env.kindOf x = some .cell ∨ env.kindOf x = some .free) ∧ ∃ c, env.cells.lookup x = some c ∧ h.IsCell c (some u))

structure Cx.Ok (X : Cx) : Prop where
  mod : Mod X.K X.mg X.base
  kind : X.env.scope.kind = .function
  glob : X.env.globals = mainGlobals
  blt : X.env.builtins = builtinsNs
  above : X.s₀.heap.objs.size ≤ X.env.locals
  inj : ∀ x y c, X.env.cells.lookup x = some c → X.env.cells.lookup y = some c → x = y
  has : ∀ x, (X.env.kindOf x = some .cell ∨ X.env.kindOf x = some .free) → ∃ c, X.env.cells.lookup x = some c
  cab : ∀ x c, X.fn x = true → X.env.cells.lookup x = some c → X.s₀.heap.objs.size ≤ c
  hd : X.calm = true → X.A.handled = none
  frames : X.A.frames = some X.stack
  stk : X.stack = X.outer ∨ (X.stack = X.env :: X.outer ∧ X.env.frame = some X.env.locals)
  exf : ∀ b ∈ X.ex, b ≠ X.env.locals ∧ ∀ x c, X.env.cells.lookup x = some c → c ≠ b
  bs : ∀ b o, X.base.get? b = some o → X.s₀.heap.get? b = some o ∧ X.H₀ b = none
  bsz : X.base.objs.size ≤ X.s₀.heap.objs.size
  noex : ∀ b o, X.base.get? b = some o → b ∉ X.ex
  exfs : ∀ b ∈ X.ex, b ∉ X.fs
  funs : X.s₀.heap.FunFrames X.base X.outer
  frf : ∀ b ∈ X.fs, X.H₀ b = none

structure Inv (X : Cx) (pins : List (Addr × Obj)) (σ : List (Option V)) (H : Hp) (s : Shared) : Prop where
  ok : X.Ok
  os : s.os = X.s₀.os
  bare : AllBare s.gens
  base : Un X.fs X.ex X.H₀ H X.s₀.heap s.heap
  loc : ∃ m, s.heap.Ns X.env.locals m ∧ ∀ (i : Nat) (x : Str) (v : V), X.N[i]? = some x → σ[i]? = some (some v) → Vis X.env.scope x → ∃ u, RelV v u ∧ Look X.env s.heap m x u
  cell : ∀ x c, X.env.cells.lookup x = some c → ∃ v, s.heap.IsCell c v
  free : H X.env.locals = none
  freeC : ∀ x c, X.env.cells.lookup x = some c → H c = none
  pin : ∀ p ∈ X.pn ++ pins, s.heap.get? p.1 = some p.2 ∧ H p.1 = none ∧ p.1 ≠ X.env.locals ∧ p.1 ∉ X.fs ∧ ∀ v, p.2.data ≠ .cell v
  hok : HOk X.prog X.w H s.heap
  len : σ.length = X.N.length

section
variable {X : Cx} {pins : List (Addr × Obj)} {σ : List (Option V)} {H H' : Hp} {s : Shared} {h' : Heap}

theorem Cx.Ok.nofr (ok : X.Ok) {b : Addr} {o : Obj} (e : X.base.get? b = some o) : b ∉ X.fs := fun hb => by
  have := (ok.funs.mem hb).1
  rw [e] at this; cases this
theorem Inv.bs (I : Inv X pins σ H s) : ∀ b o, X.base.get? b = some o → s.heap.get? b = some o ∧ H b = none := fun b o e =>
  ⟨I.base.keep b o (I.ok.bs b o e).1 (I.ok.bs b o e).2 (I.ok.nofr e) (I.ok.noex b o e), I.base.free b o (I.ok.bs b o e).1 (I.ok.bs b o e).2 (I.ok.noex b o e)⟩
theorem Inv.bk (I : Inv X pins σ H s) : ∀ b o, X.base.get? b = some o → s.heap.get? b = some o := fun b o e => (I.bs b o e).1
theorem Inv.mod (I : Inv X pins σ H s) : Mod X.K X.mg X.base := I.ok.mod
theorem Inv.kIn (I : Inv X pins σ H s) : X.K.In s.heap := I.ok.mod.kin.keeps I.bk
theorem Inv.lt (I : Inv X pins σ H s) : X.env.locals < s.heap.objs.size := let ⟨_, hn, _⟩ := I.loc; hn.lt
theorem Inv.sz (I : Inv X pins σ H s) : X.s₀.heap.objs.size ≤ s.heap.objs.size := Nat.le_trans I.ok.above (Nat.le_of_lt I.lt)
theorem Inv.nofs (I : Inv X pins σ H s) {a : Addr} (h : s.heap.objs.size ≤ a) : a ∉ X.fs := fun hb => by
  obtain ⟨_, o, ho, _⟩ := I.ok.funs.mem hb
  exact absurd (Nat.lt_of_lt_of_le (Heap.lt_size ho) (Nat.le_trans I.sz h)) (Nat.lt_irrefl _)
theorem Inv.cne (I : Inv X pins σ H s) : ∀ x c, X.env.cells.lookup x = some c → c ≠ X.env.locals := fun x c e z => by
  obtain ⟨v, o, ho, hd⟩ := I.cell x c e
  obtain ⟨m, ⟨o', es, ep, ho', hd', _⟩, _⟩ := I.loc
  rw [z, ho'] at ho; cases ho; rw [hd'] at hd; cases hd
theorem Inv.funs (I : Inv X pins σ H s) : s.heap.FunFrames X.base X.outer := by
  have all : ∀ (l : List Env), (∀ b ∈ frs l, b ∈ X.fs) → X.s₀.heap.FunFrames X.base l → s.heap.FunFrames X.base l := by
    intro l
    induction l with
    | nil => intro _ _; trivial
    | cons env r ih =>
      intro hs hl
      obtain ⟨hk, ⟨L, o, hf, hn, ho, hd⟩, hr⟩ := hl
      have hL : L ∈ X.fs := hs L (by unfold frs; rw [List.filterMap_cons, hf]; exact List.mem_cons_self)
      obtain ⟨sl, e⟩ := I.base.slot L o ho (I.ok.frf L hL) hL fun z => I.ok.exfs L z hL
      exact ⟨hk, ⟨L, _, hf, hn, e, hd⟩, ih (fun b hb => hs b (by unfold frs; rw [List.filterMap_cons, hf]; exact List.mem_cons_of_mem _ hb)) hr⟩
  exact all X.outer (fun _ hb => hb) I.ok.funs

theorem Inv.stack (I : Inv X pins σ H s) : s.heap.FunFrames X.base X.stack := by
  rcases I.ok.stk with e | ⟨e, hf⟩
  · rw [e]; exact I.funs
  · rw [e]
    obtain ⟨m, hn, _⟩ := I.loc
    refine .cons (by rw [I.ok.kind]; decide) hf hn ?_ I.funs
    exact Heap.get?_none_of_le (Nat.le_trans I.ok.bsz I.ok.above)
theorem Inv.stkSub (I : Inv X pins σ H s) : ∀ b ∈ frs X.stack, b ∈ X.env.locals :: X.fs := fun b hb => by
  rcases I.ok.stk with e | ⟨e, hf⟩
  · rw [e] at hb; exact List.mem_cons_of_mem _ hb
  · rw [e] at hb
    unfold frs at hb
    rw [List.filterMap_cons, hf] at hb
    exact hb
theorem Inv.stkFree (I : Inv X pins σ H s) : ∀ b ∈ frs X.stack, H b = none := fun b hb => by
  rcases List.mem_cons.mp (I.stkSub b hb) with e | hb
  · rw [e]; exact I.free
  · obtain ⟨_, o, ho, _⟩ := I.ok.funs.mem hb
    exact I.base.free b o ho (I.ok.frf b hb) fun z => I.ok.exfs b z hb

theorem Inv.step {g' : Array GenState} {t' : Nat} {d' : Drawn} {ch : List Addr} (I : Inv X pins σ H s)
    (hch : ∀ b ∈ ch, (b ∈ X.ex ∨ X.s₀.heap.objs.size ≤ b) ∧ b ≠ X.env.locals ∧ (∀ x c, X.env.cells.lookup x = some c → c ≠ b) ∧ ∀ p ∈ X.pn ++ pins, p.1 ≠ b)
    (keep : ∀ b o, b ≠ X.env.locals → b ∉ X.fs → b ∉ ch → s.heap.get? b = some o → H b = none → h'.get? b = some o)
    (slot : ∀ b o, b ≠ X.env.locals → b ∈ X.fs → b ∉ ch → s.heap.get? b = some o → H b = none → ∃ sl, h'.get? b = some { o with slots := sl }) (free : ∀ b o, b ∉ ch → s.heap.get? b = some o → H b = none → H' b = none)
    (there : ∀ b o, b ∉ ch → s.heap.get? b = some o → ∃ o', h'.get? b = some o')
    (tups : ∀ b xs, H b = some (.tup xs) → H' b = some (.tup xs)) (frzs : ∀ b o u, H b = some (.frz o u) → H' b = some (.frz o u)) (tbls : ∀ b ps, H b = some (.tbl ps) → ∃ more, H' b = some (.tbl (ps ++ more)))
    (ns : ∀ m, s.heap.Ns X.env.locals m → h'.Ns X.env.locals m) (hok : HOk X.prog X.w H' h') (hg : AllBare g') :
    Inv X pins σ H' { s with heap := h', gens := g', drawn := d', toks := t' } := by
  have neL : ∀ b o, X.s₀.heap.get? b = some o → b ≠ X.env.locals := fun b o e => Nat.ne_of_lt (Nat.lt_of_lt_of_le (Heap.lt_size e) I.ok.above)
  have neC : ∀ b o, X.s₀.heap.get? b = some o → b ∉ X.ex → b ∉ ch := fun b o e hx hb => by
    rcases (hch b hb).1 with z | z
    · exact hx z
    · exact absurd (Nat.lt_of_lt_of_le (Heap.lt_size e) z) (Nat.lt_irrefl _)
  have cellK : ∀ x c, X.env.cells.lookup x = some c → ∀ v, s.heap.IsCell c v → h'.IsCell c v := fun x c e v ⟨o, ho, hd⟩ => by
    have nch : c ∉ ch := fun z => (hch c z).2.2.1 x c e rfl
    by_cases hc : c ∈ X.fs
    · obtain ⟨sl, q⟩ := slot c o (I.cne x c e) hc nch ho (I.freeC x c e)
      exact ⟨_, q, hd⟩
    · exact ⟨o, keep c o (I.cne x c e) hc nch ho (I.freeC x c e), hd⟩
  refine ⟨I.ok, I.os, hg, ⟨fun b o e n hb hx => ?_, fun b o e n hb hx => ?_, fun b o e n hx => ?_, fun b o e hx => ?_, fun b xs e => tups b xs (I.base.tups b xs e), fun b o xs e => frzs b o xs (I.base.frzs b o xs e), fun b ps e => ?_⟩, ?_, fun x c e => ?_, ?_, fun x c e => ?_, fun p hp => ?_, hok, I.len⟩
  · exact keep b o (neL b o e) hb (neC b o e hx) (I.base.keep b o e n hb hx) (I.base.free b o e n hx)
  · obtain ⟨sl, e1⟩ := I.base.slot b o e n hb hx
    obtain ⟨sl', e2⟩ := slot b _ (neL b o e) hb (neC b o e hx) e1 (I.base.free b o e n hx)
    exact ⟨sl', e2⟩
  · obtain ⟨o', e1⟩ := I.base.there b o e hx
    exact free b o' (neC b o e hx) e1 (I.base.free b o e n hx)
  · obtain ⟨o', e1⟩ := I.base.there b o e hx
    exact there b o' (neC b o e hx) e1
  · obtain ⟨m1, e1⟩ := I.base.tbls b ps e
    obtain ⟨m2, e2⟩ := tbls b _ e1
    exact ⟨m1 ++ m2, by rw [e2, Array.append_assoc]⟩
  · obtain ⟨m, hn, hl⟩ := I.loc
    refine ⟨m, ns m hn, fun i x v e1 e2 e3 => ?_⟩
    obtain ⟨u, r, l⟩ := hl i x v e1 e2 e3
    refine ⟨u, r, ?_⟩
    rcases l with l | ⟨k, c, e, z⟩
    · exact .inl l
    · exact .inr ⟨k, c, e, cellK x c e _ z⟩
  · obtain ⟨v, z⟩ := I.cell x c e
    exact ⟨v, cellK x c e v z⟩
  · obtain ⟨m, ⟨o, _, _, ho, _⟩, _⟩ := I.loc
    exact free _ o (fun z => (hch _ z).2.1 rfl) ho I.free
  · obtain ⟨v, o, ho, hd⟩ := I.cell x c e
    exact free c o (fun z => (hch c z).2.2.1 x c e rfl) ho (I.freeC x c e)
  · obtain ⟨e, n, ne, nf, d⟩ := I.pin p hp
    have nch : p.1 ∉ ch := fun z => (hch p.1 z).2.2.2 p hp rfl
    exact ⟨keep p.1 p.2 ne nf nch e n, free p.1 p.2 nch e n, ne, nf, d⟩
theorem Inv.un {t' : Nat} (I : Inv X pins σ H s) (u : Un X.fs [] H H' s.heap h') (hok : HOk X.prog X.w H' h') : Inv X pins σ H' { s with heap := h', toks := t' } := by
  obtain ⟨m, ⟨o, es, ep, ho, r⟩, _⟩ := id I.loc
  obtain ⟨sl, hL⟩ := u.any ho I.free (by simp)
  exact I.step (g' := s.gens) (d' := s.drawn) (ch := []) (fun _ z => nomatch z) (fun b o _ hb _ e n => u.keep b o e n hb (by simp)) (fun b o _ hb _ e n => u.slot b o e n hb (by simp)) (fun b o _ e n => u.free b o e n (by simp)) (fun b o _ e => u.there b o e (by simp)) u.tups u.frzs u.tbls (fun m' hm => by
    obtain ⟨o', es', ep', ho', r'⟩ := hm
    rw [ho] at ho'; cases ho'
    exact ⟨_, es', ep', hL, r'⟩) hok I.bare
theorem Inv.call {g' : Array GenState} {t' : Nat} {d' : Drawn} {ch : List Addr} (I : Inv X pins σ H s) (u : Un (frs X.stack) ch H H' s.heap h') (hok : HOk X.prog X.w H' h') (hg : AllBare g')
    (hch : ∀ b ∈ ch, (b ∈ X.ex ∨ X.s₀.heap.objs.size ≤ b) ∧ b ≠ X.env.locals ∧ (∀ x c, X.env.cells.lookup x = some c → c ≠ b) ∧ ∀ p ∈ X.pn ++ pins, p.1 ≠ b) :
    Inv X pins σ H' { s with heap := h', gens := g', drawn := d', toks := t' } := by
  obtain ⟨m, ⟨o, es, ep, ho, r⟩, _⟩ := id I.loc
  obtain ⟨sl, hL⟩ := u.any ho I.free fun z => (hch _ z).2.1 rfl
  exact I.step (ch := ch) hch (fun b o hL hb hc e n => u.keep b o e n (fun z => (List.mem_cons.mp (I.stkSub b z)).elim hL hb) hc) (fun b o _ _ hc e n => u.any e n hc) (fun b o hc e n => u.free b o e n hc) (fun b o hc e => u.there b o e hc) u.tups u.frzs u.tbls (fun m' hm => by
    obtain ⟨o', es', ep', ho', r'⟩ := hm
    rw [ho] at ho'; cases ho'
    exact ⟨_, es', ep', hL, r'⟩) hok hg
theorem Inv.turned {t' : Nat} {it : Addr} (I : Inv X pins σ H s) (k : ∀ b o, b ≠ it → s.heap.get? b = some o → h'.get? b = some o) (hn : H it = none) (hL : it ≠ X.env.locals)
    (h1 : it ∈ X.ex ∨ X.s₀.heap.objs.size ≤ it) (h2 : ∀ x c, X.env.cells.lookup x = some c → c ≠ it) (h3 : ∀ p ∈ X.pn ++ pins, p.1 ≠ it) : Inv X pins σ H { s with heap := h', toks := t' } := by
  have nit : ∀ b u, H b = some u → b ≠ it := fun b u e z => by rw [z, hn] at e; cases e
  refine I.step (g' := s.gens) (d' := s.drawn) (ch := [it]) (fun b hb => ?_) (fun b o _ _ hc e _ => k b o (fun z => hc (by simp [z])) e) (fun b o _ _ hc e _ => ⟨o.slots, k b o (fun z => hc (by simp [z])) e⟩) (fun _ _ _ _ n => n)
    (fun b o hc e => ⟨o, k b o (fun z => hc (by simp [z])) e⟩) (fun _ _ e => e) (fun _ _ _ e => e) (fun b ps e => ⟨#[], by rw [e]; simp⟩) (fun m hm => ?_) (fun b u e => ?_) I.bare
  · have e : b = it := by simpa using hb
    subst e
    exact ⟨h1, hL, h2, h3⟩
  · obtain ⟨o, es, ep, ho, r⟩ := hm
    exact ⟨o, es, ep, k _ o (Ne.symm hL) ho, r⟩
  · refine (I.hok b u e).stay (fun c v hc q => k c v ?_ q) (fun _ q => q) fun _ _ q => q
    rcases hc with z | z
    · rw [z]; exact nit b u e
    · exact nit c _ z
theorem Inv.tok (I : Inv X pins σ H s) (t : Nat) : Inv X pins σ H { s with toks := t } := I.un (h' := s.heap) (t' := t) Un.refl I.hok
theorem Inv.kept {t' : Nat} (I : Inv X pins σ H s) (k : ∀ b u, s.heap.get? b = some u → h'.get? b = some u) : Inv X pins σ H { s with heap := h', toks := t' } := I.un (Un.kept k) (I.hok.kept k)
theorem Inv.laid {a : Addr} {o : HO} {t' : Nat} (I : Inv X pins σ H s) (k : ∀ b u, s.heap.get? b = some u → h'.get? b = some u) (hp : s.heap.objs.size ≤ a) (new : ObjOk X.prog X.w (upd H a o) h' a o) :
    Inv X pins σ (upd H a o) { s with heap := h', toks := t' } := I.un (Un.laid k hp (I.hok.fresh hp)) (I.hok.laid k hp new)
theorem Inv.write {x e : Addr} {o : HO} {t' : Nat} (I : Inv X pins σ H s) (mu : Mut (H x)) (he : e = x ∨ H e = some (.own x)) (k : ∀ b u, b ≠ e → s.heap.get? b = some u → h'.get? b = some u) (heo : ∃ u, h'.get? e = some u)
    (new : ObjOk X.prog X.w (upd H x o) h' x o) : Inv X pins σ (upd H x o) { s with heap := h', toks := t' } := I.un (Un.write mu he k heo) (I.hok.write mu he k heo new)
theorem Inv.pins_of {pins' : List (Addr × Obj)} (I : Inv X pins σ H s) (h : ∀ p ∈ pins', s.heap.get? p.1 = some p.2 ∧ H p.1 = none ∧ p.1 ≠ X.env.locals ∧ p.1 ∉ X.fs ∧ ∀ v, p.2.data ≠ .cell v) : Inv X pins' σ H s :=
  ⟨I.ok, I.os, I.bare, I.base, I.loc, I.cell, I.free, I.freeC, fun p hp => (List.mem_append.mp hp).elim (fun z => I.pin p (List.mem_append_left _ z)) (h p), I.hok, I.len⟩

theorem nodup_ix {N : List Str} (hN : N.Nodup) {i j : Nat} {x : Str} (a : N[i]? = some x) (b : N[j]? = some x) : i = j := by
  obtain ⟨h1, e1⟩ := List.getElem?_eq_some_iff.mp a
  obtain ⟨h2, e2⟩ := List.getElem?_eq_some_iff.mp b
  exact (List.getElem_inj hN).mp (e1.trans e2.symm)

theorem store_ok2 {M : Model} {A : Around} {E : Value → Shared → Prop} {i : Nat} {x : Str} {v : V} {u : Value} {Q : Unit → Shared → Prop} (I : Inv X pins σ H s) (hN : X.N.Nodup) (hi : X.N[i]? = some x) (hx : Loc X.env.scope x) (r : RelV v u)
    (h : ∀ s', Inv X pins (σ.set i (some v)) H s' → (∃ a, Heap.SameBut a s.heap s'.heap ∧ (a = X.env.locals ∨ X.env.cells.lookup x = some a)) → Q () s') (hf : X.fn x = true ∨ X.env.scope.names.lookup x = some .local := by first | exact .inl rfl | exact .inr rfl | assumption) : wpAny M A (storeName X.env x u) Q E s := by
  obtain ⟨m, hn, hl⟩ := id I.loc
  have hcls : (X.env.scope.kind == .class || (X.env.scope.kind == .module && X.env.locals != X.env.globals)) = false := by rw [I.ok.kind]; rfl
  have hiσ : i < σ.length := by rw [I.len]; exact (List.getElem?_eq_some_iff.mp hi).1
  have cne := I.cne
  have tracked : ∀ {a : Addr} {h' : Heap}, (∃ o, s.heap.get? a = some o ∧ H a = none) → Heap.SameBut a s.heap h' → HOk X.prog X.w H h' := fun {a h'} ha hs b ob e => by
    obtain ⟨_, _, hfree⟩ := ha
    refine (I.hok b ob e).stay (fun c w' hc q => (hs.2 c ?_).trans q) (fun _ q => q) fun _ _ q => q
    rintro rfl
    rcases hc with rfl | hc
    · rw [hfree] at e; cases e
    · rw [hfree] at hc; cases hc
  rcases hx with hk | hk
  · refine wpAny_storeName_local hk hn (fun h' hn' hs => ?_) hcls
    obtain ⟨oL, _, _, hoL, _⟩ := id hn
    refine h _ ⟨I.ok, I.os, I.bare, ⟨fun b o e n hb hx => ?_, fun b o e n hb hx => ?_, I.base.free, fun b o e hx => ?_, I.base.tups, I.base.frzs, I.base.tbls⟩, ⟨_, hn', fun j y v' e1 e2 e3 => ?_⟩, fun y c e => ?_, I.free, I.freeC, fun p hp => ?_, tracked ⟨oL, hoL, I.free⟩ hs, by simpa using I.len⟩ ⟨_, hs, .inl rfl⟩
    · exact (hs.2 b (Nat.ne_of_lt (Nat.lt_of_lt_of_le (Heap.lt_size e) I.ok.above))).trans (I.base.keep b o e n hb hx)
    · obtain ⟨sl, e1⟩ := I.base.slot b o e n hb hx
      exact ⟨sl, (hs.2 b (Nat.ne_of_lt (Nat.lt_of_lt_of_le (Heap.lt_size e) I.ok.above))).trans e1⟩
    · obtain ⟨o', e1⟩ := I.base.there b o e hx
      exact ⟨o', (hs.2 b (Nat.ne_of_lt (Nat.lt_of_lt_of_le (Heap.lt_size e) I.ok.above))).trans e1⟩
    · by_cases hj : j = i
      · subst hj
        rw [hi] at e1; cases e1
        rw [List.getElem?_set_self hiσ] at e2
        cases e2
        exact ⟨u, r, .inl ⟨hk, by simp⟩⟩
      · rw [List.getElem?_set_ne (Ne.symm hj)] at e2
        obtain ⟨u', r', q⟩ := hl j y v' e1 e2 e3
        refine ⟨u', r', ?_⟩
        rcases q with ⟨k, e⟩ | ⟨k, c, e, z⟩
        · refine .inl ⟨k, ?_⟩
          have : y ≠ x := fun e => hj (nodup_ix hN e1 (e ▸ hi))
          simp [this, e]
        · exact .inr ⟨k, c, e, z.sameBut hs (cne y c e)⟩
    · obtain ⟨w', z⟩ := I.cell y c e
      exact ⟨w', z.sameBut hs (cne y c e)⟩
    · obtain ⟨e, n, ne, nf, d⟩ := I.pin p hp
      exact ⟨(hs.2 p.1 ne).trans e, n, ne, nf, d⟩
  · have hfn : X.fn x = true := by
      rcases hf with z | z
      · exact z
      · rw [z] at hk; cases hk
    obtain ⟨c, hc⟩ := I.ok.has x (.inl hk)
    obtain ⟨w', z⟩ := I.cell x c hc
    refine wpAny_storeName_cell I.ok.kind hk hc z (fun h' hc' hs => ?_)
    obtain ⟨oc, hoc, hocd⟩ := id z
    refine h { s with heap := h' } ⟨I.ok, I.os, I.bare, ⟨fun b o e n hb hx => ?_, fun b o e n hb hx => ?_, I.base.free, fun b o e hx => ?_, I.base.tups, I.base.frzs, I.base.tbls⟩, ⟨m, hn.sameBut hs (Ne.symm (cne x c hc)), fun j y v' e1 e2 e3 => ?_⟩, fun y c' e => ?_, I.free, I.freeC, fun p hp => ?_, tracked ⟨oc, hoc, I.freeC x c hc⟩ hs, by simpa using I.len⟩ ⟨c, hs, .inr hc⟩
    · exact (hs.2 b (Nat.ne_of_lt (Nat.lt_of_lt_of_le (Heap.lt_size e) (I.ok.cab x c hfn hc)))).trans (I.base.keep b o e n hb hx)
    · obtain ⟨sl, e1⟩ := I.base.slot b o e n hb hx
      exact ⟨sl, (hs.2 b (Nat.ne_of_lt (Nat.lt_of_lt_of_le (Heap.lt_size e) (I.ok.cab x c hfn hc)))).trans e1⟩
    · obtain ⟨o', e1⟩ := I.base.there b o e hx
      exact ⟨o', (hs.2 b (Nat.ne_of_lt (Nat.lt_of_lt_of_le (Heap.lt_size e) (I.ok.cab x c hfn hc)))).trans e1⟩
    · by_cases hj : j = i
      · subst hj
        rw [hi] at e1; cases e1
        rw [List.getElem?_set_self hiσ] at e2
        cases e2
        exact ⟨u, r, .inr ⟨.inl hk, c, hc, hc'⟩⟩
      · rw [List.getElem?_set_ne (Ne.symm hj)] at e2
        obtain ⟨u', r', q⟩ := hl j y v' e1 e2 e3
        refine ⟨u', r', ?_⟩
        rcases q with q | ⟨k, c', e, z'⟩
        · exact .inl q
        · refine .inr ⟨k, c', e, z'.sameBut hs ?_⟩
          rintro rfl
          exact hj (nodup_ix hN e1 (I.ok.inj _ _ _ e hc ▸ hi))
    · by_cases hcc : c' = c
      · subst hcc; exact ⟨_, hc'⟩
      · obtain ⟨w2, z2⟩ := I.cell y c' e
        exact ⟨w2, z2.sameBut hs hcc⟩
    · obtain ⟨e, n, ne, nf, d⟩ := I.pin p hp
      refine ⟨(hs.2 p.1 ?_).trans e, n, ne, nf, d⟩
      intro q
      rw [q, hoc] at e
      have q' : oc = p.2 := Option.some.inj e
      exact d w' (by rw [← q']; exact hocd)
theorem store_ok {M : Model} {A : Around} {E : Value → Shared → Prop} {i : Nat} {x : Str} {v : V} {u : Value} {Q : Unit → Shared → Prop} (I : Inv X pins σ H s) (hN : X.N.Nodup) (hi : X.N[i]? = some x) (hx : Loc X.env.scope x) (r : RelV v u)
    (h : ∀ s', Inv X pins (σ.set i (some v)) H s' → Q () s') (hf : X.fn x = true ∨ X.env.scope.names.lookup x = some .local := by first | exact .inl rfl | exact .inr rfl | assumption) : wpAny M A (storeName X.env x u) Q E s :=
  store_ok2 I hN hi hx r (fun s' I' _ => h s' I') hf
theorem Inv.call' {s' : Shared} {ch : List Addr} (I : Inv X pins σ H s) (ho : s'.os = s.os) (u : Un (frs X.stack) ch H H' s.heap s'.heap) (hok : HOk X.prog X.w H' s'.heap) (hg : AllBare s'.gens)
    (hch : ∀ b ∈ ch, (b ∈ X.ex ∨ X.s₀.heap.objs.size ≤ b) ∧ b ≠ X.env.locals ∧ (∀ x c, X.env.cells.lookup x = some c → c ≠ b) ∧ ∀ p ∈ X.pn ++ pins, p.1 ≠ b) : Inv X pins σ H' s' := by
  obtain ⟨h', g', d', t', o'⟩ := s'
  have e : o' = s.os := ho
  subst e
  exact I.call (g' := g') (t' := t') (d' := d') u hok hg hch
end

/-! ### the judgements -/
noncomputable abbrev XK := Value → Option Addr → Hp → Prop
noncomputable abbrev St := List (Option V)
noncomputable abbrev VK := V → Hp → Prop
noncomputable abbrev TE := St → Hp → VK → Prop
noncomputable abbrev TT := St → Hp → (Bool → Hp → Prop) → Prop
noncomputable abbrev TA := St → Hp → (List V → Hp → Prop) → Prop
set_option genInjectivity false in
structure Ends where
  nx : St → Hp → Prop
  rt : VK
  bk : St → Hp → Prop := fun _ _ => False
  ct : St → Hp → Prop := fun _ _ => False
noncomputable abbrev TS := Ends → St → Hp → Prop

noncomputable def EP (X : Cx) (pins : List (Addr × Obj)) (σ : St) (Q : VK) (u : Value) (s' : Shared) : Prop := ∃ v H', Inv X pins σ H' s' ∧ RelV v u ∧ Q v H'
noncomputable def TP (X : Cx) (pins : List (Addr × Obj)) (σ : St) (Q : Bool → Hp → Prop) (b : Bool) (s' : Shared) : Prop := ∃ H', Inv X pins σ H' s' ∧ Q b H'
noncomputable def AP (X : Cx) (pins : List (Addr × Obj)) (σ : St) (Q : List V → Hp → Prop) (us : List Value) (s' : Shared) : Prop := ∃ vs H', Inv X pins σ H' s' ∧ Vals vs us ∧ Q vs H'
noncomputable def SP (X : Cx) (pins : List (Addr × Obj)) (D : Ends) (f : Flow) (s' : Shared) : Prop :=
  match f with
  | .next => ∃ σ' H', Inv X pins σ' H' s' ∧ D.nx σ' H'
  | .brk => ∃ σ' H', Inv X pins σ' H' s' ∧ D.bk σ' H'
  | .cont => ∃ σ' H', Inv X pins σ' H' s' ∧ D.ct σ' H'
  | .ret u => ∃ v σ' H', Inv X pins σ' H' s' ∧ RelV v u ∧ D.rt v H'

noncomputable def PE (X : Cx) (e : Expr) (t : TE) : Prop :=
  ∀ (pins : List (Addr × Obj)) (s : Shared) (σ : St) (H : Hp) (Q : VK), Inv X pins σ H s → t σ H Q → wpAny (model X.prog X.w) X.A (eval e X.env) (EP X pins σ Q) X.xe s
noncomputable def PT (X : Cx) (e : Expr) (t : TT) : Prop :=
  ∀ (pins : List (Addr × Obj)) (s : Shared) (σ : St) (H : Hp) (Q : Bool → Hp → Prop), Inv X pins σ H s → t σ H Q → wpAny (model X.prog X.w) X.A (isTrue e X.env (eval e X.env)) (TP X pins σ Q) X.xe s
noncomputable def PW (X : Cx) (e : Expr) (t : TT) : Prop :=
  ∀ (whole : Sem Value) (pins : List (Addr × Obj)) (s : Shared) (σ : St) (H : Hp) (Q : Bool → Hp → Prop), Inv X pins σ H s → t σ H Q → wpAny (model X.prog X.w) X.A (isTrue e X.env whole) (TP X pins σ Q) X.xe s
theorem PW.pt {X : Cx} {e : Expr} {t : TT} (h : PW X e t) : PT X e t := h _
noncomputable def PA (X : Cx) (es : List Expr) (t : TA) : Prop :=
  ∀ (pos : Pos) (pins : List (Addr × Obj)) (s : Shared) (σ : St) (H : Hp) (Q : List V → Hp → Prop), Inv X pins σ H s → t σ H Q → wpAny (model X.prog X.w) X.A (spliced (backTo pos (starEach es X.env))) (AP X pins σ Q) X.xe s
noncomputable def PS (X : Cx) (st : Stmt) (t : TS) : Prop :=
  ∀ (pins : List (Addr × Obj)) (s : Shared) (σ : St) (H : Hp) (D : Ends), Inv X pins σ H s → t D σ H → wpAny (model X.prog X.w) X.A (exec st X.env) (SP X pins D) X.xe s
noncomputable def PSs (X : Cx) (st : List Stmt) (t : TS) : Prop :=
  ∀ (pins : List (Addr × Obj)) (s : Shared) (σ : St) (H : Hp) (D : Ends), Inv X pins σ H s → t D σ H → wpAny (model X.prog X.w) X.A (execs st X.env) (SP X pins D) X.xe s
theorem thn {α : Type} {t : Sem α} {Q Q' : α → Shared → Prop} {M : Model} {A : Around} {E : Value → Shared → Prop} {s : Shared} (h : wpAny M A t Q E s) (hQ : ∀ a s, Q a s → Q' a s) : wpAny M A t Q' E s := wpAny_mono h hQ fun _ _ x => x
end L2

namespace L2
open PySem PySem.Spec PyProof.Rows
section
variable {X : Cx}

/-! ### names and constants -/
noncomputable def tVar (i : Nat) : TE := fun σ H Q => ∃ v, σ[i]? = some (some v) ∧ Q v H
noncomputable def tC (v : V) : TE := fun _ H Q => Q v H
theorem pe_var {i : Nat} {x : Str} {pos : Pos} (hN : X.N[i]? = some x) (hv : Vis X.env.scope x) (hd : (x == ("__debug__" : Str)) = false := by decide) (hcd : (x == ("__classdict__" : Str)) = false := by decide) : PE X (.Name x pos) (tVar i) := by
  intro pins s σ H Q I h
  obtain ⟨v, e, h⟩ := h
  obtain ⟨m, hn, hl⟩ := I.loc
  obtain ⟨u, r, l⟩ := hl i x v hN e hv
  have fin : EP X pins σ Q u s := ⟨v, H, I, r, h⟩
  rcases l with ⟨hk, hm⟩ | ⟨hk, c, hc, hcell⟩
  · exact wpAny_Name (wpAny_loadName_local I.ok.kind hk hn hm fin) hd
  · rcases hk with hk | hk
    · exact wpAny_Name (wpAny_loadName_cell I.ok.kind hk hc hcell fin) hd
    · exact wpAny_Name (wpAny_loadName_free I.ok.kind hk hc hcell fin hcd) hd
theorem pe_int {i j pos} : PE X (.Constant (.int i) j pos) (tC (.int i)) := fun _ _ _ H _ I h => wpAny_Constant_int ⟨.int i, H, I.tok _, ⟨_, rfl⟩, h⟩
theorem pe_bl {b j pos} : PE X (.Constant (.bool b) j pos) (tC (.bl b)) := fun _ _ _ H _ I h => Constant_bool ⟨.bl b, H, I, rfl, h⟩
theorem pe_non {j pos} : PE X (.Constant .none j pos) (tC .non) := fun _ _ _ H _ I h => Constant_none ⟨.non, H, I, rfl, h⟩
theorem pe_str {x j pos} : PE X (.Constant (.str x) j pos) (tC (.str x)) := fun _ _ _ H _ I h => Calls.Constant_str ⟨.str x, H, I.tok _, ⟨_, rfl⟩, h⟩

noncomputable def Gl (X : Cx) (x : Str) : Prop := X.env.kindOf x = some .globalImplicit
theorem ld_glob {E : Value → Shared → Prop} {pins : List (Addr × Obj)} {s : Shared} {σ : St} {H : Hp} {x : Str} {u : Value} {pos : Pos} {Q : Value → Shared → Prop} (I : Inv X pins σ H s) (hg : Gl X x) (hm : X.mg x = some u) (h : Q u s)
    (hd : (x == ("__debug__" : Str)) = false := by decide) : wpAny (model X.prog X.w) X.A (eval (.Name x pos) X.env) Q E s :=
  Calls.Name_function_global I.ok.kind hg (Calls.loadGlobal_global (by rw [I.ok.glob]; exact I.mod.glob.keeps I.bk) hm h) hd
theorem ld_blt {E : Value → Shared → Prop} {pins : List (Addr × Obj)} {s : Shared} {σ : St} {H : Hp} {x : Str} {u : Value} {pos : Pos} {Q : Value → Shared → Prop} (I : Inv X pins σ H s) (hg : Gl X x) (hm : X.mg x = none) (hv : bootBuiltins x = some u) (h : Q u s)
    (hn : x ≠ "__name__" := by decide) (hd : (x == ("__debug__" : Str)) = false := by decide) : wpAny (model X.prog X.w) X.A (eval (.Name x pos) X.env) Q E s := by
  obtain ⟨mb, h1, h2⟩ := I.mod.blt
  exact Calls.Name_function_global I.ok.kind hg (Calls.loadGlobal_builtin (by rw [I.ok.glob]; exact I.mod.glob.keeps I.bk) hm (by rw [I.ok.blt]; exact h1.keeps I.bk) ((h2 x hn).trans hv) h) hd
theorem pe_glob {x : Str} {v : V} {u : Value} {pos : Pos} (hg : Gl X x) (hm : X.mg x = some u) (r : RelV v u) (hd : (x == ("__debug__" : Str)) = false := by decide) : PE X (.Name x pos) (tC v) :=
  fun _ _ _ H _ I h => ld_glob I hg hm ⟨v, H, I, r, h⟩ hd
theorem pe_bltn {x : Str} {v : V} {u : Value} {pos : Pos} (hg : Gl X x) (hm : X.mg x = none) (hv : bootBuiltins x = some u) (r : RelV v u) (hn : x ≠ "__name__" := by decide) (hd : (x == ("__debug__" : Str)) = false := by decide) : PE X (.Name x pos) (tC v) :=
  fun _ _ _ H _ I h => ld_blt I hg hm hv ⟨v, H, I, r, h⟩ hn hd

/-! ### arithmetic -/
variable {a b : Expr} {ta tb : TE} {pos : Pos}
/-! ### comparisons -/
noncomputable def tB (t : TE) : TT := fun σ H Q => t σ H fun x H1 => ∃ c, x = .bl c ∧ Q c H1
theorem pt_val {e : Expr} {t : TE} (h : PE X e t) (he : ∀ whole, isTrue e X.env whole = (do let v ← whole; standAt e.pos; holding [v] (truthy v)) := by intro _; rfl) : PT X e (tB t) := by
  intro pins s σ H Q I hw
  refine isTrue_plain (thn (h pins s σ H _ I hw) fun v s1 ⟨x, H1, I1, r1, q1⟩ => ?_) (he _)
  obtain ⟨d, rfl, q⟩ := q1
  cases r1
  exact wpAny_truthy_bool ⟨H1, I1, q⟩

/-! ### and, or, not -/
variable {tA tB' : TT} {rest : List Expr}
noncomputable def tAnd (t u : TT) : TT := fun σ H Q => t σ H fun c H1 => if c = true then u σ H1 Q else Q false H1
noncomputable def tOr (t u : TT) : TT := fun σ H Q => t σ H fun c H1 => if c = true then Q true H1 else u σ H1 Q
noncomputable def tNot (t : TT) : TT := fun σ H Q => t σ H fun c H1 => Q (!c) H1
theorem pw_and1 (ha : PT X a tA) : PW X (.BoolOp .And [a] pos) tA := by
  intro wh pins s σ H Q I h
  refine isTrue_and (thn (ha pins s σ H Q I h) fun c s1 e => ?_)
  cases c with
  | true => exact isTrue_and_nil e
  | false => exact e
theorem pw_or1 (ha : PT X a tA) : PW X (.BoolOp .Or [a] pos) tA := by
  intro wh pins s σ H Q I h
  refine isTrue_or (thn (ha pins s σ H Q I h) fun c s1 e => ?_)
  cases c with
  | false => exact isTrue_or_nil e
  | true => exact e
theorem pw_and (ha : PT X a tA) (hb : PW X (.BoolOp .And (b :: rest) pos) tB') : PW X (.BoolOp .And (a :: b :: rest) pos) (tAnd tA tB') := by
  intro wh pins s σ H Q I h
  refine isTrue_and (thn (ha pins s σ H _ I h) fun c s1 ⟨H1, I1, q1⟩ => ?_)
  cases c with
  | true => exact hb wh pins s1 σ H1 Q I1 q1
  | false => exact ⟨H1, I1, q1⟩
theorem pw_or (ha : PT X a tA) (hb : PW X (.BoolOp .Or (b :: rest) pos) tB') : PW X (.BoolOp .Or (a :: b :: rest) pos) (tOr tA tB') := by
  intro wh pins s σ H Q I h
  refine isTrue_or (thn (ha pins s σ H _ I h) fun c s1 ⟨H1, I1, q1⟩ => ?_)
  cases c with
  | true => exact ⟨H1, I1, q1⟩
  | false => exact hb wh pins s1 σ H1 Q I1 q1
theorem pt_not (ha : PT X a tA) : PT X (.UnaryOp .Not a pos) (tNot tA) := by
  intro pins s σ H Q I h
  exact isTrue_not (ha pins s σ H (fun c H1 => Q (!c) H1) I h)
noncomputable def tAndV (ta tb : TE) : TE := fun σ H Q => ta σ H fun x H1 => ∃ c, x = .bl c ∧ if c = true then tb σ H1 Q else Q (.bl false) H1
noncomputable def tNotV (ta : TE) : TE := fun σ H Q => ta σ H fun x H1 => ∃ c, x = .bl c ∧ Q (.bl (!c)) H1
theorem pe_one {op} {t : TE} (h : PE X a t) : PE X (.BoolOp op [a] pos) t := fun pins s σ H Q I hw => BoolOp_one (h pins s σ H Q I hw)
theorem pe_and (ha : PE X a ta) (hb : PE X (.BoolOp .And (b :: rest) pos) tb) : PE X (.BoolOp .And (a :: b :: rest) pos) (tAndV ta tb) := by
  intro pins s σ H Q I h
  refine BoolOp_and (thn (ha pins s σ H _ I h) fun v s1 ⟨x, H1, I1, r1, q1⟩ => ?_)
  obtain ⟨c, rfl, q1⟩ := q1
  cases r1
  refine wpAny_truthy_bool ?_
  cases c with
  | true => exact hb pins s1 σ H1 Q I1 q1
  | false => exact ⟨.bl false, H1, I1, rfl, q1⟩
theorem pe_not (ha : PE X a ta) : PE X (.UnaryOp .Not a pos) (tNotV ta) := by
  intro pins s σ H Q I h
  refine UnaryOp_ (thn (ha pins s σ H _ I h) fun v s1 ⟨x, H1, I1, r1, q1⟩ => ?_)
  obtain ⟨c, rfl, q1⟩ := q1
  cases r1
  exact not_of (wpAny_truthy_bool ⟨.bl (!c), H1, I1, rfl, q1⟩)
noncomputable def tIf (t : TT) (ta tb : TE) : TE := fun σ H Q => t σ H fun c H1 => if c = true then ta σ H1 Q else tb σ H1 Q
theorem pe_ifExp {c : Expr} (hc : PT X c tA) (ha : PE X a ta) (hb : PE X b tb) : PE X (.IfExp c a b pos) (tIf tA ta tb) := by
  intro pins s σ H Q I h
  refine wpAny_IfExp (thn (hc pins s σ H _ I h) fun d s1 ⟨H1, I1, q1⟩ => ?_)
  cases d with
  | true => exact ha pins s1 σ H1 Q I1 q1
  | false => exact hb pins s1 σ H1 Q I1 q1
end
end L2

namespace L2
open PySem PySem.Spec PyProof.Rows

/-! ### a list, a tuple that is read: tracked, frozen, or an object of the module -/
noncomputable def SqL (K : PySem.W.Frag) (H : Hp) (a : Addr) (xs : List V) : Prop :=
  Rd H a (.lst xs) ∨
    ∃ (o : Obj) (its : Array Value) (n : Nat), K.lookup a = some o ∧ o.cls = .type "list" ∧ o.dict = none ∧ o.data = .seq its n ∧ its.size ≤ sizeLine ∧ Vals xs its.toList
noncomputable def SqT (K : PySem.W.Frag) (H : Hp) (a : Addr) (xs : List V) : Prop :=
  Rd H a (.tup xs) ∨
    ∃ (o : Obj) (its : Array Value) (n : Nat), K.lookup a = some o ∧ o.cls = .type "tuple" ∧ o.data = .seq its n ∧ its.size ≤ sizeLine ∧ Vals xs its.toList
noncomputable def absV : Value → Option V
  | .none => some .non
  | .bool b => some (.bl b)
  | .int i _ => some (.int i)
  | .str x _ => some (.str x)
  | .bytes b _ => some (.byt b)
  | .float b _ => some (.flt b)
  | .ref a => some (.ref a)
  | .type n => some (.ty n)
  | _ => none
theorem RelV.abs {x : V} {u : Value} (r : RelV x u) : absV u = some x := by
  cases x with
  | non => cases r; rfl
  | bl _ => cases r; rfl
  | int _ => obtain ⟨t, rfl⟩ := r; rfl
  | str _ => obtain ⟨t, rfl⟩ := r; rfl
  | byt _ => obtain ⟨t, rfl⟩ := r; rfl
  | flt _ => obtain ⟨t, rfl⟩ := r; rfl
  | ref _ => cases r; rfl
  | ty _ => cases r; rfl
theorem RelV.inj {x y : V} {u : Value} (r : RelV x u) (q : RelV y u) : x = y := Option.some.inj (r.abs.symm.trans q.abs)
theorem Vals.inj : ∀ {xs ys : List V} {us : List Value}, Vals xs us → Vals ys us → xs = ys
  | _, _, _, .nil, .nil => rfl
  | _, _, _, .cons r t, .cons r' t' => by rw [r.inj r', Vals.inj t t']
section
variable {X : Cx} {pins : List (Addr × Obj)} {σ : St} {H : Hp} {s : Shared} {a : Addr} {xs ys : List V}
theorem SqL.of {K : PySem.W.Frag} (h : H a = some (.lst xs)) : SqL K H a xs := .inl (.inl h)
theorem SqT.of {K : PySem.W.Frag} (h : H a = some (.tup xs)) : SqT K H a xs := .inl (.inl h)
theorem Inv.list (I : Inv X pins σ H s) (h : SqL X.K H a xs) : ∃ its : List Value, Vals xs its ∧ PlainL s.heap a its.toArray ∧ xs.length ≤ sizeLine := by
  rcases h with h | ⟨o, its, n, hk, hc, hd, hs, hz, r⟩
  · obtain ⟨z, its, n, r, e⟩ := h.ok I.hok
    exact ⟨its, r, ⟨_, n, e, rfl, rfl, rfl⟩, z⟩
  · refine ⟨its.toList, r, ⟨o, n, I.kIn a o hk, hc, hd, by simpa using hs⟩, ?_⟩
    have e := r.length
    simp only [Array.length_toList] at e
    omega
theorem Inv.tuple (I : Inv X pins σ H s) (h : SqT X.K H a xs) : ∃ its : List Value, Vals xs its ∧ IsTup s.heap a its.toArray ∧ xs.length ≤ sizeLine := by
  rcases h with h | ⟨o, its, n, hk, hc, hs, hz, r⟩
  · obtain ⟨z, its, r, p⟩ := h.ok I.hok
    exact ⟨its, r, p, z⟩
  · refine ⟨its.toList, r, ⟨o, I.kIn a o hk, hc, n, by simpa using hs⟩, ?_⟩
    have e := r.length
    simp only [Array.length_toList] at e
    omega
theorem Inv.list_inj (I : Inv X pins σ H s) (h : SqL X.K H a xs) (h' : SqL X.K H a ys) : xs = ys := by
  obtain ⟨its, r, ⟨o, n, e, _, _, d⟩, _⟩ := I.list h
  obtain ⟨its', r', ⟨o', n', e', _, _, d'⟩, _⟩ := I.list h'
  rw [e] at e'; cases e'
  rw [d] at d'
  injection d' with d1 _
  have : its = its' := by simpa using congrArg Array.toList d1
  subst this
  exact r.inj r'
theorem Inv.tuple_inj (I : Inv X pins σ H s) (h : SqT X.K H a xs) (h' : SqT X.K H a ys) : xs = ys := by
  obtain ⟨its, r, ⟨o, e, _, n, d⟩, _⟩ := I.tuple h
  obtain ⟨its', r', ⟨o', e', _, n', d'⟩, _⟩ := I.tuple h'
  rw [e] at e'; cases e'
  rw [d] at d'
  injection d' with d1 _
  have : its = its' := by simpa using congrArg Array.toList d1
  subst this
  exact r.inj r'
end

/-! ### another wish about exceptions -/
noncomputable abbrev Cx.wish (X : Cx) (E : Value → Shared → Prop) : Cx := { X with xe := E }
noncomputable abbrev Cx.nox (X : Cx) : Cx := X.wish fun _ _ => False
theorem Cx.Ok.wish {X : Cx} (ok : X.Ok) (E : Value → Shared → Prop) : (X.wish E).Ok :=
  ⟨ok.mod, ok.kind, ok.glob, ok.blt, ok.above, ok.inj, ok.has, ok.cab, ok.hd, ok.frames, ok.stk, ok.exf, ok.bs, ok.bsz, ok.noex, ok.exfs, ok.funs, ok.frf⟩
theorem Cx.Ok.unwish {X : Cx} {E : Value → Shared → Prop} (ok : (X.wish E).Ok) : X.Ok :=
  ⟨ok.mod, ok.kind, ok.glob, ok.blt, ok.above, ok.inj, ok.has, ok.cab, ok.hd, ok.frames, ok.stk, ok.exf, ok.bs, ok.bsz, ok.noex, ok.exfs, ok.funs, ok.frf⟩
section
variable {X : Cx} {pins : List (Addr × Obj)} {σ : St} {H : Hp} {s : Shared} {E : Value → Shared → Prop}
theorem Inv.wish (I : Inv X pins σ H s) (E : Value → Shared → Prop) : Inv (X.wish E) pins σ H s := ⟨I.ok.wish E, I.os, I.bare, I.base, I.loc, I.cell, I.free, I.freeC, I.pin, I.hok, I.len⟩
theorem Inv.unwish (I : Inv (X.wish E) pins σ H s) : Inv X pins σ H s := ⟨I.ok.unwish, I.os, I.bare, I.base, I.loc, I.cell, I.free, I.freeC, I.pin, I.hok, I.len⟩
theorem SP.unwish {D : Ends} {f : Flow} {s' : Shared} (h : SP (X.wish E) pins D f s') : SP X pins D f s' := by
  cases f with
  | next => obtain ⟨σ', H', I, q⟩ := h; exact ⟨σ', H', I.unwish, q⟩
  | brk => obtain ⟨σ', H', I, q⟩ := h; exact ⟨σ', H', I.unwish, q⟩
  | cont => obtain ⟨σ', H', I, q⟩ := h; exact ⟨σ', H', I.unwish, q⟩
  | ret u => obtain ⟨v, σ', H', I, r, q⟩ := h; exact ⟨v, σ', H', I.unwish, r, q⟩
theorem PSs.nox {st : List Stmt} {t : TS} (h : PSs X.nox st t) : PSs X st t := fun pins s σ H D I hw =>
  wpAny_mono (h pins s σ H D (I.wish _) hw) (fun _ _ q => q.unwish) fun _ _ z => False.elim z
end

/-! ### blocks and small statements -/
section
variable {X : Cx} {st : Stmt} {rest : List Stmt} {t u : TS} {e : Expr} {te : TE} {pos : Pos}
noncomputable def tNext : TS := fun D σ H => D.nx σ H
noncomputable def tSeq (t u : TS) : TS := fun D σ H => t { D with nx := u D } σ H
theorem pss_nil : PSs X [] tNext := fun _ _ σ H _ I h => wpAny_execs_nil ⟨σ, H, I, h⟩
theorem pss_cons (h1 : PS X st t) (h2 : PSs X rest u) : PSs X (st :: rest) (tSeq t u) := by
  intro pins s σ H D I h
  refine wpAny_execs_cons (thn (h1 pins s σ H { D with nx := u D } I h) fun f s1 q => ?_)
  cases f with
  | next =>
    obtain ⟨σ', H', I', q⟩ := q
    exact h2 pins s1 σ' H' D I' q
  | ret v => exact q
  | brk => exact q
  | cont => exact q
theorem pss_one (h1 : PS X st t) : PSs X [st] t := by
  intro pins s σ H D I h
  refine wpAny_execs_cons (thn (h1 pins s σ H D I h) fun f s1 q => ?_)
  cases f with
  | next => exact wpAny_execs_nil q
  | ret v => exact q
  | brk => exact q
  | cont => exact q
theorem Inv.quiet {pins : List (Addr × Obj)} {σ : St} {H : Hp} {s : Shared} (I : Inv X pins σ H s) : interactive X.env = false := by simp [interactive, I.ok.kind]
noncomputable def tDrop (te : TE) : TS := fun D σ H => te σ H fun _ H1 => D.nx σ H1
theorem ps_expr (he : PE X e te) (hs : swapsWith e none pos.line X.env = pure false := by rfl) : PS X (.Expr e pos) (tDrop te) := by
  intro pins s σ H D I h
  exact wpAny_Expr_any (thn (he pins s σ H _ I h) fun v s1 ⟨x, H1, I1, r1, q1⟩ => ⟨σ, H1, I1, q1⟩) I.quiet hs
noncomputable def tRet (te : TE) : TS := fun D σ H => te σ H D.rt
theorem ps_ret (he : PE X e te) : PS X (.Return (some e) pos) (tRet te) := by
  intro pins s σ H D I h
  exact wpAny_Return_some (thn (he pins s σ H _ I h) fun v s1 ⟨x, H1, I1, r1, q1⟩ => ⟨x, σ, H1, I1, r1, q1⟩)
noncomputable def tIfS (c : TT) (t u : TS) : TS := fun D σ H => c σ H fun b H1 => if b = true then t D σ H1 else u D σ H1
theorem ps_if {c : Expr} {a b : List Stmt} {tc : TT} (hc : PT X c tc) (ha : PSs X a t) (hb : PSs X b u) : PS X (.If c a b pos) (tIfS tc t u) := by
  intro pins s σ H D I h
  refine wpAny_If (thn (hc pins s σ H _ I h) fun d s1 ⟨H1, I1, q1⟩ => ?_)
  cases d with
  | true => exact ha pins s1 σ H1 D I1 q1
  | false => exact hb pins s1 σ H1 D I1 q1
noncomputable def tNever : TS := fun _ _ _ => False
theorem ps_never : PS X st tNever := fun _ _ _ _ _ _ h => h.elim
end

/-! ### targets -/
noncomputable abbrev TG := V → St → Hp → (St → Hp → Prop) → Prop
noncomputable abbrev TGs := List V → St → Hp → (St → Hp → Prop) → Prop
noncomputable def PG (X : Cx) (target : Expr) (t : TG) : Prop :=
  ∀ (pins : List (Addr × Obj)) (s : Shared) (σ : St) (H : Hp) (v : V) (u : Value) (Q : St → Hp → Prop), Inv X pins σ H s → RelV v u → t v σ H Q →
    wpAny (model X.prog X.w) X.A (assign target X.env u) (fun _ s' => ∃ σ' H', Inv X pins σ' H' s' ∧ Q σ' H') X.xe s
noncomputable def PGs (X : Cx) (ts : List Expr) (t : TGs) : Prop :=
  ∀ (pins : List (Addr × Obj)) (s : Shared) (σ : St) (H : Hp) (vs : List V) (us : List Value) (Q : St → Hp → Prop), Inv X pins σ H s → Vals vs us → t vs σ H Q →
    wpAny (model X.prog X.w) X.A (assignInOrder ((assignEach ts X.env).map (·.2)) us) (fun _ s' => ∃ σ' H', Inv X pins σ' H' s' ∧ Q σ' H') X.xe s
noncomputable abbrev TSet := V → V → V → Hp → (Hp → Prop) → Prop
noncomputable def PSet (X : Cx) (t : TSet) : Prop :=
  ∀ (pins : List (Addr × Obj)) (s : Shared) (σ : St) (H : Hp) (o i v : V) (ov iv u : Value) (Q : Hp → Prop), Inv X pins σ H s → RelV o ov → RelV i iv → RelV v u → t o i v H Q →
    wpAny (model X.prog X.w) X.A (setItem ov iv u) (fun _ s' => ∃ H', Inv X pins σ H' s' ∧ Q H') X.xe s
section
variable {X : Cx} {pos : Pos}
noncomputable def gName (i : Nat) : TG := fun v σ H Q => Q (σ.set i (some v)) H
theorem pg_name {i : Nat} {x : Str} (hN : X.N.Nodup) (hi : X.N[i]? = some x) (hx : Loc X.env.scope x) (hf : X.fn x = true ∨ X.env.scope.names.lookup x = some .local := by first | exact .inl rfl | exact .inr rfl | assumption) : PG X (.Name x pos) (gName i) := by
  intro pins s σ H v u Q I r h
  exact wpAny_assign_Name (store_ok I hN hi hx r (fun s' I' => ⟨_, H, I', h⟩) hf)
noncomputable def gNil : TGs := fun vs σ H Q => vs = [] ∧ Q σ H
noncomputable def gCons (t : TG) (u : TGs) : TGs := fun vs σ H Q => ∃ v r, vs = v :: r ∧ t v σ H fun σ' H' => u r σ' H' Q
theorem pgs_nil : PGs X [] gNil := by
  intro pins s σ H vs us Q I r h
  obtain ⟨e, h⟩ := h
  subst e
  cases r
  exact assignInOrder_nil ⟨σ, H, I, h⟩
theorem pgs_cons {e : Expr} {es : List Expr} {t : TG} {u : TGs} (h1 : PG X e t) (h2 : PGs X es u)
    (hs : (assignEach (e :: es) X.env).map (·.2) = assign e X.env :: (assignEach es X.env).map (·.2) := by rfl) : PGs X (e :: es) (gCons t u) := by
  intro pins s σ H vs us Q I r h
  obtain ⟨v, vr, e1, h⟩ := h
  subst e1
  cases r with
  | cons r rr =>
    rw [hs]
    refine assignInOrder_cons (thn (h1 pins s σ H _ _ _ I r h) fun _ s1 ⟨σ1, H1, I1, q1⟩ => ?_)
    exact h2 pins s1 σ1 H1 _ _ Q I1 rr q1
noncomputable def gTup (K : PySem.W.Frag) (n : Nat) (t : TGs) : TG := fun v σ H Q => ∃ a xs, v = .ref a ∧ SqT K H a xs ∧ xs.length = n ∧ t xs σ H Q
theorem pg_tup {es : List Expr} {k : Nat} {t : TGs} {n : Nat} (hc : X.calm = true) (h : PGs X es t)
    (hn : (assignEach es X.env).length = n := by rfl) (hst : (assignEach es X.env).findIdx? (·.1) = none := by rfl) : PG X (.Tuple es k pos) (gTup X.K n t) := by
  intro pins s σ H v u Q I r hw
  obtain ⟨a, xs, e1, hq, hl, hw⟩ := hw
  subst e1
  cases r
  obtain ⟨its, rv, ht, hz⟩ := I.tuple hq
  refine assign_Tuple_tuple (I.ok.hd hc) ht (by simp [hn, ← hl, rv.length]) hst fun h' hx => ?_
  have I1 : Inv X pins σ H { s with heap := h' } := I.kept (t' := s.toks) fun b o e => hx b o (Nat.ne_of_lt (Heap.lt_size e)) e
  exact h pins _ σ H xs _ Q I1 (by simpa using rv) hw
noncomputable def gSub (to ti : TE) (t : TSet) : TG := fun v σ H Q => to σ H fun o H1 => ti σ H1 fun i H2 => t o i v H2 fun H3 => Q σ H3
theorem pg_sub {o i : Expr} {to ti : TE} {t : TSet} (ho : PE X o to) (hi : PE X i ti) (hs : PSet X t)
    (ha : ∀ v, assign (.Subscript o i pos) X.env v = (do
      let ov ← holding [v] (eval o X.env)
      let iv ← holding [v, ov] (eval i X.env)
      standAt pos
      holding [v, ov, iv] (setItem ov iv v)
      release [v, ov, iv] []) := by intro _; rfl) : PG X (.Subscript o i pos) (gSub to ti t) := by
  intro pins s σ H v u Q I r h
  rw [ha]
  refine wpAny_bind (wpAny_holding (thn (ho pins s σ H _ I h) fun ov s1 ⟨x, H1, I1, r1, q1⟩ => ?_))
  refine wpAny_bind (wpAny_holding (thn (hi pins s1 σ H1 _ I1 q1) fun iv s2 ⟨y, H2, I2, r2, q2⟩ => ?_))
  refine wpAny_bind (wpAny_standAt (wpAny_bind (wpAny_holding (thn (hs pins s2 σ H2 x y v ov iv u _ I2 r1 r2 r q2) fun _ s3 ⟨H3, I3, q3⟩ => ?_))))
  exact wpAny_release ⟨σ, H3, I3, q3⟩
noncomputable def tAsg (te : TE) (g : TG) : TS := fun D σ H => te σ H fun x H1 => g x σ H1 D.nx
theorem ps_asg {tg e : Expr} {te : TE} {g : TG} (he : PE X e te) (hg : PG X tg g) (hs : swapsWithSole [tg] e pos.line X.env = pure false := by rfl) (hw : swappedStores [tg] e X.env = pure none := by rfl)
    (h1 : (assignEach [tg] X.env).map (·.2) = [assign tg X.env] := by rfl) : PS X (.Assign [tg] e pos) (tAsg te g) := by
  intro pins s σ H D I h
  refine wpAny_Assign_stores (thn (he pins s σ H _ I h) fun v s1 ⟨x, H1, I1, r1, q1⟩ => ?_) hs hw
  rw [h1]
  exact thn (hg pins s1 σ H1 x v _ I1 r1 q1) fun _ s2 q => q
theorem ps_set {i : Nat} {x : Str} {e : Expr} {te : TE} {pos' : Pos} (hN : X.N.Nodup) (hi : X.N[i]? = some x) (hx : Loc X.env.scope x) (he : PE X e te) (hs : swapsWith e (some (.Name x pos')) pos.line X.env = pure false := by rfl) (hf : X.fn x = true ∨ X.env.scope.names.lookup x = some .local := by first | exact .inl rfl | exact .inr rfl | assumption) :
    PS X (.Assign [.Name x pos'] e pos) (tAsg te (gName i)) := by
  intro pins s σ H D I h
  refine wpAny_Assign_Name (thn (he pins s σ H _ I h) fun v s1 ⟨y, H1, I1, r1, q1⟩ => ?_) hs
  exact store_ok I1 hN hi hx r1 (fun s2 I2 => ⟨_, H1, I2, q1⟩) hf
noncomputable def tPar (i j : Nat) (ta : TA) : TS := fun D σ H => ta σ H fun vs H1 => ∃ v w, vs = [v, w] ∧ D.nx ((σ.set i (some v)).set j (some w)) H1
theorem ps_par {i j : Nat} {x y : Str} {a b : Expr} {ta : TA} {px py pt : Pos} {kt k2 pt2} (hc : X.calm = true) (hN : X.N.Nodup) (hi : X.N[i]? = some x) (hj : X.N[j]? = some y) (hij : i ≠ j)
    (hx : X.env.scope.names.lookup x = some .local) (hy : X.env.scope.names.lookup y = some .local) (ha : PA X [a, b] ta)
    (hw : swappedStores [.Tuple [.Name x px, .Name y py] kt pt] (.Tuple [a, b] k2 pt2) X.env = pure (some [x, y]))
    (hs : swapsWithSole [.Tuple [.Name x px, .Name y py] kt pt] (.Tuple [a, b] k2 pt2) pos.line X.env = pure false := by rfl) :
    PS X (.Assign [.Tuple [.Name x px, .Name y py] kt pt] (.Tuple [a, b] k2 pt2) pos) (tPar i j ta) := by
  intro pins s σ H D I h
  rw [exec_Assign_arm]
  refine wpAny_bind (wpAny_standAt ?_)
  rw [hs]
  refine wpAny_bind (wpAny_pure ?_)
  rw [if_neg (by decide)]
  refine wpAny_bind (Tuple_ (thn (ha _ pins s σ H _ I h) fun us s1 ⟨vs, H1, I1, r1, q1⟩ => ?_))
  obtain ⟨v, w, e1, q1⟩ := q1
  subst e1
  obtain ⟨u1, u2, rfl, rv, rw'⟩ : ∃ u1 u2, us = [u1, u2] ∧ RelV v u1 ∧ RelV w u2 := by
    cases r1 with
    | cons p q =>
      cases q with
      | cons p' q' =>
        cases q'
        exact ⟨_, _, rfl, p, p'⟩
  refine wpAny_newObj_type ?_ (by show 2 ≤ sizeLine; decide)
  have I2 : Inv X pins σ H1 { s1 with heap := s1.heap.push { cls := .type "tuple", data := .seq [u1, u2].toArray } } := I1.kept (t' := s1.toks) fun b o e => Heap.get?_push_of_some _ e
  rw [hw]
  refine wpAny_bind (wpAny_pure ?_)
  show wpAny (model X.prog X.w) X.A (do rule "assign.swapped-stores"; let items ← unpackItems (.ref s1.heap.objs.size) 2 none; assignInOrder [fun v => bindName X.env y v, fun v => bindName X.env x v] items.reverse; pure Flow.next) _ _ _
  refine wpAny_bind (wpAny_rule (wpAny_bind (unpackItems_tuple (items := #[u1, u2]) (I.ok.hd hc) (IsTup.new s1.heap _) fun h' hx' => ?_)))
  have I3 := I2.kept (h' := h') (t' := s1.toks) fun b o e => hx' b o (Nat.ne_of_lt (Heap.lt_size e)) e
  show wpAny _ _ (assignInOrder [fun v => bindName X.env y v, fun v => bindName X.env x v] [u2, u1] >>= fun _ => pure Flow.next) _ _ _
  refine wpAny_bind (assignInOrder_cons (wpAny_bindName (store_ok I3 hN hj (.inl hy) rw' (fun s2 I4 => ?_) (.inr hy))))
  refine assignInOrder_cons (wpAny_bindName (store_ok I4 hN hi (.inl hx) rv (fun s3 I5 => assignInOrder_nil (wpAny_pure ?_)) (.inr hx)))
  rw [List.set_comm _ _ (Ne.symm hij)] at I5
  exact ⟨_, H1, I5, q1⟩
end

/-! ### while -/
section
variable {X : Cx} {pos : Pos}
noncomputable def tWhile (c : TT) (tb : TS) : TS := fun D σ H => ∃ W : Nat → St → Hp → Prop, (∃ m, W m σ H) ∧ ∀ m σ H, W m σ H →
  c σ H fun b H1 => if b = true then ∃ N : St → Hp → Prop, (∀ σ' H', N σ' H' → ∃ m', m' < m ∧ W m' σ' H') ∧ tb { D with nx := N, ct := N, bk := D.nx } σ H1 else D.nx σ H1
theorem ps_while {c : Expr} {body : List Stmt} {tc : TT} {tb : TS} (hp : PassesOwn (model X.prog X.w) X.A X.env X.xe) (hc : PT X c tc) (hb : PSs X body tb) : PS X (.While c body [] pos) (tWhile tc tb) := by
  intro pins s σ H D I h
  obtain ⟨W, ⟨m0, w0⟩, turn⟩ := h
  refine wpAny_While (codeAny_whileLoop (fun n s' => ∃ σ' H', Inv X pins σ' H' s' ∧ W n σ' H') ?_ m0 ⟨σ, H, I, w0⟩)
  rintro n s1 ⟨σ1, H1, I1, w1⟩
  refine wpAny_passesOwn hp (thn (hc pins s1 σ1 H1 _ I1 (turn n σ1 H1 w1)) fun b s2 ⟨H2, I2, q2⟩ => ?_)
  cases b with
  | true =>
    obtain ⟨N, hN, q2⟩ := q2
    rw [if_pos rfl]
    refine wpAny_passesOwn hp (thn (hb pins s2 σ1 H2 _ I2 q2) fun f s3 q3 => ?_)
    cases f with
    | next =>
      obtain ⟨σ3, H3, I3, n3⟩ := q3
      obtain ⟨m', hm, w3⟩ := hN σ3 H3 n3
      exact ⟨m', hm, σ3, H3, I3, w3⟩
    | cont =>
      obtain ⟨σ3, H3, I3, n3⟩ := q3
      obtain ⟨m', hm, w3⟩ := hN σ3 H3 n3
      exact ⟨m', hm, σ3, H3, I3, w3⟩
    | brk => exact q3
    | ret v => exact q3
  | false =>
    rw [if_neg Bool.false_ne_true]
    exact wpAny_execs_nil ⟨σ1, H2, I2, q2⟩
end

/-! ### what a loop or a comprehension walks -/
set_option genInjectivity false in
structure It where
  go : Nat → Hp → Prop
  yld : Nat → Hp → V → Hp → Prop
  stop : Nat → Hp → Prop
noncomputable def FpOk (X : Cx) (pins : List (Addr × Obj)) (H : Hp) (b : Addr) : Prop :=
  H b = none ∧ b ≠ X.env.locals ∧ b ∉ X.fs ∧ (b ∈ X.ex ∨ X.s₀.heap.objs.size ≤ b) ∧ (∀ x c, X.env.cells.lookup x = some c → c ≠ b) ∧ ∀ p ∈ X.pn ++ pins, p.1 ≠ b
theorem Inv.fpOk {X : Cx} {pins : List (Addr × Obj)} {σ : St} {H H' : Hp} {s : Shared} {b : Addr} (I : Inv X pins σ H s) (hb : s.heap.objs.size ≤ b) (hn : H' b = none) : FpOk X pins H' b := by
  refine ⟨hn, Nat.ne_of_gt (Nat.lt_of_lt_of_le I.lt hb), I.nofs hb, .inr (Nat.le_trans I.sz hb), fun x c e z => ?_, fun p hp z => ?_⟩
  · obtain ⟨v, q⟩ := I.cell x c e
    exact absurd (Nat.lt_of_lt_of_le q.lt (by rw [z]; exact hb)) (Nat.lt_irrefl _)
  · exact absurd (Nat.lt_of_lt_of_le (Heap.lt_size (I.pin p hp).1) (by rw [z]; exact hb)) (Nat.lt_irrefl _)
structure Turn (P : Program) (w : World) (K : PySem.W.Frag) (tg : Expr) (J : It) (fp : List Addr) (it : Addr) (tn : Nat → Heap → Prop) : Prop where
  mem : it ∈ fp
  obj : ∀ i h, tn i h → ∀ b ∈ fp, ∃ o, h.get? b = some o ∧ ∀ v, o.data ≠ .cell v
  keep : ∀ i h h', tn i h → (∀ b ∈ fp, ∀ o, h.get? b = some o → h'.get? b = some o) → tn i h'
  item : ∀ (X : Cx), X.prog = P → X.w = w → X.K = K → X.calm = true → ∀ (i : Nat) (pins : List (Addr × Obj)) (s : Shared) (σ : St) (H : Hp) (E : Value → Shared → Prop), Inv X pins σ H s → (∀ b ∈ fp, FpOk X pins H b) → tn i s.heap → J.go i H →
    wpAny (model P w) X.A (pyNext (.ref it)) (fun r s1 => ∃ u, r = some u ∧
      wpAny (model P w) X.A (letOwnedTupleGo tg (.ref it) u) (fun _ s2 => ∃ x H', Inv X pins σ H' s2 ∧ RelV x u ∧ J.yld i H x H' ∧ tn (i + 1) s2.heap ∧ ∀ b ∈ fp, H' b = none) E s1) E s
  done : ∀ (X : Cx), X.prog = P → X.w = w → X.K = K → X.calm = true → ∀ (i : Nat) (pins : List (Addr × Obj)) (s : Shared) (σ : St) (H : Hp) (E : Value → Shared → Prop), Inv X pins σ H s → (∀ b ∈ fp, FpOk X pins H b) → tn i s.heap → J.stop i H →
    wpAny (model P w) X.A (pyNext (.ref it)) (fun r s1 => r = none ∧ Inv X pins σ H s1) E s
  self : ∀ (A : Around) (i : Nat) (s : Shared) (Q : Value → Shared → Prop) (E : Value → Shared → Prop), tn i s.heap → Q (.ref it) s → wpAny (model P w) A (pyIter (.ref it)) Q E s
noncomputable abbrev TI := St → Hp → (It → Hp → Prop) → Prop
noncomputable def PIE (X : Cx) (pins : List (Addr × Obj)) (σ : St) (tg : Expr) (R : It → Hp → Prop) (itv : Value) (s2 : Shared) : Prop :=
  ∃ (it : Addr) (fp : List Addr) (tn : Nat → Heap → Prop) (J : It) (H' : Hp), itv = .ref it ∧ Inv X pins σ H' s2 ∧ Turn X.prog X.w X.K tg J fp it tn ∧ tn 0 s2.heap ∧ (∀ b ∈ fp, FpOk X pins H' b) ∧ R J H'
noncomputable def PI (X : Cx) (tg iter : Expr) (wi : TI) : Prop :=
  ∀ (pins : List (Addr × Obj)) (s : Shared) (σ : St) (H : Hp) (R : It → Hp → Prop), Inv X pins σ H s → wi σ H R →
    wpAny (model X.prog X.w) X.A (eval iter X.env) (fun v s1 => wpAny (model X.prog X.w) X.A (pyIter v) (PIE X pins σ tg R) X.xe s1) X.xe s

theorem go_of {M : Model} {A : Around} {E : Value → Shared → Prop} {s : Shared} {tg : Expr} {it : Addr} {u : Value} {o : Obj} {n : String} {vs : Array Value} {Q : Unit → Shared → Prop} (ho : s.heap.get? it = some o) (hc : o.cls = .type n) (hd : o.data = .fields vs)
    (hn : ["enumerate", "zip", "dict_itemiterator", "dict_reverseitemiterator", "odict_iterator", "itertools.zip_longest", "itertools.pairwise"].contains n = false) (hQ : Q () s) : wpAny M A (letOwnedTupleGo tg (.ref it) u) Q E s := by
  unfold letOwnedTupleGo
  cases tg <;> first
    | exact wpAny_pure hQ
    | (cases u <;> first
        | exact wpAny_pure hQ
        | (refine wpAny_bind (wpAny_load ho ?_)
           rw [hc, hd]
           show wpAny M A (if (["enumerate", "zip", "dict_itemiterator", "dict_reverseitemiterator", "odict_iterator", "itertools.zip_longest", "itertools.pairwise"].contains n && vs[0]? == some (rawInt _)) = true then _ else _) Q E s
           rw [if_neg (by intro h; rw [hn, Bool.false_and] at h; cases h)]
           exact wpAny_pure hQ))

noncomputable def Itl (K : PySem.W.Frag) (a : Addr) : It :=
  ⟨fun i H => ∃ xs x, SqL K H a xs ∧ xs[i]? = some x, fun i H x H' => H' = H ∧ ∀ xs, SqL K H a xs → xs[i]? = some x, fun i H => ∃ xs, SqL K H a xs ∧ xs.length ≤ i⟩
noncomputable def Itt (K : PySem.W.Frag) (a : Addr) : It :=
  ⟨fun i H => ∃ xs x, SqT K H a xs ∧ xs[i]? = some x, fun i H x H' => H' = H ∧ ∀ xs, SqT K H a xs → xs[i]? = some x, fun i H => ∃ xs, SqT K H a xs ∧ xs.length ≤ i⟩
noncomputable def Itr (lo : Int) (n : Nat) : It := ⟨fun i _ => i < n, fun i H x H' => H' = H ∧ x = .int (lo + i), fun i _ => n ≤ i⟩
theorem turn_list {P : Program} {w : World} {K : PySem.W.Frag} {tg : Expr} (a it : Addr) : Turn P w K tg (Itl K a) [it] it (fun i h => h.IsListIter it a i) where
  mem := by simp
  obj := fun i h st b hb => by
    have e : b = it := by simpa using hb
    subst e
    obtain ⟨o, e, c, d⟩ := st
    exact ⟨o, e, fun v z => by rw [d] at z; cases z⟩
  keep := fun i h h' st k => st.at fun o e => k it (by simp) o e
  item := by
    intro X hP hw hK hc i pins s σ H E I hf st hg
    subst hP hw hK
    obtain ⟨xs, x, hq, hx⟩ := hg
    obtain ⟨its, rv, p, hz⟩ := I.list hq
    obtain ⟨u, hu, ru⟩ := rv.get hx
    obtain ⟨f0, f1, f2, f3, f4, f5⟩ := hf it (by simp)
    refine wpAny_pyNext_list_item st p.isList (x := u) (by simpa using hu) fun h' st' sb => ?_
    have I1 : Inv X pins σ H { s with heap := h' } := I.turned (t' := s.toks) (fun b o hb e => (sb.2 b hb).trans e) f0 f1 f3 f4 f5
    obtain ⟨o, e, c, d⟩ := id st'
    exact ⟨u, rfl, go_of (s := { s with heap := h' }) e c d (by decide) ⟨x, H, I1, ru, ⟨rfl, fun ys hy => by rw [I.list_inj hy hq]; exact hx⟩, st', fun b hb => (hf b hb).1⟩⟩
  done := by
    intro X hP hw hK hc i pins s σ H E I hf st hg
    subst hP hw hK
    obtain ⟨xs, hq, hx⟩ := hg
    obtain ⟨its, rv, p, hz⟩ := I.list hq
    obtain ⟨f0, f1, f2, f3, f4, f5⟩ := hf it (by simp)
    have hl := rv.length
    exact wpAny_pyNext_list_end (I.ok.hd hc) st p.isList (by simp; omega) fun h' eb => ⟨rfl, I.turned (t' := s.toks) (fun b o hb e => eb b o hb e) f0 f1 f3 f4 f5⟩
  self := fun _ _ _ _ _ st h => wpAny_pyIter_listiter st h
theorem turn_tuple {P : Program} {w : World} {K : PySem.W.Frag} {tg : Expr} (a it : Addr) : Turn P w K tg (Itt K a) [it] it (fun i h => h.IsTupleIter it a i) where
  mem := by simp
  obj := fun i h st b hb => by
    have e : b = it := by simpa using hb
    subst e
    obtain ⟨o, e, c, d⟩ := st
    exact ⟨o, e, fun v z => by rw [d] at z; cases z⟩
  keep := fun i h h' st k => st.at fun o e => k it (by simp) o e
  item := by
    intro X hP hw hK hc i pins s σ H E I hf st hg
    subst hP hw hK
    obtain ⟨xs, x, hq, hx⟩ := hg
    obtain ⟨its, rv, p, hz⟩ := I.tuple hq
    obtain ⟨u, hu, ru⟩ := rv.get hx
    obtain ⟨f0, f1, f2, f3, f4, f5⟩ := hf it (by simp)
    refine wpAny_pyNext_tuple_item st (show s.heap.IsTuple a its.toArray from p) (x := u) (by simpa using hu) fun h' st' sb => ?_
    have I1 : Inv X pins σ H { s with heap := h' } := I.turned (t' := s.toks) (fun b o hb e => (sb.2 b hb).trans e) f0 f1 f3 f4 f5
    obtain ⟨o, e, c, d⟩ := id st'
    exact ⟨u, rfl, go_of (s := { s with heap := h' }) e c d (by decide) ⟨x, H, I1, ru, ⟨rfl, fun ys hy => by rw [I.tuple_inj hy hq]; exact hx⟩, st', fun b hb => (hf b hb).1⟩⟩
  done := by
    intro X hP hw hK hc i pins s σ H E I hf st hg
    subst hP hw hK
    obtain ⟨xs, hq, hx⟩ := hg
    obtain ⟨its, rv, p, hz⟩ := I.tuple hq
    obtain ⟨f0, f1, f2, f3, f4, f5⟩ := hf it (by simp)
    have hl := rv.length
    exact wpAny_pyNext_tuple_end (I.ok.hd hc) st (show s.heap.IsTuple a its.toArray from p) (by simp; omega) fun h' eb => ⟨rfl, I.turned (t' := s.toks) (fun b o hb e => eb b o hb e) f0 f1 f3 f4 f5⟩
  self := fun _ _ _ _ _ st h => wpAny_pyIter_tupleiter st h
theorem turn_range {P : Program} {w : World} {K : PySem.W.Frag} {tg : Expr} (it : Addr) (lo : Int) (n : Nat) : Turn P w K tg (Itr lo n) [it] it (fun i h => IsRangeIter h it (lo + (i : Nat) * 1) ((n : Int) - (i : Nat)) 1) where
  mem := by simp
  obj := fun i h st b hb => by
    have e : b = it := by simpa using hb
    subst e
    exact ⟨_, st, fun v z => by
      have z' : Data.fields _ = Data.cell v := z
      cases z'⟩
  keep := fun i h h' st k => k it (by simp) _ st
  item := by
    intro X hP hw hK hc i pins s σ H E I hf st hg
    subst hP hw hK
    obtain ⟨f0, f1, f2, f3, f4, f5⟩ := hf it (by simp)
    have W := Walks.range (prog := X.prog) (w := X.w) (I.ok.hd hc) it lo 1 n
    refine W.item i s _ _ hg st fun v h' tk hv st' kk => ?_
    obtain ⟨t, rfl⟩ := hv
    have I1 : Inv X pins σ H { s with heap := h', toks := tk } := I.turned (fun b o hb e => kk b o (by simpa using hb) e) f0 f1 f3 f4 f5
    refine ⟨_, rfl, go_of (s := { s with heap := h', toks := tk }) (n := "range_iterator") st' rfl rfl (by decide) ⟨.int (lo + i), H, I1, ⟨t, ?_⟩, ⟨rfl, rfl⟩, st', fun b hb => (hf b hb).1⟩⟩
    rw [Int.mul_one]
  done := by
    intro X hP hw hK hc i pins s σ H E I hf st hg
    subst hP hw hK
    obtain ⟨f0, f1, f2, f3, f4, f5⟩ := hf it (by simp)
    exact wpAny_pyNext_range_end (I.ok.hd hc) st (by have : n ≤ i := hg; omega) fun h' eb => ⟨rfl, I.turned (t' := s.toks) (fun b o hb e => eb b o hb e) f0 f1 f3 f4 f5⟩
  self := fun _ _ _ _ _ st h => wpAny_pyIter_rangeiter st h
end L2

namespace L2
open PySem PySem.Spec PyProof.Rows
section
variable {X : Cx} {tg : Expr}
noncomputable def iList (K : PySem.W.Frag) (tl : TE) : TI := fun σ H R => tl σ H fun x H1 => ∃ a, x = .ref a ∧ (∃ xs, SqL K H1 a xs) ∧ R (Itl K a) H1
noncomputable def iTup (K : PySem.W.Frag) (tl : TE) : TI := fun σ H R => tl σ H fun x H1 => ∃ a, x = .ref a ∧ (∃ xs, SqT K H1 a xs) ∧ R (Itt K a) H1
theorem pi_list {l : Expr} {tl : TE} (hl : PE X l tl) : PI X tg l (iList X.K tl) := by
  intro pins s σ H R I h
  refine thn (hl pins s σ H _ I h) fun v s1 ⟨x, H1, I1, r1, q1⟩ => ?_
  obtain ⟨a, e, ⟨xs, hq⟩, q⟩ := q1
  subst e
  cases r1
  obtain ⟨its, rv, p, hz⟩ := I1.list hq
  refine wpAny_pyIter_list p.isList ?_
  refine ⟨s1.heap.objs.size, [s1.heap.objs.size], _, _, H1, rfl, I1.kept (t' := s1.toks) fun b o e => Heap.get?_push_of_some _ e, turn_list a _, ⟨_, Heap.get?_push_size _ rfl, rfl, rfl⟩, fun b hb => ?_, q⟩
  have e : b = s1.heap.objs.size := by simpa using hb
  subst e
  exact I1.fpOk (Nat.le_refl _) (I1.hok.fresh (Nat.le_refl _))
theorem pi_tup {l : Expr} {tl : TE} (hl : PE X l tl) : PI X tg l (iTup X.K tl) := by
  intro pins s σ H R I h
  refine thn (hl pins s σ H _ I h) fun v s1 ⟨x, H1, I1, r1, q1⟩ => ?_
  obtain ⟨a, e, ⟨xs, hq⟩, q⟩ := q1
  subst e
  cases r1
  obtain ⟨its, rv, p, hz⟩ := I1.tuple hq
  refine wpAny_pyIter_tuple (show s1.heap.IsTuple a its.toArray from p) ?_
  refine ⟨s1.heap.objs.size, [s1.heap.objs.size], _, _, H1, rfl, I1.kept (t' := s1.toks) fun b o e => Heap.get?_push_of_some _ e, turn_tuple a _, ⟨_, Heap.get?_push_size _ rfl, rfl, rfl⟩, fun b hb => ?_, q⟩
  have e : b = s1.heap.objs.size := by simpa using hb
  subst e
  exact I1.fpOk (Nat.le_refl _) (I1.hok.fresh (Nat.le_refl _))
theorem range_it {pins : List (Addr × Obj)} {σ : St} {H : Hp} {s : Shared} {R : It → Hp → Prop} {E : Value → Shared → Prop} {lo hi : Int} {t u v : Tok} {tk : Nat} (I : Inv X pins σ H s) (h1 : -(2 ^ 62) ≤ lo) (h2 : lo < 2 ^ 62) (h3 : -(2 ^ 62) ≤ hi) (h4 : hi < 2 ^ 62)
    (q : R (Itr lo (hi - lo).toNat) H) : wpAny (model X.prog X.w) X.A (pyIter (.ref s.heap.objs.size)) (PIE X pins σ tg R) E { s with heap := s.heap.push { cls := .type "range", data := .fields #[.int lo t, .int hi u, .int 1 v] }, toks := tk } := by
  refine wpAny_pyIter_range (IsRange.new ..) (small_one h1 h2 h3 h4) ?_
  have I1 : Inv X pins σ H { s with heap := s.heap.push { cls := .type "range", data := .fields #[.int lo t, .int hi u, .int 1 v] }, toks := tk } := I.kept fun b o e => Heap.get?_push_of_some _ e
  refine ⟨(s.heap.push { cls := .type "range", data := .fields #[.int lo t, .int hi u, .int 1 v] }).objs.size, [(s.heap.push { cls := .type "range", data := .fields #[.int lo t, .int hi u, .int 1 v] }).objs.size], _, _, H, rfl,
    I1.kept (t' := tk) fun b o e => Heap.get?_push_of_some _ e, turn_range _ lo (hi - lo).toNat, ?_, fun b hb => ?_, q⟩
  · have e1 : lo + ((0 : Nat) : Int) * 1 = lo := by simp
    have e2 : (((hi - lo).toNat : Nat) : Int) - ((0 : Nat) : Int) = Builtin.Range.rangeSize lo hi 1 := by rw [rangeSize_one]; split <;> omega
    show IsRangeIter _ _ (lo + ((0 : Nat) : Int) * 1) ((((hi - lo).toNat : Nat) : Int) - ((0 : Nat) : Int)) 1
    rw [e1, e2]
    exact Heap.get?_push_size _ rfl
  · have e : b = (s.heap.push { cls := .type "range", data := .fields #[.int lo t, .int hi u, .int 1 v] }).objs.size := by simpa using hb
    subst e
    exact I1.fpOk (Nat.le_refl _) (I1.hok.fresh (Nat.le_refl _))
noncomputable def iRng1 (ta : TA) : TI := fun σ H R => ta σ H fun vs H1 => ∃ j : Int, vs = [.int j] ∧ -(2 ^ 62) ≤ j ∧ j < 2 ^ 62 ∧ R (Itr 0 j.toNat) H1
theorem pi_range1 {a : Expr} {ta : TA} {p pos : Pos} (hg : Gl X "range") (hm : X.mg "range" = none) (ha : PA X [a] ta) (hs : starEach [a] X.env = [(false, eval a X.env)] := by rfl) : PI X tg (.Call (.Name "range" p) [a] [] pos) (iRng1 ta) := by
  intro pins s σ H R I h
  refine Call_ (ld_blt I hg hm boot_range (PyProof.Rows.callWith_type1 (thn (ha pos pins s σ H _ I h) fun us s1 ⟨vs, H1, I1, r1, q1⟩ => ?_) hs rfl))
  obtain ⟨j, e, q1, q2, q⟩ := q1
  subst e
  cases r1 with
  | cons r rr =>
    cases rr
    obtain ⟨t, rfl⟩ := r
    exact call_range_1 (range_it I1 (by omega) (by omega) q1 q2 (by simpa using q))
/-! ### for -/
noncomputable def tFor (wi : TI) (g : TG) (tb : TS) : TS := fun D σ H => wi σ H fun J H1 => ∃ W : Nat → Nat → St → Hp → Prop, (∃ m, W 0 m σ H1) ∧ ∀ i m σ H, W i m σ H →
  (J.stop i H ∧ D.nx σ H) ∨ (J.go i H ∧ ∃ N : St → Hp → Prop, (∀ σ' H', N σ' H' → ∃ m', m' < m ∧ W (i + 1) m' σ' H') ∧ ∀ x H', J.yld i H x H' → g x σ H' fun σ2 H2 => tb { D with nx := N, ct := N, bk := D.nx } σ2 H2)
noncomputable def pinsAt (fp : List Addr) (h : Heap) : List (Addr × Obj) := fp.filterMap fun b => (h.get? b).map fun o => (b, o)
theorem mem_pinsAt {fp : List Addr} {h : Heap} {b : Addr} {o : Obj} (hb : b ∈ fp) (e : h.get? b = some o) : (b, o) ∈ pinsAt fp h := List.mem_filterMap.mpr ⟨b, hb, by rw [e]; rfl⟩
theorem of_pinsAt {fp : List Addr} {h : Heap} {p : Addr × Obj} (hp : p ∈ pinsAt fp h) : p.1 ∈ fp ∧ h.get? p.1 = some p.2 := by
  obtain ⟨b, hb, e⟩ := List.mem_filterMap.mp hp
  cases q : h.get? b with
  | none => rw [q] at e; cases e
  | some o =>
    rw [q] at e
    have e' : (b, o) = p := Option.some.inj e
    subst e'
    exact ⟨hb, q⟩
theorem Inv.pinned {pins : List (Addr × Obj)} {σ : St} {H : Hp} {s : Shared} {fp : List Addr} (I : Inv X pins σ H s) (hf : ∀ b ∈ fp, FpOk X pins H b) (ho : ∀ b ∈ fp, ∃ o, s.heap.get? b = some o ∧ ∀ v, o.data ≠ .cell v) : Inv X (pins ++ pinsAt fp s.heap) σ H s :=
  I.pins_of fun p hp => (List.mem_append.mp hp).elim (fun z => I.pin p (List.mem_append_right _ z)) fun z => by
    obtain ⟨hb, e⟩ := of_pinsAt z
    obtain ⟨f0, f1, f2, _⟩ := hf p.1 hb
    obtain ⟨o, e', d⟩ := ho p.1 hb
    rw [e] at e'; cases e'
    exact ⟨e, f0, f1, f2, d⟩
theorem Inv.unpinned {pins pl : List (Addr × Obj)} {σ : St} {H : Hp} {s : Shared} (I : Inv X (pins ++ pl) σ H s) : Inv X pins σ H s := I.pins_of fun p hp => I.pin p (List.mem_append_right _ (List.mem_append_left _ hp))
theorem ps_for {iter : Expr} {body : List Stmt} {wi : TI} {g : TG} {tb : TS} {pos : Pos} (hp : PassesOwn (model X.prog X.w) X.A X.env X.xe) (hc : X.calm = true) (hi : PI X tg iter wi) (hg : PG X tg g) (hb : PSs X body tb)
    (hs : ∀ x, foldedSetIterable iter X.env x = pure x := by intro _; rfl) : PS X (.For tg iter body [] pos) (tFor wi g tb) := by
  intro pins s σ H D I h
  refine wpAny_For (thn (hi pins s σ H _ I h) fun v s1 h1 => thn h1 fun itv s2 h2 => ?_) hs
  obtain ⟨it, fp, tn, J, H2, e, I2, T, st2, f2, W, ⟨m0, w0⟩, turn⟩ := h2
  subst e
  -- what stays true of the iterator's objects through the loop
  have stat : ∀ {H' : Hp}, (∀ b ∈ fp, H' b = none) → ∀ b ∈ fp, FpOk X pins H' b := fun hn b hb => ⟨hn b hb, (f2 b hb).2⟩
  refine codeAny_forLoop_any (fun n s' => ∃ i σ' H', Inv X pins σ' H' s' ∧ tn i s'.heap ∧ (∀ b ∈ fp, H' b = none) ∧ W i n σ' H') ?_ m0 ⟨0, σ, H2, I2, st2, fun b hb => (f2 b hb).1, w0⟩
  rintro n s3 ⟨i, σ3, H3, I3, st3, fr3, w3⟩
  rcases turn i n σ3 H3 w3 with ⟨stop, qn⟩ | ⟨go, N, hN, step⟩
  · refine wpAny_passesOwn hp (thn (T.done X rfl rfl rfl hc i pins s3 σ3 H3 X.xe I3 (stat fr3) st3 stop) fun r s4 ⟨hr, I4⟩ => ?_)
    subst hr
    exact wpAny_execs_nil ⟨σ3, H3, I4, qn⟩
  · refine wpAny_passesOwn hp (thn (T.item X rfl rfl rfl hc i pins s3 σ3 H3 X.xe I3 (stat fr3) st3 go) fun r s4 ⟨u, hr, h4⟩ => ?_)
    subst hr
    refine wpAny_passesOwn hp (thn h4 fun _ s5 ⟨x, H5, I5, r5, y5, st5, fr5⟩ => ?_)
    have I5' := I5.pinned (stat fr5) (T.obj _ _ st5)
    refine wpAny_passesOwn hp (thn (hg _ s5 σ3 H5 x u _ I5' r5 (step x H5 y5)) fun _ s6 ⟨σ6, H6, I6, q6⟩ => ?_)
    refine wpAny_passesOwn hp (thn (hb _ s6 σ6 H6 _ I6 q6) fun f s7 q7 => ?_)
    have again : ∀ {σ7 : St} {H7 : Hp}, Inv X (pins ++ pinsAt fp s5.heap) σ7 H7 s7 → N σ7 H7 → ∃ m, m < n ∧ ∃ i σ' H', Inv X pins σ' H' s7 ∧ tn i s7.heap ∧ (∀ b ∈ fp, H' b = none) ∧ W i m σ' H' := fun {σ7 H7} I7 n7 => by
      obtain ⟨m', hm, w7⟩ := hN σ7 H7 n7
      refine ⟨m', hm, i + 1, σ7, H7, I7.unpinned, T.keep _ _ _ st5 fun b hb o e => (I7.pin (b, o) (List.mem_append_right _ (List.mem_append_right _ (mem_pinsAt hb e)))).1, fun b hb => ?_, w7⟩
      obtain ⟨o, e, d⟩ := T.obj _ _ st5 b hb
      exact (I7.pin (b, o) (List.mem_append_right _ (List.mem_append_right _ (mem_pinsAt hb e)))).2.1
    cases f with
    | next => obtain ⟨σ7, H7, I7, n7⟩ := q7; exact again I7 n7
    | cont => obtain ⟨σ7, H7, I7, n7⟩ := q7; exact again I7 n7
    | brk => obtain ⟨σ7, H7, I7, q7⟩ := q7; exact ⟨σ7, H7, I7.unpinned, q7⟩
    | ret v => obtain ⟨x7, σ7, H7, I7, r7, q7⟩ := q7; exact ⟨x7, σ7, H7, I7.unpinned, r7, q7⟩
end

/-! ### the forms one uses -/
theorem for_list {K : PySem.W.Frag} {a : Addr} {xs : List V} {g : TG} {tb : TS} {D : Ends} {σ : St} {H : Hp} (Pv : Nat → St → Hp → Prop) (h0 : Pv 0 σ H) (hl : ∀ i σ H, i ≤ xs.length → Pv i σ H → SqL K H a xs)
    (hs : ∀ i x σ H, xs[i]? = some x → Pv i σ H → g x σ H fun σ2 H2 => tb { D with nx := Pv (i + 1), ct := Pv (i + 1), bk := D.nx } σ2 H2) (hd : ∀ σ H, Pv xs.length σ H → D.nx σ H) :
    ∃ W : Nat → Nat → St → Hp → Prop, (∃ m, W 0 m σ H) ∧ ∀ i m σ H, W i m σ H →
      ((Itl K a).stop i H ∧ D.nx σ H) ∨ ((Itl K a).go i H ∧ ∃ N : St → Hp → Prop, (∀ σ' H', N σ' H' → ∃ m', m' < m ∧ W (i + 1) m' σ' H') ∧ ∀ x H', (Itl K a).yld i H x H' → g x σ H' fun σ2 H2 => tb { D with nx := N, ct := N, bk := D.nx } σ2 H2) := by
  refine ⟨fun i m σ H => m = xs.length - i ∧ i ≤ xs.length ∧ Pv i σ H, ⟨xs.length, by simp, Nat.zero_le _, h0⟩, ?_⟩
  rintro i m σ H ⟨rfl, hi, p⟩
  have q := hl i σ H hi p
  by_cases hlt : i < xs.length
  · refine .inr ⟨⟨xs, xs[i], q, by simp [hlt]⟩, Pv (i + 1), fun σ' H' p' => ⟨xs.length - (i + 1), by omega, rfl, hlt, p'⟩, fun x H' y => ?_⟩
    obtain ⟨e, y⟩ := y
    subst e
    exact hs i x σ _ (y xs q) p
  · have e : i = xs.length := by omega
    subst e
    exact .inl ⟨⟨xs, q, Nat.le_refl _⟩, hd σ H p⟩
theorem for_tup {K : PySem.W.Frag} {a : Addr} {xs : List V} {g : TG} {tb : TS} {D : Ends} {σ : St} {H : Hp} (Pv : Nat → St → Hp → Prop) (h0 : Pv 0 σ H) (hl : ∀ i σ H, i ≤ xs.length → Pv i σ H → SqT K H a xs)
    (hs : ∀ i x σ H, xs[i]? = some x → Pv i σ H → g x σ H fun σ2 H2 => tb { D with nx := Pv (i + 1), ct := Pv (i + 1), bk := D.nx } σ2 H2) (hd : ∀ σ H, Pv xs.length σ H → D.nx σ H) :
    ∃ W : Nat → Nat → St → Hp → Prop, (∃ m, W 0 m σ H) ∧ ∀ i m σ H, W i m σ H →
      ((Itt K a).stop i H ∧ D.nx σ H) ∨ ((Itt K a).go i H ∧ ∃ N : St → Hp → Prop, (∀ σ' H', N σ' H' → ∃ m', m' < m ∧ W (i + 1) m' σ' H') ∧ ∀ x H', (Itt K a).yld i H x H' → g x σ H' fun σ2 H2 => tb { D with nx := N, ct := N, bk := D.nx } σ2 H2) := by
  refine ⟨fun i m σ H => m = xs.length - i ∧ i ≤ xs.length ∧ Pv i σ H, ⟨xs.length, by simp, Nat.zero_le _, h0⟩, ?_⟩
  rintro i m σ H ⟨rfl, hi, p⟩
  have q := hl i σ H hi p
  by_cases hlt : i < xs.length
  · refine .inr ⟨⟨xs, xs[i], q, by simp [hlt]⟩, Pv (i + 1), fun σ' H' p' => ⟨xs.length - (i + 1), by omega, rfl, hlt, p'⟩, fun x H' y => ?_⟩
    obtain ⟨e, y⟩ := y
    subst e
    exact hs i x σ _ (y xs q) p
  · have e : i = xs.length := by omega
    subst e
    exact .inl ⟨⟨xs, q, Nat.le_refl _⟩, hd σ H p⟩
theorem for_range {lo : Int} {n : Nat} {g : TG} {tb : TS} {D : Ends} {σ : St} {H : Hp} (Pv : Nat → St → Hp → Prop) (h0 : Pv 0 σ H)
    (hs : ∀ i σ H, i < n → Pv i σ H → g (.int (lo + i)) σ H fun σ2 H2 => tb { D with nx := Pv (i + 1), ct := Pv (i + 1), bk := D.nx } σ2 H2) (hd : ∀ σ H, Pv n σ H → D.nx σ H) :
    ∃ W : Nat → Nat → St → Hp → Prop, (∃ m, W 0 m σ H) ∧ ∀ i m σ H, W i m σ H →
      ((Itr lo n).stop i H ∧ D.nx σ H) ∨ ((Itr lo n).go i H ∧ ∃ N : St → Hp → Prop, (∀ σ' H', N σ' H' → ∃ m', m' < m ∧ W (i + 1) m' σ' H') ∧ ∀ x H', (Itr lo n).yld i H x H' → g x σ H' fun σ2 H2 => tb { D with nx := N, ct := N, bk := D.nx } σ2 H2) := by
  refine ⟨fun i m σ H => m = n - i ∧ i ≤ n ∧ Pv i σ H, ⟨n, by simp, Nat.zero_le _, h0⟩, ?_⟩
  rintro i m σ H ⟨rfl, hi, p⟩
  by_cases hlt : i < n
  · refine .inr ⟨hlt, Pv (i + 1), fun σ' H' p' => ⟨n - (i + 1), by omega, rfl, hlt, p'⟩, fun x H' y => ?_⟩
    obtain ⟨e, y⟩ := y
    subst e y
    exact hs i σ _ hlt p
  · have e : i = n := by omega
    subst e
    exact .inl ⟨Nat.le_refl _, hd σ H p⟩
theorem while_by {c : TT} {tb : TS} {D : Ends} {σ : St} {H : Hp} (Pv : St → Hp → Prop) (μ : St → Hp → Nat) (h0 : Pv σ H)
    (hs : ∀ σ H, Pv σ H → c σ H fun b H1 => if b = true then tb { D with nx := fun σ' H' => Pv σ' H' ∧ μ σ' H' < μ σ H, ct := fun σ' H' => Pv σ' H' ∧ μ σ' H' < μ σ H, bk := D.nx } σ H1 else D.nx σ H1)
    (mono : ∀ σ H Q Q', (∀ b H1, Q b H1 → Q' b H1) → c σ H Q → c σ H Q') : tWhile c tb D σ H := by
  refine ⟨fun m σ H => m = μ σ H ∧ Pv σ H, ⟨_, rfl, h0⟩, ?_⟩
  rintro m σ H ⟨rfl, p⟩
  refine mono σ H _ _ (fun b H1 q => ?_) (hs σ H p)
  cases b with
  | true => exact ⟨_, fun σ' H' ⟨p', l⟩ => ⟨_, l, rfl, p'⟩, q⟩
  | false => exact q
end L2

namespace L2
open PySem PySem.Spec PyProof.Rows

noncomputable abbrev R2 := V → V → Hp → VK → Prop
noncomputable def OpR (X : Cx) (f : Value → Value → Sem Value) (r : R2) : Prop :=
  ∀ (pins : List (Addr × Obj)) (s : Shared) (σ : St) (H : Hp) (x y : V) (v u : Value) (Q : VK), Inv X pins σ H s → RelV x v → RelV y u → r x y H Q →
    wpAny (model X.prog X.w) X.A (f v u) (EP X pins σ Q) X.xe s
noncomputable def UnR (X : Cx) (f : Value → Sem Value) (r : V → Hp → VK → Prop) : Prop :=
  ∀ (pins : List (Addr × Obj)) (s : Shared) (σ : St) (H : Hp) (x : V) (v : Value) (Q : VK), Inv X pins σ H s → RelV x v → r x H Q →
    wpAny (model X.prog X.w) X.A (f v) (EP X pins σ Q) X.xe s
noncomputable def CallR (X : Cx) (f : Value) (r : List V → Hp → VK → Prop) : Prop :=
  ∀ (pins : List (Addr × Obj)) (s : Shared) (σ : St) (H : Hp) (xs : List V) (us : List Value) (Q : VK), Inv X pins σ H s → Vals xs us → r xs H Q →
    wpAny (model X.prog X.w) X.A (call f us) (EP X pins σ Q) X.xe s
noncomputable def tOp (r : R2) (ta tb : TE) : TE := fun σ H Q => ta σ H fun x H1 => tb σ H1 fun y H2 => r x y H2 Q
noncomputable def tUn (r : V → Hp → VK → Prop) (ta : TE) : TE := fun σ H Q => ta σ H fun x H1 => r x H1 Q
noncomputable def rI (C : Int → Int → Prop) (g : Int → Int → V) : R2 := fun x y H Q => ∃ i j, x = .int i ∧ y = .int j ∧ C i j ∧ Q (g i j) H
noncomputable def rI0 (g : Int → Int → V) : R2 := fun x y H Q => ∃ i j, x = .int i ∧ y = .int j ∧ Q (g i j) H
noncomputable def rU (g : Int → V) : V → Hp → VK → Prop := fun x H Q => ∃ i, x = .int i ∧ Q (g i) H

section
variable {X : Cx} {a b c : Expr} {ta tb tc : TE} {pos : Pos}

theorem binT (ha : PE X a ta) (hb : PE X b tb) {pins : List (Addr × Obj)} {s : Shared} {σ : St} {H : Hp} {R : V → V → Hp → Prop} (I : Inv X pins σ H s)
    (h : ta σ H fun x H1 => tb σ H1 fun y H2 => R x y H2) {Q : Value → Shared → Prop} {f : Value → Value → Sem Value}
    (hf : ∀ v u s2 x y H2, Inv X pins σ H2 s2 → RelV x v → RelV y u → R x y H2 → wpAny (model X.prog X.w) X.A (f v u) Q X.xe s2) :
    wpAny (model X.prog X.w) X.A (eval a X.env) (fun v s₁ => wpAny (model X.prog X.w) X.A (eval b X.env) (fun u s₂ => wpAny (model X.prog X.w) X.A (f v u) Q X.xe s₂) X.xe s₁) X.xe s := by
  refine thn (ha pins s σ H _ I h) fun v s1 ⟨x, H1, I1, r1, q1⟩ => ?_
  refine thn (hb pins s1 σ H1 _ I1 q1) fun u s2 ⟨y, H2, I2, r2, q2⟩ => ?_
  exact hf v u s2 x y H2 I2 r1 r2 q2

theorem pe_op {op : Operator} {r : R2} (ho : OpR X (binaryOp op) r) (ha : PE X a ta) (hb : PE X b tb) : PE X (.BinOp a op b pos) (tOp r ta tb) := by
  intro pins s σ H Q I h
  exact wpAny_BinOp (binT ha hb I h fun v u s2 x y H2 I2 rx ry q => ho pins s2 σ H2 x y v u Q I2 rx ry q)
theorem pe_un {op : UnaryOp} {r : V → Hp → VK → Prop} (ho : UnR X (unaryOp op) r) (ha : PE X a ta) : PE X (.UnaryOp op a pos) (tUn r ta) := by
  intro pins s σ H Q I h
  exact UnaryOp_ (thn (ha pins s σ H _ I h) fun v s1 ⟨x, H1, I1, r1, q1⟩ => ho pins s1 σ H1 x v Q I1 r1 q1)
/-! ### ints -/
theorem opI {f : Value → Value → Sem Value} {C : Int → Int → Prop} {g : Int → Int → Int}
    (rule : ∀ (i j : Int) (t u : Tok) (s : Shared) (Q : Value → Shared → Prop) (E : Value → Shared → Prop), C i j → Q (.int (g i j) s.toks) { s with toks := s.toks + 1 } → wpAny (model X.prog X.w) X.A (f (.int i t) (.int j u)) Q E s) :
    OpR X f (rI C fun i j => .int (g i j)) := by
  intro pins s σ H x y v u Q I rx ry h
  obtain ⟨i, j, rfl, rfl, hc, q⟩ := h
  obtain ⟨t, rfl⟩ := rx
  obtain ⟨t', rfl⟩ := ry
  exact rule i j t t' s _ _ hc ⟨.int (g i j), H, I.tok _, ⟨_, rfl⟩, q⟩
theorem opI0 {f : Value → Value → Sem Value} {g : Int → Int → Int}
    (rule : ∀ (i j : Int) (t u : Tok) (s : Shared) (Q : Value → Shared → Prop) (E : Value → Shared → Prop), Q (.int (g i j) s.toks) { s with toks := s.toks + 1 } → wpAny (model X.prog X.w) X.A (f (.int i t) (.int j u)) Q E s) :
    OpR X f (rI0 fun i j => .int (g i j)) := by
  intro pins s σ H x y v u Q I rx ry h
  obtain ⟨i, j, rfl, rfl, q⟩ := h
  obtain ⟨t, rfl⟩ := rx
  obtain ⟨t', rfl⟩ := ry
  exact rule i j t t' s _ _ ⟨.int (g i j), H, I.tok _, ⟨_, rfl⟩, q⟩
theorem opB0 {f : Value → Value → Sem Value} {g : Int → Int → Bool}
    (rule : ∀ (i j : Int) (t u : Tok) (s : Shared) (Q : Value → Shared → Prop) (E : Value → Shared → Prop), Q (.bool (g i j)) s → wpAny (model X.prog X.w) X.A (f (.int i t) (.int j u)) Q E s) :
    OpR X f (rI0 fun i j => .bl (g i j)) := by
  intro pins s σ H x y v u Q I rx ry h
  obtain ⟨i, j, rfl, rfl, q⟩ := h
  obtain ⟨t, rfl⟩ := rx
  obtain ⟨t', rfl⟩ := ry
  exact rule i j t t' s _ _ ⟨.bl (g i j), H, I, rfl, q⟩

noncomputable def CPow (i j : Int) : Prop := 0 ≤ j ∧ j ≤ 1000000 ∧ i.natAbs < 2 ^ 64
theorem op_add : OpR X (binaryOp .Add) (rI0 fun i j => .int (i + j)) := opI0 fun _ _ _ _ _ _ _ q => add_int q
theorem op_sub : OpR X (binaryOp .Sub) (rI0 fun i j => .int (i - j)) := opI0 fun _ _ _ _ _ _ _ q => sub_int q
theorem op_modN : OpR X (binaryOp .Mod) (rI (fun _ j => j ≠ 0) fun i j => .int (i.fmod j)) := opI fun _ _ _ _ _ _ _ hc q => mod_int' hc q
theorem op_pow : OpR X (binaryOp .Pow) (rI CPow fun i j => .int (i ^ j.toNat)) := opI fun _ _ _ _ _ _ _ hc q => pow_int_small hc.1 hc.2.1 hc.2.2 q
theorem unI {f : Value → Sem Value} {g : Int → Int}
    (rule : ∀ (i : Int) (t : Tok) (s : Shared) (Q : Value → Shared → Prop) (E : Value → Shared → Prop), Q (.int (g i) s.toks) { s with toks := s.toks + 1 } → wpAny (model X.prog X.w) X.A (f (.int i t)) Q E s) :
    UnR X f (rU fun i => .int (g i)) := by
  intro pins s σ H x v Q I rx h
  obtain ⟨i, rfl, q⟩ := h
  obtain ⟨t, rfl⟩ := rx
  exact rule i t s _ _ ⟨.int (g i), H, I.tok _, ⟨_, rfl⟩, q⟩
theorem un_neg : UnR X (unaryOp .USub) (rU fun i => .int (-i)) := unI fun _ _ _ _ _ q => neg_int q
/-! ### bools among ints: n += (a < b) -/
end

/-! ### comparisons -/
noncomputable def scal : V → V → Bool
  | .non, .non => true | .non, .int _ => true | .int _, .non => true | .non, .bl _ => true | .bl _, .non => true | .non, .str _ => true | .str _, .non => true
  | .int _, .int _ => true | .bl _, .bl _ => true | .str _, .str _ => true | .byt _, .byt _ => true
  | .int _, .str _ => true | .str _, .int _ => true | .bl _, .str _ => true | .str _, .bl _ => true
  | _, _ => false
noncomputable def rEq : R2 := fun x y H Q => scal x y = true ∧ Q (.bl (decide (x = y))) H
noncomputable def rNe : R2 := fun x y H Q => scal x y = true ∧ Q (.bl (!decide (x = y))) H

theorem dec_int {i j : Int} : decide (V.int i = V.int j) = (i == j) := by
  rw [Bool.eq_iff_iff]
  simp
theorem dec_bl {i j : Bool} : decide (V.bl i = V.bl j) = (i == j) := by
  rw [Bool.eq_iff_iff]
  simp
theorem dec_str {i j : Str} : decide (V.str i = V.str j) = (i == j) := by
  rw [Bool.eq_iff_iff]
  simp
theorem dec_byt {i j : Array UInt8} : decide (V.byt i = V.byt j) = (i.toList == j.toList) := by
  rw [Bool.eq_iff_iff]
  cases i
  cases j
  simp

section
variable {X : Cx} {a b c : Expr} {ta tb tc : TE} {pos : Pos}
theorem fin_bl {pins : List (Addr × Obj)} {σ : St} {H : Hp} {s : Shared} {Q : VK} {k k' : Bool} (I : Inv X pins σ H s) (q : Q (.bl k) H) (e : k = k') : EP X pins σ Q (.bool k') s := by
  subst e
  exact ⟨.bl k, H, I, rfl, q⟩
theorem op_eq : OpR X (compareOp .Eq) rEq := by
  intro pins s σ H x y v u Q I rx ry h
  obtain ⟨hs, q⟩ := h
  cases x with
  | non =>
    cases rx
    cases y with
    | non => cases ry; exact PySem.EqNone.eq_none_none (fin_bl I q (by simp))
    | bl j => cases ry; exact PySem.EqNone.eq_none_bool (fin_bl I q (by simp))
    | int j => obtain ⟨t', rfl⟩ := ry; exact PySem.EqNone.eq_none_int (fin_bl I q (by simp))
    | str j => obtain ⟨t', rfl⟩ := ry; exact PySem.EqNone.eq_none_str (fin_bl I q (by simp))
    | _ => exact absurd (show false = true from hs) Bool.false_ne_true
  | bl i =>
    cases rx
    cases y with
    | non => cases ry; exact PySem.EqNone.eq_bool_none (fin_bl I q (by simp))
    | bl j => cases ry; exact eq_bool (fin_bl I q dec_bl)
    | str j => obtain ⟨t', rfl⟩ := ry; exact PySem.EqMixed.eq_bool_str (fin_bl I q (by simp))
    | _ => exact absurd (show false = true from hs) Bool.false_ne_true
  | int i =>
    obtain ⟨t, rfl⟩ := rx
    cases y with
    | non => cases ry; exact PySem.EqNone.eq_int_none (fin_bl I q (by simp))
    | int j => obtain ⟨t', rfl⟩ := ry; exact eq_int (fin_bl I q dec_int)
    | str j => obtain ⟨t', rfl⟩ := ry; exact PySem.EqMixed.eq_int_str (fin_bl I q (by simp))
    | _ => exact absurd (show false = true from hs) Bool.false_ne_true
  | str i =>
    obtain ⟨t, rfl⟩ := rx
    cases y with
    | non => cases ry; exact PySem.EqNone.eq_str_none (fin_bl I q (by simp))
    | bl j => cases ry; exact PySem.EqMixed.eq_str_bool (fin_bl I q (by simp))
    | int j => obtain ⟨t', rfl⟩ := ry; exact PySem.EqMixed.eq_str_int (fin_bl I q (by simp))
    | str j => obtain ⟨t', rfl⟩ := ry; exact eq_str (fin_bl I q dec_str)
    | _ => exact absurd (show false = true from hs) Bool.false_ne_true
  | byt i =>
    obtain ⟨t, rfl⟩ := rx
    cases y with
    | byt j => obtain ⟨t', rfl⟩ := ry; exact PySem.W.eq_bytes (fin_bl I q dec_byt)
    | _ => exact absurd (show false = true from hs) Bool.false_ne_true
  | _ => cases y <;> exact absurd (show false = true from hs) Bool.false_ne_true
theorem op_ne : OpR X (compareOp .NotEq) rNe := by
  intro pins s σ H x y v u Q I rx ry h
  obtain ⟨hs, q⟩ := h
  cases x with
  | non =>
    cases rx
    cases y with
    | non => cases ry; exact PySem.EqNone.ne_none_none (fin_bl I q (by simp))
    | bl j => cases ry; exact PySem.EqNone.ne_none_bool (fin_bl I q (by simp))
    | int j => obtain ⟨t', rfl⟩ := ry; exact PySem.EqNone.ne_none_int (fin_bl I q (by simp))
    | str j => obtain ⟨t', rfl⟩ := ry; exact PySem.EqNone.ne_none_str (fin_bl I q (by simp))
    | _ => exact absurd (show false = true from hs) Bool.false_ne_true
  | bl i =>
    cases rx
    cases y with
    | non => cases ry; exact PySem.EqNone.ne_bool_none (fin_bl I q (by simp))
    | bl j => cases ry; exact ne_bool (fin_bl I q (congrArg not dec_bl))
    | str j => obtain ⟨t', rfl⟩ := ry; exact PySem.EqMixed.ne_bool_str (fin_bl I q (by simp))
    | _ => exact absurd (show false = true from hs) Bool.false_ne_true
  | int i =>
    obtain ⟨t, rfl⟩ := rx
    cases y with
    | non => cases ry; exact PySem.EqNone.ne_int_none (fin_bl I q (by simp))
    | int j => obtain ⟨t', rfl⟩ := ry; exact ne_int (fin_bl I q (congrArg not dec_int))
    | str j => obtain ⟨t', rfl⟩ := ry; exact PySem.EqMixed.ne_int_str (fin_bl I q (by simp))
    | _ => exact absurd (show false = true from hs) Bool.false_ne_true
  | str i =>
    obtain ⟨t, rfl⟩ := rx
    cases y with
    | non => cases ry; exact PySem.EqNone.ne_str_none (fin_bl I q (by simp))
    | bl j => cases ry; exact PySem.EqMixed.ne_str_bool (fin_bl I q (by simp))
    | int j => obtain ⟨t', rfl⟩ := ry; exact PySem.EqMixed.ne_str_int (fin_bl I q (by simp))
    | str j => obtain ⟨t', rfl⟩ := ry; exact ne_str (fin_bl I q (congrArg not dec_str))
    | _ => exact absurd (show false = true from hs) Bool.false_ne_true
  | byt i =>
    obtain ⟨t, rfl⟩ := rx
    cases y with
    | byt j => obtain ⟨t', rfl⟩ := ry; exact PySem.W.ne_bytes (fin_bl I q (congrArg not dec_byt))
    | _ => exact absurd (show false = true from hs) Bool.false_ne_true
  | _ => cases y <;> exact absurd (show false = true from hs) Bool.false_ne_true

theorem op_lt : OpR X (compareOp .Lt) (rI0 fun i j => .bl (decide (i < j))) := opB0 fun _ _ _ _ _ _ _ q => lt_int q
theorem op_le : OpR X (compareOp .LtE) (rI0 fun i j => .bl (decide (i ≤ j))) := opB0 fun _ _ _ _ _ _ _ q => le_int q
theorem op_gt : OpR X (compareOp .Gt) (rI0 fun i j => .bl (decide (j < i))) := opB0 fun _ _ _ _ _ _ _ q => gt_int q
theorem op_in_str : OpR X (compareOp .In) (fun x y H Q => ∃ i j, x = .str i ∧ y = .str j ∧ Q (.bl (!(Builtin.Str.occurrences j i 0 j.length 1).isEmpty)) H) := by
  intro pins s σ H x y v u Q I rx ry h
  obtain ⟨i, j, rfl, rfl, q⟩ := h
  obtain ⟨t, rfl⟩ := rx
  obtain ⟨t', rfl⟩ := ry
  exact in_str (fin_bl I q rfl)

theorem op_isN : OpR X (compareOp .Is) (fun x y H Q => y = .non ∧ Q (.bl (decide (x = .non))) H) := by
  intro pins s σ H x y v u Q I rx ry h
  obtain ⟨rfl, q⟩ := h
  cases ry
  refine is_none_gen (fin_bl I q ?_)
  cases x <;> first
    | (cases rx; rfl)
    | (obtain ⟨t, rfl⟩ := rx; rfl)
theorem nomark (b : Expr) {op : CmpOp} (h : op ≠ .In := by decide) (h2 : op ≠ .NotIn := by decide) : behindInMarks op b = false := by
  have e1 : (op == CmpOp.In) = false := by cases op <;> first | rfl | exact absurd rfl h
  have e2 : (op == CmpOp.NotIn) = false := by cases op <;> first | rfl | exact absurd rfl h2
  cases b <;> simp [behindInMarks, e1, e2]
theorem pe_cmpR {op : CmpOp} {r : R2} (ho : OpR X (compareOp op) r) (ha : PE X a ta) (hb : PE X b tb) (hm : behindInMarks op b = false) : PE X (.Compare a [op] [b] pos) (tOp r ta tb) := by
  intro pins s σ H Q I h
  exact wpAny_Compare1 (binT ha hb I h fun v u s2 x y H2 I2 rx ry q => ho pins s2 σ H2 x y v u Q I2 rx ry q) hm
noncomputable def tTest (t : TE) : TT := fun σ H Q => t σ H fun x H' => ∃ k, x = .bl k ∧ Q k H'
theorem pt_cmpR {op : CmpOp} {r : R2} (ho : OpR X (compareOp op) r) (ha : PE X a ta) (hb : PE X b tb) (hm : behindInMarks op b = false) : PT X (.Compare a [op] [b] pos) (tTest (tOp r ta tb)) := by
  intro pins s σ H Q I h
  refine wpAny_isTrue_Compare1 (thn (ha pins s σ H _ I h) fun v s1 ⟨x, H1, I1, r1, q1⟩ => thn (hb pins s1 σ H1 _ I1 q1) fun u s2 ⟨y, H2, I2, r2, q2⟩ =>
    thn (ho pins s2 σ H2 x y v u _ I2 r1 r2 q2) fun c s3 ⟨z, H3, I3, r3, k, e, q3⟩ => ?_) hm
  subst e
  cases r3
  exact wpAny_truthy_bool ⟨H3, I3, q3⟩
/-! ### truth -/
theorem line63 : (sizeLine : Nat) < 2 ^ 63 := by rw [sizeLine_eq]; decide
/-! ### strs and bytes -/
theorem op_add_str : OpR X (binaryOp .Add) (fun x y H Q => ∃ i j, x = .str i ∧ y = .str j ∧ i.length + j.length ≤ sizeLine ∧ Q (.str (i ++ j)) H) := by
  intro pins s σ H x y v u Q I rx ry h
  obtain ⟨i, j, rfl, rfl, hz, q⟩ := h
  obtain ⟨t, rfl⟩ := rx
  obtain ⟨t', rfl⟩ := ry
  exact add_str (fun t' tk => ⟨.str (i ++ j), H, I.tok _, ⟨_, rfl⟩, q⟩) hz
/-! ### scalar builtins, by CallR -/
theorem vals1 {x : V} {us : List Value} (r : Vals [x] us) : ∃ u, us = [u] ∧ RelV x u := by
  cases r with
  | cons r1 r2 => cases r2; exact ⟨_, rfl, r1⟩
theorem vals2 {x y : V} {us : List Value} (r : Vals [x, y] us) : ∃ u w', us = [u, w'] ∧ RelV x u ∧ RelV y w' := by
  cases r with
  | cons r1 r2 =>
    cases r2 with
    | cons r3 r4 => cases r4; exact ⟨_, _, rfl, r1, r3⟩
theorem call_int1 : CallR X (.type "int") (fun xs H Q => (∃ i, xs = [.int i] ∧ Q (.int i) H) ∨ ∃ k, xs = [.bl k] ∧ Q (.int (if k then 1 else 0)) H) := by
  intro pins s σ H xs us Q I r h
  rcases h with ⟨i, rfl, q⟩ | ⟨k, rfl, q⟩
  · obtain ⟨u, rfl, t, rfl⟩ := vals1 r
    exact call_int_int ⟨.int i, H, I, ⟨_, rfl⟩, q⟩
  · obtain ⟨u, rfl, r1⟩ := vals1 r
    cases r1
    exact call_int_bool ⟨.int (if k then 1 else 0), H, I.tok _, ⟨_, rfl⟩, q⟩
theorem call_str_int : CallR X (.type "str") (fun xs H Q => ∃ i, xs = [.int i] ∧ i.natAbs.log2 < 1920 ∧ Q (.str (toString i)) H) := by
  intro pins s σ H xs us Q I r h
  obtain ⟨i, rfl, hz, q⟩ := h
  obtain ⟨u, rfl, t, rfl⟩ := vals1 r
  exact PySem.P.str_of_int hz ⟨.str _, H, I.tok _, ⟨_, rfl⟩, q⟩
noncomputable def LenV (K : PySem.W.Frag) (x : V) (H : Hp) (n : Nat) : Prop :=
  match x with
  | .str y => y.length ≤ sizeLine ∧ n = y.length
  | .byt y => y.size ≤ sizeLine ∧ n = y.size
  | .ref p => (∃ xs, SqL K H p xs ∧ n = xs.length) ∨ ∃ xs, SqT K H p xs ∧ n = xs.length
  | _ => False
theorem call_len : CallR X (.builtin "len") (fun xs H Q => ∃ x n, xs = [x] ∧ LenV X.K x H n ∧ Q (.int n) H) := by
  intro pins s σ H xs us Q I r h
  obtain ⟨x, n, rfl, e, q⟩ := h
  obtain ⟨u, rfl, rx⟩ := vals1 r
  have hl := line63
  have hs : sizeLine = 16777216 := sizeLine_eq
  cases x with
  | str y =>
    obtain ⟨t, rfl⟩ := rx
    obtain ⟨hy, e'⟩ : y.length ≤ sizeLine ∧ n = y.length := e
    subst e'
    exact len_str (by omega) ⟨.int _, H, I.tok _, ⟨_, rfl⟩, q⟩
  | byt y =>
    obtain ⟨t, rfl⟩ := rx
    obtain ⟨hy, e'⟩ : y.size ≤ sizeLine ∧ n = y.size := e
    subst e'
    exact PySem.W.len_bytes (by omega) ⟨.int _, H, I.tok _, ⟨_, rfl⟩, q⟩
  | ref p =>
    cases rx
    have e' : (∃ xs, SqL X.K H p xs ∧ n = xs.length) ∨ ∃ xs, SqT X.K H p xs ∧ n = xs.length := e
    rcases e' with ⟨xs, hx, e'⟩ | ⟨xs, hx, e'⟩
    · subst e'
      obtain ⟨its, r', pl, hz⟩ := I.list hx
      have hlen := r'.length
      exact Calls.call_len_list pl.isList (by simp only [List.size_toArray]; omega) ⟨.int xs.length, H, I.tok _, ⟨_, by simp only [List.size_toArray]; rw [hlen]⟩, q⟩
    · subst e'
      obtain ⟨its, r', pl, hz⟩ := I.tuple hx
      have hlen := r'.length
      exact len_tuple pl (by simp only [List.size_toArray]; omega) ⟨.int xs.length, H, I.tok _, ⟨_, by simp only [List.size_toArray]; rw [hlen]⟩, q⟩
  | _ => exact (show False from e).elim
end
end L2

namespace L2
open PySem PySem.Spec PyProof.Rows

/-! ### an instance, its attributes a map -/
structure ObjM (h : Heap) (x dx C : Addr) (mA : Str → Option Value) : Prop where
  obj : h.get? x = some (PySem.W.instObj C dx)
  ns : h.Ns1 dx mA
  ne : dx ≠ x

theorem lookIn_ns {h : Heap} {dx : Addr} {mA : Str → Option Value} (n : h.Ns1 dx mA) : ∃ od, h.get? dx = some od ∧ ∀ name, PySem.W.lookIn name od = some (mA name) := by
  obtain ⟨o, es, ep, ho, hd, hk, _, hm⟩ := n
  refine ⟨o, ho, fun name => ?_⟩
  have e := hm name
  unfold nsFind findBy at e
  rw [← Array.find?_toList] at e
  unfold PySem.W.lookIn
  rw [hd]
  dsimp only
  split
  · rename_i y q
    rw [q] at e
    exact congrArg some e
  · rename_i q
    rw [q] at e
    have a : es.toList.any (·.refKey) = false := by
      rw [List.any_eq_false]
      intro y hy
      obtain ⟨z, t, hkey⟩ := hk y (Array.mem_toList_iff.mp hy)
      simp [DictEntry.refKey, hkey]
    have a' : ¬ es.toList.any (·.refKey) = true := by rw [a]; exact Bool.false_ne_true
    rw [if_neg a']
    exact congrArg some e

theorem ObjM.look {h : Heap} {x dx C : Addr} {mA : Str → Option Value} (I : ObjM h x dx C mA) : ∃ od, PySem.W.InstAt h x (PySem.W.instObj C dx) C (some od) ∧ ∀ name, PySem.W.lookIn name od = some (mA name) :=
  let ⟨od, ho, hl⟩ := lookIn_ns I.ns
  ⟨od, ⟨I.obj, rfl, rfl, ho⟩, hl⟩

section
variable {prog : Program} {w : World} {A : Around} {E : Value → Shared → Prop} {s : Shared} {K : PySem.W.Frag} {x dx C f : Addr} {mA : Str → Option Value} {name : Str} {v : Value}

end

/-! ### the attributes as a list of pairs -/
section
variable {P : Program} {w : World} {H H' : Hp} {h h' : Heap} {a C dx : Addr} {fs fs' : List (Str × V)}
theorem ins_get (hok : HOk P w H h) (e : H a = some (.ins C dx fs)) : ∃ mA, ObjM h a dx C mA ∧ (∀ f, RelO (fs.lookup f) (mA f)) ∧ PySem.Within mA (fs.map (·.1)) ∧ fs.length ≤ 1000 ∧ H dx = some (.own a) := by
  obtain ⟨d, z, ne, ob, mA, n, r, q⟩ := (show ObjOk P w H h a (.ins C dx fs) from hok a _ e)
  exact ⟨mA, ⟨ob, n, ne⟩, r, q, z, d⟩
end

/-! ### what of the text a class must have -/
structure Cls (K : PySem.W.Frag) (C : Addr) : Prop where
  pg : PySem.W.plainGet K C Str.empty = true
  hd : PySem.W.hasDictIn K C = true
  po : PySem.W.plainOver K C = true
  sa : PySem.W.findIn K (.ref C) "__setattr__" = some (some (.builtin "object.__setattr__"))
theorem Cls.get {K : PySem.W.Frag} {C : Addr} (c : Cls K C) (f : Str) : PySem.W.plainGet K C f = true := c.pg
section
variable {X : Cx} {pins : List (Addr × Obj)} {σ : St} {H : Hp} {s : Shared} {a C dx : Addr} {fs : List (Str × V)} {f : Str} {v : V} {A : Around} {E : Value → Shared → Prop}

end

/-! ### readings and rules -/
section
variable {X : Cx} {o e value : Expr} {f : Str} {pos pos' tpos : Pos} {ta tv : TE}
end

/-! ### isinstance -/
section
variable {X : Cx} {pins : List (Addr × Obj)} {σ : St} {H : Hp} {s : Shared} {A : Around} {E : Value → Shared → Prop} {Q : Value → Shared → Prop} {c : Value} {b : Bool}
inductive TyOf (K : PySem.W.Frag) (H : Hp) : V → Value → Prop where
  | non : TyOf K H .non (.type "NoneType")
  | bl (x : Bool) : TyOf K H (.bl x) (.type "bool")
  | int (i : Int) : TyOf K H (.int i) (.type "int")
  | str (x : Str) : TyOf K H (.str x) (.type "str")
  | flt (x : UInt64) : TyOf K H (.flt x) (.type "float")
  | lst {a : Addr} {xs : List V} (e : H a = some (.lst xs)) : TyOf K H (.ref a) (.type "list")
  | frz {a : Addr} {o : Obj} {xs : List V} (e : H a = some (.frz o (.lst xs))) : TyOf K H (.ref a) (.type "list")
  | tup {a : Addr} {xs : List V} (e : H a = some (.tup xs)) : TyOf K H (.ref a) (.type "tuple")
  | dK {a : Addr} {kvs : List (Key × V)} (e : H a = some (.dK kvs)) : TyOf K H (.ref a) (.type "dict")
  | dT {a : Addr} {kvs : List (List Key × V)} (e : H a = some (.dT kvs)) : TyOf K H (.ref a) (.type "dict")
  | ins {a C dx : Addr} {fs : List (Str × V)} (e : H a = some (.ins C dx fs)) (cl : Cls K C) (ha : PySem.W.findIn K (.ref C) "__class__" = some (some (.builtin "object.__class__")))
      (hn : PySem.W.specialIn K (.builtin "object.__class__") "__get__" = some (some (.builtin "getset_descriptor.__get__"))) (htk : PySem.W.takesIn K (.builtin "object.__class__") = some true)
      (hm : PySem.W.mroIn K C (.type "object") = some true) : TyOf K H (.ref a) (.ref C)
theorem isinst_ok {x : V} {u t : Value} (I : Inv X pins σ H s) (rx : RelV x u) (ty : TyOf X.K H x t) (e : PySem.W.kitOne X.K t c = some b) (h : ∀ tk, Q (.bool b) { s with toks := tk }) :
    wpAny (model X.prog X.w) A (call (.builtin "isinstance") [u, c]) Q E s := by
  cases ty with
  | non => cases (show u = Value.none from rx); exact PySem.W.kia_one PySem.W.kitx_none I.kIn True.intro e (fun z => nomatch z) h
  | bl y => cases (show u = Value.bool y from rx); exact PySem.W.kia_one PySem.W.kitx_bool I.kIn True.intro e (fun z => nomatch z) h
  | int i => obtain ⟨t, q⟩ := (show ∃ t, u = Value.int i t from rx); cases q; exact PySem.W.kia_one PySem.W.kitx_int I.kIn True.intro e (fun z => nomatch z) h
  | str y => obtain ⟨t, q⟩ := (show ∃ t, u = Value.str y t from rx); cases q; exact PySem.W.kia_one PySem.W.kitx_str I.kIn True.intro e (fun z => nomatch z) h
  | flt y => obtain ⟨t, q⟩ := (show ∃ t, u = Value.float y t from rx); cases q; exact PySem.W.kia_one PySem.W.kitx_float I.kIn True.intro e (fun z => nomatch z) h
  | @lst a xs ea =>
    cases (show u = Value.ref a from rx)
    obtain ⟨_, _, n, _, h1⟩ := (show ObjOk X.prog X.w H s.heap a (.lst xs) from I.hok a _ ea)
    exact PySem.W.kia_one PySem.W.kitx_list I.kIn ⟨_, h1, rfl⟩ e (fun z => nomatch z) h
  | @frz a ob xs ea =>
    cases (show u = Value.ref a from rx)
    obtain ⟨_, _, _, n, _, h1⟩ := (show ObjOk X.prog X.w H s.heap a (.frz ob (.lst xs)) from I.hok a _ ea)
    exact PySem.W.kia_one PySem.W.kitx_list I.kIn ⟨_, h1, rfl⟩ e (fun z => nomatch z) h
  | @tup a xs ea =>
    cases (show u = Value.ref a from rx)
    obtain ⟨_, _, _, p⟩ := (show ObjOk X.prog X.w H s.heap a (.tup xs) from I.hok a _ ea)
    obtain ⟨o, h1, h2, _⟩ := p
    exact PySem.W.kia_one PySem.W.kitx_tuple I.kIn ⟨o, h1, h2⟩ e (fun z => nomatch z) h
  | @dK a kvs ea =>
    cases (show u = Value.ref a from rx)
    obtain ⟨_, _, vs, _, p⟩ := (show ObjOk X.prog X.w H s.heap a (.dK kvs) from I.hok a _ ea)
    obtain ⟨o, es, ep, h1, h2, _⟩ := p
    exact PySem.W.kia_one PySem.W.kitx_dict I.kIn ⟨o, h1, h2.1⟩ e (fun z => nomatch z) h
  | @dT a kvs ea =>
    cases (show u = Value.ref a from rx)
    obtain ⟨_, _, xs, _, o, es, ep, h1, h2, _⟩ := (show ObjOk X.prog X.w H s.heap a (.dT kvs) from I.hok a _ ea)
    exact PySem.W.kia_one PySem.W.kitx_dict I.kIn ⟨o, h1, h2.1⟩ e (fun z => nomatch z) h
  | @ins a C dx fs ea cl ha hn htk hm =>
    cases (show u = Value.ref a from rx)
    obtain ⟨mA, O, _⟩ := ins_get I.hok ea
    obtain ⟨od, J, _⟩ := O.look
    exact PySem.W.kia_one (PySem.W.kitx_own (cl.get _) cl.hd ha hn htk hm) I.kIn J e (fun z => nomatch z) h
end
end L2

namespace L2
open PySem PySem.Spec PyProof.Rows

/-! ### room -/
structure Room (k : Nat) (A : Around) : Prop where
  hd : A.handled = none
  dp : A.depth + 3 * k + 5 < recursionLimit
  un : A.units + 16 * k + 200 < cLine
theorem Room.mono {j k : Nat} {A : Around} (r : Room k A) (h : j ≤ k) : Room j A := ⟨r.hd, by have := r.dp; omega, by have := r.un; omega⟩
theorem Room.deeper {k : Nat} {A : Around} (r : Room (k + 1) A) (env : Env) : Room k (A.deeper env) :=
  ⟨r.hd, by have := r.dp; show A.depth + 1 + 3 * k + 5 < _; omega, by have := r.un; show A.units + 3 + 16 * k + 200 < _; omega⟩
theorem Room.depth {k : Nat} {A : Around} (r : Room k A) : A.depth < recursionLimit := by have := r.dp; omega
theorem Room.units {k : Nat} {A : Around} (r : Room k A) : A.units + 64 < cLine := by have := r.un; omega
/-! ### argument lists and displays -/
noncomputable def tNil : TA := fun _ H Q => Q [] H
noncomputable def tCons (ta : TE) (tr : TA) : TA := fun σ H Q => ta σ H fun x H1 => tr σ H1 fun xs H2 => Q (x :: xs) H2
section
variable {X : Cx} {e : Expr} {es : List Expr} {te : TE} {t : TA} {pos : Pos}
theorem pa_nil : PA X [] tNil := fun _ _ _ _ H Q I h => Calls.spliced_nil ⟨[], H, I, .nil, h⟩
theorem pa_cons (ha : PE X e te) (hr : PA X es t) (hs : starEach (e :: es) X.env = (false, eval e X.env) :: starEach es X.env := by rfl) : PA X (e :: es) (tCons te t) := by
  intro pos pins s σ H Q I h
  rw [hs]
  show wpAny _ _ (spliced ((false, eval e X.env) :: backTo pos (starEach es X.env))) _ _ s
  refine Calls.spliced_cons (thn (ha pins s σ H _ I h) fun u s1 ⟨x, H1, I1, r1, q1⟩ => ?_)
  exact thn (hr pos pins s1 σ H1 _ I1 q1) fun us s2 ⟨xs, H2, I2, r2, q2⟩ => ⟨x :: xs, H2, I2, .cons r1 r2, q2⟩

noncomputable def tTup (t : TA) : TE := fun σ H Q => t σ H fun xs H1 => xs.length ≤ sizeLine ∧ ∀ p, H1 p = none → Q (.ref p) (upd H1 p (.tup xs))
noncomputable def tLst (t : TA) : TE := fun σ H Q => t σ H fun xs H1 => xs.length ≤ sizeLine ∧ ∀ p, H1 p = none → Q (.ref p) (upd H1 p (.lst xs))
theorem pe_tup {x1} (h : PA X es t) : PE X (.Tuple es x1 pos) (tTup t) := by
  intro pins s σ H Q I hq
  refine wpAny_Tuple_spliced (thn (h pos pins s σ H _ I hq) fun us s1 ⟨xs, H1, I1, r, z, q⟩ => ⟨by rw [← r.length]; exact z, ?_⟩)
  have hf : H1 s1.heap.objs.size = none := I1.hok.fresh (Nat.le_refl _)
  refine ⟨.ref s1.heap.objs.size, upd H1 s1.heap.objs.size (.tup xs), I1.laid (t' := s1.toks) (fun b u e => Heap.get?_push_of_some _ e) (Nat.le_refl _) ?_, rfl, q _ hf⟩
  exact ⟨z, us, r, ⟨_, Heap.get?_push_size _ rfl, rfl, _, rfl⟩⟩
theorem pe_lst (h : PA X es t) : PE X (.List es pos) (tLst t) := by
  intro pins s σ H Q I hq
  refine wpAny_List_spliced (thn (h pos pins s σ H _ I hq) fun us s1 ⟨xs, H1, I1, r, z, q⟩ => ⟨by rw [← r.length]; exact z, ?_⟩)
  have hf : H1 s1.heap.objs.size = none := I1.hok.fresh (Nat.le_refl _)
  refine ⟨.ref s1.heap.objs.size, upd H1 s1.heap.objs.size (.lst xs), I1.laid (t' := s1.toks) (fun b u e => Heap.get?_push_of_some _ e) (Nat.le_refl _) ?_, rfl, q _ hf⟩
  exact ⟨z, us, 0, r, Heap.get?_push_size _ rfl⟩
end

/-! ### what a def promises -/
noncomputable abbrev Sp := List V → Hp → VK → XK → Prop
noncomputable abbrev CXT := List Env → Hp → Shared → XK → Value → Shared → Prop

structure Env0 (P : Program) (w : World) (K : PySem.W.Frag) (mg : Str → Option Value) (base : Heap) (A : Around) (outer : List Env) (s : Shared) (H : Hp) : Prop where
  frames : A.frames = some outer
  mod : Mod K mg base
  bs : ∀ b o, base.get? b = some o → s.heap.get? b = some o ∧ H b = none
  bsz : base.objs.size ≤ s.heap.objs.size
  funs : s.heap.FunFrames base outer
  frf : ∀ b ∈ frs outer, H b = none
  hok : HOk P w H s.heap
  bare : AllBare s.gens
noncomputable def CE (outer : List Env) (P : Program) (w : World) (H : Hp) (s : Shared) (Q : VK) (u : Value) (s' : Shared) : Prop :=
  ∃ v H', s'.os = s.os ∧ AllBare s'.gens ∧ Un (frs outer) [] H H' s.heap s'.heap ∧ HOk P w H' s'.heap ∧ RelV v u ∧ Q v H'
noncomputable def CR (CX : CXT) (outer : List Env) (P : Program) (w : World) (H : Hp) (s : Shared) (Q : VK) (E : XK) (r : Result) (s' : Shared) : Prop :=
  match r with
  | .ok (.ret u) => CE outer P w H s Q u s'
  | .ok _ => False
  | .error e => CX outer H s E e s'
structure FnOk (P : Program) (w : World) (K : PySem.W.Frag) (mg : Str → Option Value) (base : Heap) (CX : CXT) (k : Nat) (f : Addr) (fd : FuncData) (ps : List Str) (sp : Sp) : Prop where
  len : ∀ vs H Q E, sp vs H Q E → vs.length = ps.length
  run : ∀ (A : Around) (outer : List Env) (s : Shared) (H : Hp) (args : Args) (us : List Value) (vs : List V) (Q : VK) (E : XK), Room k A → Env0 P w K mg base A outer s H → BindsTo s fd args (ps.zip us) → Vals vs us → sp vs H Q E →
    codeAny (model P w) A (.call (.ref f) args) (CR CX outer P w H s Q E) s
section
variable {X : Cx} {pins : List (Addr × Obj)} {σ : St} {H : Hp} {s s' : Shared}
theorem Inv.env0 (I : Inv X pins σ H s) : Env0 X.prog X.w X.K X.mg X.base X.A X.stack s H :=
  ⟨I.ok.frames, I.ok.mod, I.bs, Nat.le_trans I.ok.bsz I.sz, I.stack, I.stkFree, I.hok, I.bare⟩
theorem Inv.after {Q : VK} {u : Value} (I : Inv X pins σ H s) (h : CE X.stack X.prog X.w H s Q u s') : EP X pins σ Q u s' := by
  obtain ⟨v, H', os, bare, un, hok, r, q⟩ := h
  obtain ⟨hh, g, d, t, os'⟩ := s'
  obtain rfl : os' = s.os := os
  exact ⟨v, H', I.call (h' := hh) (g' := g) (d' := d) (t' := t) (ch := []) un hok bare (fun b z => absurd z (by simp)), r, q⟩
end

/-! ### calls -/
noncomputable def tCall (sp : Sp) (dvs : List V) (E : XK) (t : TA) : TE := fun σ H Q => t σ H fun vs H1 => sp (vs ++ dvs) H1 Q E
noncomputable def Binds (K : PySem.W.Frag) (fd : FuncData) (ps : List Str) (ds : List Value) : Prop :=
  ∀ (s : Shared) (us : List Value), K.In s.heap → (us ++ ds).length = ps.length → BindsTo s fd ⟨us, []⟩ (ps.zip (us ++ ds))
theorem Binds.all {K : PySem.W.Frag} {fd : FuncData} {ps : List Str} (h : ∀ us : List Value, us.length = ps.length → bindArgs fd ⟨us, []⟩ = pure (ps.zip us)) : Binds K fd ps [] := fun s us _ hl => by
  rw [List.append_nil] at hl ⊢
  exact .of_eq (h us hl)

noncomputable def Passes (CX : CXT) (X : Cx) (E : XK) : Prop := ∀ (pins : List (Addr × Obj)) (σ : St) (H : Hp) (s : Shared) (e : Value) (s' : Shared), Inv X pins σ H s → CX X.stack H s E e s' → X.xe e s'

section
variable {X : Cx} {CX : CXT} {k : Nat} {f C : Addr} {fd : FuncData} {ps : List Str} {sp : Sp} {dvs : List V} {ds : List Value} {E : XK} {x m : Str} {p pos apos : Pos} {e o : Expr} {es : List Expr} {ta : TE} {t : TA}

theorem run_fn {pins : List (Addr × Obj)} {σ : St} {H : Hp} {s : Shared} {Q : VK} {us : List Value} {vs : List V} (F : FnOk X.prog X.w X.K X.mg X.base CX k f fd ps sp) (hr : Room k X.A) (hb : Binds X.K fd ps ds) (hd : Vals dvs ds) (hx : Passes CX X E)
    (I : Inv X pins σ H s) (r : Vals vs us) (h : sp (vs ++ dvs) H Q E) : wpAny (model X.prog X.w) X.A (call (.ref f) us) (EP X pins σ Q) X.xe s := by
  have r2 : Vals (vs ++ dvs) (us ++ ds) := r.append hd
  have hl : (us ++ ds).length = ps.length := by rw [← r2.length]; exact F.len _ _ _ _ h
  refine wpAny_call (codeAny_mono (F.run X.A X.stack s H ⟨us, []⟩ (us ++ ds) (vs ++ dvs) Q E hr I.env0 (hb s us I.kIn hl) r2 h) fun r s' hq => ?_)
  cases r with
  | error e => exact hx pins σ H s e s' I hq
  | ok fl =>
    cases fl with
    | ret u => exact I.after hq
    | next => exact False.elim hq
    | brk => exact False.elim hq
    | cont => exact False.elim hq

theorem pe_call (F : FnOk X.prog X.w X.K X.mg X.base CX k f fd ps sp) (hr : Room k X.A) (hg : Gl X x) (hm : X.mg x = some (.ref f)) (hk : PySem.W.keepIn X.K (.ref f) = true) (hb : Binds X.K fd ps ds) (hd : Vals dvs ds) (hx : Passes CX X E)
    (ha : PA X (e :: es) t) (hdb : (x == ("__debug__" : Str)) = false := by decide) (he : starEach (e :: es) X.env = (false, eval e X.env) :: starEach es X.env := by rfl) (hpl : (backTo pos (starEach es X.env)).any (·.1) = false := by rfl) :
    PE X (.Call (.Name x p) (e :: es) [] pos) (tCall sp dvs E t) := by
  intro pins s σ H Q I h
  refine wpAny_Call_Name_kw (ld_glob I hg hm ?_ hdb)
  refine PySem.W.callWith_K (h₀ := X.base) I.ok.mod.kin hk (thn (ha pos pins s σ H _ I h) fun us s1 ⟨vs, H1, I1, r, q⟩ => ⟨I1.kIn, ?_⟩) he hpl
  exact run_fn F hr hb hd hx I1 r q
end

/-! ### keywords -/
section
variable {X : Cx} {CX : CXT} {k : Nat} {f C : Addr} {fd : FuncData} {ps ks : List Str} {sp : Sp} {E : XK} {x m : Str} {p pos apos kpos : Pos} {e o : Expr} {es : List Expr} {kws : List Keyword} {te ta : TE} {t tk : TA} {nm : Option Str}
variable {g : List Value → List Value → List Value} {gV : List V → List V → List V}
end

/-! ### a def's body keeps its promise -/
structure FnScope (N P : List Str) (sc : Scope) : Prop where
  kind : sc.kind = .function
  co : sc.isCoroutine = false
  gen : sc.isGenerator = false
  nd : N.Nodup
  pre : N.take P.length = P
  par : ∀ x ∈ P, sc.names.lookup x = some .local ∨ sc.names.lookup x = some .cell
  nofree : ∀ y ∈ sc.names, y.2 ≠ .free

theorem bindL_out {kindOf : Str → Option NameKind} {x : Str} : ∀ {binds : List (Str × Value)} {m : Str → Option Value}, (∀ v, (x, v) ∉ binds) → bindL kindOf binds m x = m x
  | [], _, _ => rfl
  | (n, v) :: r, m, h => by
    unfold bindL
    rw [bindL_out fun w hw => h w (List.mem_cons_of_mem _ hw)]
    split
    · have : x ≠ n := by rintro rfl; exact h v List.mem_cons_self
      simp [this]
    · rfl
theorem bindC_out {kindOf : Str → Option NameKind} {x : Str} : ∀ {binds : List (Str × Value)} {m : Str → Option Value}, (∀ v, (x, v) ∉ binds) → bindC kindOf binds m x = m x
  | [], _, _ => rfl
  | (n, v) :: r, m, h => by
    unfold bindC
    rw [bindC_out fun w hw => h w (List.mem_cons_of_mem _ hw)]
    split
    · rfl
    · have : x ≠ n := by rintro rfl; exact h v List.mem_cons_self
      simp [this]
theorem bindL_get {kindOf : Str → Option NameKind} {x : Str} {v : Value} : ∀ {P : List Str} {vs : List Value} {i : Nat} {m : Str → Option Value}, P.Nodup → P[i]? = some x → vs[i]? = some v → kindOf x = some .local →
    bindL kindOf (P.zip vs) m x = some v
  | [], _, _, _, _, h, _, _ => by simp at h
  | _ :: _, [], _, _, _, _, h, _ => by simp at h
  | p :: P, w :: vs, 0, m, nd, h1, h2, hk => by
    simp at h1 h2; subst h1; subst h2
    show bindL kindOf ((p, w) :: P.zip vs) m p = _
    unfold bindL
    rw [bindL_out fun v hv => (List.nodup_cons.mp nd).1 (List.of_mem_zip hv).1, if_pos hk]
    simp
  | p :: P, w :: vs, i + 1, m, nd, h1, h2, hk => by
    show bindL kindOf ((p, w) :: P.zip vs) m x = _
    unfold bindL
    exact bindL_get (i := i) (List.nodup_cons.mp nd).2 (by simpa using h1) (by simpa using h2) hk
theorem bindC_get {kindOf : Str → Option NameKind} {x : Str} {v : Value} : ∀ {P : List Str} {vs : List Value} {i : Nat} {m : Str → Option Value}, P.Nodup → P[i]? = some x → vs[i]? = some v → kindOf x ≠ some .local →
    bindC kindOf (P.zip vs) m x = some v
  | [], _, _, _, _, h, _, _ => by simp at h
  | _ :: _, [], _, _, _, _, h, _ => by simp at h
  | p :: P, w :: vs, 0, m, nd, h1, h2, hk => by
    simp at h1 h2; subst h1; subst h2
    show bindC kindOf ((p, w) :: P.zip vs) m p = _
    unfold bindC
    rw [bindC_out fun v hv => (List.nodup_cons.mp nd).1 (List.of_mem_zip hv).1, if_neg hk]
    simp
  | p :: P, w :: vs, i + 1, m, nd, h1, h2, hk => by
    show bindC kindOf ((p, w) :: P.zip vs) m x = _
    unfold bindC
    exact bindC_get (i := i) (List.nodup_cons.mp nd).2 (by simpa using h1) (by simpa using h2) hk

noncomputable def start (N : List Str) (vs : List V) : St := vs.map some ++ List.replicate (N.length - vs.length) none

noncomputable def cxOf (CX : CXT) (P : Program) (w : World) (K : PySem.W.Frag) (mg : Str → Option Value) (base : Heap) (N : List Str) (qual : Str) (scope : Scope) (f : Addr) (cd : Value) (A : Around) (outer : List Env) (s : Shared) (H : Hp) (E : XK) : Cx where
  prog := P
  w := w
  K := K
  mg := mg
  base := base
  A := A.deeper (envOfC qual scope s.heap.objs.size f cd)
  N := N
  s₀ := s
  H₀ := H
  env := envOfC qual scope s.heap.objs.size f cd
  outer := outer
  stack := envOfC qual scope s.heap.objs.size f cd :: outer
  ex := []
  calm := true
  fn := fun _ => true
  pn := []
  xe := fun e s' => wpAny (model P w) (A.deeper (envOfC qual scope s.heap.objs.size f cd)) (leaving (envOfC qual scope s.heap.objs.size f cd) e) (fun _ s'' => CX outer H s E e s'') (fun e' s'' => CX outer H s E e' s'') s'

theorem cell_has {sc : Scope} {n : Nat} {x : Str} (h : sc.names.lookup x = some .cell) : ∃ c, (cellsFrom n sc.names []).lookup x = some c := by
  have q := PySem.W.cellsFrom_some sc.names n [] (.inl h)
  exact Option.isSome_iff_exists.mp q

theorem inv_start {CX : CXT} {P : Program} {w : World} {K : PySem.W.Frag} {mg : Str → Option Value} {base : Heap} {N ps : List Str} {qual : Str} {scope : Scope} {f : Addr} {cd : Value} {A : Around} {outer : List Env} {s s1 : Shared} {H : Hp} {E : XK} {us : List Value} {vs : List V}
    (S : FnScope N ps scope) (hd : A.handled = none) (e0 : Env0 P w K mg base A outer s H) (hl : vs.length = ps.length) (r : Vals vs us)
    (x : InCallC s s.heap.objs.size (bindL (envOfC qual scope s.heap.objs.size f cd).kindOf (ps.zip us) fun _ => none) (cellsFrom (s.heap.objs.size + 1) scope.names []) (bindC (envOfC qual scope s.heap.objs.size f cd).kindOf (ps.zip us) fun _ => none) s1) :
    Inv (cxOf CX P w K mg base N qual scope f cd A outer s H E) [] (start N vs) H s1 := by
  have hpl : ps.length ≤ N.length := by have := congrArg List.length S.pre; rw [List.length_take] at this; omega
  obtain ⟨h1, tk, rfl, hk⟩ := x.done
  have noA : ∀ b : Addr, b ∉ (cxOf CX P w K mg base N qual scope f cd A outer s H E).ex := fun b z => absurd (show b ∈ ([] : List Addr) from z) (by simp)
  refine ⟨⟨e0.mod, S.kind, rfl, rfl, Nat.le_refl _, fun y z c h1 h2 => ?_, fun y hy => ?_, fun y c _ h => ?_, fun _ => hd, Around.frames_deeper e0.frames, .inr ⟨rfl, rfl⟩, fun b z => absurd z (noA b), e0.bs, e0.bsz, fun b _ _ => noA b, fun b z => absurd z (noA b), e0.funs, e0.frf⟩,
    rfl, e0.bare, Un.kept hk, ⟨_, x.toInCall.ns, fun i y v h1 h2 h3 => ?_⟩, fun y c h => ⟨_, x.cell y c h⟩, e0.hok.fresh (Nat.le_refl _), fun y c h => ?_, fun p hp => absurd (show p ∈ ([] : List (Addr × Obj)) from hp) (by simp), e0.hok.kept hk, ?_⟩
  · exact name_of_addr x.apart (PySem.mem_of_lookup h1) (PySem.mem_of_lookup h2)
  · have hy : scope.names.lookup y = some .cell ∨ scope.names.lookup y = some .free := hy
    rcases hy with hy | hy
    · exact cell_has hy
    · exact absurd rfl (S.nofree _ (PySem.mem_of_lookup hy))
  · exact Nat.le_of_lt (x.above y c (PySem.mem_of_lookup h))
  · have hi : i < vs.length := by
      unfold start at h2
      by_cases hi : i < vs.length
      · exact hi
      · rw [List.getElem?_append_right (by simpa using hi)] at h2
        rw [List.getElem?_replicate] at h2
        split at h2 <;> cases h2
    have ha : vs[i]? = some v := by
      unfold start at h2
      rw [List.getElem?_append_left (by simpa using hi), List.getElem?_map] at h2
      cases e : vs[i]? with
      | none => rw [e] at h2; cases h2
      | some a => rw [e] at h2; cases h2; rfl
    obtain ⟨u, hu, rv⟩ := r.get ha
    have hp : ps[i]? = some y := by
      rw [← S.pre, List.getElem?_take_of_lt (by omega)]; exact h1
    have ndP : ps.Nodup := by rw [← S.pre]; exact S.nd.sublist (List.take_sublist _ _)
    refine ⟨u, rv, ?_⟩
    rcases S.par y (List.mem_of_getElem? hp) with k | k
    · exact .inl ⟨k, bindL_get ndP hp hu k⟩
    · obtain ⟨c, e⟩ := cell_has (n := s.heap.objs.size + 1) k
      refine .inr ⟨.inl k, c, e, ?_⟩
      have q := x.cell y c e
      rw [bindC_get ndP hp hu (by show scope.names.lookup y ≠ _; rw [k]; decide)] at q
      exact q
  · exact e0.hok.fresh (Nat.le_of_lt (x.above y c (PySem.mem_of_lookup h)))
  · unfold start
    show _ = N.length
    rw [List.length_append, List.length_map, List.length_replicate]
    omega

theorem fn_of {CX : CXT} {P : Program} {w : World} {K : PySem.W.Frag} {mg : Str → Option Value} {base : Heap} {k : Nat} {f : Addr} {name qual : Str} {params : Arguments} {body : List Stmt} {scope : Scope} {dV kV doc pm cdv ct oc : Value} {an od : Option Addr}
    {osl : Array (Option Value)} {N ps : List Str} {sp : Sp} (lk : K.lookup f = some ⟨oc, od, .func (PySem.W.fnOf name qual params body scope dV kV doc pm an cdv ct), osl⟩) (hcd : PySem.W.codeIn K cdv qual = true) (S : FnScope N ps scope)
    (len : ∀ vs H Q E, sp vs H Q E → vs.length = ps.length)
    (hbody : ∀ (A : Around) (outer : List Env) (s : Shared) (H : Hp) (vs : List V) (Q : VK) (E : XK), Room k (A.deeper (envOfC qual scope s.heap.objs.size f cdv)) → sp vs H Q E →
      ∃ t, PSs (cxOf CX P w K mg base N qual scope f cdv A outer s H E) body t ∧ t { nx := fun _ H' => Q .non H', rt := Q } (start N vs) H) :
    FnOk P w K mg base CX (k + 1) f (PySem.W.fnOf name qual params body scope dV kV doc pm an cdv ct) ps sp := by
  refine ⟨len, fun A outer s H args us vs Q E hr e0 hb r hsp => ?_⟩
  have hl := len _ _ _ _ hsp
  have KX : K.In s.heap := e0.mod.kin.keeps fun b o e => (e0.bs b o e).1
  have lim : s.heap.NoLimit := e0.mod.nolimit.keeps fun b o e => (e0.bs b o e).1
  have hkind : ∀ y ∈ ps.zip us, scope.names.lookup y.1 = some .local ∨ (scope.names.lookup y.1 = some .cell ∧ ((cellsFrom (s.heap.objs.size + 1) scope.names []).lookup y.1).isSome = true) := fun ⟨n, v⟩ hy => by
    rcases S.par n (List.of_mem_zip hy).1 with q | q
    · exact .inl q
    · exact .inr ⟨q, PySem.W.cellsFrom_some _ _ _ (.inl q)⟩
  refine codeAny_call_function hr.depth (KX _ _ lk) rfl S.co S.gen rfl (PySem.W.codeRec_of KX hcd) (hb _ _ _ _ ?_)
  refine wpAny_newFunctionEnv_cells S.kind hkind fun env he s1 x => ?_
  subst he
  refine ⟨lim.keeps x.toInCall.keep, codeAny_func ?_⟩
  obtain ⟨t, ht, hq⟩ := hbody A outer s H vs Q E (hr.deeper _) hsp
  have I : Inv (cxOf CX P w K mg base N qual scope f cdv A outer s H E) [] (start N vs) H s1 := inv_start S hr.hd e0 hl r x
  refine wpAny_mono (ht [] s1 (start N vs) H _ I hq) (fun fl s' hs => ?_) fun e s' hs => hs
  have fin : ∀ {σ' : St} {H' : Hp} {v : V} {u : Value}, Inv (cxOf CX P w K mg base N qual scope f cdv A outer s H E) [] σ' H' s' → RelV v u → Q v H' → CE outer P w H s Q u s' :=
    fun {σ' H' v u} J rv q => ⟨v, H', J.os, J.bare, J.base, J.hok, rv, q⟩
  cases fl with
  | ret u =>
    obtain ⟨v, σ', H', J, rv, q⟩ := hs
    exact fin J rv q
  | next =>
    obtain ⟨σ', H', J, q⟩ := hs
    exact fin (v := V.non) (u := Value.none) J rfl q
  | brk =>
    obtain ⟨_, _, _, q⟩ := hs
    exact False.elim q
  | cont =>
    obtain ⟨_, _, _, q⟩ := hs
    exact False.elim q
end L2

namespace L2
open PySem PySem.Spec PyProof.Rows
section
variable {X : Cx} {x : Str} {p pos : Pos} {e : Expr} {es : List Expr} {t : TA} {id T : String} {r : List V → Hp → VK → Prop}

noncomputable def tCB (r : List V → Hp → VK → Prop) (t : TA) : TE := fun σ H Q => t σ H fun vs H1 => r vs H1 Q
theorem pe_callB (hc : CallR X (.builtin id) r) (hg : Gl X x) (hm : X.mg x = none) (hv : bootBuiltins x = some (.builtin id)) (ha : PA X (e :: es) t) (hn : x ≠ "__name__" := by decide) (hdb : (x == ("__debug__" : Str)) = false := by decide)
    (he : starEach (e :: es) X.env = (false, eval e X.env) :: starEach es X.env := by rfl) (hpl : (backTo pos (starEach es X.env)).any (·.1) = false := by rfl) : PE X (.Call (.Name x p) (e :: es) [] pos) (tCB r t) := by
  intro pins s σ H Q I h
  refine wpAny_Call_Name_kw (ld_blt I hg hm hv ?_ hn hdb)
  exact PyProof.Rows.callWith_builtin1 (thn (ha pos pins s σ H _ I h) fun us s1 ⟨vs, H1, I1, r1, q1⟩ => hc pins s1 σ H1 vs us Q I1 r1 q1) he hpl
theorem pe_callTy (hc : CallR X (.type T) r) (hg : Gl X x) (hm : X.mg x = none) (hv : bootBuiltins x = some (.type T)) (ha : PA X (e :: es) t) (hn : x ≠ "__name__" := by decide) (hdb : (x == ("__debug__" : Str)) = false := by decide)
    (he : starEach (e :: es) X.env = (false, eval e X.env) :: starEach es X.env := by rfl) (hpl : (backTo pos (starEach es X.env)).any (·.1) = false := by rfl) : PE X (.Call (.Name x p) (e :: es) [] pos) (tCB r t) := by
  intro pins s σ H Q I h
  refine wpAny_Call_Name_kw (ld_blt I hg hm hv ?_ hn hdb)
  exact PyProof.Rows.callWith_type1 (thn (ha pos pins s σ H _ I h) fun us s1 ⟨vs, H1, I1, r1, q1⟩ => hc pins s1 σ H1 vs us Q I1 r1 q1) he hpl
end
end L2

namespace L2
open PySem PySem.Spec PyProof.Rows

/-! ### lists of pairs as tables -/
section
variable {κ : Type} [DecidableEq κ]
end


/-! ### a tracked dict, its keys ints and texts or tuples of these -/
section
variable {P : Program} {w : World} {H : Hp} {h : Heap} {a : Addr}
end

section
variable {X : Cx} {pins : List (Addr × Obj)} {σ : St} {H : Hp} {s : Shared} {a : Addr} {y v : V} {u r : Value} {o : Option V} {A : Around} {E : Value → Shared → Prop}

end

section
variable {X : Cx} {pins : List (Addr × Obj)} {σ : St} {H : Hp} {s : Shared} {a : Addr} {kvs : List (Key × V)} {k : Key} {u : Value} {A : Around} {E : Value → Shared → Prop}
end


/-! ### readings and rules -/
section
variable {X : Cx} {o i e value : Expr} {pos pos' tpos : Pos} {td ty tv : TE}
end


/-! ### displays -/
section
variable {X : Cx} {pos : Pos}
end

/-! ### methods -/
section
variable {X : Cx} {pins : List (Addr × Obj)} {σ : St} {H : Hp} {s : Shared} {a : Addr} {y d : V} {u r : Value} {o : Option V} {A : Around} {E : Value → Shared → Prop}
end

section
variable {X : Cx} {o e f : Expr} {apos cpos : Pos} {td ty tx : TE}
end

/-! ### dict(d): a copy -/
section
variable {X : Cx} {pins : List (Addr × Obj)} {σ : St} {H : Hp} {s : Shared} {a : Addr} {kvs : List (Key × V)} {A : Around} {E : Value → Shared → Prop}
end


section
variable {X : Cx} {pins : List (Addr × Obj)} {σ : St} {H : Hp} {s : Shared} {a : Addr} {y : V} {u : Value} {A : Around} {E : Value → Shared → Prop}
end
end L2

namespace HT
open PySem PyProof.Rows

section
open PySem.SeqAt
open PySem.AutoSeq1 (wpAny_loadPart')
open PySem.MeetsSeq PySem.MeetsSeq2 PySem.MeetsSeq3

end

section
variable {prog : Program} {w : World} {A : Around} {E : Value → Shared → Prop} {s : Shared}

theorem cat_tup {t b : Addr} {vs ws : List Value} {Q : Value → Shared → Prop} (ht : IsTup s.heap t vs.toArray) (hb : IsTup s.heap b ws.toArray) (hv : vs ≠ [])
    (h1 : ws = [] → Q (.ref t) s) (h2 : ws ≠ [] → Q (.ref s.heap.objs.size) { s with heap := s.heap.push { cls := .type "tuple", data := .seq (vs ++ ws).toArray } })
    (hsz : vs.length + ws.length ≤ sizeLine) : wpAny (model prog w) A (binaryOp .Add (.ref t) (.ref b)) Q E s := by
  obtain ⟨⟨cls, dd, data, sl⟩, ho, hc, n, hd⟩ := id ht
  obtain ⟨⟨cls2, dd2, data2, sl2⟩, ho2, hc2, n2, hd2⟩ := id hb
  simp only at hc hd hc2 hd2
  subst hc hd hc2 hd2
  have e : vs.toArray ++ ws.toArray = (vs ++ ws).toArray := by simp
  by_cases hw : ws = []
  · exact concat_meets ⟨_, ho, rfl⟩ ⟨_, ho2, rfl⟩ noFill_tuple_add seq_tuple_add PySem.F.slot_tuple_add PySem.F.entry_tuple_add (PySem.F.args_tuple_add_2 _ _)
      (tuple_addW1 t b vs.toArray ws.toArray n n2 dd dd2 sl sl2 (by simpa using hv) (by simp [hw])) ⟨ho, ho2, h1 hw⟩
  · refine concat_meets ⟨_, ho, rfl⟩ ⟨_, ho2, rfl⟩ noFill_tuple_add seq_tuple_add PySem.F.slot_tuple_add PySem.F.entry_tuple_add (PySem.F.args_tuple_add_2 _ _)
      (tuple_addW2 t b vs.toArray ws.toArray n n2 dd dd2 sl sl2 (by simpa using hv) (by simpa using hw) (by rw [List.size_toArray, List.size_toArray]; exact hsz)) ⟨ho, ho2, ?_⟩
    rw [e]
    exact h2 hw

/-! ### t[a:b], not the whole -/
noncomputable def sIx (n d : Nat) : Option Int → Nat
  | none => d
  | some v => if v < 0 then (v + (n : Int)).toNat else min v.toNat n
theorem sIx_none (n d : Nat) : sIx n d none = d := rfl
theorem sIx_nat (n d k : Nat) : sIx n d (some (k : Int)) = min k n := by
  show (if (k : Int) < 0 then ((k : Int) + (n : Int)).toNat else min (k : Int).toNat n) = min k n
  rw [if_neg (by omega), Int.toNat_natCast]
end
end HT

namespace L2
open PySem PySem.Spec PyProof.Rows

/-! ### the parts of a slice -/
noncomputable abbrev TO := St → Hp → (Option Int → Hp → Prop) → Prop
noncomputable def PO (X : Cx) (e : Option Expr) (t : TO) : Prop :=
  ∀ (pins : List (Addr × Obj)) (s : Shared) (σ : St) (H : Hp) (Q : Option Int → Hp → Prop), Inv X pins σ H s → t σ H Q →
    wpAny (model X.prog X.w) X.A (evalPart e X.env) (fun u s' => ∃ o H', Inv X pins σ H' s' ∧ IsPart u o ∧ Q o H') X.xe s
noncomputable def tNoPart : TO := fun _ H Q => Q none H
noncomputable def tPart (t : TE) : TO := fun σ H Q => t σ H fun x H1 => ∃ i, x = .int i ∧ Q (some i) H1

section
variable {X : Cx} {e : Expr} {te : TE} {lo hi : Option Expr} {tl th : TO} {pos p2 : Pos}

theorem po_none : PO X none tNoPart := by
  intro pins s σ H Q I h
  rw [evalPart_none]
  exact wpAny_pure ⟨none, H, I, .none, h⟩
theorem po_some (h : PE X e te) : PO X (some e) (tPart te) := by
  intro pins s σ H Q I hw
  rw [evalPart_some]
  refine thn (h pins s σ H _ I hw) fun u s1 ⟨x, H1, I1, r1, q1⟩ => ?_
  obtain ⟨i, rfl, q⟩ := q1
  obtain ⟨t, rfl⟩ := r1
  exact ⟨some i, H1, I1, .int i t, q⟩

noncomputable def SlR (X : Cx) (r : V → Option Int → Option Int → Hp → VK → Prop) : Prop :=
  ∀ (pins : List (Addr × Obj)) (s : Shared) (σ : St) (H : Hp) (x : V) (v vl vu : Value) (lo hi : Option Int) (sl : Addr) (Q : VK), Inv X pins σ H s → RelV x v → s.heap.IsSliceOf sl vl vu .none → IsPart vl lo → IsPart vu hi → r x lo hi H Q →
    ∃ T id, typeLookup (.type T) "__getitem__" = pure (some (.builtin id)) ∧ s.TypeIs v T ∧ wpAny (model X.prog X.w) X.A (getItem v (.ref sl)) (EP X pins σ Q) X.xe s
noncomputable def tSl (r : V → Option Int → Option Int → Hp → VK → Prop) (te : TE) (tl th : TO) : TE := fun σ H Q => te σ H fun x H1 => tl σ H1 fun l H2 => th σ H2 fun u H3 => r x l u H3 Q
theorem pe_slice {r : V → Option Int → Option Int → Hp → VK → Prop} (hr : SlR X r) (he : PE X e te) (hl : PO X lo tl) (hu : PO X hi th) : PE X (.Subscript e (.Slice lo hi none p2) pos) (tSl r te tl th) := by
  intro pins s σ H Q I h
  refine Subscript_ (thn (he pins s σ H _ I h) fun v s1 ⟨x, H1, I1, r1, q1⟩ => ?_)
  refine wpAny_Slice (thn (hl pins s1 σ H1 _ I1 q1) fun vl s2 ⟨l, H2, I2, pl, q2⟩ => thn (hu pins s2 σ H2 _ I2 q2) fun vu s3 ⟨u, H3, I3, pu, q3⟩ => ?_)
  rw [evalPart_none]
  refine wpAny_pure ?_
  have I4 : Inv X pins σ H3 { s3 with heap := s3.heap.push { cls := .type "slice", data := .fields #[vl, vu, .none] } } := I3.kept (t' := s3.toks) fun b ob q => Heap.get?_push_of_some _ q
  obtain ⟨T, id, hT, ht, hg⟩ := hr pins { s3 with heap := s3.heap.push { cls := .type "slice", data := .fields #[vl, vu, .none] } } σ H3 x v vl vu l u s3.heap.objs.size Q I4 r1 (Heap.IsSliceOf.new ..) pl pu q3
  show wpAny (model X.prog X.w) X.A (subscriptTail e (.Slice lo hi none p2) v (.ref s3.heap.objs.size)) (EP X pins σ Q) X.xe { s3 with heap := s3.heap.push { cls := .type "slice", data := .fields #[vl, vu, .none] } }
  exact tail_any (ops := [.ref s3.heap.objs.size, v]) ht hT hg (by with_unfolding_all rfl)

noncomputable def cutV (xs : List V) (lo hi : Option Int) : List V := (xs.drop (HT.sIx xs.length 0 lo)).take (HT.sIx xs.length xs.length hi - HT.sIx xs.length 0 lo)
theorem cutV_length (xs : List V) (lo hi : Option Int) : (cutV xs lo hi).length ≤ xs.length := by
  unfold cutV
  rw [List.length_take, List.length_drop]
  omega
/-! ### t < u, t + u -/
noncomputable def rCatT (K : PySem.W.Frag) : R2 := fun x y H Q => ∃ a b xs ys, x = .ref a ∧ y = .ref b ∧ SqT K H a xs ∧ SqT K H b ys ∧ xs ≠ [] ∧ xs.length + ys.length ≤ sizeLine ∧
  (ys = [] → Q (.ref a) H) ∧ (ys ≠ [] → ∀ p, H p = none → Q (.ref p) (upd H p (.tup (xs ++ ys))))
theorem Vals.nil_iff {xs : List V} {us : List Value} (r : Vals xs us) : us = [] ↔ xs = [] := by
  cases r with
  | nil => simp
  | cons _ _ => simp
theorem op_catT : OpR X (binaryOp .Add) (rCatT X.K) := by
  intro pins s σ H x y v u Q I rx ry h
  obtain ⟨a, b, xs, ys, rfl, rfl, ha, hb, hx, hz, q1, q2⟩ := h
  cases rx
  cases ry
  obtain ⟨its, r1, p1, _⟩ := I.tuple ha
  obtain ⟨its2, r2, p2, _⟩ := I.tuple hb
  refine HT.cat_tup p1 p2 (fun z => hx (r1.nil_iff.mp z)) (fun z => ⟨.ref a, H, I, rfl, q1 (r2.nil_iff.mp z)⟩) (fun z => ?_) (by rw [← r1.length, ← r2.length]; exact hz)
  refine ⟨.ref s.heap.objs.size, _, I.laid (t' := s.toks) (o := .tup (xs ++ ys)) (fun b ob q => Heap.get?_push_of_some _ q) (Nat.le_refl _) ?_, rfl, q2 (fun w => z (r2.nil_iff.mpr w)) _ (I.hok.fresh (Nat.le_refl _))⟩
  exact ⟨by rw [List.length_append]; exact hz, _, r1.append r2, IsTup.new _ _⟩
end
end L2

namespace L2
open PySem PySem.Spec PyProof.Rows

/-! ### places -/
noncomputable def ixN (n : Nat) (i : Int) : Option Nat := if 0 ≤ i then (if i < n then some i.toNat else none) else if -(n : Int) ≤ i then some (i + n).toNat else none
noncomputable def atI {α : Type} (xs : List α) (i : Int) : Option α := (ixN xs.length i).bind fun j => xs[j]?
theorem ixN_seq {n : Nat} {i : Int} {j : Nat} (h : ixN n i = some j) : seqIndex? i n = some j ∧ j < n ∧ -(n : Int) ≤ i ∧ i < n := by
  unfold ixN at h
  by_cases h0 : 0 ≤ i
  · rw [if_pos h0] at h
    by_cases h1 : i < n
    · rw [if_pos h1] at h
      have e : i.toNat = j := Option.some.inj h
      exact ⟨by rw [seqIndex_of h0 h1, e], by omega, by omega, h1⟩
    · rw [if_neg h1] at h; cases h
  · rw [if_neg h0] at h
    by_cases h1 : -(n : Int) ≤ i
    · rw [if_pos h1] at h
      have e : (i + n).toNat = j := Option.some.inj h
      exact ⟨by rw [seqIndex_neg (by omega) h1, e], by omega, h1, by omega⟩
    · rw [if_neg h1] at h; cases h
theorem atI_get {α : Type} {xs : List α} {i : Int} {v : α} (h : atI xs i = some v) : ∃ j, seqIndex? i xs.length = some j ∧ xs[j]? = some v ∧ j < xs.length ∧ -(xs.length : Int) ≤ i ∧ i < xs.length := by
  unfold atI at h
  cases e : ixN xs.length i with
  | none => rw [e] at h; cases h
  | some j =>
    rw [e] at h
    obtain ⟨h1, h2, h3, h4⟩ := ixN_seq e
    exact ⟨j, h1, h, h2, h3, h4⟩
theorem atI_nat {α : Type} {xs : List α} {j : Nat} {v : α} (h : xs[j]? = some v) : atI xs (j : Int) = some v := by
  have hj : j < xs.length := (List.getElem?_eq_some_iff.mp h).1
  have e : ixN xs.length (j : Int) = some j := by
    unfold ixN
    rw [if_pos (by omega), if_pos (by omega)]; simp
  unfold atI; rw [e]; exact h
theorem atI_last {α : Type} (xs : List α) (v : α) : atI (xs ++ [v]) (-1) = some v := by
  have hl : (xs ++ [v]).length = xs.length + 1 := by simp
  have e : ixN (xs ++ [v]).length (-1) = some xs.length := by
    unfold ixN
    rw [hl, if_neg (by decide), if_pos (by omega)]
    congr 1
    omega
  unfold atI
  rw [e]
  show (xs ++ [v])[xs.length]? = some v
  simp

/-! ### what may be subscripted -/
noncomputable def PlainIx (b : Expr) : Prop := ∀ o i, subscripted b false o i = operate [o, i] (getItem o i)
noncomputable def IxR (X : Cx) (r : R2) : Prop :=
  ∀ (value slice : Expr) (pins : List (Addr × Obj)) (s : Shared) (σ : St) (H : Hp) (x y : V) (v u : Value) (Q : VK), Inv X pins σ H s → RelV x v → RelV y u → r x y H Q →
    subscripted slice false v u = operate [v, u] (getItem v u) → wpAny (model X.prog X.w) X.A (subscriptTail value slice v u) (EP X pins σ Q) X.xe s
noncomputable def MtR (X : Cx) (id : String) (r : V → List V → Hp → VK → Prop) : Prop :=
  ∀ (pins : List (Addr × Obj)) (s : Shared) (σ : St) (H : Hp) (x : V) (xs : List V) (v : Value) (us : List Value) (Q : VK), Inv X pins σ H s → RelV x v → Vals xs us → r x xs H Q →
    wpAny (model X.prog X.w) X.A (call (.builtin id) (v :: us)) (EP X pins σ Q) X.xe s
section
variable {X : Cx} {a b : Expr} {ta tb : TE} {pos : Pos}
theorem pe_ix {r : R2} (hr : IxR X r) (ha : PE X a ta) (hb : PE X b tb) (hs : PlainIx b) : PE X (.Subscript a b pos) (tOp r ta tb) := by
  intro pins s σ H Q I h
  exact Subscript_ (binT ha hb I h fun v u s2 x y H2 I2 rx ry q => hr a b pins s2 σ H2 x y v u Q I2 rx ry q (hs _ _))

noncomputable def rIxL (K : PySem.W.Frag) : R2 := fun x y H Q => ∃ p xs i v, x = .ref p ∧ y = .int i ∧ SqL K H p xs ∧ atI xs i = some v ∧ Q v H
noncomputable def rIxT (K : PySem.W.Frag) : R2 := fun x y H Q => ∃ p xs i v, x = .ref p ∧ y = .int i ∧ SqT K H p xs ∧ atI xs i = some v ∧ Q v H
noncomputable def rIxS : R2 := fun x y H Q => ∃ z i c, x = .str z ∧ y = .int i ∧ z.length ≤ sizeLine ∧ atI z.cps.toList i = some c ∧ Q (.str ⟨#[c]⟩) H
theorem ix_list : IxR X (rIxL X.K) := by
  intro value slice pins s σ H x y v u Q I rx ry h hs
  obtain ⟨p, xs, i, z, rfl, rfl, hq, he, q⟩ := h
  cases rx
  obtain ⟨t, rfl⟩ := ry
  obtain ⟨its, r, pl, hz⟩ := I.list hq
  obtain ⟨j, h1, h2, h3, h4, h5⟩ := atI_get he
  obtain ⟨w, ew, rw'⟩ := r.get h2
  have hl := r.length
  have hn := line63
  have fin : EP X pins σ Q w s := ⟨z, H, I, rw', q⟩
  by_cases h0 : 0 ≤ i
  · have hj : i.toNat = j := by
      rw [seqIndex_of h0 h5] at h1
      exact Option.some.inj h1
    exact item_listR pl.isList h0 (by omega) (by rw [hj]; simpa using ew) fin hs
  · have hj : (i + (its.toArray.size : Int)).toNat = j := by
      rw [seqIndex_neg (by omega) h4] at h1
      rw [List.size_toArray, ← hl]
      exact Option.some.inj h1
    exact subscriptTail_builtinR (x := w) pl.isList.typeIs slot_list_getitem.lookup
      (wpAny_getItem_list_neg (Q := fun r s' => r = w ∧ EP X pins σ Q r s') pl.isList (by omega) (by rw [List.size_toArray] <;> omega) (by omega) (by rw [hj]; simpa using ew) ⟨rfl, fin⟩) hs
theorem ix_tup : IxR X (rIxT X.K) := by
  intro value slice pins s σ H x y v u Q I rx ry h hs
  obtain ⟨p, xs, i, z, rfl, rfl, hq, he, q⟩ := h
  cases rx
  obtain ⟨t, rfl⟩ := ry
  obtain ⟨its, r, pl, hz⟩ := I.tuple hq
  obtain ⟨j, h1, h2, h3, h4, h5⟩ := atI_get he
  obtain ⟨w, ew, rw'⟩ := r.get h2
  have hl := r.length
  have hn := line63
  have fin : EP X pins σ Q w s := ⟨z, H, I, rw', q⟩
  exact subscriptTail_builtinR (x := w) pl.typeIs slot_tuple_getitem.lookup
    (getItem_tuple (j := j) (Q := fun r s' => r = w ∧ EP X pins σ Q r s') pl (by omega) (by omega) (by rw [List.size_toArray, ← hl]; exact h1) (by simpa using ew) ⟨rfl, fin⟩) hs
theorem ix_str : IxR X rIxS := by
  intro value slice pins s σ H x y v u Q I rx ry h hs
  obtain ⟨z, i, c, rfl, rfl, hz, he, q⟩ := h
  obtain ⟨t, rfl⟩ := rx
  obtain ⟨t', rfl⟩ := ry
  obtain ⟨j, h1, h2, h3, h4, h5⟩ := atI_get he
  have hl : z.cps.toList.length = z.length := by simp [Str.length]
  rw [hl] at h1 h4 h5
  have hn := line63
  exact tail_any (typeIs_str s z t) slot_str_getitem.lookup (getItem_str (c := c) (by
    have e1 : decide (i < -(2 ^ 63 : Int)) = false := decide_eq_false (by omega)
    have e2 : decide (i ≥ 2 ^ 63) = false := decide_eq_false (by omega)
    rw [e1, e2, Bool.or_false]) (by rw [h1]; simpa using h2) ⟨.str ⟨#[c]⟩, H, I.tok _, ⟨_, rfl⟩, q⟩) hs
/-! ### xs[i] = v, any sign -/
theorem mapSeq_set (its : List Value) (n j : Nat) (u : Value) : Obj.mapSeq (·.setIfInBounds j u) { cls := .type "list", data := .seq its.toArray n } = { cls := .type "list", data := .seq (its.set j u).toArray n } := by
  simp [Obj.mapSeq]
theorem Inv.lst {pins : List (Addr × Obj)} {σ : St} {H : Hp} {s : Shared} {p : Addr} {xs : List V} (I : Inv X pins σ H s) (h : H p = some (.lst xs)) :
    ∃ (its : List Value) (n : Nat), Vals xs its ∧ s.heap.get? p = some { cls := .type "list", data := .seq its.toArray n } ∧ xs.length ≤ sizeLine := by
  obtain ⟨z, its, n, r, e⟩ := I.hok p _ h
  exact ⟨its, n, r, e, z⟩
theorem Inv.lstUpd {pins : List (Addr × Obj)} {σ : St} {H : Hp} {s : Shared} {p : Addr} {xs ys : List V} {its its' : List Value} {n n' : Nat} {f : Obj → Obj} (I : Inv X pins σ H s) (h : H p = some (.lst xs))
    (ho : s.heap.get? p = some { cls := .type "list", data := .seq its.toArray n }) (hf : f { cls := .type "list", data := .seq its.toArray n } = { cls := .type "list", data := .seq its'.toArray n' }) (r : Vals ys its') (hz : ys.length ≤ sizeLine) (t : Nat) :
    Inv X pins σ (upd H p (.lst ys)) { s with heap := s.heap.update p f, toks := t } := by
  have e : (s.heap.update p f).get? p = some { cls := .type "list", data := .seq its'.toArray n' } := by
    rw [Heap.get?_update_self f ho (by rw [hf] <;> rfl), hf]
  refine I.write (x := p) (e := p) (by rw [h]; trivial) (.inl rfl) (fun b u hb q => (Heap.get?_update_other _ _ (Ne.symm hb)).trans q) ⟨_, e⟩ ?_
  exact ⟨hz, its', n', r, e⟩
noncomputable def rSetL : V → V → V → Hp → (Hp → Prop) → Prop := fun o i v H Q => ∃ p xs k j, o = .ref p ∧ i = .int k ∧ H p = some (.lst xs) ∧ ixN xs.length k = some j ∧ Q (upd H p (.lst (xs.set j v)))
theorem set_list : PSet X rSetL := by
  intro pins s σ H o i v ov iv u Q I ro ri rv h
  obtain ⟨p, xs, k, j, rfl, rfl, hp, hj, q⟩ := h
  cases ro
  obtain ⟨t, rfl⟩ := ri
  obtain ⟨its, n, r, ho, hz⟩ := I.lst hp
  obtain ⟨h1, h2, h3, h4⟩ := ixN_seq hj
  have hl := r.length
  have hn := line63
  have I' : Inv X pins σ (upd H p (.lst (xs.set j v))) { s with heap := s.heap.update p (Obj.mapSeq (·.setIfInBounds j u)) } :=
    I.lstUpd hp ho (mapSeq_set its n j u) (r.set rv j) (by rw [List.length_set]; exact hz) s.toks
  by_cases h0 : 0 ≤ k
  · have hk : k.toNat = j := by
      rw [seqIndex_of h0 h4] at h1
      exact Option.some.inj h1
    exact PySem.W.ki_setAt ho h0 (by omega) (by rw [List.size_toArray, ← hl]; exact h4) (by rw [hk]; exact ⟨_, I', q⟩)
  · have hk : (k + (its.toArray.size : Int)).toNat = j := by
      rw [seqIndex_neg (by omega) h3] at h1
      rw [List.size_toArray, ← hl]
      exact Option.some.inj h1
    exact PySem.W.ki_setBack ho (by omega) (by rw [List.size_toArray, ← hl]; exact h3) (by omega) (by rw [hk]; exact ⟨_, I', q⟩)

/-! ### slices -/
theorem slice_bounds (lo hi : Option Int) (n : Nat) : (sliceBounds lo hi none n).1 = ((HT.sIx n 0 lo : Nat) : Int) ∧ (sliceBounds lo hi none n).2.1 = ((HT.sIx n n hi : Nat) : Int) ∧ (sliceBounds lo hi none n).2.2 = 1 := by
  refine ⟨?_, ?_, rfl⟩
  · cases lo with
    | none => simp [sliceBounds, HT.sIx]
    | some i =>
      simp only [sliceBounds, HT.sIx, Option.getD_none, show (1 : Int) > 0 by decide, if_true]
      by_cases h : i < 0
      · simp only [h, if_true] <;> omega
      · simp only [h, if_false] <;> omega
  · cases hi with
    | none => simp [sliceBounds, HT.sIx]
    | some i =>
      simp only [sliceBounds, HT.sIx, Option.getD_none, show (1 : Int) > 0 by decide, if_true]
      by_cases h : i < 0
      · simp only [h, if_true] <;> omega
      · simp only [h, if_false] <;> omega
theorem slicePick_cut (its : List Value) (lo hi : Option Int) : slicePick its.toArray lo hi none = ((its.drop (HT.sIx its.length 0 lo)).take (HT.sIx its.length its.length hi - HT.sIx its.length 0 lo)).toArray := by
  obtain ⟨h1, h2, h3⟩ := slice_bounds lo hi its.toArray.size
  unfold slicePick
  rw [h1, h2, h3]
  simp only [sliceRange_one, pick_run, List.size_toArray] <;> rfl
noncomputable def rSlL (K : PySem.W.Frag) : V → Option Int → Option Int → Hp → VK → Prop := fun x lo hi H Q => ∃ a xs, x = .ref a ∧ SqL K H a xs ∧ ∀ p, H p = none → Q (.ref p) (upd H p (.lst (cutV xs lo hi)))
theorem sl_list : SlR X (rSlL X.K) := by
  intro pins s σ H x v vl vu lo hi sl Q I rx hs pl pu h
  obtain ⟨a, xs, rfl, hx, q⟩ := h
  cases rx
  obtain ⟨its, r, ht, hz⟩ := I.list hx
  have hlen := r.length
  refine ⟨"list", _, slot_list_getitem.lookup, ht.isList.typeIs, ?_⟩
  refine wpAny_getItem_list_slice ht.isList hs pl pu .none (by simp) ?_ (by rw [List.size_toArray] <;> omega)
  rw [slicePick_cut, ← hlen]
  refine ⟨.ref s.heap.objs.size, _, I.laid (t' := s.toks) (o := .lst (cutV xs lo hi)) (fun b ob q => Heap.get?_push_of_some _ q) (Nat.le_refl _) ?_, rfl, q _ (I.hok.fresh (Nat.le_refl _))⟩
  exact ⟨Nat.le_trans (cutV_length xs lo hi) hz, _, 0, (r.drop (HT.sIx xs.length 0 lo)).take (HT.sIx xs.length xs.length hi - HT.sIx xs.length 0 lo), Heap.get?_push_size _ rfl⟩

/-! ### in, not in: flat items -/
noncomputable def flatV : V → Bool
  | .non => true
  | .bl _ => true
  | .int _ => true
  | .str _ => true
  | _ => false
noncomputable def eqV : V → V → Bool
  | .non, .non => true
  | .bl a, .bl b => a == b
  | .bl a, .int b => (if a then 1 else 0) == b
  | .int a, .bl b => a == (if b then 1 else 0)
  | .int a, .int b => a == b
  | .str a, .str b => a == b
  | _, _ => false
theorem eqAt_V {A : Around} {s : Shared} {y x : V} {u v : Value} (ry : RelV y u) (rx : RelV x v) (fy : flatV y = true) (fx : flatV x = true) : SeqAt.EqAt A s u v (eqV y x) := by
  cases y with
  | non =>
    cases ry
    cases x with
    | non => cases rx; exact SeqAt.EqAt.same _
    | bl b => cases rx; exact SeqAt.EqAt.none_bool b
    | int b => obtain ⟨t, rfl⟩ := rx; exact SeqAt.EqAt.none_int b t
    | str b => obtain ⟨t, rfl⟩ := rx; exact SeqAt.EqAt.none_str b t
    | _ => exact absurd (show false = true from fx) Bool.false_ne_true
  | bl a =>
    cases ry
    cases x with
    | non => cases rx; exact SeqAt.EqAt.bool_none a
    | bl b => cases rx; exact SeqAt.EqAt.bool_bool a b
    | int b => obtain ⟨t, rfl⟩ := rx; exact SeqAt.EqAt.bool_int a b t
    | str b => obtain ⟨t, rfl⟩ := rx; exact SeqAt.EqAt.bool_str a b t
    | _ => exact absurd (show false = true from fx) Bool.false_ne_true
  | int a =>
    obtain ⟨t', rfl⟩ := ry
    cases x with
    | non => cases rx; exact SeqAt.EqAt.int_none a t'
    | bl b => cases rx; exact SeqAt.EqAt.int_bool a t' b
    | int b => obtain ⟨t, rfl⟩ := rx; exact SeqAt.EqAt.int_int a t' b t
    | str b => obtain ⟨t, rfl⟩ := rx; exact SeqAt.EqAt.int_str a t' b t
    | _ => exact absurd (show false = true from fx) Bool.false_ne_true
  | str a =>
    obtain ⟨t', rfl⟩ := ry
    cases x with
    | non => cases rx; exact SeqAt.EqAt.str_none a t'
    | bl b => cases rx; exact SeqAt.EqAt.str_bool a t' b
    | int b => obtain ⟨t, rfl⟩ := rx; exact SeqAt.EqAt.str_int a t' b t
    | str b => obtain ⟨t, rfl⟩ := rx; exact SeqAt.EqAt.str_str a t' b t
    | _ => exact absurd (show false = true from fx) Bool.false_ne_true
  | _ => exact absurd (show false = true from fy) Bool.false_ne_true
noncomputable def eqU (x : V) (u : Value) : Bool := match u with
  | .none => eqV .non x
  | .bool b => eqV (.bl b) x
  | .int i _ => eqV (.int i) x
  | .str z _ => eqV (.str z) x
  | _ => false
theorem eqU_of {x y : V} {u : Value} (r : RelV y u) (f : flatV y = true) : eqU x u = eqV y x := by
  cases y with
  | non => cases r; rfl
  | bl b => cases r; rfl
  | int i => obtain ⟨t, rfl⟩ := r; rfl
  | str z => obtain ⟨t, rfl⟩ := r; rfl
  | _ => exact absurd (show false = true from f) Bool.false_ne_true
theorem any_eqU {x : V} : ∀ {xs : List V} {us : List Value}, Vals xs us → xs.all flatV = true → us.any (eqU x) = xs.any fun y => eqV y x
  | _, _, .nil, _ => rfl
  | y :: xs, u :: us, .cons r t, f => by
    rw [List.all_cons, Bool.and_eq_true] at f
    rw [List.any_cons, List.any_cons, eqU_of r f.1, any_eqU t f.2]
theorem mem_eqAt {A : Around} {s : Shared} {x : V} {v : Value} (rx : RelV x v) (fx : flatV x = true) : ∀ {xs : List V} {us : List Value}, Vals xs us → xs.all flatV = true → ∀ u ∈ us, SeqAt.EqAt A s u v (eqU x u)
  | _, _, .nil, _ => fun u hu => by cases hu
  | y :: xs, u :: us, .cons r t, f => fun u' hu => by
    rw [List.all_cons, Bool.and_eq_true] at f
    rcases List.mem_cons.mp hu with rfl | hu
    · rw [eqU_of r f.1]; exact eqAt_V r rx f.1 fx
    · exact mem_eqAt rx fx t f.2 u' hu
noncomputable def inV (x : V) (xs : List V) : Bool := xs.any fun y => eqV y x
noncomputable def rIn (K : PySem.W.Frag) (neg : Bool) : R2 := fun x y H Q => ∃ p xs, y = .ref p ∧ (SqL K H p xs ∨ SqT K H p xs) ∧ flatV x = true ∧ xs.all flatV = true ∧ Q (.bl (if neg then !inV x xs else inV x xs)) H
theorem op_in_seq : OpR X (compareOp .In) (rIn X.K false) := by
  intro pins s σ H x y v u Q I rx ry h
  obtain ⟨p, xs, rfl, hq, fx, fs, q⟩ := h
  cases ry
  rcases hq with hq | hq
  · obtain ⟨its, r, pl, hz⟩ := I.list hq
    refine SeqAt.in_listAt (eqU x) pl.isList (fun w hw => mem_eqAt rx fx r fs w (by simpa using hw)) ⟨.bl _, H, I, rfl, ?_⟩
    rw [show its.toArray.any (eqU x) = its.any (eqU x) by simp, any_eqU r fs]
    exact q
  · obtain ⟨its, r, pl, hz⟩ := I.tuple hq
    refine SeqAt.in_tupleAt (eqU x) pl (fun w hw => mem_eqAt rx fx r fs w (by simpa using hw)) ⟨.bl _, H, I, rfl, ?_⟩
    rw [show its.toArray.any (eqU x) = its.any (eqU x) by simp, any_eqU r fs]
    exact q
/-! ### len, list(x), tuple(x) of any list or tuple that is read -/
theorem call_list_of : CallR X (.type "list") (fun xs H Q => ∃ p ys, xs = [.ref p] ∧ (SqL X.K H p ys ∨ SqT X.K H p ys) ∧ ∀ l, H l = none → Q (.ref l) (upd H l (.lst ys))) := by
  intro pins s σ H xs us Q I r h
  obtain ⟨p, ys, rfl, hq, q⟩ := h
  obtain ⟨u, rfl, rx⟩ := vals1 r
  cases rx
  have fin : ∀ (its : List Value), Vals ys its → ys.length ≤ sizeLine → ∀ (h' : Heap) (c' : Nat), (∀ b o', s.heap.get? b = some o' → h'.get? b = some o') →
      h'.get? s.heap.objs.size = some { cls := .type "list", dict := none, data := .seq its.toArray c', slots := #[] } → EP X pins σ Q (.ref s.heap.objs.size) { s with heap := h' } := fun its r' hz h' c' kp e =>
    ⟨.ref s.heap.objs.size, _, I.laid (t' := s.toks) kp (Nat.le_refl _) (show ObjOk X.prog X.w _ h' _ (.lst ys) from ⟨hz, its, c', r', e⟩), rfl, q _ (I.hok.fresh (Nat.le_refl _))⟩
  rcases hq with hq | hq
  · obtain ⟨its, r', pl, hz⟩ := I.list hq
    have hlen := r'.length
    obtain ⟨o, ho, hc, n, hd⟩ := pl.isList
    exact call_list_seq p (.inl rfl) ho hc hd (fun h' c' kp e => fin its r' hz h' c' kp e) (by simp only [List.size_toArray] <;> omega)
  · obtain ⟨its, r', pl, hz⟩ := I.tuple hq
    have hlen := r'.length
    obtain ⟨o, ho, hc, n, hd⟩ := pl
    exact call_list_seq p (.inr rfl) ho hc hd (fun h' c' kp e => fin its r' hz h' c' kp e) (by simp only [List.size_toArray] <;> omega)
theorem call_tuple_of : CallR X (.type "tuple") (fun xs H Q => ∃ p ys, xs = [.ref p] ∧ ((SqL X.K H p ys ∧ ∀ l, H l = none → Q (.ref l) (upd H l (.tup ys))) ∨ (SqT X.K H p ys ∧ Q (.ref p) H))) := by
  intro pins s σ H xs us Q I r h
  obtain ⟨p, ys, rfl, h⟩ := h
  obtain ⟨u, rfl, rx⟩ := vals1 r
  cases rx
  rcases h with ⟨hq, q⟩ | ⟨hq, q⟩
  · obtain ⟨its, r', pl, hz⟩ := I.list hq
    have hlen := r'.length
    refine call_tuple_list pl.isList (fun h' kp => ?_) (by simp only [List.size_toArray] <;> omega)
    have I1 : Inv X pins σ H { s with heap := h' } := I.kept (t' := s.toks) kp
    have I2 : Inv X pins σ (upd H h'.objs.size (.tup ys)) { s with heap := h'.push { cls := .type "tuple", data := .seq its.toArray } } :=
      I1.laid (t' := s.toks) (fun b o e => Heap.get?_push_of_some _ e) (Nat.le_refl _) (show ObjOk X.prog X.w _ _ _ (.tup ys) from ⟨hz, its, r', IsTup.new _ _⟩)
    exact ⟨.ref h'.objs.size, _, I2, rfl, q _ (I1.hok.fresh (Nat.le_refl _))⟩
  · obtain ⟨its, r', pl, hz⟩ := I.tuple hq
    exact call_tuple_same pl ⟨.ref p, H, I, rfl, q⟩

/-! ### the call of a builtin's method: o.m(..) -/
noncomputable def tyV (K : PySem.W.Frag) (T : String) (x : V) (H : Hp) : Prop := match x with
  | .str _ => T = "str"
  | .int _ => T = "int"
  | .ref p => (T = "list" ∧ ∃ xs, SqL K H p xs) ∨ (T = "tuple" ∧ ∃ o, K.lookup p = some o ∧ o.cls = .type "tuple" ∧ o.dict = none) ∨
      (T = "dict" ∧ ((∃ kvs, H p = some (.dK kvs)) ∨ ∃ kvs, H p = some (.dT kvs))) ∨ (T = "set" ∧ ∃ S n, H p = some (.set S n))
  | _ => False
theorem tyV_is {pins : List (Addr × Obj)} {σ : St} {H : Hp} {s : Shared} {T : String} {x : V} {v : Value} (I : Inv X pins σ H s) (r : RelV x v) (ty : tyV X.K T x H) :
    s.TypeIs v T ∧ ∀ a, v = .ref a → ∃ ob, s.heap.get? a = some ob ∧ ob.dict = none := by
  cases x with
  | str z =>
    obtain ⟨t, rfl⟩ := r
    cases (show T = "str" from ty)
    exact ⟨typeIs_str s z t, fun _ e => nomatch e⟩
  | int i =>
    obtain ⟨t, rfl⟩ := r
    cases (show T = "int" from ty)
    exact ⟨typeIs_int s i t, fun _ e => nomatch e⟩
  | ref p =>
    cases r
    rcases ty with ⟨rfl, xs, hq⟩ | ⟨rfl, o, hk, hc, hd⟩ | ⟨rfl, hk⟩ | ⟨rfl, S, n, hk⟩
    · obtain ⟨its, _, pl, _⟩ := I.list hq
      refine ⟨pl.isList.typeIs, fun a e => ?_⟩
      cases e
      obtain ⟨o, n, e, c, hd, _⟩ := pl
      exact ⟨o, e, hd⟩
    · refine ⟨⟨o, I.kIn p o hk, hc⟩, fun a e => ?_⟩
      cases e
      exact ⟨o, I.kIn _ o hk, hd⟩
    · have z : ∃ o, s.heap.get? p = some o ∧ o.ExactDict := by
        rcases hk with ⟨kvs, hk⟩ | ⟨kvs, hk⟩
        · obtain ⟨_, _, _, _, o, _, _, e, ex, _⟩ := I.hok p _ hk
          exact ⟨o, e, ex⟩
        · obtain ⟨_, _, _, _, o, _, _, e, ex, _⟩ := I.hok p _ hk
          exact ⟨o, e, ex⟩
      obtain ⟨o, e, ex⟩ := z
      refine ⟨⟨o, e, ex.1⟩, fun a e2 => ?_⟩
      cases e2
      exact ⟨o, e, ex.2.1⟩
    · obtain ⟨o, _, _, _, e, ex, _⟩ := I.hok p _ hk
      refine ⟨⟨o, e, ex.1⟩, fun a e2 => ?_⟩
      cases e2
      exact ⟨o, e, ex.2.1⟩
  | _ => exact False.elim ty
noncomputable def tBM0 (K : PySem.W.Frag) (T : String) (r : V → List V → Hp → VK → Prop) (to : TE) : TE := fun σ H Q => to σ H fun x H1 => tyV K T x H1 ∧ r x [] H1 Q
noncomputable def tBM (K : PySem.W.Frag) (T : String) (r : V → List V → Hp → VK → Prop) (to : TE) (t : TA) : TE := fun σ H Q => to σ H fun x H1 => tyV K T x H1 ∧ t σ H1 fun xs H2 => r x xs H2 Q
variable {o e : Expr} {es : List Expr} {to : TE} {t : TA} {name : Str} {apos cpos : Pos} {T id : String} {r : V → List V → Hp → VK → Prop}
theorem pe_bm0 (pa : PlainAttrs T) (slot : Slot T name id) (hty : typeOf (.builtin id) = pure (.type "method_descriptor")) (hm : MtR X id r) (ho : PE X o to)
    (hbase : attributeBase o name X.env (eval o X.env) = eval o X.env := by rfl) (hline : (apos.endLine == cpos.line) = true := by rfl) : PE X (.Call (.Attribute o name apos) [] [] cpos) (tBM0 X.K T r to) := by
  intro pins s σ H Q I h
  refine wpAny_Call_method0_late hbase hline (thn (ho pins s σ H _ I h) fun v s1 ⟨x, H1, I1, r1, ty, q1⟩ => ?_)
  obtain ⟨h1, h2⟩ := tyV_is I1 r1 ty
  exact ⟨T, id, pa, slot, hty, h1, h2, Calls.callWith_builtin rfl (PySem.evalArgs_none (hm pins s1 σ H1 x [] v [] Q I1 r1 .nil q1))⟩
theorem pe_bm (pa : PlainAttrs T) (slot : Slot T name id) (hty : typeOf (.builtin id) = pure (.type "method_descriptor")) (hm : MtR X id r) (ho : PE X o to) (ha : PA X (e :: es) t)
    (hbase : attributeBase o name X.env (eval o X.env) = eval o X.env := by rfl)
    (hfew : ((backTo cpos (starEach (e :: es) X.env)).all (fun x => !x.1) && (backToKw cpos (keywordEach [] X.env)).all (fun x => x.1.isSome)
      && decide ((e :: es).length + ([] : List Keyword).length + (if ([] : List Keyword).isEmpty then 0 else 1) < 30)) = true := by rfl)
    (hline : (apos.endLine == cpos.line) = true := by rfl) (hs : starEach (e :: es) X.env = (false, eval e X.env) :: starEach es X.env := by rfl) (hplain : (backTo cpos (starEach es X.env)).any (·.1) = false := by rfl) :
    PE X (.Call (.Attribute o name apos) (e :: es) [] cpos) (tBM X.K T r to t) := by
  intro pins s σ H Q I h
  refine wpAny_Call_method_late hbase hfew hline rfl (thn (ho pins s σ H _ I h) fun v s1 ⟨x, H1, I1, r1, ty, q1⟩ => ?_)
  obtain ⟨h1, h2⟩ := tyV_is I1 r1 ty
  refine ⟨T, id, pa, slot, hty, h1, h2, ?_⟩
  have hA := ha cpos pins s1 σ H1 _ I1 q1
  rw [hs] at hA ⊢
  refine Calls.callWith_builtin (by show (false || (backTo cpos (starEach es X.env)).any (·.1)) = false; rw [hplain] <;> rfl) (Calls.evalArgs_plain ?_)
  exact thn hA fun us s2 ⟨vs, H2, I2, r2, q2⟩ => hm pins s2 σ H2 x vs v us Q I2 r1 r2 q2
/- xs.append(e), list.index on a module's tuple .. are MtR facts of 06m -/
end
end L2

namespace L2
open PySem PySem.Spec PyProof.Rows

noncomputable def MtM (X : Cx) (id : String) (r : V → List V → Hp → VK → Prop) : Prop :=
  ∀ (pins : List (Addr × Obj)) (s : Shared) (σ : St) (H : Hp) (x : V) (xs : List V) (v : Value) (us : List Value) (Q : VK), Inv X pins σ H s → RelV x v → Vals xs us → r x xs H Q →
    wpAny (model X.prog X.w) X.A (call (.builtin id) (v :: us)) (EP X pins σ Q) X.xe s

/-! ### lists of values -/
theorem Vals.one : ∀ {x : V} {us : List Value}, Vals [x] us → ∃ u, us = [u] ∧ RelV x u
  | _, _, .cons r .nil => ⟨_, rfl, r⟩
theorem Vals.zero : ∀ {us : List Value}, Vals [] us → us = []
  | _, .nil => rfl
theorem Vals.dropLast {xs : List V} {us : List Value} (h : Vals xs us) : Vals xs.dropLast us.dropLast := by
  induction h with
  | nil => exact .nil
  | cons r t ih =>
    cases t with
    | nil => exact .nil
    | cons q t' => exact .cons r ih
theorem erase_last {α : Type} (l : List α) : l.eraseIdx (l.length - 1) = l.dropLast := by
  induction l with
  | nil => rfl
  | cons a r ih =>
    cases r with
    | nil => rfl
    | cons b r =>
      have e : (a :: b :: r).length - 1 = ((b :: r).length - 1) + 1 := by
        have h1 : (a :: b :: r).length = r.length + 2 := rfl
        have h2 : (b :: r).length = r.length + 1 := rfl
        omega
      rw [e, List.eraseIdx_cons_succ, ih]
      all_goals rfl
section
variable {X : Cx} {pins : List (Addr × Obj)} {σ : St} {H : Hp} {s : Shared} {l b : Addr} {xs ys zs : List V}

/-! ### the two steps: a tracked list is rewritten, a new list is laid -/
theorem Inv.lset {its its' : List Value} {n : Nat} {f : Array Value → Array Value} {t' : Nat} (I : Inv X pins σ H s) (hH : H l = some (.lst xs))
    (e : s.heap.get? l = some { cls := .type "list", data := .seq its.toArray n }) (hf : f its.toArray = its'.toArray) (hv : Vals ys its') (hz : ys.length ≤ sizeLine) :
    Inv X pins σ (upd H l (.lst ys)) { s with heap := s.heap.update l (Obj.mapSeq f), toks := t' } := by
  have q := PySem.IsL.update e f
  rw [hf] at q
  refine I.write (x := l) (e := l) (by rw [hH]; exact trivial) (.inl rfl) (fun b' u hb hu => (Heap.get?_update_other s.heap (Obj.mapSeq f) (Ne.symm hb)).trans hu) ⟨_, q⟩ ?_
  exact ⟨hz, its', _, hv, q⟩
theorem Inv.lnew {its : List Value} {t' : Nat} (I : Inv X pins σ H s) (hv : Vals ys its) (hz : ys.length ≤ sizeLine) :
    Inv X pins σ (upd H s.heap.objs.size (.lst ys)) { s with heap := s.heap.push { cls := .type "list", data := .seq its.toArray }, toks := t' } :=
  I.laid (fun _ _ q => Heap.get?_push_of_some _ q) (Nat.le_refl _) ⟨hz, its, 0, hv, Heap.get?_push_size _ rfl⟩
theorem Inv.fresh (I : Inv X pins σ H s) : H s.heap.objs.size = none := I.hok.fresh (Nat.le_refl _)
theorem Inv.lstM (I : Inv X pins σ H s) (hH : H l = some (.lst xs)) : xs.length ≤ sizeLine ∧ ∃ (its : List Value) (n : Nat), Vals xs its ∧ xs.length = its.length ∧ s.heap.get? l = some { cls := .type "list", data := .seq its.toArray n } := by
  obtain ⟨z, its, n, r, e⟩ := I.hok l _ hH
  exact ⟨z, its, n, r, r.length, e⟩

theorem notLongL {n : Nat} (h : n ≤ sizeLine) : Builtin.List.listTooLong n = false := by
  unfold Builtin.List.listTooLong
  exact decide_eq_false (by omega)
end

section
variable {X : Cx}

/-! ### methods -/
noncomputable def rAppend : V → List V → Hp → VK → Prop := fun x vs H Q => ∃ l xs y, x = .ref l ∧ vs = [y] ∧ H l = some (.lst xs) ∧ xs.length < sizeLine ∧ Q .non (upd H l (.lst (xs ++ [y])))
theorem mt_append : MtM X "list.append" rAppend := by
  intro pins s σ H x vs v us Q I rx rv h
  obtain ⟨l, xs, y, rfl, rfl, hH, hz, q⟩ := h
  cases rx
  obtain ⟨u, rfl, ru⟩ := rv.one
  obtain ⟨z, its, n, r, hl, e⟩ := I.lstM hH
  refine call_meets F.slot_list_append ⟨_, e, rfl⟩ F.entry_list_append (F.args_list_append_2 _ _) (PySem.list_append l its.toArray n u (by rw [List.size_toArray]; omega)) ⟨e, ?_⟩
  refine ⟨.non, _, I.lset (its' := its ++ [u]) hH e (by simp) (r.append (.cons ru .nil)) ?_, rfl, q⟩
  rw [List.length_append, List.length_singleton]
  omega

noncomputable def rExtend : V → List V → Hp → VK → Prop := fun x vs H Q => ∃ l b xs zs, x = .ref l ∧ vs = [.ref b] ∧ H l = some (.lst xs) ∧ H b = some (.lst zs) ∧ xs.length + zs.length ≤ sizeLine ∧ Q .non (upd H l (.lst (xs ++ zs)))
theorem mt_extend : MtM X "list.extend" rExtend := by
  intro pins s σ H x vs v us Q I rx rv h
  obtain ⟨l, b, xs, zs, rfl, rfl, hH, hB, hz, q⟩ := h
  cases rx
  obtain ⟨u, rfl, ru⟩ := rv.one
  cases ru
  obtain ⟨z, its, n, r, hl, e⟩ := I.lstM hH
  obtain ⟨z2, its2, n2, r2, hl2, e2⟩ := I.lstM hB
  have hsz : its.toArray.size + its2.toArray.size ≤ sizeLine := by rw [List.size_toArray, List.size_toArray]; omega
  have hlong : ¬ (!its.toArray.isEmpty && Builtin.List.listTooLong (its.toArray.size + its2.toArray.size)) = true := by
    rw [notLongL hsz, Bool.and_false]
    exact Bool.false_ne_true
  refine call_meets F.slot_list_extend ⟨_, e, rfl⟩ F.entry_list_extend (F.args_list_extend_2 _ _)
    (AutoSeq1.list_extend_list_list_0 l its.toArray n b its2.toArray n2 hlong (by rw [List.size_toArray]; omega) (by omega)) ⟨e, e2, ?_⟩
  refine ⟨.non, _, I.lset (its' := its ++ its2) hH e (by simp) (r.append r2) ?_, rfl, q⟩
  rw [List.length_append]
  omega

noncomputable def rPop : V → List V → Hp → VK → Prop := fun x vs H Q => ∃ l xs y, x = .ref l ∧ vs = [] ∧ H l = some (.lst xs) ∧ xs[xs.length - 1]? = some y ∧ Q y (upd H l (.lst xs.dropLast))
theorem mt_pop : MtM X "list.pop" rPop := by
  intro pins s σ H x vs v us Q I rx rv h
  obtain ⟨l, xs, y, rfl, rfl, hH, hy, q⟩ := h
  cases rx
  have hus := rv.zero
  subst hus
  obtain ⟨z, its, n, r, hl, e⟩ := I.lstM hH
  obtain ⟨u, hu, ru⟩ := r.get hy
  have hy' : its.toArray[its.toArray.size - 1]? = some u := by
    show its.toArray[its.length - 1]? = some u
    rw [← Array.getElem?_toList, ← hl]
    exact hu
  refine call_meets F.slot_list_pop ⟨_, e, rfl⟩ F.entry_list_pop (F.args_list_pop_1 _) (MeetsSeq.list_pop_last l its.toArray n u hy' (by rw [List.size_toArray]; omega)) ⟨e, ?_⟩
  refine ⟨y, _, I.lset (its' := its.dropLast) hH e ?_ r.dropLast ?_, ru, q⟩
  · show its.toArray.eraseIdxIfInBounds (its.toArray.size - 1) = its.dropLast.toArray
    rw [List.size_toArray, List.eraseIdxIfInBounds_toArray, erase_last]
  · rw [List.length_dropLast]
    omega

/-! ### list + list, list += list, list * int -/
noncomputable def rCat : R2 := fun x y H Q => ∃ l b xs zs, x = .ref l ∧ y = .ref b ∧ H l = some (.lst xs) ∧ H b = some (.lst zs) ∧ xs.length + zs.length ≤ sizeLine ∧ ∀ p, H p = none → Q (.ref p) (upd H p (.lst (xs ++ zs)))
theorem op_cat : OpR X (binaryOp .Add) rCat := by
  intro pins s σ H x y v u Q I rx ry h
  obtain ⟨l, b, xs, zs, rfl, rfl, hH, hB, hz, q⟩ := h
  cases rx
  cases ry
  obtain ⟨z, its, n, r, hl, e⟩ := I.lstM hH
  obtain ⟨z2, its2, n2, r2, hl2, e2⟩ := I.lstM hB
  refine PySem.P.add_list e e2 ?_ (by rw [List.size_toArray, List.size_toArray]; omega)
  have ea : its.toArray ++ its2.toArray = (its ++ its2).toArray := by simp
  rw [ea]
  exact ⟨.ref _, _, I.lnew (t' := s.toks) (r.append r2) (by rw [List.length_append]; omega), rfl, q _ I.fresh⟩
/-! ### del xs[i] -/
end

/-! ### xs[a:b] = ys -/
section
variable {prog : Program} {w : World} {A : Around} {E : Value → Shared → Prop} {s : Shared}
end

section
variable {X : Cx}
end
end L2

namespace Att
open PySem PySem.W PySem.Calls PyProof.Rows

/-! ### the script -/
theorem ints_of_wellAll {P : Params} {h : Heap} : ∀ (ns : List Int) (vs : List Value), WellAll P h vs (ns.map WData.int) → IntsAre vs ns := by
  intro ns
  induction ns with
  | nil =>
    intro vs w
    rw [List.map_nil] at w
    cases w
    exact .nil
  | cons n ns ih =>
    intro vs w
    rw [List.map_cons] at w
    cases w with
    | cons a b =>
      cases a
      exact .cons _ _ (ih _ b)

theorem script_of {l : OpenLaw} {n : Nat} (hn : l.most = some n) {P : Params} {h : Heap} {args : List WData} {vals : List Value}
    (hpre : l.row.toRowW.claim.pre args = true) (hwl : WellAll P h vals args) :
    ∃ a vs ns, vals = [Value.ref a] ∧ args = [WData.list (ns.map WData.int)] ∧ h.get? a = some { cls := .type "list", data := .seq vs.toArray } ∧ IntsAre vs ns ∧ ns.length ≤ n := by
  have hsh : WShape.hasAll [] args [.list .int] = true := (pre_splitW hpre).1
  have hc : l.pre.holds [] { args := args } = true := (pre_splitW hpre).2
  obtain ⟨d, r, rfl, h1, h2⟩ := hasAllW_cons hsh
  obtain rfl := hasAllW_nil h2
  obtain ⟨xs, rfl, h3⟩ := hasW_list h1
  obtain ⟨ns, rfl⟩ := items_int h3
  have hlen : ns.length ≤ n := by
    unfold OpenLaw.pre at hc
    have h4 : (WTm.not (.lt (.lit (.int (n : Int))) (.len (.arg 0)))).holds [] { args := [.list (ns.map .int)] } = true := by
      have h4 := (holds_andW hc).1
      rw [hn] at h4
      exact h4
    have h5 := condW_of h4 (w_not (w_lt w_lit (w_len_list (w_arg rfl))))
    rw [List.length_map] at h5
    refine Nat.le_of_not_lt fun q => ?_
    have q' : (n : Int) < ((ns.length : Nat) : Int) := by omega
    first
      | (rw [decide_eq_true q'] at h5; exact absurd h5 (by decide))
      | (simp at h5; omega)
  cases hwl with
  | cons w1 w2 =>
    cases w2
    cases w1 with
    | list ho hall => exact ⟨_, _, ns, rfl, rfl, ho, ints_of_wellAll ns _ hall, hlen⟩

theorem post_true (l : OpenLaw) (args : List WData) : l.row.toRowW.claim.post args (.bool true) args = true :=
  postW_of (r := l.row.toRowW) (X := (true == true))
    (show WShape.has [] (.bool true) .bool = true by first | rfl | decide | simp [WShape.has, WShape.arms, WShape.armsAll])
    (show (WTm.eq .res (.lit (.bool true))).value [] { args := args, res := some (.bool true), after := args } = some (.bool (true == true)) from w_eq_bool (w_res rfl) w_lit) rfl

/-! ### the attachment: holds_open's last premise (the goal 'hc' behind k_head) from a wpAny of the law's body -/
theorem attach_call {l : OpenLaw} {n : Nat} {q : Program} {loose : List Str} {XP : (Str → Option Value) → Heap → Prop} {YP : World → Heap → Prop} {d : DefRec}
    (hn : l.most = some n) (hdf : d.params.defaults = [])
    (call : ∀ (w : World) (s₀ s₁ : Shared) (mg mb : Str → Option Value) (fa : Addr) (o : Obj) (pm cd doc : Value) (a : Addr) (vs : List Value) (ns : List Int),
      Ground q loose [] XP w s₀ mg mb s₁.heap → YP w s₁.heap →
      s₁.heap.get? fa = some o → o.data = .func (docDef d.name d.params d.body d.scope pm cd doc) → s₁.heap.CodeRec cd d.name → mg d.name = some (.ref fa) →
      s₁.heap.get? a = some { cls := .type "list", data := .seq vs.toArray } → IntsAre vs ns → ns.length ≤ n → s₁.gens = #[] →
      codeAny (model l.prog w) callerA (.call (.ref fa) ⟨[.ref a], []⟩) (fun r s' => r = .ok (.ret (.bool true)) ∧ OldK s₁.heap s'.heap ∧ s'.os = s₁.os ∧ AllBare s'.gens) s₁) :
    WalkO q loose XP YP l.row.toRowW d [] (fun f vs => PySem.call f vs) := by
  intro w s₀ s₁ mg mb G Y fa o pm cd doc dV kV ho hd hcd hD hmg hg args vals as hpre hlay hrd hwl hlo
  obtain rfl : dV = .none := Dflts.none hD hdf
  obtain rfl : kV = .none := Dflts.noKw hD
  obtain ⟨a, vs, ns, rfl, rfl, hobj, hints, hlen⟩ := script_of hn hpre hwl
  refine enter_call (codeAny_mono (call w s₀ s₁ mg mb fa o pm cd doc a vs ns G Y ho (fd_plain hd) hcd hmg hobj hints hlen hg) fun r s' hq => ?_)
  obtain ⟨rfl, h2, h3, h4⟩ := hq
  exact ⟨.inl ⟨.bool true, .bool true, [], rfl, fun _ => rfl, .bool true, post_true l _, fun _ => ⟨List.Pairwise.nil, fun _ hm => (nomatch hm)⟩⟩, h2, h3, h4⟩

/-! ### rules over ANY heap (no ledger) from facts about the written part K: the library's own take a ledger (News) for what they write -/
section
variable {prog : Program} {w : World} {A : Around} {E : Value → Shared → Prop} {s : Shared} {K : Frag}

/-! the whole heap as the ledger: makes every rule that writes through a ledger a rule over any heap -/
end
end Att

namespace L2
open PySem PySem.Spec PyProof.Rows

theorem vals_ints : ∀ {vs : List Value} {ns : List Int}, IntsAre vs ns → Vals (ns.map V.int) vs
  | _, _, .nil => .nil
  | _, _, .cons n t h => .cons ⟨t, rfl⟩ (vals_ints h)

noncomputable def Only (H : Hp) : Prop := ∀ b, H b = none ∨ ∃ o xs, H b = some (.frz o (.lst xs))

theorem law_call {P : Program} {w : World} {K : PySem.W.Frag} {mg mb : Str → Option Value} {CX : CXT} {k : Nat} {fa a : Addr} {fd : FuncData} {x : Str} {sp : Sp} {s₁ : Shared} {vs : List Value} {ns : List Int}
    (KX : K.In s₁.heap) (hns : s₁.heap.Ns mainGlobals mg) (hb : s₁.heap.Ns builtinsNs mb) (hbb : ∀ x : Str, x ≠ "__name__" → mb x = bootBuiltins x) (hlim : s₁.heap.NoLimit) (hg : s₁.gens = #[])
    (ha : s₁.heap.get? a = some { cls := .type "list", data := .seq vs.toArray }) (hi : IntsAre vs ns) (hl : ns.length ≤ sizeLine) (hr : Room k callerA)
    (F : ∀ base : Heap, K.In base → base.Ns mainGlobals mg → FnOk P w K mg base CX k fa fd [x] sp) (hbind : ∀ (s : Shared) (u : Value), BindsTo s fd ⟨[u], []⟩ [(x, u)])
    (hsp : ∀ H : Hp, Only H → SqL K H a (ns.map V.int) → sp [.ref a] H (fun v _ => v = .bl true) fun _ _ _ => False)
    (hCX : ∀ H e s', CX [] H s₁ (fun _ _ _ => False) e s' → False) :
    codeAny (model P w) callerA (.call (.ref fa) ⟨[.ref a], []⟩) (fun r s' => r = .ok (.ret (.bool true)) ∧ OldK s₁.heap s'.heap ∧ s'.os = s₁.os ∧ AllBare s'.gens) s₁ := by
  have rv := vals_ints hi
  have lenV := hi.length
  -- from an abstract heap in which nothing but the script may be tracked
  have core : ∀ H : Hp, Only H → SqL K H a (ns.map V.int) → HOk P w H s₁.heap → (∀ b, H b ≠ none → b = a) → (H a ≠ none → K.lookup a = none) →
      codeAny (model P w) callerA (.call (.ref fa) ⟨[.ref a], []⟩) (fun r s' => r = .ok (.ret (.bool true)) ∧ OldK s₁.heap s'.heap ∧ s'.os = s₁.os ∧ AllBare s'.gens) s₁ := by
    intro H hO hS hok hA hK
    have base_of : ∀ {b : Addr} {o : Obj}, s₁.heap.get? b = some o → H b = none → (hidT s₁.heap H).get? b = some o := fun e n => hidT_get e n
    have noA : ∀ {b : Addr} {o : Obj} {es : Array DictEntry} {ep : Nat}, s₁.heap.get? b = some o → o.data = .dict es ep → H b = none := fun {b o es ep} e d => by
      cases q : H b with
      | none => rfl
      | some u =>
        have e' : b = a := hA b (by rw [q]; simp)
        subst e'
        rw [ha] at e; cases e
        have d' : Data.seq vs.toArray _ = Data.dict es ep := d
        cases d'
    have nsK : ∀ {b : Addr} {m : Str → Option Value}, s₁.heap.Ns b m → (hidT s₁.heap H).Ns b m := fun {b m} ⟨o, es, ep, e, d, r⟩ => ⟨o, es, ep, base_of e (noA e d), d, r⟩
    have hKb : K.In (hidT s₁.heap H) := fun b o e => base_of (KX b o e) (by
      cases q : H b with
      | none => rfl
      | some u =>
        have e' : b = a := hA b (by rw [q]; simp)
        subst e'
        rw [hK (by rw [q]; simp)] at e; cases e)
    have hM : Mod K mg (hidT s₁.heap H) := ⟨hKb, nsK hns, ⟨mb, nsK hb, hbb⟩, let ⟨mc, h1, h2⟩ := hlim; ⟨mc, nsK h1, h2⟩⟩
    have e0 : Env0 P w K mg (hidT s₁.heap H) callerA [] s₁ H := ⟨rfl, hM, fun b o e => of_hidT e, Nat.le_of_eq (hidT_size _ _), trivial, fun b hb => absurd (show b ∈ ([] : List Addr) from hb) (by simp), hok, .of_eq hg⟩
    refine codeAny_mono ((F _ hKb (nsK hns)).run callerA [] s₁ H ⟨[.ref a], []⟩ [.ref a] [.ref a] _ _ hr e0 (hbind s₁ (.ref a)) (.cons rfl .nil) (hsp H hO hS)) fun r s' h => ?_
    cases r with
    | error e => exact (hCX H e s' h).elim
    | ok fl =>
      cases fl with
      | next => exact False.elim h
      | brk => exact False.elim h
      | cont => exact False.elim h
      | ret u =>
        obtain ⟨v, H', os, bare, un, hok', r', q⟩ := h
        have q' : v = .bl true := q
        subst q'
        obtain rfl : u = Value.bool true := r'
        refine ⟨rfl, OldK.of_keep fun b o e => ?_, os, bare⟩
        cases q : H b with
        | none => exact un.keep b o e q (by intro z; exact absurd (show b ∈ ([] : List Addr) from z) (by simp)) (by simp)
        | some u =>
          rcases hO b with z | ⟨ob, xs, z⟩
          · rw [q] at z; cases z
          · have z2 := un.frzs b ob _ z
            obtain ⟨e1, _⟩ := hok b _ z
            obtain ⟨e2, _⟩ := hok' b _ z2
            rw [e] at e1; cases e1
            exact e2
  cases hk : K.lookup a with
  | some o =>
    -- the script is one of the module's own objects
    have e := KX a o hk
    rw [ha] at e
    cases e
    refine core (fun _ => none) (fun _ => .inl rfl) (.inr ⟨_, vs.toArray, _, hk, rfl, rfl, rfl, by rw [List.size_toArray, lenV]; exact hl, by simpa using rv⟩) (fun b u z => by have z' : (none : Option HO) = some u := z; cases z') (fun b z => absurd rfl z) fun z => absurd rfl z
  | none =>
    refine core (fun b => if b = a then some (.frz { cls := .type "list", data := .seq vs.toArray } (.lst (ns.map V.int))) else none) (fun b => ?_) (.inl (.inr ⟨{ cls := .type "list", data := .seq vs.toArray }, if_pos rfl⟩)) (fun b u z => ?_) (fun b z => ?_) fun _ => hk
    · by_cases hb : b = a
      · exact .inr ⟨_, _, if_pos hb⟩
      · exact .inl (if_neg hb)
    · by_cases hb : b = a
      · have z' := (if_pos hb).symm.trans z
        cases z'
        subst hb
        exact ⟨ha, by rw [List.length_map]; exact hl, vs, _, rv, ha⟩
      · have z' := (if_neg hb).symm.trans z
        cases z'
    · by_cases hb : b = a
      · exact hb
      · exact absurd (if_neg hb) z
end L2

namespace L2
open PySem PySem.Spec PyProof.Rows

theorem walk_of {l : PySem.W.OpenLaw} {n k : Nat} {q : Program} {loose : List Str} {XP : (Str → Option Value) → Heap → Prop} {YP : World → Heap → Prop} {d : DefRec} {K : Params → PySem.W.Frag} {CX : World → CXT} {sp : World → Sp} {x : Str}
    (hn : l.most = some n) (hn2 : n ≤ sizeLine) (hdf : d.params.defaults = []) (hr : Room k callerA)
    (hY : ∀ (w : World) (h : Heap), YP w h → (K w.params).In h)
    (F : ∀ (w : World) (mg : Str → Option Value) (fa : Addr) (h : Heap), (K w.params).In h → h.Ns mainGlobals mg → mg d.name = some (.ref fa) →
      ∃ fd : FuncData, (∀ (s : Shared) (u : Value), BindsTo s fd ⟨[u], []⟩ [(x, u)]) ∧
        ∀ base : Heap, (K w.params).In base → base.Ns mainGlobals mg → FnOk l.prog w (K w.params) mg base (CX w) k fa fd [x] (sp w))
    (hsp : ∀ (w : World) (H : Hp) (a : Addr) (ns : List Int), ns.length ≤ n → Only H → SqL (K w.params) H a (ns.map V.int) → sp w [.ref a] H (fun v _ => v = .bl true) fun _ _ _ => False)
    (hCX : ∀ (w : World) (H : Hp) (s : Shared) (e : Value) (s' : Shared), CX w [] H s (fun _ _ _ => False) e s' → False) :
    PySem.W.WalkO q loose XP YP l.row.toRowW d [] (fun f vs => PySem.call f vs) := by
  refine Att.attach_call hn hdf fun w s₀ s₁ mg mb fa o pm cd doc a vs ns G Y ho hd hcd hmg hobj hints hlen hg => ?_
  have KX := hY w _ Y
  obtain ⟨fd, hb, hF⟩ := F w mg fa _ KX G.T.g hmg
  exact law_call KX G.T.g G.T.b G.T.builtins G.T.nolimit hg hobj hints (Nat.le_trans hlen hn2) hr hF hb (fun H hO hS => hsp w H a ns hlen hO hS) fun H e s' => hCX w H s₁ e s'
theorem walk_ofK {l : PySem.W.OpenLaw} {n k : Nat} {q : Program} {loose : List Str} {XP : (Str → Option Value) → Heap → Prop} {YP : World → Heap → Prop} {d : DefRec} {K : Params → PySem.W.Frag} {CX : CXT} {sp : PySem.W.Frag → Sp} {x : Str}
    (hn : l.most = some n) (hn2 : n ≤ sizeLine) (hdf : d.params.defaults = []) (hr : Room k callerA)
    (hY : ∀ (w : World) (h : Heap), YP w h → (K w.params).In h)
    (F : ∀ (w : World) (mg : Str → Option Value) (fa : Addr) (h : Heap), (K w.params).In h → h.Ns mainGlobals mg → mg d.name = some (.ref fa) →
      ∃ fd : FuncData, (∀ (s : Shared) (u : Value), BindsTo s fd ⟨[u], []⟩ [(x, u)]) ∧
        ∀ base : Heap, (K w.params).In base → base.Ns mainGlobals mg → FnOk l.prog w (K w.params) mg base CX k fa fd [x] (sp (K w.params)))
    (hsp : ∀ (K : PySem.W.Frag) (H : Hp) (a : Addr) (ns : List Int), ns.length ≤ n → Only H → SqL K H a (ns.map V.int) → sp K [.ref a] H (fun v _ => v = .bl true) fun _ _ _ => False)
    (hCX : ∀ (H : Hp) (s : Shared) (e : Value) (s' : Shared), CX [] H s (fun _ _ _ => False) e s' → False) :
    PySem.W.WalkO q loose XP YP l.row.toRowW d [] (fun f vs => PySem.call f vs) :=
  walk_of (K := K) (CX := fun _ => CX) (sp := fun w => sp (K w.params)) hn hn2 hdf hr hY F (fun w H a ns h1 h2 h3 => hsp (K w.params) H a ns h1 h2 h3) fun _ H s e s' => hCX H s e s'
end L2

/- THE LAST THEOREM (shape; LID, My.* are yours):
   My.Adr: a structure of the addresses that your layer names (classes, functions); My.Txt K t: a structure (Prop) of the equations over K;
   My.txt_mk : {K} {implicit addresses ..} (e1 : nsIn K mainGlobals "law" = some (some (.ref f))) (e2 : K.lookup f = some ⟨oc, od, .func (fnOf "law" "law" params body scope dV kV doc pm an cdv ct), sl⟩) (e3 : codeIn K cdv "law" = true) .. : ∃ t, My.Txt K t

set_option maxRecDepth 100000 in
set_option maxHeartbeats 0 in
theorem PySem.Challenge.cw_LID_holds : PySem.Challenge.rw_LID.Holds := by
  w_on; o_law; k_head; (case hw => w_witness2)
  k_fill
  refine L2.walk_of (l := PySem.Challenge.rw_LID) (n := 63) (k := 40) (x := "script") (CX := fun w => ..) (sp := fun _ => My.sp_law) rfl (by decide) rfl ⟨rfl, by decide, by decide⟩ (fun w h Y => PySem.W.kIn_of Y) ?F ?S ?C
  case F =>
    intro w mg fa h KX G hmg
    have T : ∃ t, My.Txt (L2.KOf KX) t := by
      dsimp only [L2.KOf]                          -- K must stand as «<heap const> w.params» for k_is
      refine' My.txt_mk ?e1 ?e2 ?e3 ..
      (case e1 => PySem.W.k_is)                    -- in the order: a name -> its address -> its object -> its parts
      (case e2 => PySem.W.k_is)
      ..
    obtain ⟨t, T⟩ := T
    have e0 := hmg.symm.trans (PySem.W.mg_of KX G T.law)
    cases e0                                       -- fa is the law's own address
    exact ⟨_, fun s u => .of_eq rfl, fun base kb nb => My.law_fn T kb nb⟩     -- if «.of_eq rfl» comes too early: refine' ⟨_, ?b, fun base kb nb => My.law_fn T kb nb⟩; exact fun s u => .of_eq rfl
  case S => exact fun w H a ns hl hO hS => ..
  case C => exact ..
(the tactic k_is has no namespace: write k_is) -/

/-! SHORT WORDS over the layer: a def of the text, its body, what a loop and a test want. -/
namespace L2
open PySem PySem.Spec PyProof.Rows

/-! ### the text by places -/
noncomputable def defArgs (s : Stmt) : Arguments := match s with
  | .FunctionDef _ a _ _ _ _ _ _ _ _ => a
  | _ => { posonlyargs := [], args := [], vararg := none, kwonlyargs := [], kw_defaults := [], kwarg := none, defaults := [] }
noncomputable def defBody (s : Stmt) : List Stmt := match s with
  | .FunctionDef _ _ b _ _ _ _ _ _ _ => b
  | _ => []
noncomputable def defScope (s : Stmt) : Scope := match s with
  | .FunctionDef _ _ _ _ _ _ sc _ _ _ => sc
  | _ => { kind := .function, names := [], isGenerator := false, isCoroutine := false }

/-! ### no exception leaves a def -/
noncomputable abbrev CX0 : CXT := fun _ _ _ _ _ _ => False
noncomputable abbrev E0 : XK := fun _ _ _ => False
theorem pass0 {X : Cx} : Passes CX0 X E0 := fun _ _ _ _ _ _ _ h => h.elim

/-! ### a def (or method) of the text as it stands behind the top -/
structure Fun (K : PySem.W.Frag) (x qual : Str) (st : Stmt) (f : Addr) (fd : FuncData) : Prop where
  ex : ∃ (oc : Value) (od : Option Addr) (kV doc pm : Value) (an : Option Addr) (cdv ct : Value) (osl : Array (Option Value)),
    fd = PySem.W.fnOf x qual (defArgs st) (defBody st) (defScope st) .none kV doc pm an cdv ct ∧ K.lookup f = some ⟨oc, od, .func fd, osl⟩ ∧ PySem.W.codeIn K cdv qual = true
  kp : PySem.W.keepIn K (.ref f) = true
section
variable {P : Program} {w : World} {K : PySem.W.Frag} {mg : Str → Option Value} {base : Heap}
theorem Fun.ok {x qual : Str} {st : Stmt} {f : Addr} {fd : FuncData} {N ps : List Str} {k : Nat} {sp : Sp} (F : Fun K x qual st f fd) (S : FnScope N ps (defScope st)) (len : ∀ vs H Q E, sp vs H Q E → vs.length = ps.length)
    (hbody : ∀ (cdv : Value) (A : Around) (outer : List Env) (s : Shared) (H : Hp) (vs : List V) (Q : VK) (E : XK), Room k (A.deeper (envOfC qual (defScope st) s.heap.objs.size f cdv)) → sp vs H Q E →
      ∃ t, PSs (cxOf CX0 P w K mg base N qual (defScope st) f cdv A outer s H E).nox (defBody st) t ∧ t { nx := fun _ H' => Q .non H', rt := Q } (start N vs) H) : FnOk P w K mg base CX0 (k + 1) f fd ps sp := by
  obtain ⟨oc, od, kV, doc, pm, an, cdv, ct, osl, rfl, lk, hcd⟩ := F.ex
  refine fn_of lk hcd S len fun A outer s H vs Q E hr hsp => ?_
  obtain ⟨t, h, q⟩ := hbody cdv A outer s H vs Q E hr hsp
  exact ⟨t, h.nox, q⟩
theorem Fun.binds {x qual : Str} {st : Stmt} {f : Addr} {fd : FuncData} {ps : List Str} (F : Fun K x qual st f fd)
    (h : ∀ (kV doc pm : Value) (an : Option Addr) (cdv ct : Value) (us : List Value), us.length = ps.length → bindArgs (PySem.W.fnOf x qual (defArgs st) (defBody st) (defScope st) .none kV doc pm an cdv ct) ⟨us, []⟩ = pure (ps.zip us)) : Binds K fd ps [] := by
  obtain ⟨oc, od, kV, doc, pm, an, cdv, ct, osl, rfl, lk, hcd⟩ := F.ex
  exact .all (h kV doc pm an cdv ct)
theorem fun_mk {x qual : Str} {st : Stmt} {f : Addr} {oc : Value} {od an : Option Addr} {osl : Array (Option Value)} {kV doc pm cdv ct : Value} (l : K.lookup f = some ⟨oc, od, .func (PySem.W.fnOf x qual (defArgs st) (defBody st) (defScope st) .none kV doc pm an cdv ct), osl⟩)
    (c : PySem.W.codeIn K cdv qual = true) (k : PySem.W.keepIn K (.ref f) = true) : Fun K x qual st f (PySem.W.fnOf x qual (defArgs st) (defBody st) (defScope st) .none kV doc pm an cdv ct) := ⟨⟨oc, od, kV, doc, pm, an, cdv, ct, osl, rfl, l, c⟩, k⟩
end
theorem small1000 {n : Nat} (h : n ≤ 1000) : n < sizeLine := Nat.lt_of_le_of_lt h (by decide)

/-! ### expressions in short: the name that stands in the i-th slot -/
section
variable {X : Cx}
theorem pv (i : Nat) {x : Str} {pos : Pos} (hN : X.N[i]? = some x := by rfl) (hv : Vis X.env.scope x := by first | exact Or.inl rfl | exact Or.inr (Or.inl rfl) | exact Or.inr (Or.inr rfl)) (hd : (x == ("__debug__" : Str)) = false := by decide)
    (hcd : (x == ("__classdict__" : Str)) = false := by decide) : PE X (.Name x pos) (tVar i) := pe_var hN hv hd hcd
end

/-! ### tests -/
theorem iteF {A B : Prop} (h : B) : if false = true then A else B := by
  rw [if_neg Bool.false_ne_true]
  exact h
theorem iteT {A B : Prop} (h : A) : if true = true then A else B := by
  rw [if_pos rfl]
  exact h
theorem ite2 {c A B : Prop} [Decidable c] (h1 : c → A) (h2 : ¬ c → B) : if c then A else B := by
  by_cases h : c
  · rw [if_pos h]
    exact h1 h
  · rw [if_neg h]
    exact h2 h
/-! ### heaps -/
noncomputable def Same (H H' : Hp) : Prop := ∀ b o, H b = some o → H' b = some o
theorem Same.refl (H : Hp) : Same H H := fun _ _ h => h
theorem Same.trans {H H1 H2 : Hp} (a : Same H H1) (b : Same H1 H2) : Same H H2 := fun c o h => b c o (a c o h)
theorem Same.free {H H' : Hp} (e : Same H H') {l : Addr} (h : H' l = Option.none) : H l = Option.none := by
  cases q : H l with
  | none => rfl
  | some o =>
    rw [e l o q] at h
    cases h
theorem Same.seq {K : PySem.W.Frag} {H H' : Hp} {a : Addr} {xs : List V} (e : Same H H') (h : SqL K H a xs) : SqL K H' a xs := by
  rcases h with (h | ⟨o, h⟩) | h
  · exact .inl (.inl (e _ _ h))
  · exact .inl (.inr ⟨o, e _ _ h⟩)
  · exact .inr h

/-! ### a dict's pairs: keys that differ -/
section
variable {κ : Type} [DecidableEq κ]
end
end L2

namespace Tc
noncomputable def dv (t b : Int) : Int := if b < 0 then -(Int.gcd t b : Int) else (Int.gcd t b : Int)

theorem fmod_pos {t b : Int} (h : 0 < b) : 0 ≤ t.fmod b ∧ t.fmod b < b := by
  rw [Int.fmod_eq_emod_of_nonneg _ (Int.le_of_lt h)]
  exact ⟨Int.emod_nonneg _ (by omega), Int.emod_lt_of_pos _ h⟩
theorem fmod_neg {t b : Int} (h : b < 0) : b < t.fmod b ∧ t.fmod b ≤ 0 := by
  have e : t.fmod b = -((-t).fmod (-b)) := by
    have h1 := Int.mul_fdiv_add_fmod t b
    have h2 := Int.mul_fdiv_add_fmod (-t) (-b)
    rw [Int.neg_fdiv_neg] at h2
    have h3 : -b * t.fdiv b = -(b * t.fdiv b) := Int.neg_mul _ _
    rw [h3] at h2
    omega
  have p := fmod_pos (t := -t) (b := -b) (by omega)
  omega
theorem gcd_fmod (t b : Int) : Int.gcd b (t.fmod b) = Int.gcd t b := by
  have h1 := Int.mul_fdiv_add_fmod t b
  have e : t.fmod b = t + b * (-(t.fdiv b)) := by
    rw [Int.mul_neg]; omega
  rw [e, Int.gcd_comm, Int.gcd_add_mul_left_left]
structure Dv (t₀ b₀ t b : Int) : Prop where
  g : Int.gcd t b = Int.gcd t₀ b₀
  p : 0 < b₀ → 0 ≤ b ∧ (b = 0 → 0 < t)
  n : b₀ < 0 → b ≤ 0 ∧ (b = 0 → t < 0)
theorem Dv.start {t b : Int} (h : b ≠ 0) : Dv t b t b := ⟨rfl, fun p => ⟨Int.le_of_lt p, fun e => absurd e h⟩, fun p => ⟨Int.le_of_lt p, fun e => absurd e h⟩⟩
theorem Dv.turn {t₀ b₀ t b : Int} (d : Dv t₀ b₀ t b) (h : b ≠ 0) : Dv t₀ b₀ b (t.fmod b) := by
  refine ⟨(gcd_fmod t b).trans d.g, fun p => ?_, fun p => ?_⟩
  · have q := d.p p
    have r := fmod_pos (t := t) (b := b) (by omega)
    exact ⟨r.1, fun _ => by omega⟩
  · have q := d.n p
    have r := fmod_neg (t := t) (b := b) (by omega)
    exact ⟨r.2, fun _ => by omega⟩
theorem Dv.less {t b : Int} (h : b ≠ 0) : (t.fmod b).natAbs < b.natAbs := by
  rcases Int.lt_or_gt_of_ne h with q | q
  · have r := fmod_neg (t := t) q; omega
  · have r := fmod_pos (t := t) q; omega
theorem Dv.done {t₀ b₀ t b : Int} (d : Dv t₀ b₀ t b) (h : b = 0) (h0 : b₀ ≠ 0) : t = dv t₀ b₀ := by
  subst h
  have g := d.g
  rw [Int.gcd_zero_right] at g
  unfold dv
  rw [← g]
  split
  · rename_i q; have := (d.n q).2 rfl; omega
  · have := (d.p (by omega)).2 rfl; omega
end Tc
namespace Tc
theorem dv_pos {t b : Int} (h : 0 < b) : dv t b = (Int.gcd t b : Int) := by unfold dv; rw [if_neg (by omega)]
end Tc
namespace L2
open PySem PySem.Spec PyProof.Rows
/-! ### own rules: large ints, isinstance, steps of a range, calls by a bundled fact -/
theorem bt_isinstance : bootBuiltins "isinstance" = some (.builtin "isinstance") := by decide +kernel
theorem bt_int : bootBuiltins "int" = some (.type "int") := by decide +kernel
theorem bt_bool : bootBuiltins "bool" = some (.type "bool") := by decide +kernel
theorem bt_str : bootBuiltins "str" = some (.type "str") := by decide +kernel
theorem bt_list : bootBuiltins "list" = some (.type "list") := by decide +kernel
theorem bt_tuple : bootBuiltins "tuple" = some (.type "tuple") := by decide +kernel
section
variable {X : Cx}
theorem op_mulB : OpR X (binaryOp .Mult) (rI IntMulOk fun i j => .int (i * j)) := opI fun _ _ _ _ _ _ _ hc q => mul_int q hc
noncomputable def CDivB (_ j : Int) : Prop := j ≠ 0 ∧ j.natAbs.log2 < 9000
theorem op_fdivB : OpR X (binaryOp .FloorDiv) (rI CDivB fun i j => .int (i.fdiv j)) := opI fun _ _ _ _ _ _ _ hc q => floordiv_int hc.1 q (.inl (PyProof.noPylong_of_log2 hc.2))
theorem log2_lt {n k : Nat} (h : n < 2 ^ k) (hk : 0 < k) : n.log2 < k := by
  rcases Nat.eq_zero_or_pos n with h0 | hp
  · subst h0
    have : Nat.log2 0 = 0 := by decide
    omega
  · exact (Nat.log2_lt (Nat.ne_of_gt hp)).mpr h
theorem mulOk_of {a b : Int} (k : Nat) (ha : a.natAbs < 2 ^ k) (hb : b.natAbs < 2 ^ k) (h : k ≤ 67108864) : IntMulOk a b := by
  have bits : ∀ x : Int, x.natAbs < 2 ^ k → Builtin.Int.intBits x ≤ k := fun x hx => by
    unfold Builtin.Int.intBits
    split
    · exact Nat.zero_le _
    · rename_i hx0
      rcases Nat.eq_zero_or_pos k with h0 | hp
      · subst h0
        have : x = 0 := by
          have : x.natAbs < 1 := hx
          omega
        simp [this] at hx0
      · have := log2_lt hx hp
        omega
  exact IntMulOk.of_le (bits a ha) (bits b hb) (by omega)
theorem divB_of {i j : Int} (h : j ≠ 0) (hb : j.natAbs < 2 ^ 9000) : CDivB i j := ⟨h, log2_lt hb (by decide)⟩

theorem call_isi : CallR X (.builtin "isinstance") (fun xs H Q => ∃ x n t b, xs = [x, .ty n] ∧ TyOf X.K H x t ∧ PySem.W.kitOne X.K t (.type n) = some b ∧ Q (.bl b) H) := by
  intro pins s σ H xs us Q I r h
  obtain ⟨x, n, t, b, rfl, ty, e, q⟩ := h
  obtain ⟨u, u', rfl, ru, ru'⟩ := vals2 r
  cases ru'
  exact isinst_ok I ru ty e fun tk => ⟨.bl b, H, I.tok tk, rfl, q⟩
/-! ### a range with a step -/
end

/-! ### a def of the top, as a caller wants it -/
structure FnAt (P : Program) (w : World) (K : PySem.W.Frag) (mg : Str → Option Value) (base : Heap) (CX : CXT) (k : Nat) (x : Str) (ps : List Str) (sp : Sp) : Prop where
  ex : ∃ (f : Addr) (fd : FuncData), FnOk P w K mg base CX k f fd ps sp ∧ mg x = some (.ref f) ∧ PySem.W.keepIn K (.ref f) = true ∧ Binds K fd ps []
structure DefAt (K : PySem.W.Frag) (mg : Str → Option Value) (x : Str) (st : Stmt) : Prop where
  ex : ∃ (f : Addr) (fd : FuncData), Fun K x x st f fd ∧ mg x = some (.ref f)
theorem DefAt.mk' {K : PySem.W.Frag} {h : Heap} {mg : Str → Option Value} {x : Str} {st : Stmt} {f : Addr} {oc : Value} {od an : Option Addr} {osl : Array (Option Value)} {kV doc pm cdv ct : Value} (X : K.In h) (G : h.Ns mainGlobals mg)
    (a : PySem.W.nsIn K mainGlobals x = some (some (.ref f))) (l : K.lookup f = some ⟨oc, od, .func (PySem.W.fnOf x x (defArgs st) (defBody st) (defScope st) .none kV doc pm an cdv ct), osl⟩)
    (c : PySem.W.codeIn K cdv x = true) (k : PySem.W.keepIn K (.ref f) = true) : DefAt K mg x st := ⟨f, _, fun_mk (st := st) l c k, PySem.W.mg_of X G a⟩
section
variable {P : Program} {w : World} {K : PySem.W.Frag} {mg : Str → Option Value} {base : Heap}
theorem DefAt.ok {x : Str} {st : Stmt} {N ps : List Str} {k : Nat} {sp : Sp} (D : DefAt K mg x st) (S : FnScope N ps (defScope st)) (len : ∀ vs H Q E, sp vs H Q E → vs.length = ps.length)
    (hb : ∀ (kV doc pm : Value) (an : Option Addr) (cdv ct : Value) (us : List Value), us.length = ps.length → bindArgs (PySem.W.fnOf x x (defArgs st) (defBody st) (defScope st) .none kV doc pm an cdv ct) ⟨us, []⟩ = pure (ps.zip us))
    (hbody : ∀ (f : Addr) (cdv : Value) (A : Around) (outer : List Env) (s : Shared) (H : Hp) (vs : List V) (Q : VK) (E : XK), Room k (A.deeper (envOfC x (defScope st) s.heap.objs.size f cdv)) → sp vs H Q E →
      ∃ t, PSs (cxOf CX0 P w K mg base N x (defScope st) f cdv A outer s H E).nox (defBody st) t ∧ t { nx := fun _ H' => Q .non H', rt := Q } (start N vs) H) : FnAt P w K mg base CX0 (k + 1) x ps sp := by
  obtain ⟨f, fd, F, m⟩ := D.ex
  exact ⟨f, fd, F.ok S len fun cdv A outer s H vs Q E hr h => hbody f cdv A outer s H vs Q E hr h, m, F.kp, F.binds hb⟩
end
section
variable {X : Cx} {CX : CXT} {k j : Nat} {ps : List Str} {sp : Sp} {E : XK} {x : Str} {p pos : Pos} {e : Expr} {es : List Expr} {t : TA}
theorem pe_fn (F : FnAt X.prog X.w X.K X.mg X.base CX j x ps sp) (hr : Room k X.A) (hg : Gl X x) (hx : Passes CX X E) (ha : PA X (e :: es) t) (hj : j ≤ k := by decide)
    (hdb : (x == ("__debug__" : Str)) = false := by decide) (he : starEach (e :: es) X.env = (false, eval e X.env) :: starEach es X.env := by rfl) (hpl : (backTo pos (starEach es X.env)).any (·.1) = false := by rfl) :
    PE X (.Call (.Name x p) (e :: es) [] pos) (tCall sp [] E t) := by
  obtain ⟨f, fd, G, m, kp, b⟩ := F.ex
  exact pe_call G (hr.mono hj) hg m kp b .nil hx ha hdb he hpl
end
end L2
namespace L2
open PySem PySem.Spec PyProof.Rows
/-! ### kinds of values, for isinstance -/
noncomputable def tyH : Option HO → Option String
  | some (.lst _) => some "list"
  | some (.frz _ (.lst _)) => some "list"
  | some (.tup _) => some "tuple"
  | some (.dK _) => some "dict"
  | some (.dT _) => some "dict"
  | _ => none
noncomputable def tyS (H : Hp) : V → Option String
  | .non => some "NoneType"
  | .bl _ => some "bool"
  | .int _ => some "int"
  | .str _ => some "str"
  | .ref a => tyH (H a)
  | _ => none
theorem tyH_cases {o : Option HO} {n : String} (h : tyH o = some n) :
    (n = "list" ∧ ((∃ xs, o = some (.lst xs)) ∨ ∃ ob xs, o = some (.frz ob (.lst xs)))) ∨ (n = "tuple" ∧ ∃ xs, o = some (.tup xs)) ∨ (n = "dict" ∧ ((∃ kvs, o = some (.dK kvs)) ∨ ∃ kvs, o = some (.dT kvs))) := by
  cases o with
  | none => cases h
  | some u =>
    cases u with
    | lst xs => cases h; exact .inl ⟨rfl, .inl ⟨xs, rfl⟩⟩
    | tup xs => cases h; exact .inr (.inl ⟨rfl, xs, rfl⟩)
    | dK kvs => cases h; exact .inr (.inr ⟨rfl, .inl ⟨kvs, rfl⟩⟩)
    | dT kvs => cases h; exact .inr (.inr ⟨rfl, .inr ⟨kvs, rfl⟩⟩)
    | frz ob v =>
      cases v with
      | lst xs => cases h; exact .inl ⟨rfl, .inr ⟨ob, xs, rfl⟩⟩
      | _ => cases h
    | _ => cases h
theorem tyOf_of {K : PySem.W.Frag} {H : Hp} {v : V} {n : String} (h : tyS H v = some n) : TyOf K H v (.type n) := by
  cases v with
  | non => cases h; exact .non
  | bl b => cases h; exact .bl b
  | int i => cases h; exact .int i
  | str x => cases h; exact .str x
  | byt b => cases h
  | flt b => cases h
  | ty b => cases h
  | ref a =>
    rcases tyH_cases (show tyH (H a) = some n from h) with ⟨rfl, ⟨xs, e⟩ | ⟨ob, xs, e⟩⟩ | ⟨rfl, xs, e⟩ | ⟨rfl, ⟨kvs, e⟩ | ⟨kvs, e⟩⟩
    · exact .lst e
    · exact .frz e
    · exact .tup e
    · exact .dK e
    · exact .dT e
theorem tyS_mem {H : Hp} {v : V} {n : String} (h : tyS H v = some n) : n ∈ ["NoneType", "bool", "int", "str", "list", "tuple", "dict"] := by
  cases v with
  | ref a => rcases tyH_cases (show tyH (H a) = some n from h) with ⟨rfl, _⟩ | ⟨rfl, _⟩ | ⟨rfl, _⟩ <;> simp
  | _ => first | (cases h; done) | (cases h; simp)
noncomputable def subS (n m : String) : Bool := n == m || (n == "bool" && m == "int")
theorem kit_tt {K : PySem.W.Frag} {n m : String} (hn : n ∈ ["NoneType", "bool", "int", "str", "list", "tuple", "dict"]) (hm : m ∈ ["int", "bool", "str", "list", "tuple", "dict"]) :
    PySem.W.kitOne K (.type n) (.type m) = some (subS n m) := by
  simp only [List.mem_cons, List.not_mem_nil, or_false] at hn hm
  rcases hn with rfl | rfl | rfl | rfl | rfl | rfl | rfl <;> rcases hm with rfl | rfl | rfl | rfl | rfl | rfl <;> first | rfl | (with_unfolding_all rfl) | decide +kernel
theorem Same.upd {H : Hp} {p : Addr} {o : HO} (h : H p = none) : Same H (upd H p o) := fun b u e => by
  rw [upd_ne (ne_of_none e h)]; exact e
end L2
namespace L2
open PySem PySem.Spec PyProof.Rows
/-! ### exceptions: what lies behind a call that raises -/
section
variable {P : Program} {w : World} {H H' : Hp} {h h' : Heap} {a : Addr} {o : HO}
end
section
variable {X : Cx} {pins : List (Addr × Obj)} {σ : St} {H1 H2 : Hp} {s1 : Shared} {h2 h3 B : Heap} {a : Addr} {C a0 : Value} {vs : List Value}
end
section
variable {P : Program} {w : World} {K : PySem.W.Frag} {mg : Str → Option Value} {base : Heap} {N : List Str} {qual : Str} {scope : Scope} {f : Addr} {cd : Value} {A : Around} {outer : List Env} {s : Shared} {H : Hp} {E : XK}
end
/-! ### raise C(..), C a class of the text under a built-in error, without an __init__ -/
section
variable {X : Cx} {E : XK} {C : Addr} {B newId initId : String} {bmB : List Value} {x : Str} {np cpos pos : Pos} {e₀ : Expr} {rest : List Expr} {t : TA}
end
end L2
namespace L2
open PySem PySem.Spec PyProof.Rows
/-! ### try: .. except C as n: .. -/
section
variable {X : Cx} {pins : List (Addr × Obj)} {σ : St} {H H1 H2 : Hp} {s s1 s2 : Shared} {B : Heap}
end
section
variable {X : Cx} {k j : Nat} {ps : List Str} {sp : Sp} {x : Str} {p pos : Pos} {e : Expr} {es : List Expr} {t : TA}
end
section
variable {X : Cx} {pins : List (Addr × Obj)} {σ : St} {H : Hp} {s : Shared} {a : Addr} {o : HO}
theorem Inv.track (I : Inv X pins σ H s) (hn : H a = none) (hnew : X.s₀.heap.get? a = none) (hL : a ≠ X.env.locals) (hC : ∀ x c, X.env.cells.lookup x = some c → c ≠ a) (hP : ∀ p ∈ X.pn ++ pins, p.1 ≠ a)
    (ho : ObjOk X.prog X.w (upd H a o) s.heap a o) : Inv X pins σ (upd H a o) s := by
  have ne : ∀ b u, H b = some u → b ≠ a := fun b u e z => by rw [z, hn] at e; cases e
  refine ⟨I.ok, I.os, I.bare, ⟨I.base.keep, I.base.slot, fun b ob e n hx => ?_, I.base.there, fun b xs e => ?_, fun b ob u e => ?_, fun b ps e => ?_⟩, I.loc, I.cell, ?_, fun x c e => ?_, fun p hp => ?_, fun b u e => ?_, I.len⟩
  · rw [upd_ne (fun z => by rw [z, hnew] at e; cases e)]
    exact I.base.free b ob e n hx
  · have q := I.base.tups b xs e
    rw [upd_ne (ne b _ q)]; exact q
  · have q := I.base.frzs b ob u e
    rw [upd_ne (ne b _ q)]; exact q
  · obtain ⟨m, q⟩ := I.base.tbls b ps e
    exact ⟨m, by rw [upd_ne (ne b _ q)]; exact q⟩
  · rw [upd_ne (Ne.symm hL)]; exact I.free
  · rw [upd_ne (hC x c e)]; exact I.freeC x c e
  · obtain ⟨e1, e2, e3⟩ := I.pin p hp
    exact ⟨e1, by rw [upd_ne (hP p hp)]; exact e2, e3⟩
  · by_cases z : b = a
    · subst z; rw [upd_same] at e; cases e; exact ho
    · rw [upd_ne z] at e
      exact (I.hok b u e).stay (fun _ _ _ q => q) (fun c q => by rw [upd_ne (ne c _ q)]; exact q) fun c xs q => by rw [upd_ne (ne c _ q)]; exact q
end
section
variable {X : Cx} {x n : Str} {C' : Addr} {i : Nat} {np pos : Pos} {b₀ : Stmt} {suite : List Stmt} {rest : List ExceptHandler} {ts : TS} {tr : Value → TS}
end
end L2
namespace L2
open PySem PySem.Spec PyProof.Rows PySem.W PySem.Builtin PySem.Builtin.ObjectAttr PySem.Builtin.Getset_descriptor
/-! ### isinstance of a caught exception -/
section
variable {prog : Program} {w : World} {A : Around} {E : Value → Shared → Prop}
end
section
variable {X : Cx}
end
end L2
namespace L2
open PySem PySem.Spec PyProof.Rows
/-! ### a list comprehension of one for, with at most one if: its block is a context of its own within the def's -/
noncomputable def closOf (cells : List (Str × Addr)) : List (Str × NameKind) → List (Str × Addr) → List (Str × Addr)
  | [], cs => cs
  | x :: r, cs => closOf cells r (if x.2 == .free then (match cells.lookup x.1 with | some a => (x.1, a) :: cs | none => cs) else cs)
theorem closureFor_eq {scope : Scope} {env : Env} (h : ∀ x ∈ scope.names, x.2 = .free → ∃ a, env.cells.lookup x.1 = some a) : closureFor scope env = pure (closOf env.cells scope.names []) := by
  have aux : ∀ (names : List (Str × NameKind)) (cs : List (Str × Addr)), (∀ x ∈ names, x.2 = .free → ∃ a, env.cells.lookup x.1 = some a) →
      (forIn (m := Sem) names cs fun x r => do
        if (x.2 == NameKind.free) = true then do
          let a ← cellOf env x.1
          pure (ForInStep.yield ((x.1, a) :: r))
        else pure (ForInStep.yield r)) = pure (closOf env.cells names cs) := by
    intro names
    induction names with
    | nil => intro cs _; rfl
    | cons x r ih =>
      intro cs hx
      rw [List.forIn_cons]
      cases hk : (x.2 == NameKind.free) with
      | false =>
        simp only [Bool.false_eq_true, if_false, pure_bind]
        rw [ih cs fun y hy => hx y (List.mem_cons_of_mem _ hy)]
        show _ = pure (closOf env.cells r (if x.2 == .free then _ else cs))
        rw [hk]; rfl
      | true =>
        obtain ⟨a, ha⟩ := hx x List.mem_cons_self (by simpa using hk)
        have e : cellOf env x.1 = pure a := by unfold cellOf; rw [ha]
        simp only [if_true, e, pure_bind]
        rw [ih _ fun y hy => hx y (List.mem_cons_of_mem _ hy)]
        show _ = pure (closOf env.cells r (if x.2 == .free then (match env.cells.lookup x.1 with | some a => (x.1, a) :: cs | none => cs) else cs))
        rw [hk, ha]; rfl
  have h1 := aux scope.names [] h
  unfold closureFor
  simp only [bind_pure]
  exact h1
theorem closOf_sub {cells : List (Str × Addr)} : ∀ {names : List (Str × NameKind)} {cs : List (Str × Addr)}, (∀ p ∈ cs, cells.lookup p.1 = some p.2) → ∀ p ∈ closOf cells names cs, cells.lookup p.1 = some p.2
  | [], _, h => h
  | x :: r, cs, h => closOf_sub (names := r) fun p hp => by
    split at hp
    · split at hp
      · rename_i a ha
        rcases List.mem_cons.mp hp with rfl | hp
        · exact ha
        · exact h p hp
      · exact h p hp
    · exact h p hp
theorem closOf_mono {cells : List (Str × Addr)} : ∀ {names : List (Str × NameKind)} {cs : List (Str × Addr)} {p : Str × Addr}, p ∈ cs → p ∈ closOf cells names cs
  | [], _, _, h => h
  | x :: r, cs, p, h => closOf_mono (names := r) (by
    split
    · split
      · exact List.mem_cons_of_mem _ h
      · exact h
    · exact h)
theorem closOf_has {cells : List (Str × Addr)} {x : Str} {a : Addr} (ha : cells.lookup x = some a) : ∀ {names : List (Str × NameKind)} {cs : List (Str × Addr)}, (x, NameKind.free) ∈ names → (x, a) ∈ closOf cells names cs
  | y :: r, cs, h => by
    rcases List.mem_cons.mp h with rfl | h
    · refine closOf_mono (names := r) ?_
      simp [ha]
    · exact closOf_has ha (names := r) h
theorem lookup_mem {α : Type} {x : Str} {v : α} : ∀ {l : List (Str × α)}, l.lookup x = some v → (x, v) ∈ l
  | [], h => by simp at h
  | (y, u) :: r, h => by
    rw [List.lookup_cons] at h
    cases e : x == y with
    | true => rw [e] at h; cases h; rw [beq_iff_eq.mp e]; exact List.mem_cons_self
    | false => rw [e] at h; exact List.mem_cons_of_mem _ (lookup_mem h)
theorem mem_lookup {α : Type} {x : Str} {v : α} : ∀ {l : List (Str × α)}, (x, v) ∈ l → ∃ u, l.lookup x = some u
  | (y, u) :: r, h => by
    rw [List.lookup_cons]
    cases e : x == y with
    | true => exact ⟨u, rfl⟩
    | false =>
      rcases List.mem_cons.mp h with z | z
      · cases z; simp at e
      · exact mem_lookup z
noncomputable def compOk (osc scope : Scope) (N Tn Fn : List Str) (js : List Nat) : Bool :=
  (scope.kind == .function) && (osc.kind == .function) && (scope.names.all fun y => match y.2 with
    | .cell => false
    | .local => scope.names.lookup y.1 == some .local
    | .free => osc.names.lookup y.1 == some .cell && scope.names.lookup y.1 == some .free
    | _ => true) && (js.map (fun j => N[j]?) == Fn.map some) && (Fn.all fun x => scope.names.lookup x == some .free) && (Tn.all fun x => scope.names.lookup x == some .local) && decide (Tn ++ Fn).Nodup
structure CompScope (osc scope : Scope) (N Tn Fn : List Str) (js : List Nat) : Prop where
  kind : scope.kind = .function
  okind : osc.kind = .function
  nocell : ∀ y ∈ scope.names, y.2 ≠ .cell
  loc : ∀ y ∈ scope.names, y.2 = .local → scope.names.lookup y.1 = some .local
  fre : ∀ y ∈ scope.names, y.2 = .free → osc.names.lookup y.1 = some .cell
  idx : js.map (fun j => N[j]?) = Fn.map some
  fn : ∀ x ∈ Fn, scope.names.lookup x = some .free
  tn : ∀ x ∈ Tn, scope.names.lookup x = some .local
  nd : (Tn ++ Fn).Nodup
theorem CompScope.of {osc scope : Scope} {N Tn Fn : List Str} {js : List Nat} (h : compOk osc scope N Tn Fn js = true) : CompScope osc scope N Tn Fn js := by
  unfold compOk at h
  simp only [Bool.and_eq_true, beq_iff_eq, decide_eq_true_eq, List.all_eq_true] at h
  obtain ⟨⟨⟨⟨⟨⟨h1, h1'⟩, h2⟩, h3⟩, h4⟩, h5⟩, h6⟩ := h
  refine ⟨h1, h1', fun y hy e => ?_, fun y hy e => ?_, fun y hy e => ?_, h3, h4, h5, h6⟩
  · have := h2 y hy; rw [e] at this; cases this
  · have := h2 y hy; rw [e] at this; simpa using this
  · have := h2 y hy; rw [e] at this; simp only [Bool.and_eq_true, beq_iff_eq] at this; exact this.1
noncomputable def cxIn (X : Cx) (N : List Str) (scope : Scope) (cl : List (Str × Addr)) (C : Addr) (s : Shared) (H : Hp) (fp : List Addr) : Cx :=
  { X with N := N, s₀ := s, H₀ := H, env := compEnvC scope cl C X.env, outer := X.stack, ex := fp, fn := fun _ => false, pn := [], xe := fun _ _ => False }
noncomputable def innS (k : Nat) (js : List Nat) (σ : St) : St := List.replicate k none ++ js.map fun j => (σ[j]?).join
theorem lookup_relabel {env : Env} (hk : env.scope.kind = .function) : ∀ {names : List (Str × NameKind)} {x : Str} {k : NameKind}, (∀ y ∈ names, y.2 = .free → env.kindOf y.1 = some .cell) → names.lookup x = some k →
    (names.map fun (n, k) => if (k == NameKind.free && env.scope.kind == .function && env.kindOf n == some .cell) then (n, NameKind.cell) else (n, k)).lookup x = some (if k = .free then .cell else k)
  | [], _, _, _, h => by simp at h
  | (n, k') :: r, x, k, hf, h => by
    have ih := @lookup_relabel env hk r x k fun y hy => hf y (List.mem_cons_of_mem _ hy)
    have h0 := hf (n, k') List.mem_cons_self
    rw [List.map_cons]
    show List.lookup x ((if (k' == NameKind.free && env.scope.kind == .function && env.kindOf n == some .cell) = true then (n, NameKind.cell) else (n, k')) :: _) = _
    rw [List.lookup_cons] at h
    by_cases hk' : k' = .free
    · subst hk'
      have e : (NameKind.free == NameKind.free && env.scope.kind == .function && env.kindOf n == some .cell) = true := by rw [h0 rfl, hk]; decide
      rw [if_pos e, List.lookup_cons]
      cases hx : x == n with
      | true => rw [hx] at h; cases h; rfl
      | false => rw [hx] at h; exact ih h
    · have e : ¬ (k' == NameKind.free && env.scope.kind == .function && env.kindOf n == some .cell) = true := by
        intro z; simp only [Bool.and_eq_true, beq_iff_eq] at z; exact hk' z.1.1
      rw [if_neg e, List.lookup_cons]
      cases hx : x == n with
      | true => rw [hx] at h; cases h; simp [hk']
      | false => rw [hx] at h; exact ih h
theorem relabel_of {env : Env} : ∀ {names : List (Str × NameKind)} {x : Str} {k : NameKind}, (names.map fun (n, k) => if (k == NameKind.free && env.scope.kind == .function && env.kindOf n == some .cell) then (n, NameKind.cell) else (n, k)).lookup x = some k →
    ∃ k', (x, k') ∈ names ∧ (k' = k ∨ (k' = .free ∧ k = .cell))
  | [], _, _, h => by simp at h
  | (n, k') :: r, x, k, h => by
    have ih := @relabel_of env r x k
    rw [List.map_cons] at h
    have h : List.lookup x ((if (k' == NameKind.free && env.scope.kind == .function && env.kindOf n == some .cell) = true then (n, NameKind.cell) else (n, k')) :: _) = some k := h
    by_cases e : (k' == NameKind.free && env.scope.kind == .function && env.kindOf n == some .cell) = true
    · rw [if_pos e, List.lookup_cons] at h
      cases hx : x == n with
      | true =>
        rw [hx] at h; cases h
        simp only [Bool.and_eq_true, beq_iff_eq] at e
        refine ⟨.free, ?_, .inr ⟨rfl, rfl⟩⟩
        rw [beq_iff_eq.mp hx, ← e.1.1]; exact List.mem_cons_self
      | false => rw [hx] at h; obtain ⟨q, m, z⟩ := ih h; exact ⟨q, List.mem_cons_of_mem _ m, z⟩
    · rw [if_neg e, List.lookup_cons] at h
      cases hx : x == n with
      | true => rw [hx] at h; cases h; refine ⟨k', ?_, .inl rfl⟩; rw [beq_iff_eq.mp hx]; exact List.mem_cons_self
      | false => rw [hx] at h; obtain ⟨q, m, z⟩ := ih h; exact ⟨q, List.mem_cons_of_mem _ m, z⟩
section
variable {X : Cx} {pins : List (Addr × Obj)} {σ : St} {H : Hp} {s : Shared} {scope : Scope} {Tn Fn : List Str} {js : List Nat} {fp : List Addr}
theorem inv_in {C : Addr} {h1 : Heap} {tk : Nat} {mC : Str → Option Value} (cs : CompScope X.env.scope scope X.N Tn Fn js) (I : Inv X pins σ H s) (hC : C = s.heap.objs.size) (hn : h1.Ns C mC) (k1 : ∀ b o, s.heap.get? b = some o → h1.get? b = some o)
    (hf : ∀ b ∈ fp, FpOk X pins H b) (ho : ∀ b ∈ fp, ∃ o, s.heap.get? b = some o) :
    Inv (cxIn X (Tn ++ Fn) scope (closOf X.env.cells scope.names []) C s H fp) (X.pn ++ pins) (innS Tn.length js σ) H { s with heap := h1, toks := tk } := by
  have hcl : ∀ x c, (closOf X.env.cells scope.names []).lookup x = some c → X.env.cells.lookup x = some c := fun x c e => closOf_sub (names := scope.names) (cs := []) (fun _ z => nomatch z) _ (lookup_mem e)
  have hlen : (js.map fun j => X.N[j]?).length = (Fn.map some).length := congrArg List.length cs.idx
  rw [List.length_map, List.length_map] at hlen
  have hfr : ∀ y ∈ scope.names, y.2 = .free → X.env.kindOf y.1 = some .cell := cs.fre
  subst hC
  refine ⟨⟨I.ok.mod, cs.kind, I.ok.glob, I.ok.blt, Nat.le_refl _, fun x y c e1 e2 => I.ok.inj x y c (hcl x c e1) (hcl y c e2), fun x hx => ?_, fun x c z => absurd z Bool.false_ne_true, I.ok.hd, I.ok.frames, .inl rfl, fun b hb => ⟨?_, fun x c e => (hf b hb).2.2.2.2.1 x c (hcl x c e)⟩, I.bs,
    Nat.le_trans I.ok.bsz I.sz, fun b o e hb => ?_, fun b hb z => ?_, I.stack, I.stkFree⟩, rfl, I.bare, Un.kept k1, ⟨mC, hn, fun i x v e1 e2 e3 => ?_⟩, fun x c e => ?_, I.fresh, fun x c e => I.freeC x c (hcl x c e), fun p hp => ?_, I.hok.kept k1, ?_⟩
  · -- has
    have hx : (relabel scope X.env).names.lookup x = some .cell ∨ (relabel scope X.env).names.lookup x = some .free := hx
    have key : (x, NameKind.free) ∈ scope.names := by
      rcases hx with hx | hx
      · obtain ⟨k', m, z⟩ := relabel_of hx
        rcases z with z | ⟨z, _⟩
        · subst z; exact absurd rfl (cs.nocell _ m)
        · subst z; exact m
      · obtain ⟨k', m, z⟩ := relabel_of hx
        rcases z with z | ⟨_, z⟩
        · subst z; exact m
        · cases z
    obtain ⟨a, ha⟩ := I.ok.has x (.inl (hfr _ key rfl))
    exact mem_lookup (closOf_has ha key)
  · obtain ⟨o, e⟩ := ho b hb
    exact Nat.ne_of_lt (Heap.lt_size e)
  · rcases (hf b hb).2.2.2.1 with z | z
    · exact I.ok.noex b o e z
    · exact absurd (Nat.lt_of_lt_of_le (Heap.lt_size (I.ok.bs b o e).1) z) (Nat.lt_irrefl _)
  · rcases List.mem_cons.mp (I.stkSub b z) with q | q
    · exact (hf b hb).2.1 q
    · exact (hf b hb).2.2.1 q
  · -- names
    have e1 : (Tn ++ Fn)[i]? = some x := e1
    have e2 : (List.replicate Tn.length none ++ js.map fun j => (σ[j]?).join)[i]? = some (some v) := e2
    by_cases hi : i < Tn.length
    · rw [List.getElem?_append_left (by simpa using hi), List.getElem?_replicate] at e2
      split at e2 <;> cases e2
    · rw [List.getElem?_append_right (by simpa using hi)] at e2
      rw [List.getElem?_append_right (by simpa using hi)] at e1
      rw [List.length_replicate, List.getElem?_map] at e2
      cases ej : js[i - Tn.length]? with
      | none => rw [ej] at e2; cases e2
      | some j =>
        rw [ej] at e2
        have e2 : (σ[j]?).join = some v := by simpa using e2
        have e2' : σ[j]? = some (some v) := by
          cases q : σ[j]? with
          | none => rw [q] at e2; cases e2
          | some o => rw [q] at e2; cases o with
            | none => cases e2
            | some v' => cases e2; rfl
        have ej' : X.N[j]? = some x := by
          have h0 : (js.map fun j => X.N[j]?)[i - Tn.length]? = (Fn.map some)[i - Tn.length]? := by rw [cs.idx]
          rw [List.getElem?_map, ej, List.getElem?_map, e1] at h0
          simpa using h0
        have hx : scope.names.lookup x = some .free := cs.fn x (List.mem_of_getElem? e1)
        have hox : X.env.kindOf x = some .cell := hfr _ (lookup_mem hx) rfl
        obtain ⟨m, hm, hl⟩ := I.loc
        obtain ⟨u, r, l⟩ := hl j x v ej' e2' (.inr (.inl hox))
        refine ⟨u, r, .inr ⟨.inl ?_, ?_⟩⟩
        · show (relabel scope X.env).names.lookup x = some .cell
          have z := lookup_relabel (env := X.env) cs.okind (names := scope.names) hfr hx
          rw [if_pos rfl] at z
          exact z
        · rcases l with ⟨k, _⟩ | ⟨_, c, ec, z⟩
          · rw [hox] at k; cases k
          · obtain ⟨c', e'⟩ := mem_lookup (closOf_has (cs := []) ec (lookup_mem hx))
            have : c' = c := Option.some.inj ((hcl x c' e').symm.trans ec)
            subst this
            obtain ⟨o, q1, q2⟩ := z
            exact ⟨c', e', o, k1 _ _ q1, q2⟩
  · obtain ⟨v, o, q1, q2⟩ := I.cell x c (hcl x c e)
    exact ⟨v, o, k1 _ _ q1, q2⟩
  · have hp : p ∈ ([] : List (Addr × Obj)) ++ (X.pn ++ pins) := hp
    rw [List.nil_append] at hp
    obtain ⟨e, n, ne, nf, d⟩ := I.pin p hp
    refine ⟨k1 _ _ e, n, Nat.ne_of_lt (Heap.lt_size e), fun z => ?_, d⟩
    rcases List.mem_cons.mp (I.stkSub p.1 z) with q | q
    · exact ne q
    · exact nf q
  · show (List.replicate Tn.length none ++ js.map fun j => (σ[j]?).join).length = (Tn ++ Fn).length
    rw [List.length_append, List.length_append, List.length_replicate, List.length_map, hlen]
structure CFree (X : Cx) (pins : List (Addr × Obj)) (C : Addr) : Prop where
  nl : C ≠ X.env.locals
  yg : X.s₀.heap.objs.size ≤ C
  nc : ∀ x c, X.env.cells.lookup x = some c → c ≠ C
  np : ∀ p ∈ X.pn ++ pins, p.1 ≠ C
theorem Inv.letgo {C : Addr} {h2 : Heap} (I : Inv X pins σ H s) (hn : H C = none) (c : CFree X pins C) (sb : Heap.SameBut C s.heap h2) : Inv X pins σ H { s with heap := h2 } :=
  I.turned (t' := s.toks) (it := C) (fun b o hb e => (sb.2 b hb).trans e) hn c.nl (.inr c.yg) c.nc c.np
theorem Inv.cfree {C : Addr} (I : Inv X pins σ H s) (hC : C = s.heap.objs.size) : CFree X pins C := by
  refine ⟨by rw [hC]; exact Nat.ne_of_gt I.lt, by rw [hC]; exact I.sz, fun x c e z => ?_, fun p hp z => ?_⟩
  · obtain ⟨v, q⟩ := I.cell x c e
    have := q.lt
    rw [z, hC] at this; exact absurd this (Nat.lt_irrefl _)
  · have := Heap.lt_size (I.pin p hp).1
    rw [z, hC] at this; exact absurd this (Nat.lt_irrefl _)
theorem inv_out {C : Addr} {cl : List (Str × Addr)} {N : List Str} {σ' : St} {H' : Hp} {pins' : List (Addr × Obj)} {s' : Shared} (I : Inv X pins σ H s) (hf : ∀ b ∈ fp, FpOk X pins H b) (J : Inv (cxIn X N scope cl C s H fp) pins' σ' H' s') : Inv X pins σ H' s' :=
  I.call' (ch := fp) J.os J.base J.hok J.bare fun b hb => ⟨(hf b hb).2.2.2.1, (hf b hb).2.1, (hf b hb).2.2.2.2.1, (hf b hb).2.2.2.2.2⟩
end
/-! the loop of the block -/
section
variable {prog : Program} {w : World} {A : Around} {s : Shared}
theorem compLoop_go {elt target iter : Expr} {ifs : List Expr} {scope : Scope} {pos : Pos} {it acc : Value} {env : Env} {R : Result → Shared → Prop} (I : Nat → Shared → Prop)
    (turn : ∀ n s, I n s → wpAny (model prog w) A (pyNext it) (fun r s₁ => match r with
      | none => R (.ok .next) s₁
      | some v => wpAny (model prog w) A (letOwnedTupleGo target it v) (fun _ s₀ => wpAny (model prog w) A (assign target env v) (fun _ s₂ =>
          wpAny (model prog w) A (forIn ifs true fun c r => if r = true then do let ok ← isTrue c env (eval c env); pure (ForInStep.yield ok) else pure (ForInStep.yield r)) (fun ok s₃ =>
            if ok = true then wpAny (model prog w) A (eval elt env) (fun x s₄ =>
              wpAny (model prog w) A (call (.builtin "list.append") [acc, x]) (fun _ s₅ => ∃ m, m < n ∧ I m s₅) (fun _ _ => False) s₄) (fun _ _ => False) s₃
            else ∃ m, m < n ∧ I m s₃) (fun _ _ => False) s₂) (fun _ _ => False) s₀) (fun _ _ => False) s₁) (fun _ _ => False) s)
    (n : Nat) (h : I n s) : codeAny (model prog w) A (.compLoop (.ListComp elt [⟨target, iter, ifs, 0⟩] scope pos) 0 it acc env) R s := by
  refine codeAny_loop rfl I (fun n s hI => ?_) n h
  show wpAny _ A ((compTurn (.ListComp elt [⟨target, iter, ifs, 0⟩] scope pos) 0 it acc env).onRaise (fun x => do noteFrame x env; theTreesLotGoes x)) _ _ s
  refine wpAny_noted ?_
  rw [compTurn_list]
  refine wpAny_bind (wpAny_standAt (wpAny_bind (wpAny_mono (turn n s hI) (fun r s₁ h₁ => ?_) fun _ _ h' => h'.elim)))
  cases r with
  | none => exact wpAny_pure h₁
  | some v =>
    refine wpAny_bind (wpAny_mono h₁ (fun _ s₀ h₀' => ?_) fun _ _ h' => h'.elim)
    refine wpAny_bind (wpAny_mono h₀' (fun _ s₂ h₂ => wpAny_bind (wpAny_mono h₂ (fun ok s₃ h₃ => ?_) fun _ _ h' => h'.elim)) fun _ _ h' => h'.elim)
    cases ok with
    | false => exact wpAny_pure ⟨rfl, h₃⟩
    | true =>
      exact wpAny_bind (wpAny_bind (wpAny_mono h₃ (fun x s₄ h₄ => wpAny_bind (wpAny_mono h₄ (fun _ s₅ h₅ => wpAny_pure (wpAny_pure ⟨rfl, h₅⟩)) fun _ _ h' => h'.elim)) fun _ _ h' => h'.elim))
end
noncomputable def PIfs (X : Cx) (ifs : List Expr) (t : TT) : Prop :=
  ∀ (pins : List (Addr × Obj)) (s : Shared) (σ : St) (H : Hp) (Q : Bool → Hp → Prop), Inv X pins σ H s → t σ H Q →
    wpAny (model X.prog X.w) X.A (forIn ifs true fun c r => if r = true then do let ok ← isTrue c X.env (eval c X.env); pure (ForInStep.yield ok) else pure (ForInStep.yield r)) (TP X pins σ Q) X.xe s
noncomputable abbrev tTrue : TT := fun _ H Q => Q true H
theorem pif_none {X : Cx} : PIfs X [] tTrue := fun _ _ _ H _ I h => wpAny_tests_nil ⟨H, I, h⟩
theorem pif_one {X : Cx} {c : Expr} {t : TT} (h : PT X c t) : PIfs X [c] t := fun pins s σ H Q I hq => wpAny_tests_one (h pins s σ H Q I hq)
noncomputable def tBlock (J : It) (g : TG) (tc : TT) (te : TE) (D : Addr) (Z : Hp → Prop) (σ : St) (H : Hp) : Prop :=
  ∃ W : Nat → Nat → St → Hp → Prop, (∃ m, W 0 m σ H) ∧ ∀ i m σ H, W i m σ H →
    (J.stop i H ∧ Z H) ∨ (J.go i H ∧ ∃ N : St → Hp → Prop, (∀ σ' H', N σ' H' → ∃ m', m' < m ∧ W (i + 1) m' σ' H') ∧
      ∀ x H', J.yld i H x H' → g x σ H' fun σ2 H2 => tc σ2 H2 fun b H3 => if b = true then te σ2 H3 fun y H4 => ∃ ys, H4 D = some (.lst ys) ∧ ys.length < sizeLine ∧ N σ2 (upd H4 D (.lst (ys ++ [y]))) else N σ2 H3)
section
variable {X : Cx} {scope : Scope} {Tn Fn : List Str} {js : List Nat} {tg iter elt : Expr} {ifs : List Expr} {wi : TI} {g : TG} {tc : TT} {te : TE} {pos : Pos}
theorem block_run {pins : List (Addr × Obj)} {σ : St} {H2 : Hp} {s2 : Shared} {it : Addr} {fp : List Addr} {tn : Nat → Heap → Prop} {J : It} {Z : Addr → Hp → Prop} {RR : Value → Addr → Result → Shared → Prop} {E : Value → Shared → Prop} (hc : X.calm = true)
    (cs : CompScope X.env.scope scope X.N Tn Fn js)
    (hg : ∀ C s H fp, PG (cxIn X (Tn ++ Fn) scope (closOf X.env.cells scope.names []) C s H fp) tg g) (ht : ∀ C s H fp, PIfs (cxIn X (Tn ++ Fn) scope (closOf X.env.cells scope.names []) C s H fp) ifs tc)
    (he : ∀ C s H fp, PE (cxIn X (Tn ++ Fn) scope (closOf X.env.cells scope.names []) C s H fp) elt te)
    (I2 : Inv X pins σ H2 s2) (T : Turn X.prog X.w X.K tg J fp it tn) (st2 : tn 0 s2.heap) (f2 : ∀ b ∈ fp, FpOk X pins H2 b)
    (hb : ∀ D, H2 D = none → tBlock J g tc te D (Z D) (innS Tn.length js σ) (upd H2 D (.lst [])))
    (fin : ∀ D C s' H' m, s'.heap.Ns C m → Inv X pins σ H' s' → H' C = none → CFree X pins C → Z D H' → RR (.ref D) C (.ok .next) s') :
    wpAny (model X.prog X.w) X.A (newList []) (fun acc s₃ => wpAny (model X.prog X.w) X.A (newFunctionEnv scope X.env.globals (closOf X.env.cells scope.names []) [] X.env.qual none .none (some X.env)) (fun cenv s₄ =>
      codeAny (model X.prog X.w) X.A (.compStart (.ListComp elt [⟨tg, iter, ifs, 0⟩] scope pos) 0 (.ref it) acc { cenv with scope := relabel scope X.env }) (RR acc cenv.locals) s₄) E s₃) E s2 := by
  refine wpAny_newObj_type (wpAny_newFunctionEnv cs.nocell (by intro y hy; simp at hy) (fun h₁ hns₁ hsb₁ => ?_) cs.kind)
  dsimp only at hns₁ hsb₁ ⊢
  have I3 := I2.lnew (its := []) (ys := []) (t' := s2.toks) .nil (Nat.zero_le _)
  have fD : H2 s2.heap.objs.size = none := I2.fresh
  obtain ⟨W, ⟨m0, w0⟩, turn⟩ := hb _ fD
  generalize hH2 : s2.heap.push { cls := .type "list", dict := none, data := .seq ([] : List Value).toArray } = g2 at hns₁ hsb₁ I3 ⊢
  have up2 : ∀ b o, s2.heap.get? b = some o → g2.get? b = some o := fun b o e => hH2 ▸ Heap.get?_push_of_some _ e
  generalize hD : s2.heap.objs.size = D at *
  have up3 : ∀ b o, g2.get? b = some o → h₁.get? b = some o := fun b o e => hsb₁.extBut b o (Nat.ne_of_lt (Heap.lt_size e)) (Heap.get?_push_of_some _ e)
  have hob : ∀ b ∈ fp, ∃ o, s2.heap.get? b = some o := fun b hb => let ⟨o, e, _⟩ := T.obj 0 _ st2 b hb; ⟨o, e⟩
  have neD : ∀ b ∈ fp, b ≠ D := fun b hb => by
    obtain ⟨o, e⟩ := hob b hb
    rw [← hD]; exact Nat.ne_of_lt (Heap.lt_size e)
  have f3 : ∀ b ∈ fp, FpOk X pins (upd H2 D (.lst [])) b := fun b hb => ⟨by rw [upd_ne (neD b hb)]; exact (f2 b hb).1, (f2 b hb).2⟩
  have J0 := inv_in (fp := fp) (tk := s2.toks + ([] : List (Str × Value)).length) cs I3 rfl hns₁ up3 f3 fun b hb => let ⟨o, e⟩ := hob b hb; ⟨o, up2 b o e⟩
  have tn0 : tn 0 h₁ := T.keep _ _ _ st2 fun b hb o e => up3 b o (up2 b o e)
  have cf : CFree X pins g2.objs.size := I3.cfree rfl
  generalize hX' : cxIn X (Tn ++ Fn) scope (closOf X.env.cells scope.names []) g2.objs.size { s2 with heap := g2, toks := s2.toks } (upd H2 D (.lst [])) fp = X' at J0
  have eP : X'.prog = X.prog := by rw [← hX']; rfl
  have ew : X'.w = X.w := by rw [← hX']; rfl
  have eK : X'.K = X.K := by rw [← hX']; rfl
  have eA : X'.A = X.A := by rw [← hX']; rfl
  have ec : X'.calm = true := by rw [← hX']; exact hc
  have ee : X'.env = compEnvC scope (closOf X.env.cells scope.names []) g2.objs.size X.env := by rw [← hX']; rfl
  have ex : X'.xe = fun _ _ => False := by rw [← hX']; rfl
  have Hg : PG X' tg g := by rw [← hX']; exact hg _ _ _ _
  have Ht : PIfs X' ifs tc := by rw [← hX']; exact ht _ _ _ _
  have He : PE X' elt te := by rw [← hX']; exact he _ _ _ _
  have out : ∀ {pins' σ' H' s'}, Inv X' pins' σ' H' s' → Inv X pins σ H' s' := by
    intro pins' σ' H' s' J
    rw [← hX'] at J
    exact inv_out I3 f3 J
  have fsX : ∀ b ∈ fp, b ∉ X'.fs := by
    intro b hb z
    rw [← hX'] at z
    rcases List.mem_cons.mp (I3.stkSub b z) with q | q
    · exact (f3 b hb).2.1 q
    · exact (f3 b hb).2.2.1 q
  have stat : ∀ {H' : Hp}, (∀ b ∈ fp, H' b = none) → ∀ b ∈ fp, FpOk X' (X.pn ++ pins) H' b := fun {H'} hn b hb => by
    refine ⟨hn b hb, ?_, fsX b hb, .inl (by rw [← hX']; exact hb), ?_, ?_⟩
    · rw [ee]
      obtain ⟨o, e⟩ := hob b hb
      exact Nat.ne_of_lt (Heap.lt_size (up2 b o e))
    · intro x c e
      rw [ee] at e
      exact (f3 b hb).2.2.2.2.1 x c (closOf_sub (names := scope.names) (cs := []) (fun _ z => nomatch z) _ (lookup_mem e))
    · intro p hp
      have hp : p ∈ X.pn ++ pins := by rw [← hX'] at hp; simpa [cxIn] using hp
      exact (f3 b hb).2.2.2.2.2 p hp
  have loop : ∀ s4 : Shared, s4 = { s2 with heap := h₁, toks := s2.toks + ([] : List (Str × Value)).length } →
      codeAny (model X.prog X.w) X.A (.compLoop (.ListComp elt [⟨tg, iter, ifs, 0⟩] scope pos) 0 (.ref it) (.ref D) (compEnvC scope (closOf X.env.cells scope.names []) g2.objs.size X.env)) (RR (.ref D) g2.objs.size) s4 := by
    rintro s4 rfl
    refine compLoop_go (fun n s' => ∃ i σ' H', Inv X' (X.pn ++ pins) σ' H' s' ∧ tn i s'.heap ∧ (∀ b ∈ fp, H' b = none) ∧ W i n σ' H') ?_ m0 ⟨0, _, _, J0, tn0, fun b hb => (f3 b hb).1, w0⟩
    rintro n s5 ⟨i, σ5, H5, I5, st5, fr5, w5⟩
    rw [← ee, ← eA, ← eP, ← ew, ← ex]
    rcases turn i n σ5 H5 w5 with ⟨stop, qz⟩ | ⟨go, N, hN, step⟩
    · have td := T.done X' eP ew eK ec i (X.pn ++ pins) s5 σ5 H5 X'.xe I5 (stat fr5) st5 stop
      rw [← eP, ← ew] at td
      refine thn td fun r s6 ⟨hr, I6⟩ => ?_
      subst hr
      obtain ⟨m, hm, _⟩ := id I6.loc
      rw [ee] at hm
      have hfr := I6.free
      rw [ee] at hfr
      exact fin D _ s6 H5 m hm (out I6) hfr cf qz
    · have ti := T.item X' eP ew eK ec i (X.pn ++ pins) s5 σ5 H5 X'.xe I5 (stat fr5) st5 go
      rw [← eP, ← ew] at ti
      refine thn ti fun r s6 ⟨u, hr, h6⟩ => ?_
      subst hr
      refine thn h6 fun _ s7 ⟨x, H7, I7, r7, y7, st7, fr7⟩ => ?_
      have I7' := I7.pinned (stat fr7) (T.obj _ _ st7)
      refine thn (Hg _ s7 σ5 H7 x u _ I7' r7 (step x H7 y7)) fun _ s8 ⟨σ8, H8, I8, q8⟩ => ?_
      refine thn (Ht _ s8 σ8 H8 _ I8 q8) fun ok s9 ⟨H9, I9, q9⟩ => ?_
      have again : ∀ {σa : St} {Ha : Hp} {sa : Shared}, Inv X' ((X.pn ++ pins) ++ pinsAt fp s7.heap) σa Ha sa → N σa Ha → ∃ m, m < n ∧ ∃ i σ' H', Inv X' (X.pn ++ pins) σ' H' sa ∧ tn i sa.heap ∧ (∀ b ∈ fp, H' b = none) ∧ W i m σ' H' := fun {σa Ha sa} Ia na => by
        obtain ⟨m', hm, wa⟩ := hN σa Ha na
        refine ⟨m', hm, i + 1, σa, Ha, Ia.unpinned, T.keep _ _ _ st7 fun b hb o e => (Ia.pin (b, o) (List.mem_append_right _ (List.mem_append_right _ (mem_pinsAt hb e)))).1, fun b hb => ?_, wa⟩
        obtain ⟨o, e, d⟩ := T.obj _ _ st7 b hb
        exact (Ia.pin (b, o) (List.mem_append_right _ (List.mem_append_right _ (mem_pinsAt hb e)))).2.1
      cases ok with
      | false => exact again I9 q9
      | true =>
        refine thn (He _ s9 σ8 H9 _ I9 q9) fun y s10 ⟨yv, H10, I10, r10, ys, e10, l10, n10⟩ => ?_
        exact thn (mt_append (X := X') _ s10 σ8 H10 (.ref D) [yv] (.ref D) [y] (fun _ H' => N σ8 H') I10 rfl (.cons r10 .nil) ⟨D, ys, yv, rfl, rfl, e10, l10, n10⟩) fun _ s11 ⟨_, H11, I11, _, n11⟩ => again I11 n11
  exact codeAny_compStart_list (loop _ rfl) (T.self _ 0 _ _ _ tn0 (loop _ rfl))
noncomputable def tComp (wi : TI) (g : TG) (tc : TT) (te : TE) (k : Nat) (js : List Nat) : TE := fun σ H Q => wi σ H fun J H1 => ∀ D, H1 D = none → tBlock J g tc te D (Q (.ref D)) (innS k js σ) (upd H1 D (.lst []))
theorem pe_comp (Tn Fn : List Str) (js : List Nat) (hc : X.calm = true) (h : compOk X.env.scope scope X.N Tn Fn js = true) (hi : PI X tg iter wi)
    (hg : ∀ C s H fp, PG (cxIn X (Tn ++ Fn) scope (closOf X.env.cells scope.names []) C s H fp) tg g) (ht : ∀ C s H fp, PIfs (cxIn X (Tn ++ Fn) scope (closOf X.env.cells scope.names []) C s H fp) ifs tc)
    (he : ∀ C s H fp, PE (cxIn X (Tn ++ Fn) scope (closOf X.env.cells scope.names []) C s H fp) elt te) (hs : ∀ x, foldedSetIterable iter X.env x = pure x := by intro _; rfl) :
    PE X (.ListComp elt [⟨tg, iter, ifs, 0⟩] scope pos) (tComp wi g tc te Tn.length js) := by
  intro pins s σ H Q I hq
  have cs := CompScope.of h
  rw [eval_ListComp]
  refine wpAny_comprehension_free (use := none) rfl hs (closureFor_eq ?_) cs.kind cs.loc (thn (hi pins s σ H _ I hq) fun xv s1 h1 => thn h1 fun itv s2 h2 => ?_)
  · intro x hx e; exact I.ok.has x.1 (.inl (cs.fre x hx e))
  obtain ⟨it, fp, tn, J, H2, rfl, I2, T, st2, f2, hb⟩ := h2
  refine block_run (Z := fun D H' => Q (.ref D) H') (RR := fun acc C => compPost (model X.prog X.w) X.A X.xe none (EP X pins σ Q) acc C) hc cs hg ht he I2 T st2 f2 hb ?_
  intro D C s' H' m hm I' hn cf z
  exact ⟨m, hm, fun h' sb => ⟨.ref D, H', I'.letgo hn cf sb, rfl, z⟩⟩
theorem ps_setcomp (Tn Fn : List Str) (js : List Nat) {i : Nat} {y : Str} {py spos : Pos} (hN : X.N.Nodup) (hiN : X.N[i]? = some y) (hy : X.env.scope.names.lookup y = some .local) (hc : X.calm = true) (h : compOk X.env.scope scope X.N Tn Fn js = true) (hi : PI X tg iter wi)
    (hg : ∀ C s H fp, PG (cxIn X (Tn ++ Fn) scope (closOf X.env.cells scope.names []) C s H fp) tg g) (ht : ∀ C s H fp, PIfs (cxIn X (Tn ++ Fn) scope (closOf X.env.cells scope.names []) C s H fp) ifs tc)
    (he : ∀ C s H fp, PE (cxIn X (Tn ++ Fn) scope (closOf X.env.cells scope.names []) C s H fp) elt te) (hsw : swapsWith (.ListComp elt [⟨tg, iter, ifs, 0⟩] scope pos) (some (.Name y py)) spos.line X.env = pure true := by rfl)
    (hs : ∀ x, foldedSetIterable iter X.env x = pure x := by intro _; rfl) :
    PS X (.Assign [.Name y py] (.ListComp elt [⟨tg, iter, ifs, 0⟩] scope pos) spos) (tAsg (tComp wi g tc te Tn.length js) (gName i)) := by
  intro pins s σ H D0 I hq
  have cs := CompScope.of h
  rw [exec_Assign_Name_used _ _ _ _ hsw]
  refine wpAny_bind (wpAny_standAt (wpAny_bind ?_))
  show wpAny _ X.A (do let _ ← comprehension (.ListComp elt [⟨tg, iter, ifs, 0⟩] scope pos) scope X.env _ (newList []) false (eval iter X.env) (some (assign (.Name y py) X.env))) _ _ s
  refine wpAny_bind (wpAny_mono (wpAny_comprehension_free (use := some (assign (.Name y py) X.env)) (Q := fun _ s' => SP X pins D0 .next s') rfl hs (closureFor_eq ?_) cs.kind cs.loc
    (thn (hi pins s σ H _ I hq) fun xv s1 h1 => thn h1 fun itv s2 h2 => ?_)) (fun _ s' hq => wpAny_pure (wpAny_pure hq)) fun _ _ e => e)
  · intro x hx e; exact I.ok.has x.1 (.inl (cs.fre x hx e))
  obtain ⟨it, fp, tn, J, H2, rfl, I2, T, st2, f2, hb⟩ := h2
  refine block_run (Z := fun D H' => D0.nx (σ.set i (some (.ref D))) H') (RR := fun acc C => compPost (model X.prog X.w) X.A X.xe (some (assign (.Name y py) X.env)) (fun _ s' => SP X pins D0 .next s') acc C) hc cs hg ht he I2 T st2 f2 hb ?_
  intro D C s' H' m hm I' hn cf z
  show wpAny _ X.A (assign (.Name y py) X.env (.ref D)) _ _ s'
  refine wpAny_assign_Name (store_ok2 (v := .ref D) I' hN hiN (.inl hy) rfl (fun s'' I'' sb => ?_) (.inr hy))
  obtain ⟨a, sb, ha⟩ := sb
  have hCa : C ≠ a := by
    rcases ha with e | e
    · rw [e]; exact cf.nl
    · exact fun z => cf.nc _ _ e z.symm
  exact ⟨m, hm.sameBut sb hCa, fun h' sb' => ⟨_, H', I''.letgo hn cf sb', z⟩⟩
end
/-! the forms one uses -/
theorem block_list {K : PySem.W.Frag} {a : Addr} {xs : List V} {g : TG} {tc : TT} {te : TE} {D : Addr} {Z : Hp → Prop} {σ : St} {H : Hp} (Pv : Nat → St → Hp → Prop) (h0 : Pv 0 σ H) (hl : ∀ i σ H, i ≤ xs.length → Pv i σ H → SqL K H a xs)
    (hs : ∀ i x σ H, xs[i]? = some x → Pv i σ H → g x σ H fun σ2 H2 => tc σ2 H2 fun b H3 => if b = true then te σ2 H3 fun y H4 => ∃ ys, H4 D = some (.lst ys) ∧ ys.length < sizeLine ∧ Pv (i + 1) σ2 (upd H4 D (.lst (ys ++ [y]))) else Pv (i + 1) σ2 H3)
    (hd : ∀ σ H, Pv xs.length σ H → Z H) : tBlock (Itl K a) g tc te D Z σ H := by
  refine ⟨fun i m σ H => m = xs.length - i ∧ i ≤ xs.length ∧ Pv i σ H, ⟨xs.length, by simp, Nat.zero_le _, h0⟩, ?_⟩
  rintro i m σ H ⟨rfl, hi, p⟩
  have q := hl i σ H hi p
  by_cases hlt : i < xs.length
  · refine .inr ⟨⟨xs, xs[i], q, by simp [hlt]⟩, Pv (i + 1), fun σ' H' p' => ⟨xs.length - (i + 1), by omega, rfl, hlt, p'⟩, fun x H' y => ?_⟩
    obtain ⟨e, y⟩ := y
    subst e
    exact hs i x σ _ (y xs q) p
  · have e : i = xs.length := by omega
    subst e
    exact .inl ⟨⟨xs, q, Nat.le_refl _⟩, hd σ H p⟩
theorem block_range {lo : Int} {n : Nat} {g : TG} {tc : TT} {te : TE} {D : Addr} {Z : Hp → Prop} {σ : St} {H : Hp} (Pv : Nat → St → Hp → Prop) (h0 : Pv 0 σ H)
    (hs : ∀ i σ H, i < n → Pv i σ H → g (.int (lo + i)) σ H fun σ2 H2 => tc σ2 H2 fun b H3 => if b = true then te σ2 H3 fun y H4 => ∃ ys, H4 D = some (.lst ys) ∧ ys.length < sizeLine ∧ Pv (i + 1) σ2 (upd H4 D (.lst (ys ++ [y]))) else Pv (i + 1) σ2 H3)
    (hd : ∀ σ H, Pv n σ H → Z H) : tBlock (Itr lo n) g tc te D Z σ H := by
  refine ⟨fun i m σ H => m = n - i ∧ i ≤ n ∧ Pv i σ H, ⟨n, by simp, Nat.zero_le _, h0⟩, ?_⟩
  rintro i m σ H ⟨rfl, hi, p⟩
  by_cases hlt : i < n
  · refine .inr ⟨hlt, Pv (i + 1), fun σ' H' p' => ⟨n - (i + 1), by omega, rfl, hlt, p'⟩, fun x H' y => ?_⟩
    obtain ⟨e, y⟩ := y
    subst e y
    exact hs i σ _ hlt p
  · have e : i = n := by omega
    subst e
    exact .inl ⟨Nat.le_refl _, hd σ H p⟩
end L2
namespace L2
open PySem PySem.Spec PyProof.Rows
/-! ### ==, != of texts, numbers, truths, the gap, and of tuples and lists of these, as deep as they are -/
mutual
noncomputable def RepD (K : PySem.W.Frag) (H : Hp) : PyData → V → Prop
  | .none, v => v = .non
  | .bool b, v => v = .bl b
  | .int i, v => v = .int i
  | .str x, v => v = .str x ∧ (PyData.str x).canLay0 = true
  | .tuple xs, v => ∃ a vs, v = .ref a ∧ SqT K H a vs ∧ RepDs K H xs vs
  | .list xs, v => ∃ a vs, v = .ref a ∧ SqL K H a vs ∧ RepDs K H xs vs
  | .dict _, _ => False
noncomputable def RepDs (K : PySem.W.Frag) (H : Hp) : List PyData → List V → Prop
  | [], vs => vs = []
  | d :: ds, vs => ∃ v r, vs = v :: r ∧ RepD K H d v ∧ RepDs K H ds r
end
section
variable {X : Cx} {pins : List (Addr × Obj)} {σ : St} {H : Hp} {s : Shared}
mutual
theorem RepD.reads (I : Inv X pins σ H s) : ∀ {d : PyData} {v : V} {u : Value}, RepD X.K H d v → RelV v u → ∃ as, Reads s.heap u d as
  | .none, v, u, h, r => by
    have h : v = .non := by simpa [RepD] using h
    subst h; cases r; exact ⟨_, .none⟩
  | .bool b, v, u, h, r => by
    have h : v = .bl b := by simpa [RepD] using h
    subst h; cases r; exact ⟨_, .bool b⟩
  | .int i, v, u, h, r => by
    have h : v = .int i := by simpa [RepD] using h
    subst h; obtain ⟨t, rfl⟩ := r; exact ⟨_, .int i t⟩
  | .str x, v, u, h, r => by
    simp only [RepD] at h
    obtain ⟨rfl, _⟩ := h
    obtain ⟨t, rfl⟩ := r; exact ⟨_, .str x t⟩
  | .tuple xs, v, u, h, r => by
    have h : ∃ a vs, v = .ref a ∧ SqT X.K H a vs ∧ RepDs X.K H xs vs := by simpa [RepD] using h
    obtain ⟨a, vs, rfl, q, rs⟩ := h
    cases r
    obtain ⟨its, rv, p, _⟩ := I.tuple q
    obtain ⟨o, e, c, n, d⟩ := (show s.heap.IsTuple a its.toArray from p)
    obtain ⟨as, ra⟩ := RepDs.reads I rs rv
    exact ⟨_, .tuple e c d (by simpa using ra)⟩
  | .list xs, v, u, h, r => by
    have h : ∃ a vs, v = .ref a ∧ SqL X.K H a vs ∧ RepDs X.K H xs vs := by simpa [RepD] using h
    obtain ⟨a, vs, rfl, q, rs⟩ := h
    cases r
    obtain ⟨its, rv, p, _⟩ := I.list q
    obtain ⟨o, e, c, n, d⟩ := p.isList
    obtain ⟨as, ra⟩ := RepDs.reads I rs rv
    exact ⟨_, .list e c d (by simpa using ra)⟩
  | .dict _, v, u, h, r => by
    have h : False := by simpa [RepD] using h
    exact h.elim
theorem RepDs.reads (I : Inv X pins σ H s) : ∀ {ds : List PyData} {vs : List V} {us : List Value}, RepDs X.K H ds vs → Vals vs us → ∃ as, ReadsAll s.heap us ds as
  | [], vs, us, h, r => by
    have h : vs = [] := by simpa [RepDs] using h
    subst h; cases r; exact ⟨_, .nil⟩
  | d :: ds, vs, us, h, r => by
    have h : ∃ v r, vs = v :: r ∧ RepD X.K H d v ∧ RepDs X.K H ds r := by simpa [RepDs] using h
    obtain ⟨v, rs, rfl, h1, h2⟩ := h
    cases r with
    | cons a b =>
      obtain ⟨as, r1⟩ := RepD.reads I h1 a
      obtain ⟨bs, r2⟩ := RepDs.reads I h2 b
      exact ⟨_, .cons r1 r2⟩
end
mutual
theorem RepD.lay {K : PySem.W.Frag} : ∀ {d : PyData} {v : V}, RepD K H d v → d.canLay0 = true
  | .none, _, _ => rfl
  | .bool _, _, _ => rfl
  | .int _, _, _ => rfl
  | .str x, v, h => by
    simp only [RepD] at h
    exact h.2
  | .tuple xs, v, h => by
    have h : ∃ a vs, v = .ref a ∧ SqT K H a vs ∧ RepDs K H xs vs := by simpa [RepD] using h
    obtain ⟨a, vs, rfl, q, rs⟩ := h
    have := RepDs.lay rs
    simpa [PyData.canLay0] using this
  | .list xs, v, h => by
    have h : ∃ a vs, v = .ref a ∧ SqL K H a vs ∧ RepDs K H xs vs := by simpa [RepD] using h
    obtain ⟨a, vs, rfl, q, rs⟩ := h
    have := RepDs.lay rs
    simpa [PyData.canLay0] using this
  | .dict _, v, h => by
    have h : False := by simpa [RepD] using h
    exact h.elim
theorem RepDs.lay {K : PySem.W.Frag} : ∀ {ds : List PyData} {vs : List V}, RepDs K H ds vs → PyData.canLayAll0 ds = true
  | [], _, _ => rfl
  | d :: ds, vs, h => by
    have h : ∃ v r, vs = v :: r ∧ RepD K H d v ∧ RepDs K H ds r := by simpa [RepDs] using h
    obtain ⟨v, rs, rfl, h1, h2⟩ := h
    have a := RepD.lay h1
    have b := RepDs.lay h2
    simp [PyData.canLayAll0, a, b]
end
end
section
variable {X : Cx} {k : Nat}
noncomputable def rEqD (K : PySem.W.Frag) : R2 := fun x y H Q => ∃ d d', RepD K H d x ∧ RepD K H d' y ∧ d.depth ≤ 64 ∧ Q (.bl (PyData.eqv d d')) H
theorem op_eqD (hr : Room k X.A) : OpR X (compareOp .Eq) (rEqD X.K) := by
  intro pins s σ H x y v u Q I rx ry h
  obtain ⟨d, d', h1, h2, hd, q⟩ := h
  obtain ⟨as, r1⟩ := h1.reads I rx
  obtain ⟨bs, r2⟩ := h2.reads I ry
  exact SeqAt.compareEq_reads r1 r2 h1.lay h2.lay (by have := hr.units; have : min d.depth d'.depth ≤ d.depth := Nat.min_le_left _ _; omega) ⟨.bl _, H, I, rfl, q⟩
end
/-! ### defs that may raise -/
section
variable {P : Program} {w : World} {K : PySem.W.Frag} {mg : Str → Option Value} {base : Heap}
end
end L2
namespace Tc
open PySem L2
/-! ### promises of the defs that many laws share -/
theorem paired_get {α β : Type} {F : α → β → Prop} : ∀ {xs : List α} {ys : List β} {i : Nat} {x : α}, Paired F xs ys → xs[i]? = some x → ∃ y, ys[i]? = some y ∧ F x y
  | _, _, _, _, .nil, e => by simp at e
  | _, _, 0, _, .cons r _, e => by simp at e; subst e; exact ⟨_, rfl, r⟩
  | _, _, i + 1, x, .cons _ t, e => by
    obtain ⟨u, h1, h2⟩ := paired_get (i := i) (x := x) t (by simpa using e)
    exact ⟨u, by simpa using h1, h2⟩
/-! promises -/
noncomputable def spWhole : Sp := fun vs H Q _ => ∃ v n, vs = [v] ∧ tyS H v = some n ∧ Q (.bl (n == "int")) H
noncomputable def spCd : Sp := fun vs H Q _ => ∃ t b : Int, vs = [.int t, .int b] ∧ b ≠ 0 ∧ Q (.int (dv t b)) H
noncomputable def spCell (K : PySem.W.Frag) : Sp := fun vs H Q _ => ∃ (a : Addr) (ns : List Int) (k : Int), vs = [.ref a, .int k] ∧ SqL K H a (ns.map V.int) ∧ 0 ≤ k ∧ ∀ c : Int, Q (.int c) H
noncomputable def spLaw (K : PySem.W.Frag) : Sp := fun vs H Q _ => ∃ (a : Addr) (ns : List Int), vs = [.ref a] ∧ SqL K H a (ns.map V.int) ∧ ns.length ≤ 63 ∧ ∀ H', Q (.bl true) H'
/-! small lemmas -/
theorem sz {n : Nat} (h : n ≤ 1000) : n ≤ sizeLine := Nat.le_of_lt (small1000 h)
theorem map_at {ns : List Int} {k : Int} (h0 : 0 ≤ k) (h1 : k < (ns.map V.int).length) : ∃ c : Int, atI (ns.map V.int) k = some (V.int c) := by
  obtain ⟨j, rfl⟩ := Int.eq_ofNat_of_zero_le h0
  have hj : j < ns.length := by rw [List.length_map] at h1; omega
  refine ⟨ns[j], atI_nat ?_⟩
  rw [List.getElem?_map, List.getElem?_eq_getElem hj]
  rfl
theorem fmod_lt {c m : Int} (h : 0 < m) : 0 ≤ c.fmod m ∧ c.fmod m < m := fmod_pos h
theorem sub_int (n : String) : subS n "int" = (n == "int" || n == "bool") := by simp [subS]
theorem sub_bool (n : String) : subS n "bool" = (n == "bool") := by simp [subS]
theorem atI_in {xs : List V} {j : Int} (h0 : 0 ≤ j) (h1 : j < xs.length) : ∃ v, v ∈ xs ∧ atI xs j = some v := by
  obtain ⟨k, rfl⟩ := Int.eq_ofNat_of_zero_le h0
  have hk : k < xs.length := by omega
  exact ⟨xs[k], List.getElem_mem hk, atI_nat (List.getElem?_eq_getElem hk)⟩
theorem dec_true {p : Prop} [Decidable p] {A B : Prop} (hp : p) (h : A) : if decide p = true then A else B := by
  rw [decide_eq_true hp]; exact iteT h
theorem dec_false {p : Prop} [Decidable p] {A B : Prop} (hp : ¬ p) (h : B) : if decide p = true then A else B := by
  rw [decide_eq_false hp]; exact iteF h
end Tc
namespace L2
open PySem PySem.Spec PyProof.Rows
theorem bt_all : bootBuiltins "all" = some (.builtin "all") := by decide +kernel
theorem bools_of_vals : ∀ {bs : List Bool} {vs : List Value}, Vals (bs.map V.bl) vs → LSm.BoolsAre vs bs
  | [], _, .nil => .nil
  | b :: bs, _, .cons r t => by cases r; exact .cons b (bools_of_vals t)
section
variable {X : Cx}
theorem Inv.newsAll {pins : List (Addr × Obj)} {σ : St} {H : Hp} {s : Shared} {h' : Heap} {tk : Nat} {m : Str → Option Value} (I : Inv X pins σ H s) (hm : s.heap.Ns X.env.locals m) (F : Fr X.base X.env.locals h' m)
    (N : News X.base X.env.locals h' (allNews X.base s.heap X.env.locals)) : Inv X pins σ H { s with heap := h', toks := tk } := by
  have kk : ∀ b o, b ≠ X.env.locals → s.heap.get? b = some o → h'.get? b = some o := fun b o hb e => by
    cases q : X.base.get? b with
    | none => exact (N (b, o) (mem_allNews hb q e)).1
    | some u =>
      have z := I.bk b u q
      rw [e] at z; cases z
      exact F.keep b _ q
  have hL : ∃ o', h'.get? X.env.locals = some o' := let ⟨o, _, _, e, _⟩ := F.ns; ⟨o, e⟩
  refine I.step (g' := s.gens) (d' := s.drawn) (ch := []) (fun _ z => nomatch z) (fun b o hb _ _ e _ => kk b o hb e) (fun b o hb _ _ e _ => ⟨o.slots, kk b o hb e⟩) (fun _ _ _ _ n => n) (fun b o _ e => ?_)
    (fun _ _ e => e) (fun _ _ _ e => e) (fun b ps e => ⟨#[], by rw [e]; simp⟩) (fun m' hm' => ?_) (fun b u e => ?_) I.bare
  · by_cases hb : b = X.env.locals
    · rw [hb]; exact hL
    · exact ⟨o, kk b o hb e⟩
  · have em : m' = m := by
      obtain ⟨o1, es1, ep1, g1, d1, _, f1⟩ := hm
      obtain ⟨o2, es2, ep2, g2, d2, _, f2⟩ := hm'
      rw [g1] at g2; cases g2
      rw [d1] at d2; cases d2
      funext z
      exact (f2 z).symm.trans (f1 z)
    rw [em]; exact F.ns
  · refine (I.hok b u e).stay (fun c v hc q => kk c v ?_ q) (fun _ q => q) fun _ _ q => q
    intro z
    subst z
    rcases hc with z | z
    · rw [← z, I.free] at e; cases e
    · rw [I.free] at z; cases z
theorem call_all (hc : X.calm = true) : CallR X (.builtin "all") (fun xs H Q => ∃ (a : Addr) (bs : List Bool), xs = [V.ref a] ∧ SqL X.K H a (bs.map V.bl) ∧ Q (.bl (bs.all id)) H) := by
  intro pins s σ H xs us Q I r h
  obtain ⟨l, bs, rfl, hq, q⟩ := h
  obtain ⟨u, rfl, ru⟩ := vals1 r
  cases ru
  obtain ⟨vs, rv, p, _⟩ := I.list hq
  obtain ⟨m, hm, _⟩ := id I.loc
  have F0 : Fr X.base X.env.locals s.heap m := ⟨hm, I.bk, Nat.le_trans I.ok.bsz I.ok.above⟩
  exact LSm.all_bools F0 news_all (I.ok.hd hc) p.isList (bools_of_vals rv) fun h' tk F' N' => ⟨.bl _, H, I.newsAll hm F' N', rfl, q⟩
end
/-! ### the rules that name the module's part, for a part that is named -/
section
variable {X : Cx} {K : PySem.W.Frag}
theorem ix_tup' (h : X.K = K) : IxR X (rIxT K) := by subst h; exact ix_tup
theorem ix_list' (h : X.K = K) : IxR X (rIxL K) := by subst h; exact ix_list
theorem sl_list' (h : X.K = K) : SlR X (rSlL K) := by subst h; exact sl_list
theorem op_in_seq' (h : X.K = K) : OpR X (compareOp .In) (rIn K false) := by subst h; exact op_in_seq
theorem op_catT' (h : X.K = K) : OpR X (binaryOp .Add) (rCatT K) := by subst h; exact op_catT
theorem op_eqD' {k : Nat} (h : X.K = K) (hr : Room k X.A) : OpR X (compareOp .Eq) (rEqD K) := by subst h; exact op_eqD hr
theorem call_len' (h : X.K = K) : CallR X (.builtin "len") (fun xs H Q => ∃ x n, xs = [x] ∧ LenV K x H n ∧ Q (.int n) H) := by subst h; exact call_len
theorem call_isi' (h : X.K = K) : CallR X (.builtin "isinstance") (fun xs H Q => ∃ x n t b, xs = [x, .ty n] ∧ TyOf K H x t ∧ PySem.W.kitOne K t (.type n) = some b ∧ Q (.bl b) H) := by subst h; exact call_isi
theorem call_list_of' (h : X.K = K) : CallR X (.type "list") (fun xs H Q => ∃ p ys, xs = [.ref p] ∧ (SqL K H p ys ∨ SqT K H p ys) ∧ ∀ l, H l = none → Q (.ref l) (upd H l (.lst ys))) := by subst h; exact call_list_of
theorem call_tuple_of' (h : X.K = K) : CallR X (.type "tuple") (fun xs H Q => ∃ p ys, xs = [.ref p] ∧ ((SqL K H p ys ∧ ∀ l, H l = none → Q (.ref l) (upd H l (.tup ys))) ∨ (SqT K H p ys ∧ Q (.ref p) H))) := by subst h; exact call_tuple_of
theorem call_all' (h : X.K = K) (hc : X.calm = true) : CallR X (.builtin "all") (fun xs H Q => ∃ (a : Addr) (bs : List Bool), xs = [V.ref a] ∧ SqL K H a (bs.map V.bl) ∧ Q (.bl (bs.all id)) H) := by subst h; exact call_all hc
theorem pi_list' {tg l : Expr} {tl : TE} (h : X.K = K) (hl : PE X l tl) : PI X tg l (iList K tl) := by subst h; exact pi_list hl
theorem pi_tup' {tg l : Expr} {tl : TE} (h : X.K = K) (hl : PE X l tl) : PI X tg l (iTup K tl) := by subst h; exact pi_tup hl
end
theorem pe_gint {X : Cx} {x : Str} {i : Int} {pos : Pos} (hg : Gl X x) (h : ∃ t, X.mg x = some (.int i t)) (hd : (x == ("__debug__" : Str)) = false := by decide) : PE X (.Name x pos) (tC (.int i)) := by
  obtain ⟨t, h⟩ := h
  exact pe_glob hg h ⟨t, rfl⟩ hd
theorem pe_gstr {X : Cx} {x z : Str} {pos : Pos} (hg : Gl X x) (h : ∃ t, X.mg x = some (.str z t)) (hd : (x == ("__debug__" : Str)) = false := by decide) : PE X (.Name x pos) (tC (.str z)) := by
  obtain ⟨t, h⟩ := h
  exact pe_glob hg h ⟨t, rfl⟩ hd
theorem Same.updD {H H' : Hp} {D : Addr} {o : HO} (s : Same H H') (h : H D = none) : Same H (L2.upd H' D o) := fun b u e => by
  rw [L2.upd_ne (ne_of_none e h)]; exact s b u e
end L2
namespace L2
open PySem PySem.Spec PyProof.Rows
/-! ### texts -/
theorem strs_of_vals : ∀ {ys : List Str} {vs : List Value}, Vals (ys.map V.str) vs → StrsAre vs ys
  | [], _, .nil => .nil
  | y :: ys, _, .cons r t => by obtain ⟨tk, rfl⟩ := r; exact .cons y tk (strs_of_vals t)
section
variable {X : Cx} {K : PySem.W.Frag}
noncomputable def rJoin (K : PySem.W.Frag) : V → List V → Hp → VK → Prop := fun x vs H Q => ∃ (z : Str) (a : Addr) (ys : List Str), x = .str z ∧ vs = [.ref a] ∧ SqL K H a (ys.map V.str) ∧ (ys.map (·.length)).sum + ys.length * z.length ≤ 16777216 ∧ Q (.str (Txt.join z ys)) H
theorem mt_join' (h : X.K = K) : MtR X "str.join" (rJoin K) := by
  subst h
  intro pins s σ H x xs v us Q I rx rv h
  obtain ⟨z, a, ys, rfl, rfl, hq, hz, q⟩ := h
  obtain ⟨t, rfl⟩ := rx
  obtain ⟨u, rfl, ru⟩ := Vals.one rv
  cases ru
  obtain ⟨its, r, p, _⟩ := I.list hq
  exact join_list p.isList (by simpa using strs_of_vals r) hz fun t' k => ⟨.str _, H, I.tok k, ⟨t', rfl⟩, q⟩
theorem pe_bm' {o e : Expr} {es : List Expr} {to : TE} {t : TA} {name : Str} {apos cpos : Pos} {T id : String} {r : V → List V → Hp → VK → Prop} (h : X.K = K) (pa : PlainAttrs T) (slot : Slot T name id) (hty : typeOf (.builtin id) = pure (.type "method_descriptor"))
    (hm : MtR X id r) (ho : PE X o to) (ha : PA X (e :: es) t) (hbase : attributeBase o name X.env (eval o X.env) = eval o X.env := by rfl)
    (hfew : ((backTo cpos (starEach (e :: es) X.env)).all (fun x => !x.1) && (backToKw cpos (keywordEach [] X.env)).all (fun x => x.1.isSome) && decide ((e :: es).length + ([] : List Keyword).length + (if ([] : List Keyword).isEmpty then 0 else 1) < 30)) = true := by rfl)
    (hline : (apos.endLine == cpos.line) = true := by rfl) (hs : starEach (e :: es) X.env = (false, eval e X.env) :: starEach es X.env := by rfl) (hplain : (backTo cpos (starEach es X.env)).any (·.1) = false := by rfl) :
    PE X (.Call (.Attribute o name apos) (e :: es) [] cpos) (tBM K T r to t) := by subst h; exact pe_bm pa slot hty hm ho ha hbase hfew hline hs hplain
theorem pg_tup' {es : List Expr} {k : Nat} {t : TGs} {n : Nat} {pos : Pos} (h : X.K = K) (hc : X.calm = true) (hp : PGs X es t) (hn : (assignEach es X.env).length = n := by rfl) (hst : (assignEach es X.env).findIdx? (·.1) = none := by rfl) :
    PG X (.Tuple es k pos) (gTup K n t) := by subst h; exact pg_tup hc hp hn hst
noncomputable def Its (z : Str) : It := ⟨fun i _ => i < z.cps.size, fun i H x H' => H' = H ∧ ∃ c, z.cps[i]? = some c ∧ x = .str ⟨#[c]⟩, fun i _ => i = z.cps.size⟩
theorem turn_str {P : Program} {w : World} {tg : Expr} {it : Addr} {z : Str} {t : Tok} {ty : String} (hty : ty = "str_ascii_iterator" ∨ ty = "str_iterator")
    (W : ∀ A' : Around, A'.handled = none → Walks P w A' it [it] [it] z.cps.size (SignAt z) (fun i h => h.IsStrIter it ty z t i)) : Turn P w K tg (Its z) [it] it (fun i h => h.IsStrIter it ty z t i) where
  mem := by simp
  obj := fun i h st b hb => by
    have e : b = it := by simpa using hb
    subst e
    obtain ⟨o, e, _, d⟩ := st
    exact ⟨o, e, fun v z => by rw [d] at z; cases z⟩
  keep := fun i h h' st k => let ⟨o, e, r⟩ := st; ⟨o, k it (by simp) o e, r⟩
  item := by
    intro X hP hw hK hc i pins s σ H E I hf st hg
    subst hP hw hK
    obtain ⟨f0, f1, _, f3, f4, f5⟩ := hf it (by simp)
    refine (W X.A (I.ok.hd hc)).item i s _ _ hg st fun v h' tk hv st' kk => ?_
    obtain ⟨c, u, hcp, rfl⟩ := hv
    have I1 : Inv X pins σ H { s with heap := h', toks := tk } := I.turned (fun b o hb e => kk b o (by simpa using hb) e) f0 f1 f3 f4 f5
    obtain ⟨o, e, cl, d⟩ := id st'
    refine ⟨_, rfl, go_of (s := { s with heap := h', toks := tk }) e cl d ?_ ⟨.str ⟨#[c]⟩, H, I1, ⟨u, rfl⟩, ⟨rfl, c, hcp, rfl⟩, st', fun b hb => (hf b hb).1⟩⟩
    rcases hty with rfl | rfl <;> decide
  done := by
    intro X hP hw hK hc i pins s σ H E I hf st hg
    subst hP hw hK
    obtain ⟨f0, f1, _, f3, f4, f5⟩ := hf it (by simp)
    have hg : i = z.cps.size := hg
    subst hg
    exact (W X.A (I.ok.hd hc)).done s _ _ st fun h' tk kk => ⟨rfl, I.turned (fun b o hb e => kk b o (by simpa using hb) e) f0 f1 f3 f4 f5⟩
  self := fun A i s Q E st h => by
    rcases hty with rfl | rfl
    · exact wpAny_pyIter_striter_ascii st h
    · exact wpAny_pyIter_striter_wide st h
noncomputable def iStr (tl : TE) : TI := fun σ H R => tl σ H fun x H1 => ∃ z, x = .str z ∧ R (Its z) H1
theorem pi_str {tg l : Expr} {tl : TE} (hl : PE X l tl) : PI X tg l (iStr tl) := by
  intro pins s σ H R I h
  refine thn (hl pins s σ H _ I h) fun v s1 ⟨x, H1, I1, r1, q1⟩ => ?_
  obtain ⟨z, rfl, q⟩ := q1
  obtain ⟨t, rfl⟩ := r1
  have fp : ∀ b ∈ [s1.heap.objs.size], FpOk X pins H1 b := fun b hb => by
    have e : b = s1.heap.objs.size := by simpa using hb
    subst e
    exact I1.fpOk (Nat.le_refl _) I1.fresh
  cases ha : z.cps.all (· < 128)
  · exact wpAny_pyIter_wide ha ⟨s1.heap.objs.size, [s1.heap.objs.size], _, _, H1, rfl, I1.kept (t' := s1.toks) fun b o e => Heap.get?_push_of_some _ e, turn_str (.inr rfl) (fun A' hA => Walks.strWide hA _ z t), ⟨_, Heap.get?_push_size _ rfl, rfl, rfl⟩, fp, q⟩
  · exact wpAny_pyIter_ascii ha ⟨s1.heap.objs.size, [s1.heap.objs.size], _, _, H1, rfl, I1.kept (t' := s1.toks) fun b o e => Heap.get?_push_of_some _ e, turn_str (.inl rfl) (fun A' hA => Walks.strAscii hA _ z t), ⟨_, Heap.get?_push_size _ rfl, rfl, rfl⟩, fp, q⟩
theorem block_str {z : Str} {g : TG} {tc : TT} {te : TE} {D : Addr} {Z : Hp → Prop} {σ : St} {H : Hp} (Pv : Nat → St → Hp → Prop) (h0 : Pv 0 σ H)
    (hs : ∀ i c σ H, z.cps[i]? = some c → Pv i σ H → g (.str ⟨#[c]⟩) σ H fun σ2 H2 => tc σ2 H2 fun b H3 => if b = true then te σ2 H3 fun y H4 => ∃ ys, H4 D = some (.lst ys) ∧ ys.length < sizeLine ∧ Pv (i + 1) σ2 (upd H4 D (.lst (ys ++ [y]))) else Pv (i + 1) σ2 H3)
    (hd : ∀ σ H, Pv z.cps.size σ H → Z H) : tBlock (Its z) g tc te D Z σ H := by
  refine ⟨fun i m σ H => m = z.cps.size - i ∧ i ≤ z.cps.size ∧ Pv i σ H, ⟨_, rfl, Nat.zero_le _, h0⟩, ?_⟩
  rintro i m σ H ⟨rfl, hi, p⟩
  by_cases hlt : i < z.cps.size
  · refine .inr ⟨hlt, Pv (i + 1), fun σ' H' p' => ⟨z.cps.size - (i + 1), by omega, rfl, hlt, p'⟩, fun x H' y => ?_⟩
    obtain ⟨e, c, hc, e2⟩ := y
    subst e e2
    exact hs i c σ _ hc p
  · have e : i = z.cps.size := by omega
    subst e
    exact .inl ⟨rfl, hd σ H p⟩
end
end L2
namespace L2
open PySem PySem.Spec PyProof.Rows
section
variable {X : Cx} {K : PySem.W.Frag} {k : Nat}
end
end L2
namespace Tc
open PySem L2
end Tc
namespace L2
open PySem PySem.Spec PyProof.Rows
/-! ### a dict as it lies in the heap: its entries, whatever its keys are -/
section
variable {prog : Program} {w : World} {A : Around} {E : Value → Shared → Prop} {s : Shared} {it d vw : Addr} {i ep : Nat} {es : Array DictEntry} {ok ov : Value}
end
end L2
namespace L2
open PySem PySem.Spec PyProof.Rows
/-! ### a dict that is walked stands still -/
section
variable {X : Cx} {pins : List (Addr × Obj)} {σ : St} {H : Hp} {s : Shared} {d : Addr} {u : HO} {o : Obj}
/-! ### its entries -/
end
end L2
namespace L2
open PySem PySem.Spec PyProof.Rows
/-! ### d.values(), whatever the keys are -/
section
variable {prog : Program} {w : World} {A : Around} {E : Value → Shared → Prop} {s : Shared} {it d vw : Addr} {i ep : Nat} {es : Array DictEntry}
end
section
variable {X : Cx} {K : PySem.W.Frag}
end
end L2
namespace L2
open PySem PySem.Spec PyProof.Rows
/-! ### d.clear(), dict(d), for k in d -/
section
variable {prog : Program} {w : World} {A : Around} {E : Value → Shared → Prop} {s : Shared} {it d vw : Addr} {i ep : Nat} {es : Array DictEntry}
end
section
variable {X : Cx}
end
theorem pe_bm0' {X : Cx} {K : PySem.W.Frag} {o : Expr} {to : TE} {name : Str} {apos cpos : Pos} {T id : String} {r : V → List V → Hp → VK → Prop} (h : X.K = K) (pa : PlainAttrs T) (slot : Slot T name id) (hty : typeOf (.builtin id) = pure (.type "method_descriptor")) (hm : MtR X id r) (ho : PE X o to)
    (hbase : attributeBase o name X.env (eval o X.env) = eval o X.env := by rfl) (hline : (apos.endLine == cpos.line) = true := by rfl) : PE X (.Call (.Attribute o name apos) [] [] cpos) (tBM0 K T r to) := by subst h; exact pe_bm0 pa slot hty hm ho hbase hline
/-! the forms one uses -/
end L2
namespace Tc
/-! tables as functions from places to shares -/
section
variable {α : Type} [DecidableEq α]
end
end Tc
namespace L2
open PySem PySem.Spec PyProof.Rows
section
variable {X : Cx} {K : PySem.W.Frag}
end
end L2
namespace L2
open PySem PySem.Spec PyProof.Rows
section
variable {X : Cx} {K : PySem.W.Frag} {pos : Pos}
end
end L2
namespace L2
open PySem PySem.Spec PyProof.Rows
end L2
namespace L2
open PySem PySem.Spec PyProof.Rows
theorem bt_enumerate : bootBuiltins "enumerate" = some (.type "enumerate") := by decide +kernel
section
variable {X : Cx} {pins : List (Addr × Obj)} {σ : St} {H : Hp} {s : Shared} {h' : Heap}
theorem Inv.turns {t' : Nat} {ch : List Addr} (I : Inv X pins σ H s) (k : ∀ b o, b ∉ ch → s.heap.get? b = some o → h'.get? b = some o) (hf : ∀ b ∈ ch, FpOk X pins H b) : Inv X pins σ H { s with heap := h', toks := t' } := by
  have nit : ∀ b u, H b = some u → b ∉ ch := fun b u e z => by rw [(hf b z).1] at e; cases e
  refine I.step (g' := s.gens) (d' := s.drawn) (ch := ch) (fun b hb => ?_) (fun b o _ _ hc e _ => k b o hc e) (fun b o _ _ hc e _ => ⟨o.slots, k b o hc e⟩) (fun _ _ _ _ n => n) (fun b o hc e => ⟨o, k b o hc e⟩) (fun _ _ e => e) (fun _ _ _ e => e) (fun b ps e => ⟨#[], by rw [e]; simp⟩) (fun m hm => ?_) (fun b u e => ?_) I.bare
  · obtain ⟨f0, f1, f2, f3, f4, f5⟩ := hf b hb
    exact ⟨f3, f1, f4, f5⟩
  · obtain ⟨o, es, ep, ho, r⟩ := hm
    exact ⟨o, es, ep, k _ o (fun z => (hf _ z).2.1 rfl) ho, r⟩
  · refine (I.hok b u e).stay (fun c v hc q => k c v ?_ q) (fun _ q => q) fun _ _ q => q
    rcases hc with z | z
    · rw [z]; exact nit b u e
    · exact nit c _ z
end
noncomputable def ItE (K : PySem.W.Frag) (a : Addr) (xs : List V) : It :=
  ⟨fun i H => i < xs.length ∧ SqL K H a xs, fun i H x H' => ∃ v T, xs[i]? = some v ∧ x = .ref T ∧ H T = none ∧ H' = upd H T (.tup [.int (i : Nat), v]), fun i H => i = xs.length ∧ SqL K H a xs⟩
theorem turn_enum {P : Program} {w : World} {K : PySem.W.Frag} {elts : List Expr} {kk : Nat} {pos : Pos} (a e li : Addr) (xs : List V) (hne : e ≠ li) :
    Turn P w K (.Tuple elts kk pos) (ItE K a xs) [e, li] e (fun i h => ∃ old, IsEnum h e li ((i : Nat) : Int) old ∧ h.IsListIter li a i) where
  mem := by simp
  obj := fun i h st b hb => by
    obtain ⟨old, s1, o, e2, c, d⟩ := st
    simp only [List.mem_cons, List.not_mem_nil, or_false] at hb
    rcases hb with rfl | rfl
    · exact ⟨_, s1, fun v z => by cases z⟩
    · exact ⟨o, e2, fun v z => by rw [d] at z; cases z⟩
  keep := fun i h h' st k => let ⟨old, s1, s2⟩ := st; ⟨old, k e (by simp) _ s1, s2.at fun o eo => k li (by simp) o eo⟩
  item := by
    intro X hP hw hK hc i pins s σ H E I hf st hg
    subst hP hw hK
    obtain ⟨old, st1, st2⟩ := st
    obtain ⟨hi, hq⟩ := hg
    obtain ⟨its, rv, p, hz⟩ := I.list hq
    have hx : xs[i]? = some xs[i] := by simp [hi]
    obtain ⟨u, hu, ru⟩ := rv.get hx
    refine wpAny_pyNext_enum_item st1 st2 p.isList (x := u) (by simpa using hu) hne fun h' jo jl ht hz' kp => ?_
    refine ⟨_, rfl, wpAny_letOwnedTupleGo_enum jo fun h2 he2 sb => ?_⟩
    have sb : Heap.SameBut e h' h2 := sb
    have nTe : s.heap.objs.size ≠ e := Nat.ne_of_gt (Heap.lt_size st1)
    have nTl : s.heap.objs.size ≠ li := by
      obtain ⟨o, e2, _⟩ := id st2
      exact Nat.ne_of_gt (Heap.lt_size e2)
    have I1 : Inv X pins σ H { s with heap := h2, toks := s.toks + 1 } := I.turns (ch := [e, li]) (fun b o hb eo => sb.extBut b o (fun z => hb (by simp [z])) (kp b o (fun z => hb (by simp [z])) (fun z => hb (by simp [z])) eo)) hf
    have hT2 : h2.get? s.heap.objs.size = some { cls := .type "tuple", data := .seq #[.int i s.toks, u] } := sb.extBut _ _ nTe ht
    obtain ⟨g0, g1, _, _, g4, g5⟩ := I.fpOk (Nat.le_refl _) I.fresh
    have I2 := I1.track (a := s.heap.objs.size) (o := .tup [.int (i : Nat), xs[i]]) g0 (by
      cases q : X.s₀.heap.get? s.heap.objs.size with
      | none => rfl
      | some ob => exact absurd (Nat.lt_of_lt_of_le (Heap.lt_size q) I.sz) (Nat.lt_irrefl _)) g1 g4 g5 ⟨small1000 (by simp) |> Nat.le_of_lt, [.int i s.toks, u], .cons ⟨_, rfl⟩ (.cons ru .nil), ⟨_, hT2, rfl, _, rfl⟩⟩
    refine ⟨.ref _, _, I2, rfl, ⟨xs[i], _, hx, rfl, g0, rfl⟩, ⟨_, he2, jl.extBut sb.extBut hne.symm⟩, fun b hb => ?_⟩
    have nb : b ≠ s.heap.objs.size := by
      simp only [List.mem_cons, List.not_mem_nil, or_false] at hb
      rcases hb with rfl | rfl
      · exact nTe.symm
      · exact nTl.symm
    rw [upd_ne nb]; exact (hf b hb).1
  done := by
    intro X hP hw hK hc i pins s σ H E I hf st hg
    subst hP hw hK
    obtain ⟨old, st1, st2⟩ := st
    obtain ⟨hi, hq⟩ := hg
    obtain ⟨its, rv, p, hz⟩ := I.list hq
    have hl := rv.length
    exact wpAny_pyNext_enum_end (I.ok.hd hc) st1 st2 p.isList (by simp; omega) fun h' eb => ⟨rfl, I.turns (t' := s.toks) (ch := [e, li]) (fun b o hb eo => eb b o (fun z => hb (by simp [z])) eo) hf⟩
  self := fun A i s Q E st h => let ⟨_, st1, _⟩ := st; wpAny_pyIter_enum st1 h
section
variable {X : Cx} {K : PySem.W.Frag}
noncomputable def iEnum (K : PySem.W.Frag) (ta : TA) : TI := fun σ H R => ta σ H fun vs H1 => ∃ a xs, vs = [V.ref a] ∧ SqL K H1 a xs ∧ R (ItE K a xs) H1
theorem pi_enum {elts : List Expr} {kk : Nat} {tpos : Pos} {a : Expr} {ta : TA} {p pos : Pos} (hK : X.K = K) (hg : Gl X "enumerate") (hm : X.mg "enumerate" = none) (ha : PA X [a] ta) (hs : starEach [a] X.env = [(false, eval a X.env)] := by rfl) : PI X (.Tuple elts kk tpos) (.Call (.Name "enumerate" p) [a] [] pos) (iEnum K ta) := by
  subst hK
  intro pins s σ H R I h
  refine Call_ (ld_blt I hg hm bt_enumerate (PyProof.Rows.callWith_type1 (thn (ha pos pins s σ H _ I h) fun us s1 ⟨vs, H1, I1, r1, q1⟩ => ?_) hs rfl))
  obtain ⟨b, xs, rfl, hq, q⟩ := q1
  obtain ⟨u, rfl, ru⟩ := vals1 r1
  cases ru
  obtain ⟨its, rv, p, hz⟩ := I1.list hq
  refine call_enumerate_list p.isList fun h' he hl hz kk => wpAny_pyIter_enum he ?_
  refine ⟨s1.heap.objs.size + 1, [s1.heap.objs.size + 1, s1.heap.objs.size], _, _, H1, rfl, I1.kept (t' := s1.toks) kk, turn_enum b (s1.heap.objs.size + 1) s1.heap.objs.size xs (Nat.succ_ne_self _), ⟨_, he, hl⟩, fun c hc => ?_, q⟩
  simp only [List.mem_cons, List.not_mem_nil, or_false] at hc
  rcases hc with rfl | rfl
  · exact I1.fpOk (by omega) (I1.hok.fresh (by omega))
  · exact I1.fpOk (Nat.le_refl _) (I1.hok.fresh (Nat.le_refl _))
end
/-! the forms one uses -/
theorem for_enum {K : PySem.W.Frag} {a : Addr} {xs : List V} {g : TG} {tb : TS} {D : Ends} {σ : St} {H : Hp} (Pv : Nat → St → Hp → Prop) (h0 : Pv 0 σ H) (hl : ∀ i σ H, i ≤ xs.length → Pv i σ H → SqL K H a xs)
    (hs : ∀ i v T σ H, xs[i]? = some v → Pv i σ H → H T = none → g (.ref T) σ (upd H T (.tup [.int (i : Nat), v])) fun σ2 H2 => tb { D with nx := Pv (i + 1), ct := Pv (i + 1), bk := D.nx } σ2 H2) (hd : ∀ σ H, Pv xs.length σ H → D.nx σ H) :
    ∃ W : Nat → Nat → St → Hp → Prop, (∃ m, W 0 m σ H) ∧ ∀ i m σ H, W i m σ H → ((ItE K a xs).stop i H ∧ D.nx σ H) ∨ ((ItE K a xs).go i H ∧ ∃ N : St → Hp → Prop, (∀ σ' H', N σ' H' → ∃ m', m' < m ∧ W (i + 1) m' σ' H') ∧
      ∀ x H', (ItE K a xs).yld i H x H' → g x σ H' fun σ2 H2 => tb { D with nx := N, ct := N, bk := D.nx } σ2 H2) := by
  refine ⟨fun i m σ H => m = xs.length - i ∧ i ≤ xs.length ∧ Pv i σ H, ⟨_, rfl, Nat.zero_le _, h0⟩, ?_⟩
  rintro i m σ H ⟨rfl, hi, p⟩
  have q := hl i σ H hi p
  by_cases hlt : i < xs.length
  · refine .inr ⟨⟨hlt, q⟩, Pv (i + 1), fun σ' H' p' => ⟨xs.length - (i + 1), by omega, rfl, hlt, p'⟩, fun x H' y => ?_⟩
    obtain ⟨v, T, hv, e1, hT, e2⟩ := y
    subst e1 e2
    exact hs i v T σ H hv p hT
  · have e : i = xs.length := by omega
    subst e
    exact .inl ⟨⟨rfl, q⟩, hd σ H p⟩
end L2
namespace L2
open PySem PySem.Spec PyProof.Rows
section
variable {X : Cx}
end
end L2
namespace L2
open PySem PySem.Spec PyProof.Rows
theorem bt_zip : bootBuiltins "zip" = some (.type "zip") := by decide +kernel
section
variable {X : Cx} {K : PySem.W.Frag}
end
end L2
namespace L2
open PySem PySem.Spec PyProof.Rows
section
variable {X : Cx} {K : PySem.W.Frag}
end
end L2
namespace L2
open PySem PySem.Spec PyProof.Rows
end L2
namespace L2
open PySem PySem.Spec PyProof.Rows
section
variable {X : Cx}
end
end L2
namespace L2
open PySem PySem.Spec PyProof.Rows
section
variable {prog : Program} {w : World} {A : Around} {E : Value → Shared → Prop} {s : Shared}
variable {Kt : Type} [DecidableEq Kt] {knd : KeyKind prog w Kt}
open SeqAt in
open SeqAt in
end
end L2
namespace L2
open PySem PySem.Spec PyProof.Rows
section
variable {X : Cx} {K : PySem.W.Frag}
end
end L2
namespace L2
open PySem PySem.Spec PyProof.Rows
section
variable {prog : Program} {w : World} {A : Around} {E : Value → Shared → Prop} {s : Shared} {d : Addr} {es : Array DictEntry} {ep : Nat}
end
section
variable {X : Cx} {K : PySem.W.Frag}
end
end L2
namespace L2
open PySem PySem.Spec PyProof.Rows
section
variable {X : Cx}
end
end L2
namespace L2
open PySem PySem.Spec PyProof.Rows
section
variable {X : Cx} {K : PySem.W.Frag}
end
end L2
namespace L2
end L2
namespace L2
open PySem PySem.Spec PyProof.Rows
section
variable {X : Cx}
theorem strVals_vals : ∀ l : List (Str × Tok), Vals ((l.map (·.1)).map V.str) (strValues l)
  | [] => .nil
  | p :: r => .cons ⟨p.2, rfl⟩ (strVals_vals r)
noncomputable def rSplit : V → List V → Hp → VK → Prop := fun x vs H Q => ∃ (z y : Str), x = .str z ∧ vs = [.str y] ∧ (y.length == 0) = false ∧ z.length + 2 ≤ 16777216 ∧ ∀ p, H p = none → Q (.ref p) (upd H p (.lst ((Txt.split z y).map V.str)))
theorem mt_split : MtR X "str.split" rSplit := by
  intro pins s σ H x vs v us Q I rx rv h
  obtain ⟨z, y, rfl, rfl, hy, hz, q⟩ := h
  obtain ⟨t, rfl⟩ := rx
  obtain ⟨u, rfl, ru⟩ := rv.one
  obtain ⟨u', rfl⟩ := ru
  have hsz : sizeLine = 16777216 := sizeLine_eq
  have hn : (Builtin.Str.partsBetween z (Builtin.Str.occurrences z y 0 z.length (z.length + 1)) y.length).length ≤ sizeLine := by
    have e1 := StrLaws.occ_length_le z y 0 z.length (z.length + 1)
    rw [length_partsBetween]; omega
  have fin : ∀ (l : List (Str × Tok)) (k : Nat), l.map (·.1) = Txt.split z y → l.length ≤ sizeLine → ∃ (x : V) (H' : Hp), Inv X pins σ H' { s with heap := s.heap.push { cls := .type "list", data := .seq (strValues l).toArray }, toks := k } ∧ RelV x (.ref s.heap.objs.size) ∧ Q x H' := by
    intro l k e hl
    refine ⟨.ref _, _, I.laid (t' := k) (o := .lst ((Txt.split z y).map V.str)) (fun b ob q => Heap.get?_push_of_some _ q) (Nat.le_refl _) ?_, rfl, q _ (I.hok.fresh (Nat.le_refl _))⟩
    rw [← e]
    exact ⟨by simpa using hl, _, 0, strVals_vals l, Heap.get?_push_size _ rfl⟩
  cases h1 : (decide (z.length < y.length) || decide (Builtin.Str.strKind z < Builtin.Str.strKind y))
  · cases hf : (Builtin.Str.occurrences z y 0 z.length (z.length + 1)).isEmpty
    · refine call_meets F.slot_str_split (typeIs_str _ _ _) F.entry_str_split (F.args_str_split_2 _ _) (meets_str_split_sep z y t u' h1 hy hf (by omega) hn) ?_
      show wants _ _ _ { s with toks := _, heap := s.heap.push { cls := .type "list", data := .seq (strsFrom s.toks (Builtin.Str.partsBetween z (Builtin.Str.occurrences z y 0 z.length (z.length + 1)) y.length)).toArray } }
      rw [strsFrom_eq]
      have e2 := numbered_texts s.toks (Builtin.Str.partsBetween z (Builtin.Str.occurrences z y 0 z.length (z.length + 1)) y.length)
      refine fin (numbered s.toks _) _ (e2.trans ((if_neg (ne_true_of_eq_false h1)).trans (if_neg (ne_true_of_eq_false hf))).symm) ?_
      have e3 := congrArg List.length e2
      rw [List.length_map] at e3
      rw [e3]; exact hn
    · exact call_meets F.slot_str_split (typeIs_str _ _ _) F.entry_str_split (F.args_str_split_2 _ _) (meets_str_split_not_found z y t u' h1 hy hf)
        (fin [(z, t)] s.toks ((if_neg (ne_true_of_eq_false h1)).trans (if_pos hf)).symm (by rw [hsz]; show 1 ≤ 16777216; decide))
  · exact call_meets F.slot_str_split (typeIs_str _ _ _) F.entry_str_split (F.args_str_split_2 _ _) (meets_str_split_cannot_occur z y t u' h1)
      (fin [(z, t)] s.toks (if_pos h1).symm (by rw [hsz]; show 1 ≤ 16777216; decide))
noncomputable def tFmt (te : TE) : TE := fun σ H Q => te σ H fun x H1 => ∃ n : Int, x = .int n ∧ n.natAbs.log2 < 1920 ∧ Q (.str (Str.ofString (toString n))) H1
theorem pe_fmt {e : Expr} {te : TE} {pos : Pos} (he : PE X e te) : PE X (.FormattedValue e (-1) none pos) (tFmt te) := by
  intro pins s σ H Q I h
  refine wpAny_FormattedValue_plain (thn (he pins s σ H _ I h) fun v s1 ⟨x, H1, I1, r1, q1⟩ => ?_)
  obtain ⟨n, rfl, hn, q⟩ := q1
  obtain ⟨t, rfl⟩ := r1
  exact wpAny_formatField_int hn ⟨.str _, H1, I1.tok _, ⟨_, rfl⟩, q⟩
noncomputable def tJs : List TE → Str → TE
  | [], acc => fun _ H Q => acc.length ≤ 16777216 ∧ Q (.str acc) H
  | t :: ts, acc => fun σ H Q => t σ H fun x H1 => ∃ y, x = .str y ∧ (acc ++ y).length ≤ 16777216 ∧ tJs ts (acc ++ y) σ H1 Q
theorem joins_of {pins : List (Addr × Obj)} {σ : St} {Q : VK} : ∀ (es : List Expr) (ts : List TE) (acc : Str) (s : Shared) (H : Hp), Paired (PE X) es ts → Inv X pins σ H s → tJs ts acc σ H Q →
    Joins (model X.prog X.w) X.A X.xe (evalEach es X.env) acc (fun out s₁ => out.length ≤ sizeLine ∧ EP X pins σ Q (.str out s₁.toks) { s₁ with toks := s₁.toks + 1 }) s
  | _, _, acc, s, H, .nil, I, h => ⟨by rw [sizeLine_eq]; exact h.1, .str acc, H, I.tok _, ⟨_, rfl⟩, h.2⟩
  | _, _, acc, s, H, .cons r t, I, h => thn (r pins s σ H _ I h) fun v s1 ⟨x, H1, I1, r1, q1⟩ => by
    obtain ⟨y, rfl, hz, q⟩ := q1
    obtain ⟨t', rfl⟩ := r1
    exact ⟨y, t', rfl, by rw [sizeLine_eq]; exact hz, joins_of _ _ _ _ _ t I1 q⟩
theorem pe_js {a b : Expr} {es : List Expr} {ts : List TE} {pos : Pos} (h : Paired (PE X) (a :: b :: es) ts) : PE X (.JoinedStr (a :: b :: es) pos) (tJs ts Str.empty) :=
  fun _ _ _ _ _ I q => wpAny_JoinedStr (joins_of _ _ _ _ _ h I q)
theorem pe_js1 {e : Expr} {te : TE} {pos : Pos} (h : PE X e te) : PE X (.JoinedStr [e] pos) te :=
  fun pins s σ H Q I q => wpAny_JoinedStr_one (h pins s σ H Q I q)
noncomputable def rIntT : List V → Hp → VK → Prop := fun xs H Q => ∃ (x : Str) (n : Int), xs = [.str x] ∧ PySem.intText? x = some n ∧ x.length ≤ 640 ∧ Q (.int n) H
theorem call_intT : CallR X (.type "int") rIntT := by
  intro pins s σ H xs us Q I r h
  obtain ⟨x, n, rfl, hn, hl, q⟩ := h
  obtain ⟨u, rfl, ru⟩ := vals1 r
  obtain ⟨t, rfl⟩ := ru
  exact PySem.W.KIN.call_text hn hl ⟨.int n, H, I.tok _, ⟨_, rfl⟩, q⟩
end
theorem int_reads (m : Nat) (hl : (Str.ofString (toString ((m : Nat) : Int))).length ≤ 640) : PySem.intText? (Str.ofString (toString ((m : Nat) : Int))) = some (m : Int) := by
  have hd : PySem.NumText.AllDigits (Str.ofString (toString ((m : Nat) : Int))).cps.toList := by
    intro c hc
    rw [PySem.W.KIN.signs_num] at hc
    obtain ⟨ch, hch, e⟩ := List.mem_map.mp hc
    rw [← e]
    exact PyProof.Rows.digit_range (Nat.isDigit_of_mem_toDigits (by decide) (by decide) hch)
  have hne : (Str.ofString (toString ((m : Nat) : Int))).cps.toList ≠ [] := by
    rw [PySem.W.KIN.signs_num]
    intro e
    have h := List.map_eq_nil_iff.mp e
    exact absurd h (Nat.toDigits_ne_nil)
  have e := _root_.PySem.intText_digits hd hne (Nat.le_trans hl (by decide))
  rw [PySem.W.KIN.signs_num, PySem.W.KIN.val_back] at e
  exact e
/-! what is joined by a sign that no part has is split into the parts -/
theorem head_free {c : Nat} : ∀ {a b r s : List Nat}, c ∉ a → c ∉ b → a ++ c :: r = b ++ c :: s → a = b ∧ r = s
  | [], [], _, _, _, _, h => ⟨rfl, (List.cons.inj h).2⟩
  | [], y :: b, _, _, _, hb, h => absurd (List.mem_cons.mpr (.inl (List.cons.inj h).1)) hb
  | x :: a, [], _, _, ha, _, h => absurd (List.mem_cons.mpr (.inl (List.cons.inj h).1.symm)) ha
  | x :: a, y :: b, _, _, ha, hb, h => by
    obtain ⟨e1, e2⟩ := List.cons.inj h
    obtain ⟨e3, e4⟩ := head_free (a := a) (b := b) (fun z => ha (.tail _ z)) (fun z => hb (.tail _ z)) e2
    exact ⟨by rw [e1, e3], e4⟩
theorem cps_sep (x t : Str) (c : Nat) : (x ++ (⟨#[c]⟩ : Str) ++ t).cps.toList = x.cps.toList ++ c :: t.cps.toList := by
  show (x.cps ++ #[c] ++ t.cps).toList = _
  simp
theorem str_ext {x y : Str} (h : x.cps.toList = y.cps.toList) : x = y := by
  cases x; cases y
  exact congrArg Str.mk (Array.toList_inj.mp h)
theorem join_parts {c : Nat} : ∀ {ys zs : List Str}, ys ≠ [] → zs ≠ [] → (∀ y ∈ ys, c ∉ y.cps.toList) → (∀ z ∈ zs, c ∉ z.cps.toList) → Str.join ⟨#[c]⟩ ys = Str.join ⟨#[c]⟩ zs → ys = zs
  | [], _, h, _, _, _, _ => absurd rfl h
  | _, [], _, h, _, _, _ => absurd rfl h
  | [y], [z], _, _, _, _, h => by rw [show y = z from h]
  | [y], z :: z2 :: r, _, _, hy, _, h => by
    have h : y = z ++ ⟨#[c]⟩ ++ Str.join ⟨#[c]⟩ (z2 :: r) := h
    refine absurd ?_ (hy y (.head _))
    rw [h, cps_sep]; simp
  | y :: y2 :: r, [z], _, _, _, hz, h => by
    have h : y ++ ⟨#[c]⟩ ++ Str.join ⟨#[c]⟩ (y2 :: r) = z := h
    refine absurd ?_ (hz z (.head _))
    rw [← h, cps_sep]; simp
  | y :: y2 :: r, z :: z2 :: t, _, _, hy, hz, h => by
    have h : y ++ ⟨#[c]⟩ ++ Str.join ⟨#[c]⟩ (y2 :: r) = z ++ ⟨#[c]⟩ ++ Str.join ⟨#[c]⟩ (z2 :: t) := h
    have h := congrArg (fun s : Str => s.cps.toList) h
    simp only [cps_sep] at h
    obtain ⟨e1, e2⟩ := head_free (hy y (.head _)) (hz z (.head _)) h
    rw [str_ext e1, join_parts (List.cons_ne_nil _ _) (List.cons_ne_nil _ _) (fun a ha => hy a (.tail _ ha)) (fun a ha => hz a (.tail _ ha)) (str_ext e2)]
theorem split_join {c : Nat} {ys : List Str} (h : ys ≠ []) (hf : ∀ y ∈ ys, c ∉ y.cps.toList) : Txt.split (Str.join ⟨#[c]⟩ ys) ⟨#[c]⟩ = ys := by
  refine join_parts ?_ h (StrLaws.split_free _ c) hf (StrLaws.join_split _ _)
  intro e
  have := split_pos (Str.join ⟨#[c]⟩ ys) ⟨#[c]⟩
  rw [e] at this
  exact absurd this (by decide)
end L2
namespace L2
open PySem PySem.Spec PyProof.Rows
/-! set(t) of a tuple of texts that are all different -/
section
variable {prog : Program} {w : World} {A : Around} {R : Result → Shared → Prop} {I : Addr} {fp wr : List Addr} {G : Array GenState → Array GenState → Prop} {P : Nat → Value → Prop} {St : Nat → Shared → Prop}
theorem seen_next {xs : List Str} {i : Nat} {x : Str} (h : xs[i]? = some x) (k : Str) : ((xs.take i).contains k || decide (k = x)) = (xs.take (i + 1)).contains k := by
  rw [List.take_add_one, h]
  show _ = (xs.take i ++ [x]).contains k
  rw [Bool.eq_iff_iff]
  simp
theorem seen_not {xs : List Str} {i : Nat} {x : Str} (h : xs[i]? = some x) (nd : xs.Nodup) : (xs.take i).contains x = false := by
  rw [Bool.eq_false_iff]
  intro c
  have c : x ∈ xs.take i := by simpa using c
  obtain ⟨j, hj, e⟩ := List.mem_iff_getElem.mp c
  rw [List.length_take] at hj
  rw [List.getElem_take] at e
  obtain ⟨hi, e'⟩ := List.getElem?_eq_some_iff.mp h
  exact (List.pairwise_iff_getElem.mp nd) j i (by omega) hi (by omega) (by rw [e, e'])
theorem set_turns {xs : List Str} (W : WalksS prog w A.in1 I fp wr G xs.length P St) (S : Addr) (hSf : S ∉ fp) (nd : xs.Nodup) (hval : ∀ i v, P i v → ∃ x t, xs[i]? = some x ∧ v = .str x t) (hb : xs.length + 1 < scanBound) :
    ∀ (k i : Nat) (s : Shared), i + k = xs.length → St i s → s.heap.SetOf (PySem.strKind prog w) S (fun y => (xs.take i).contains y) i →
      (∀ s', Moved (S :: wr) G s s' → s'.heap.SetOf (PySem.strKind prog w) S (fun y => (xs.take xs.length).contains y) xs.length → R (.ok (.ret .none)) s') →
      codeAny (model prog w) A (.builtin "set.update.loop" ⟨[.ref S, .ref I], []⟩) R s := by
  have out : S ∉ wr := fun h => hSf (W.sub _ h)
  have sub : ∀ b ∈ wr, b ∈ S :: wr := fun b h => List.mem_cons_of_mem _ h
  have stays : ∀ {s s' : Shared} {T : Str → Bool} {n : Nat}, Moved wr G s s' → s.heap.SetOf (PySem.strKind prog w) S T n → s'.heap.SetOf (PySem.strKind prog w) S T n := fun hm ⟨o, es, ep, t, ho, r⟩ => ⟨o, es, ep, t, hm.heap S _ out ho, r⟩
  intro k
  induction k with
  | zero =>
    intro i s hk hst hS hR
    have : i = xs.length := by omega
    subst this
    refine codeAny_builtin F.entry_set_update_loop ?_
    rw [Around.under_plainId F.plain_set_update_loop _]
    show wpAny _ A.in1 (pyNext (.ref I) >>= _) _ _ s
    exact wpAny_bind (W.done s _ _ hst fun s' hm => (wpAny_pure (hR s' (hm.mono sub) (stays hm hS)) : wpAny _ A.in1 (ret Value.none) _ _ s'))
  | succ k ih =>
    intro i s hk hst hS hR
    refine codeAny_builtin F.entry_set_update_loop ?_
    rw [Around.under_plainId F.plain_set_update_loop _]
    show wpAny _ A.in1 (pyNext (.ref I) >>= _) _ _ s
    refine wpAny_bind (W.item i s _ _ (by omega) hst fun v s1 hP h1 hm => ?_)
    obtain ⟨x, t, hx, rfl⟩ := hval i v hP
    have is : (PySem.strKind prog w).is x (.str x t) = true := keyIs_str x t
    show wpAny _ A.in1 (holding [Value.str x t] (setAdd S (.str x t)) >>= _) _ _ s1
    refine wpAny_bind (wpAny_holding ?_)
    unfold setAdd
    refine wpAny_holding (wpAny_bind ((PySem.strKind prog w).pyHash (k := x) is ?_))
    refine wpAny_setAddHashed_of (knd := PySem.strKind prog w) is rfl (s := { s1 with toks := s1.toks + 1 }) (show s1.heap.SetOf _ S _ i from stays hm hS) (by omega) fun h' hsb hS2 => ?_
    rw [seen_not hx nd] at hS2
    refine wpAny_pure ⟨plainId_quiet F.plain_set_update_loop _, ih (i + 1) _ (by omega) (W.frame _ s1 _ _ h1 (Nat.le_succ _) fun b hb o e => ?_) (SetOf_congr hS2 (fun y => seen_next hx y) rfl) fun s2 hm2 hS3 => ?_⟩
    · rw [hsb.2 b (fun h : b = S => hSf (by rw [← h]; exact hb))]; exact e
    · refine hR s2 (Moved.trans W.gtrans ((hm.mono sub).then_heap (Nat.le_succ _) fun b o hb e => ?_) hm2) hS3
      rw [hsb.2 b (fun h : b = S => hb (by rw [h]; exact List.mem_cons_self))]; exact e
end
theorem sub_tup_set : isSubtype (.type "tuple") (.type "set") = pure false := by rw [isSubtype_type]; kernel_rfl
theorem sub_tup_frz : isSubtype (.type "tuple") (.type "frozenset") = pure false := by rw [isSubtype_type]; kernel_rfl
section
variable {prog : Program} {w : World} {A : Around} {E : Value → Shared → Prop} {s : Shared}
set_option maxHeartbeats 3200000 in
theorem set_of_tup {l : Addr} {items : Array Value} {xs : List Str} {Q : Value → Shared → Prop} (hh : A.handled = none) (hl : s.heap.IsTuple l items) (hv : Vals (xs.map V.str) items.toList) (nd : xs.Nodup) (hb : xs.length + 1 < scanBound)
    (h : ∀ (h' : Heap) (tk : Nat), h'.SetOf (PySem.strKind prog w) s.heap.objs.size (fun y => (xs.take xs.length).contains y) xs.length → (∀ b o, b < s.heap.objs.size → s.heap.get? b = some o → h'.get? b = some o) → Q (.ref s.heap.objs.size) { s with heap := h', toks := tk }) :
    wpAny (model prog w) A (call (.type "set") [.ref l]) Q E s := by
  have hn : xs.length = items.size := by have := hv.length; simpa using this
  obtain ⟨c, tl, hmro⟩ := F.called_set.mro
  have hmade := F.called_set.made
  have hsub := F.called_set.sub
  refine wpAny_call (codeAny_of_tree ?_)
  show wpAny _ _ (callAny (.type "set") _) _ _ _
  refine wpAny_pure ⟨Code.quiet_builtin _ (by decide +kernel), codeAny_builtin F.entry_type_call ?_⟩
  rw [Around.under_plain (weight_type_call_type "set" [.ref l] []) rfl]
  have h1 := F.called_set.notType
  have h2 := F.called_set.canCreate
  have hct := F.typeCall_set_1 (.ref l)
  repeat (any_goals (first | assumption | wp_step))
  refine codeAny_mono (code_set_new_1 (.ref l) (E := E) (Q₁ := fun obj s₁ => ∃ led : Bool, obj = .ref s.heap.objs.size ∧ s₁ = { s with heap := s.heap.push { cls := .type "set", dict := none, data := .set #[] 0 (.fresh 0 0 led) } }) fun led => ⟨led, rfl, rfl⟩) fun r s₁ hr => ?_
  rcases r with e | fl
  · exact hr
  cases fl with
  | ret obj =>
    obtain ⟨led, rfl, rfl⟩ := hr
    let h1 : Heap := s.heap.push { cls := .type "set", dict := none, data := .set #[] 0 (.fresh 0 0 led) }
    have hS : h1.get? s.heap.objs.size = some { cls := .type "set", dict := none, data := .set #[] 0 (.fresh 0 0 led) } := Heap.get?_push_size _ rfl
    have hT : Shared.TypeIs { s with heap := h1 } (.ref s.heap.objs.size) "set" := ⟨_, hS, rfl⟩
    have hli := F.called_set.init.lookup
    have hbi := F.called_set.init.bind (.ref s.heap.objs.size)
    repeat (any_goals (first | assumption | wp_step))
    refine codeAny_mono (codeAny_call_builtin (R := wants (fun r s₂ => r = .none ∧ ∃ h' tk, s₂ = { s with heap := h', toks := tk } ∧ h'.SetOf (PySem.strKind prog w) s.heap.objs.size (fun y => (xs.take xs.length).contains y) xs.length ∧
        (∀ b o, b < s.heap.objs.size → s.heap.get? b = some o → h'.get? b = some o)) E) F.called_set.init.plain F.entry_set_init (check_set_init_1 hT ?_)) fun r₂ s₂ hr₂ => ?_
    · have hlS : l < s.heap.objs.size := let ⟨_, ho, _⟩ := hl; Heap.lt_size ho
      have hl1 : h1.IsTuple l items := hl.push _
      obtain ⟨ol, hol, hcl, nl, hdl⟩ := id hl1
      obtain ⟨ocls, odict, odata, oslots⟩ := ol
      simp only at hcl hdl
      subst hcl; subst hdl
      have a1 := sub_tup_set
      have a2 := sub_tup_frz
      have hne : (Value.type "tuple" == Value.type "dict") = false := by decide
      unfold Builtin.«set.__init__» noKeywords Builtin.Frozenset.updateFrom
      generalize hPI : pyIter = PI
      wp_walk
      subst hPI
      refine wpAny_pyIter_tuple hl1 ?_
      refine wpAny_bind (wpAny_runValue ?_)
      have hh3 : A.in1.in1.in1.handled = none := by simp [hh]
      have n1 : l ≠ h1.objs.size := by
        rw [Heap.size_push]; exact Nat.ne_of_lt (Nat.lt_succ_of_lt hlS)
      have n2 : s.heap.objs.size ∉ [h1.objs.size, l] := by
        rw [Heap.size_push]; simp only [List.mem_cons, List.mem_singleton, List.not_mem_nil, or_false, not_or]
        exact ⟨Nat.ne_of_lt (Nat.lt_succ_self _), Nat.ne_of_gt hlS⟩
      have W := (Walks.tuple (prog := prog) (w := w) hh3 h1.objs.size l n1 items).toS
      rw [← hn] at W
      refine set_turns W s.heap.objs.size n2 nd (fun i v e => ?_) hb xs.length 0 _ (by omega) ⟨⟨_, Heap.get?_push_size _ rfl, rfl, rfl⟩, hl1.push _⟩ ?_ ?_
      · have hi : i < xs.length := by
          rw [hn]; exact (Array.getElem?_eq_some_iff.mp e).1
        obtain ⟨u, hu, r⟩ := hv.get (i := i) (x := .str xs[i]) (by rw [List.getElem?_map, List.getElem?_eq_getElem hi]; rfl)
        rw [Array.getElem?_toList] at hu
        rw [e] at hu
        obtain ⟨t, rfl⟩ := r
        exact ⟨xs[i], t, List.getElem?_eq_getElem hi, Option.some.inj hu⟩
      · exact SetOf_congr ((setObjOf_fresh (knd := PySem.strKind prog w) led).setOf (Heap.get?_push_of_some _ hS) (by unfold scanBound; omega)) (fun _ => rfl) rfl
      · intro s' hm hS'
        obtain ⟨h', g', d', tk', os'⟩ := s'
        have eg : g' = s.gens := hm.gens
        have ed : d' = s.drawn := hm.drawn
        have eo : os' = s.os := hm.os
        subst eg; subst ed; subst eo
        show wpAny _ _ _ _ _ _
        refine wpAny_pure ?_
        show wpAny _ _ (ret Value.none) _ _ _
        refine wpAny_pure ⟨rfl, h', tk', rfl, hS', fun b o hb e => hm.heap b o ?_ (Heap.get?_push_of_some _ (Heap.get?_push_of_some _ e))⟩
        have b2 : b ≠ h1.objs.size := by rw [Heap.size_push]; exact Nat.ne_of_lt (Nat.lt_succ_of_lt hb)
        simp only [List.mem_cons, List.mem_singleton, List.not_mem_nil, or_false, not_or]
        exact ⟨Nat.ne_of_lt hb, b2⟩
    · rcases r₂ with e | fl₂
      · exact hr₂
      cases fl₂ with
      | ret r =>
        obtain ⟨rfl, h', tk, rfl, hS', hk'⟩ := hr₂
        repeat (any_goals (first | assumption | wp_step))
        exact h _ _ hS' hk'
      | _ => exact hr₂.elim
  | _ => exact hr.elim
end
section
variable {X : Cx}
noncomputable def setHO (P : Program) (w : World) (p : Addr) (xs : List Str) : HO := .ext fun h => h.SetOf (PySem.strKind P w) p (fun y => (xs.take xs.length).contains y) xs.length
theorem call_setT (hc : X.calm = true) : CallR X (.type "set") (fun vs H Q => ∃ (a : Addr) (xs : List Str), vs = [V.ref a] ∧ SqT X.K H a (xs.map V.str) ∧ xs.Nodup ∧ xs.length < 4000 ∧ ∀ p, H p = none → Q (.ref p) (upd H p (setHO X.prog X.w p xs))) := by
  intro pins s σ H vs us Q I r h
  obtain ⟨a, xs, rfl, hq, nd, hl, q⟩ := h
  obtain ⟨u, rfl, ru⟩ := vals1 r
  cases ru
  obtain ⟨its, rv, p, _⟩ := I.tuple hq
  refine set_of_tup (I.ok.hd hc) (show s.heap.IsTuple a its.toArray from p) (by simpa using rv) nd (by unfold scanBound; omega) fun h' tk hS hk => ?_
  refine ⟨.ref _, _, I.laid (t' := tk) (o := setHO X.prog X.w s.heap.objs.size xs) (fun b ob e => hk b ob (Heap.lt_size e) e) (Nat.le_refl _) ?_, rfl, q _ (I.hok.fresh (Nat.le_refl _))⟩
  obtain ⟨o, es, ep, t, ho, rest⟩ := id hS
  exact ⟨hS, ⟨o, ho⟩, fun h1 h2 ⟨o, es, ep, t, ho, rest⟩ k => ⟨o, es, ep, t, k _ ho, rest⟩⟩
theorem call_lenS : CallR X (.builtin "len") (fun vs H Q => ∃ (p : Addr) (xs : List Str), vs = [V.ref p] ∧ H p = some (setHO X.prog X.w p xs) ∧ xs.length < 4000 ∧ Q (.int xs.length) H) := by
  intro pins s σ H vs us Q I r h
  obtain ⟨p, xs, rfl, hp, hl, q⟩ := h
  obtain ⟨u, rfl, ru⟩ := vals1 r
  cases ru
  obtain ⟨o, es, ep, t, ho, hex, hd, _, _, _, hf, hn⟩ := (I.hok p _ hp).1
  exact call_len_set ho hex hd hf (by rw [hn]; omega) ⟨.int xs.length, H, I.tok _, ⟨_, by rw [hn]⟩, q⟩
theorem call_setT' {K : PySem.W.Frag} (h : X.K = K) (hc : X.calm = true) : CallR X (.type "set") (fun vs H Q => ∃ (a : Addr) (xs : List Str), vs = [V.ref a] ∧ SqT K H a (xs.map V.str) ∧ xs.Nodup ∧ xs.length < 4000 ∧ ∀ p, H p = none → Q (.ref p) (upd H p (setHO X.prog X.w p xs))) := by subst h; exact call_setT hc
theorem bt_set : bootBuiltins "set" = some (.type "set") := by decide +kernel
end
end L2
namespace L2
open PySem PySem.Spec PyProof.Rows
/-! zip of two tuples -/
structure Hands (P : Program) (w : World) (m l : Addr) (I J : Heap → Prop) (x : Value) : Prop where
  keepI : ∀ {g g' : Heap}, (∀ o, g.get? m = some o → g'.get? m = some o) → (∀ o, g.get? l = some o → g'.get? l = some o) → I g → I g'
  keepJ : ∀ {g g' : Heap}, (∀ o, g.get? m = some o → g'.get? m = some o) → J g → J g'
  give : ∀ {A : Around} {E : Value → Shared → Prop} {s : Shared} {Q : Value → Shared → Prop}, I s.heap → (∀ g, J g → Heap.SameBut m s.heap g → Q x { s with heap := g }) → wpAny (model P w) A (Builtin.SmallTypes.nextOf (.ref m)) Q E s
section
variable {P : Program} {w : World} {A : Around} {E : Value → Shared → Prop} {s : Shared}
theorem hands_tup {m t : Addr} {k : Nat} {xs : Array Value} {x : Value} (hx : xs[k]? = some x) : Hands P w m t (fun g => g.IsTupleIter m t k ∧ g.IsTuple t xs) (fun g => g.IsTupleIter m t (k + 1)) x where
  keepI := fun a b ⟨⟨o, h, r⟩, ⟨o2, h2, r2⟩⟩ => ⟨⟨o, a o h, r⟩, ⟨o2, b o2 h2, r2⟩⟩
  keepJ := fun a ⟨o, h, r⟩ => ⟨o, a o h, r⟩
  give := fun {A E s Q} ⟨hit, ht⟩ fin => by
    obtain ⟨oi, gi, ci, di⟩ := id hit
    obtain ⟨ot, gt, _, nt, dt⟩ := ht
    unfold Builtin.SmallTypes.nextOf
    refine wpAny_bind (wpAny_callSpecial?_slot (name := Str.ofString "__next__") hit.typeIs F.slot_tuple_iterator_next (wpAny_call_entry F.slot_tuple_iterator_next hit.typeIs F.entry_tuple_iterator_next ?_ (F.args_tuple_iterator_next_1 _)))
    show wpAny (model P w) _ (field (.ref m) 0 >>= _) _ _ s
    refine wpAny_bind (wpAny_field gi di (x := .ref t) rfl ?_)
    show wpAny (model P w) _ (if (Value.ref t == Value.none) = true then _ else _) _ _ s
    rw [if_neg (by exact Bool.false_ne_true)]
    show wpAny (model P w) _ (field (.ref m) 1 >>= _) _ _ s
    refine wpAny_bind (wpAny_field gi di (x := .int k 0) rfl ?_)
    show wpAny (model P w) _ (seqItems? (.ref t) >>= _) _ _ s
    refine wpAny_bind (wpAny_seqItems gt dt ?_)
    simp only [Int.toNat_natCast, hx]
    refine wpAny_bind (wpAny_setField gi di (by simp) (wpAny_pure ⟨x, rfl, wpAny_pure (fin _ ⟨_, Heap.get?_update_self _ gi (Obj.isFreed_of_fields (Obj.data_mapFields di _)), (Obj.cls_mapFields ..).trans ci, ?_⟩ (Heap.SameBut.update ..))⟩))
    rw [Obj.data_mapFields di]
    simp [rawInt]
theorem ends_tup {m t : Addr} {k : Nat} {xs : Array Value} {Q : Value → Shared → Prop} (hh : A.handled = none) (hit : s.heap.IsTupleIter m t k) (ht : s.heap.IsTuple t xs) (hx : xs[k]? = none)
    (fin : ∀ g e, Heap.ExtBut m s.heap g → (∃ o, g.get? e = some o ∧ o.cls = .type "StopIteration") → E (.ref e) { s with heap := g }) : wpAny (model P w) A (Builtin.SmallTypes.nextOf (.ref m)) Q E s := by
  obtain ⟨oi, gi, ci, di⟩ := id hit
  obtain ⟨ot, gt, _, nt, dt⟩ := ht
  unfold Builtin.SmallTypes.nextOf
  refine wpAny_bind (wpAny_callSpecial?_slot (name := Str.ofString "__next__") hit.typeIs F.slot_tuple_iterator_next (wpAny_call_entry F.slot_tuple_iterator_next hit.typeIs F.entry_tuple_iterator_next ?_ (F.args_tuple_iterator_next_1 _)))
  show wpAny (model P w) _ (field (.ref m) 0 >>= _) _ _ s
  refine wpAny_bind (wpAny_field gi di (x := .ref t) rfl ?_)
  show wpAny (model P w) _ (if (Value.ref t == Value.none) = true then _ else _) _ _ s
  rw [if_neg (by exact Bool.false_ne_true)]
  show wpAny (model P w) _ (field (.ref m) 1 >>= _) _ _ s
  refine wpAny_bind (wpAny_field gi di (x := .int k 0) rfl ?_)
  show wpAny (model P w) _ (seqItems? (.ref t) >>= _) _ _ s
  refine wpAny_bind (wpAny_seqItems gt dt ?_)
  simp only [Int.toNat_natCast, hx]
  refine wpAny_bind (wpAny_rule (wpAny_bind (wpAny_setField gi di (by simp) ?_)))
  show wpAny (model P w) _ (newExc (.type "StopIteration") [] >>= _) _ _ _
  refine wpAny_bind ?_
  simp only [newExc, newTuple]
  refine wpAny_bind (wpAny_newObj_type ?_ (by size_fits))
  refine wpAny_bind (m := firstArgMember _ _) (wpAny_of_eq (a := Value.none) (by first | rfl | (simp only [firstArgMember] <;> rfl)) (wpAny_newObj_type ?_ (by size_fits)))
  simp only [raiseNew]
  refine wpAny_bind (wpAny_handled ?_)
  first | rw [show A.in1.handled = none from hh] | (rw [hh])
  exact wpAny_bind (wpAny_pure (wpAny_throw (fin _ _ (((Heap.SameBut.update ..).extBut.push _).push _) ⟨_, Heap.get?_push_size _ rfl, rfl⟩)))
theorem zip_gives {z ti to' m n l l' : Addr} {I J I' J' : Heap → Prop} {x y u v : Value} {Q : Value → Shared → Prop} (D : ZipApart z ti to' m n l l') (X : Hands P w m l I J x) (Y : Hands P w n l' I' J' y)
    (zz : IsZip s.heap z ti to' .none) (pi : IsPair s.heap ti (.ref m) (.ref n)) (po : IsPair s.heap to' u v) (hI : I s.heap) (hI' : I' s.heap) (gm : ∃ o, s.heap.get? m = some o) (gn : ∃ o, s.heap.get? n = some o)
    (fin : ∀ g, IsZip g z ti to' (rawInt s.heap.objs.size) → IsPair g to' x y → J g → J' g → IsPair g s.heap.objs.size x y → (∀ c o, c ≠ z → c ≠ to' → c ≠ m → c ≠ n → s.heap.get? c = some o → g.get? c = some o) → Q (.ref s.heap.objs.size) { s with heap := g }) :
    wpAny (model P w) A (Builtin.«zip.__next__» ⟨[.ref z], []⟩) (fun r s' => ∃ q, r = .done (.ret q) ∧ Q q s') E s := by
  show wpAny (model P w) _ (field (.ref z) 2 >>= _) _ _ _
  refine wpAny_bind (wpAny_field zz rfl (x := .bool false) rfl ?_)
  show wpAny (model P w) _ (field (.ref z) 3 >>= _) _ _ _
  refine wpAny_bind (wpAny_field zz rfl (x := .ref ti) rfl (wpAny_bind (wpAny_seqItems pi rfl ?_)))
  show wpAny (model P w) _ (Builtin.SmallTypes.ownedTupleIsFree (.ref z) >>= _) _ _ _
  refine wpAny_bind ?_
  unfold Builtin.SmallTypes.ownedTupleIsFree
  refine wpAny_bind (wpAny_field zz rfl (x := .none) rfl (wpAny_pure ?_))
  simp only [if_true]
  refine wpAny_bind (wpAny_rule (wpAny_bind (wpAny_field zz rfl (x := .ref to') rfl (wpAny_bind (wpAny_setField_rec zz (by simp) fun g1 z1 b1 => ?_)))))
  replace z1 : IsZip g1 z ti to' .ellipsis := z1
  refine wpAny_bind ?_
  simp only [List.zipIdx_cons, List.zipIdx_nil, List.forIn_cons, List.forIn_nil]
  refine wpAny_bind (wpAny_bind (wpAny_onRaise ?_))
  show wpAny (model P w) _ (Builtin.SmallTypes.nextOf (.ref m) >>= _) _ _ _
  refine wpAny_bind (X.give (X.keepI (fun o e => b1.extBut _ _ D.i1z e) (fun o e => b1.extBut _ _ D.l1z e) hI) fun g2 j2 b2 => wpAny_pure ?_)
  have po2 : IsPair g2 to' u v := b2.extBut _ _ D.TOi1 (b1.extBut _ _ D.TOz po)
  refine wpAny_bind (wpAny_seqItems po2 rfl (wpAny_bind (wpAny_updateSeq_pair po2 fun g3 po3 b3 => ?_)))
  replace po3 : IsPair g3 to' x v := po3
  refine wpAny_bind (wpAny_letGo (wpAny_pure (wpAny_bind (wpAny_bind (wpAny_onRaise ?_)))))
  show wpAny (model P w) _ (Builtin.SmallTypes.nextOf (.ref n) >>= _) _ _ _
  refine wpAny_bind (Y.give (Y.keepI (fun o e => b3.extBut _ _ D.TOi2.symm (b2.extBut _ _ D.i12.symm (b1.extBut _ _ D.i2z e))) (fun o e => b3.extBut _ _ D.l2TO (b2.extBut _ _ D.l2i1 (b1.extBut _ _ D.l2z e))) hI') fun g4 j4 b4 => wpAny_pure ?_)
  have po4 : IsPair g4 to' x v := b4.extBut _ _ D.TOi2 po3
  refine wpAny_bind (wpAny_seqItems po4 rfl (wpAny_bind (wpAny_updateSeq_pair po4 fun g5 po5 b5 => ?_)))
  replace po5 : IsPair g5 to' x y := po5
  refine wpAny_bind (wpAny_letGo (wpAny_pure (wpAny_pure ?_)))
  refine wpAny_bind (wpAny_seqItems po5 rfl (wpAny_bind (wpAny_newTuple ?_)))
  have es : g5.objs.size = s.heap.objs.size := by rw [b5.1, b4.1, b3.1, b2.1, b1.1]
  have z5 : IsZip g5 z ti to' .ellipsis := b5.extBut _ _ D.TOz.symm (b4.extBut _ _ D.i2z.symm (b3.extBut _ _ D.TOz.symm (b2.extBut _ _ D.i1z.symm z1)))
  have k5 : ∀ c o, c ≠ z → c ≠ to' → c ≠ m → c ≠ n → s.heap.get? c = some o → g5.get? c = some o := fun c o c1 c2 c3 c4 e => b5.extBut _ _ c2 (b4.extBut _ _ c4 (b3.extBut _ _ c2 (b2.extBut _ _ c3 (b1.extBut _ _ c1 e))))
  have J5 : J g5 := X.keepJ (fun o e => b5.extBut _ _ D.TOi1.symm (b4.extBut _ _ D.i12 (b3.extBut _ _ D.TOi1.symm e))) j2
  have J5' : J' g5 := Y.keepJ (fun o e => b5.extBut _ _ D.TOi2.symm e) j4
  have zlt : z < g5.objs.size := Heap.lt_size z5
  show wpAny (model P w) _ (Builtin.SmallTypes.ownedTupleHandOut (.ref z) (.ref g5.objs.size) >>= _) _ _ _
  refine wpAny_bind ?_
  unfold Builtin.SmallTypes.ownedTupleHandOut
  have z6 : IsZip (g5.push { cls := .type "tuple", data := .seq #[x, y] }) z ti to' .ellipsis := Heap.get?_push_of_some _ z5
  refine wpAny_bind (wpAny_setField_rec z6 (by simp) fun g7 z7 b7 => ?_)
  replace z7 : IsZip g7 z ti to' (rawInt g5.objs.size) := z7
  refine wpAny_setField_rec z7 (by simp) fun g8 z8 b8 => ?_
  replace z8 : IsZip g8 z ti to' (rawInt g5.objs.size) := z8
  have up : ∀ c o, c ≠ z → g5.get? c = some o → g8.get? c = some o := fun c o c1 e => b8.extBut _ _ c1 (b7.extBut _ _ c1 (Heap.get?_push_of_some _ e))
  have T8 : IsPair g8 g5.objs.size x y := b8.extBut _ _ (Nat.ne_of_gt zlt) (b7.extBut _ _ (Nat.ne_of_gt zlt) (Heap.get?_push_size _ rfl))
  rw [es] at z8 T8
  refine wpAny_pure ⟨_, rfl, ?_⟩
  show Q (.ref g5.objs.size) _
  rw [es]
  exact fin g8 z8 (up _ _ D.TOz po5) (X.keepJ (fun o e => up _ o D.i1z e) J5) (Y.keepJ (fun o e => up _ o D.i2z e) J5') T8 fun c o c1 c2 c3 c4 e => up c o c1 (k5 c o c1 c2 c3 c4 e)
theorem zip_stops {z ti to' m n l l' : Addr} {k : Nat} {xs : Array Value} {Q : Fin → Shared → Prop} (hh : A.handled = none) (D : ZipApart z ti to' m n l l') (zz : IsZip s.heap z ti to' .none) (pi : IsPair s.heap ti (.ref m) (.ref n))
    (hm : s.heap.IsTupleIter m l k) (hl : s.heap.IsTuple l xs) (hx : xs[k]? = none)
    (fin : ∀ g e, (∀ c o, c ≠ z → c ≠ m → s.heap.get? c = some o → g.get? c = some o) → (∃ o, g.get? e = some o ∧ o.cls = .type "StopIteration") → E (.ref e) { s with heap := g }) : wpAny (model P w) A (Builtin.«zip.__next__» ⟨[.ref z], []⟩) Q E s := by
  show wpAny (model P w) _ (field (.ref z) 2 >>= _) _ _ _
  refine wpAny_bind (wpAny_field zz rfl (x := .bool false) rfl ?_)
  show wpAny (model P w) _ (field (.ref z) 3 >>= _) _ _ _
  refine wpAny_bind (wpAny_field zz rfl (x := .ref ti) rfl (wpAny_bind (wpAny_seqItems pi rfl ?_)))
  show wpAny (model P w) _ (Builtin.SmallTypes.ownedTupleIsFree (.ref z) >>= _) _ _ _
  refine wpAny_bind ?_
  unfold Builtin.SmallTypes.ownedTupleIsFree
  refine wpAny_bind (wpAny_field zz rfl (x := .none) rfl (wpAny_pure ?_))
  simp only [if_true]
  refine wpAny_bind (wpAny_rule (wpAny_bind (wpAny_field zz rfl (x := .ref to') rfl (wpAny_bind (wpAny_setField_rec zz (by simp) fun g1 z1 b1 => ?_)))))
  replace z1 : IsZip g1 z ti to' .ellipsis := z1
  refine wpAny_bind ?_
  simp only [List.zipIdx_cons, List.zipIdx_nil, List.forIn_cons, List.forIn_nil]
  refine wpAny_bind (wpAny_bind (wpAny_onRaise ?_))
  show wpAny (model P w) _ (Builtin.SmallTypes.nextOf (.ref m) >>= _) _ _ _
  refine wpAny_bind (ends_tup hh (hm.extBut b1.extBut D.i1z) (hl.extBut b1.extBut D.l1z) hx fun g2 e b2 he => ?_)
  obtain ⟨oe, ge, ce⟩ := he
  have z2 : IsZip g2 z ti to' .ellipsis := b2 _ _ D.i1z.symm z1
  have ez : e ≠ z := fun q => by subst q; rw [z2] at ge; cases ge; simp at ce
  exact wpAny_setField_rec z2 (by simp) fun g3 _ b3 => fin g3 e (fun c o c1 c3 q => b3.extBut _ _ c1 (b2 _ _ c3 (b1.extBut _ _ c1 q))) ⟨oe, b3.extBut _ _ ez ge, ce⟩
theorem next_zip {z ti to' m n l l' : Addr} {I J I' J' : Heap → Prop} {x y u v : Value} {Q : Option Value → Shared → Prop} (D : ZipApart z ti to' m n l l') (X : Hands P w m l I J x) (Y : Hands P w n l' I' J' y)
    (zz : IsZip s.heap z ti to' .none) (pi : IsPair s.heap ti (.ref m) (.ref n)) (po : IsPair s.heap to' u v) (hI : I s.heap) (hI' : I' s.heap) (gm : ∃ o, s.heap.get? m = some o) (gn : ∃ o, s.heap.get? n = some o)
    (fin : ∀ g, IsZip g z ti to' (rawInt s.heap.objs.size) → IsPair g to' x y → J g → J' g → IsPair g s.heap.objs.size x y → (∀ c o, c ≠ z → c ≠ to' → c ≠ m → c ≠ n → s.heap.get? c = some o → g.get? c = some o) → Q (some (.ref s.heap.objs.size)) { s with heap := g }) :
    wpAny (model P w) A (pyNext (.ref z)) Q E s := by
  have ty : s.TypeIs (.ref z) "zip" := ⟨_, zz, rfl⟩
  unfold pyNext
  exact wpAny_bind (wpAny_attempt (wpAny_callSpecial?_slot (name := Str.ofString "__next__") ty F.slot_zip_next (wpAny_call_entry F.slot_zip_next ty F.entry_zip_next (zip_gives D X Y zz pi po hI hI' gm gn fun g a b c d e f => wpAny_pure (fin g a b c d e f)) (F.args_zip_next_1 _))))
theorem stop_zip {z ti to' m n l l' : Addr} {k : Nat} {xs : Array Value} {Q : Option Value → Shared → Prop} (hh : A.handled = none) (D : ZipApart z ti to' m n l l') (zz : IsZip s.heap z ti to' .none) (pi : IsPair s.heap ti (.ref m) (.ref n))
    (hm : s.heap.IsTupleIter m l k) (hl : s.heap.IsTuple l xs) (hx : xs[k]? = none) (fin : ∀ g, (∀ c o, c ≠ z → c ≠ m → s.heap.get? c = some o → g.get? c = some o) → Q none { s with heap := g }) : wpAny (model P w) A (pyNext (.ref z)) Q E s := by
  have ty : s.TypeIs (.ref z) "zip" := ⟨_, zz, rfl⟩
  unfold pyNext
  refine wpAny_bind (wpAny_attempt (wpAny_callSpecial?_slot (name := Str.ofString "__next__") ty F.slot_zip_next (wpAny_call_entry F.slot_zip_next ty F.entry_zip_next (zip_stops hh D zz pi hm hl hx fun g e kp he => ?_) (F.args_zip_next_1 _))))
  obtain ⟨o, ho, hc⟩ := he
  exact wpAny_bind (wpAny_isInstance (T := "StopIteration") (b := true) ⟨o, ho, hc⟩ isSubtype_stop (wpAny_pure (fin _ kp)))
noncomputable abbrev zt1 (h : Heap) (a : Addr) : Heap := h.push { cls := .type "tuple_iterator", data := .fields #[.ref a, .int 0 0] }
noncomputable abbrev zt3 (h : Heap) (a b : Addr) : Heap := (zt1 (zt1 h a) b).push { cls := .type "tuple", data := .seq #[.ref h.objs.size, .ref (zt1 h a).objs.size] }
noncomputable abbrev zt4 (h : Heap) (a b : Addr) : Heap := (zt3 h a b).push { cls := .type "tuple", data := .seq #[.none, .none] }
noncomputable abbrev zt5 (h : Heap) (a b : Addr) : Heap := (zt4 h a b).push { cls := .type "zip", data := .fields #[.none, .bool false, .bool false, .ref (zt1 (zt1 h a) b).objs.size, .ref (zt3 h a b).objs.size] }
theorem zip_new (a b : Addr) (xs ys : Array Value) : Meets (Builtin.«zip.__new__» ⟨[.type "zip", .ref a, .ref b], []⟩) (fun _ R s => s.heap.IsTuple a xs ∧ s.heap.IsTuple b ys ∧ R (.ok (.ret (.ref (zt4 s.heap a b).objs.size))) { s with heap := zt5 s.heap a b }) :=
  .of_wp fun prog w A R s q => by
    obtain ⟨hp, g, d, tk, os⟩ := s
    obtain ⟨ha, hb, q⟩ := q
    have sub := sub_zip
    have hA : Heap.IsTuple (Shared.heap ⟨hp, g, d, tk, os⟩) a xs := ha
    have hB : Heap.IsTuple (Shared.heap ⟨hp.push { cls := .type "tuple_iterator", data := .fields #[.ref a, .int 0 0] }, g, d, tk, os⟩) b ys := Heap.IsTuple.push hb _
    wp_walk using wpAny_pyIter_tuple hA, wpAny_pyIter_tuple hB
    exact ⟨_, rfl, q⟩
theorem call_zipT {a b : Addr} {xs ys : Array Value} {Q : Value → Shared → Prop} (ha : s.heap.IsTuple a xs) (hb : s.heap.IsTuple b ys)
    (fin : ∀ g, IsZip g (s.heap.objs.size + 4) (s.heap.objs.size + 2) (s.heap.objs.size + 3) .none → IsPair g (s.heap.objs.size + 2) (.ref s.heap.objs.size) (.ref (s.heap.objs.size + 1)) → IsPair g (s.heap.objs.size + 3) .none .none →
      g.IsTupleIter s.heap.objs.size a 0 → g.IsTupleIter (s.heap.objs.size + 1) b 0 → (∀ c o, s.heap.get? c = some o → g.get? c = some o) → Q (.ref (s.heap.objs.size + 4)) { s with heap := g }) :
    wpAny (model P w) A (call (.type "zip") [.ref a, .ref b]) Q E s := by
  refine callType_new F.called_zip (by decide) (F.typeCall_zip_2 _ _) (F.newCall_zip_2 _ _) (fun obj => F.args_object_init_3 obj _ _) F.entry_zip_new (zip_new a b xs ys) ⟨ha, hb, ?_⟩
  have z1 : (zt1 s.heap a).objs.size = s.heap.objs.size + 1 := Heap.size_push ..
  have z2 : (zt1 (zt1 s.heap a) b).objs.size = s.heap.objs.size + 2 := by rw [Heap.size_push, z1]
  have z3 : (zt3 s.heap a b).objs.size = s.heap.objs.size + 3 := by rw [Heap.size_push, z2]
  have z4 : (zt4 s.heap a b).objs.size = s.heap.objs.size + 4 := by rw [Heap.size_push, z3]
  have p4 : ∀ {c o}, (zt4 s.heap a b).get? c = some o → (zt5 s.heap a b).get? c = some o := fun e => Heap.get?_push_of_some _ e
  have p3 : ∀ {c o}, (zt3 s.heap a b).get? c = some o → (zt5 s.heap a b).get? c = some o := fun e => p4 (Heap.get?_push_of_some _ e)
  have p2 : ∀ {c o}, (zt1 (zt1 s.heap a) b).get? c = some o → (zt5 s.heap a b).get? c = some o := fun e => p3 (Heap.get?_push_of_some _ e)
  have p1 : ∀ {c o}, (zt1 s.heap a).get? c = some o → (zt5 s.heap a b).get? c = some o := fun e => p2 (Heap.get?_push_of_some _ e)
  have g5 : (zt5 s.heap a b).get? (zt4 s.heap a b).objs.size = some _ := Heap.get?_push_size _ rfl
  have g4 : (zt5 s.heap a b).get? (zt3 s.heap a b).objs.size = some _ := p4 (Heap.get?_push_size _ rfl)
  have g3 : (zt5 s.heap a b).get? (zt1 (zt1 s.heap a) b).objs.size = some _ := p3 (Heap.get?_push_size _ rfl)
  have g2 : (zt5 s.heap a b).get? (zt1 s.heap a).objs.size = some _ := p2 (Heap.get?_push_size _ rfl)
  have g1 : (zt5 s.heap a b).get? s.heap.objs.size = some _ := p1 (Heap.get?_push_size _ rfl)
  show _ ∧ _
  rw [z2, z3, z4] at g5
  rw [z1, z2] at g3
  rw [z3] at g4
  rw [z1] at g2
  rw [z4]
  exact ⟨⟨_, g5, rfl⟩, fin _ g5 g3 g4 ⟨_, g1, rfl, rfl⟩ ⟨_, g2, rfl, rfl⟩ fun c o e => p1 (Heap.get?_push_of_some _ e)⟩
end
noncomputable def ItY (K : PySem.W.Frag) (a b : Addr) (xs ys : List V) : It :=
  ⟨fun i H => i < xs.length ∧ i < ys.length ∧ SqT K H a xs ∧ SqT K H b ys, fun i H x H' => ∃ v u T, xs[i]? = some v ∧ ys[i]? = some u ∧ x = .ref T ∧ H T = none ∧ H' = upd H T (.tup [v, u]), fun i H => i = xs.length ∧ SqT K H a xs⟩
theorem turn_zipT {P : Program} {w : World} {K : PySem.W.Frag} {elts : List Expr} {kk : Nat} {pos : Pos} (a b : Addr) (n : Nat) (xs ys : List V) (ha : (a : Nat) < n) (hb : (b : Nat) < n) :
    Turn P w K (.Tuple elts kk pos) (ItY K a b xs ys) [n + 4, n + 2, n + 3, n, n + 1] (n + 4) (fun i h => IsZip h (n + 4) (n + 2) (n + 3) .none ∧ IsPair h (n + 2) (.ref n) (.ref (n + 1)) ∧ (∃ u v, IsPair h (n + 3) u v) ∧ h.IsTupleIter n a i ∧ h.IsTupleIter (n + 1) b i) where
  mem := by simp
  obj := fun i h st c hb => by
    obtain ⟨hz, hTI, ⟨u, v, hTO⟩, ⟨o1, e1, _, d1⟩, ⟨o2, e2, _, d2⟩⟩ := st
    simp only [List.mem_cons, List.not_mem_nil, or_false] at hb
    rcases hb with rfl | rfl | rfl | rfl | rfl
    · exact ⟨_, hz, fun v z => by cases z⟩
    · exact ⟨_, hTI, fun v z => by cases z⟩
    · exact ⟨_, hTO, fun v z => by cases z⟩
    · exact ⟨_, e1, fun v z => by rw [d1] at z; cases z⟩
    · exact ⟨_, e2, fun v z => by rw [d2] at z; cases z⟩
  keep := fun i h h' st k => by
    obtain ⟨hz, hTI, ⟨u, v, hTO⟩, ⟨o1, e1, r1⟩, ⟨o2, e2, r2⟩⟩ := st
    exact ⟨k _ (by simp) _ hz, k _ (by simp) _ hTI, ⟨u, v, k _ (by simp) _ hTO⟩, ⟨o1, k _ (by simp) _ e1, r1⟩, ⟨o2, k _ (by simp) _ e2, r2⟩⟩
  item := by
    intro X hP hw hK hc i pins s σ H E I hf st hg
    subst hP hw hK
    obtain ⟨hz, hTI, ⟨u0, v0, hTO⟩, h1, h2⟩ := st
    obtain ⟨hi, hj, hq1, hq2⟩ := hg
    obtain ⟨its1, rv1, p1, _⟩ := I.tuple hq1
    obtain ⟨its2, rv2, p2, _⟩ := I.tuple hq2
    obtain ⟨u, hu, ru⟩ := rv1.get (show xs[i]? = some xs[i] by simp [hi])
    obtain ⟨u', hu', ru'⟩ := rv2.get (show ys[i]? = some ys[i] by simp [hj])
    obtain ⟨o1, e1, c1, d1⟩ := id h1
    obtain ⟨o2, e2, c2, d2⟩ := id h2
    have D : ZipApart (n + 4) (n + 2) (n + 3) n (n + 1) a b := zipApart_new ha hb
    refine next_zip D (hands_tup (xs := its1.toArray) (x := u) (k := i) (by simpa using hu)) (hands_tup (xs := its2.toArray) (x := u') (k := i) (by simpa using hu')) hz hTI hTO ⟨h1, p1⟩ ⟨h2, p2⟩ ⟨_, e1⟩ ⟨_, e2⟩ fun h' jz jo j1 j2 ht kp => ?_
    refine ⟨_, rfl, wpAny_letOwnedTupleGo_zip jz fun h2' he2 sb => ?_⟩
    have sb : Heap.SameBut (n + 4) h' h2' := sb
    have lt : ∀ {c o}, s.heap.get? c = some o → s.heap.objs.size ≠ c := fun e => Nat.ne_of_gt (Heap.lt_size e)
    have I1 : Inv X pins σ H { s with heap := h2', toks := s.toks } := I.turns (ch := [n + 4, n + 2, n + 3, n, n + 1]) (fun c o hb eo => sb.extBut c o (fun z => hb (by simp [z])) (kp c o (fun z => hb (by simp [z])) (fun z => hb (by simp [z])) (fun z => hb (by simp [z])) (fun z => hb (by simp [z])) eo)) hf
    have hT2 : h2'.get? s.heap.objs.size = some { cls := .type "tuple", data := .seq #[u, u'] } := sb.extBut _ _ (lt hz) ht
    obtain ⟨g0, g1, _, _, g4, g5⟩ := I.fpOk (Nat.le_refl _) I.fresh
    have I2 := I1.track (a := s.heap.objs.size) (o := .tup [xs[i], ys[i]]) g0 (by
      cases q : X.s₀.heap.get? s.heap.objs.size with
      | none => rfl
      | some ob => exact absurd (Nat.lt_of_lt_of_le (Heap.lt_size q) I.sz) (Nat.lt_irrefl _)) g1 g4 g5 ⟨small1000 (by simp) |> Nat.le_of_lt, [u, u'], .cons ru (.cons ru' .nil), ⟨_, hT2, rfl, _, rfl⟩⟩
    refine ⟨.ref _, _, I2, rfl, ⟨xs[i], ys[i], _, (by simp [hi]), (by simp [hj]), rfl, g0, rfl⟩, ⟨he2, sb.extBut _ _ D.TIz (kp _ _ D.TIz D.TITO D.TIi1 D.TIi2 hTI), ⟨_, _, sb.extBut _ _ D.TOz jo⟩, j1.extBut sb.extBut D.i1z, j2.extBut sb.extBut D.i2z⟩, fun c hb => ?_⟩
    have nb : c ≠ s.heap.objs.size := by
      simp only [List.mem_cons, List.not_mem_nil, or_false] at hb
      rcases hb with rfl | rfl | rfl | rfl | rfl
      · exact (lt hz).symm
      · exact (lt hTI).symm
      · exact (lt hTO).symm
      · exact (lt e1).symm
      · exact (lt e2).symm
    rw [upd_ne nb]; exact (hf c hb).1
  done := by
    intro X hP hw hK hc i pins s σ H E I hf st hg
    subst hP hw hK
    obtain ⟨hz, hTI, ⟨u0, v0, hTO⟩, h1, h2⟩ := st
    obtain ⟨hi, hq1⟩ := hg
    obtain ⟨its1, rv1, p1, _⟩ := I.tuple hq1
    have D : ZipApart (n + 4) (n + 2) (n + 3) n (n + 1) a b := zipApart_new ha hb
    have l1 := rv1.length
    exact stop_zip (I.ok.hd hc) D hz hTI h1 p1 (by simp; omega) fun h' kp => ⟨rfl, I.turns (t' := s.toks) (ch := [n + 4, n + 2, n + 3, n, n + 1]) (fun c o hb eo => kp c o (fun z => hb (by simp [z])) (fun z => hb (by simp [z])) eo) hf⟩
  self := fun A i s Q E st h => wpAny_pyIter_zip st.1 h
section
variable {X : Cx} {K : PySem.W.Frag}
noncomputable def iZipT (K : PySem.W.Frag) (ta : TA) : TI := fun σ H R => ta σ H fun vs H1 => ∃ a b xs ys, vs = [V.ref a, V.ref b] ∧ SqT K H1 a xs ∧ SqT K H1 b ys ∧ R (ItY K a b xs ys) H1
theorem pi_zipT {elts : List Expr} {kk : Nat} {tpos : Pos} {a b : Expr} {ta : TA} {p pos : Pos} (hK : X.K = K) (hg : Gl X "zip") (hm : X.mg "zip" = none) (ha : PA X [a, b] ta) (hs : starEach [a, b] X.env = (false, eval a X.env) :: starEach [b] X.env := by rfl) (hs2 : starEach [b] X.env = [(false, eval b X.env)] := by rfl) : PI X (.Tuple elts kk tpos) (.Call (.Name "zip" p) [a, b] [] pos) (iZipT K ta) := by
  subst hK
  intro pins s σ H R I h
  refine Call_ (ld_blt I hg hm bt_zip (PyProof.Rows.callWith_type1 (thn (ha pos pins s σ H _ I h) fun us s1 ⟨vs, H1, I1, r1, q1⟩ => ?_) hs (by rw [hs2]; rfl)))
  obtain ⟨b1, b2, xs, ys, rfl, hq1, hq2, q⟩ := q1
  obtain ⟨u, u', rfl, ru, ru'⟩ := vals2 r1
  cases ru
  cases ru'
  obtain ⟨its1, rv1, p1, hz1⟩ := I1.tuple hq1
  obtain ⟨its2, rv2, p2, hz2⟩ := I1.tuple hq2
  refine call_zipT (xs := its1.toArray) (ys := its2.toArray) p1 p2 fun h' jz jt jo j1 j2 kp => wpAny_pyIter_zip jz ?_
  refine ⟨s1.heap.objs.size + 4, [s1.heap.objs.size + 4, s1.heap.objs.size + 2, s1.heap.objs.size + 3, s1.heap.objs.size, s1.heap.objs.size + 1], _, _, H1, rfl, I1.kept (t' := s1.toks) kp, turn_zipT b1 b2 s1.heap.objs.size xs ys p1.lt p2.lt, ⟨jz, jt, ⟨_, _, jo⟩, j1, j2⟩, fun c hc => ?_, q⟩
  simp only [List.mem_cons, List.not_mem_nil, or_false] at hc
  rcases hc with rfl | rfl | rfl | rfl | rfl <;> exact I1.fpOk (by omega) (I1.hok.fresh (by omega))
end
theorem block_zipT {K : PySem.W.Frag} {a b : Addr} {xs ys : List V} {g : TG} {tc : TT} {te : TE} {D : Addr} {Z : Hp → Prop} {σ : St} {H : Hp} (Pv : Nat → St → Hp → Prop) (hlen : xs.length = ys.length) (h0 : Pv 0 σ H) (hl : ∀ i σ H, i ≤ xs.length → Pv i σ H → SqT K H a xs ∧ SqT K H b ys)
    (hs : ∀ i v u T σ H, xs[i]? = some v → ys[i]? = some u → Pv i σ H → H T = none → g (.ref T) σ (upd H T (.tup [v, u])) fun σ2 H2 => tc σ2 H2 fun b H3 => if b = true then te σ2 H3 fun y H4 => ∃ ys, H4 D = some (.lst ys) ∧ ys.length < sizeLine ∧ Pv (i + 1) σ2 (upd H4 D (.lst (ys ++ [y]))) else Pv (i + 1) σ2 H3)
    (hd : ∀ σ H, Pv xs.length σ H → Z H) : tBlock (ItY K a b xs ys) g tc te D Z σ H := by
  refine ⟨fun i m σ H => m = xs.length - i ∧ i ≤ xs.length ∧ Pv i σ H, ⟨xs.length, by simp, Nat.zero_le _, h0⟩, ?_⟩
  rintro i m σ H ⟨rfl, hi, p⟩
  obtain ⟨q1, q2⟩ := hl i σ H hi p
  by_cases hlt : i < xs.length
  · refine .inr ⟨⟨hlt, by omega, q1, q2⟩, Pv (i + 1), fun σ' H' p' => ⟨xs.length - (i + 1), by omega, rfl, hlt, p'⟩, fun x H' y => ?_⟩
    obtain ⟨v, u, T, hv, hu, e1, hT, e2⟩ := y
    subst e1 e2
    exact hs i v u T σ H hv hu p hT
  · have e : i = xs.length := by omega
    subst e
    exact .inl ⟨⟨rfl, q1⟩, hd σ H p⟩
end L2
namespace T12
open PySem L2 Tc
noncomputable def top (i : Nat) : Stmt := PySem.Challenge.pw_tiercask_k12_whole_written_and_read.main.body.getD i (.Pass ⟨0, 0, 0, 0⟩)
structure Txt (K : PySem.W.Frag) (mg : Str → Option Value) : Prop where
  z_all : mg "all" = none
  z_bool : mg "bool" = none
  z_enumerate : mg "enumerate" = none
  z_int : mg "int" = none
  z_isinstance : mg "isinstance" = none
  z_len : mg "len" = none
  z_list : mg "list" = none
  z_range : mg "range" = none
  z_set : mg "set" = none
  z_str : mg "str" = none
  z_tuple : mg "tuple" = none
  z_zip : mg "zip" = none
  g_FIGURES : ∃ t, mg "FIGURES" = some (.str "0123456789" t)
  g_LETTERS : ∃ t, mg "LETTERS" = some (.str "abcdefghijklmnopqrstuvwxyz" t)
  g_MOST_FIGURES : ∃ t, mg "MOST_FIGURES" = some (.int 12 t)
  g_MOST_PLACES : ∃ t, mg "MOST_PLACES" = some (.int 8 t)
  g_MOST_ROWS : ∃ t, mg "MOST_ROWS" = some (.int 300 t)
  g_MOST_TIMES : ∃ t, mg "MOST_TIMES" = some (.int 60 t)
  g_MOST_WITHIN : ∃ t, mg "MOST_WITHIN" = some (.int 8 t)
noncomputable abbrev LT : Str := "abcdefghijklmnopqrstuvwxyz"
noncomputable def inL (c : Nat) : Bool := !(Builtin.Str.occurrences LT ⟨#[c]⟩ 0 LT.length 1).isEmpty
theorem inL_yes : ∀ c ∈ LT.cps.toList, inL c = true := by decide +kernel
noncomputable def nm (z : Str) : Bool := decide (1 ≤ z.length ∧ z.length ≤ 8) && z.cps.toList.all inL
noncomputable def spIsName : Sp := fun vs H Q _ => ∃ v n, vs = [v] ∧ tyS H v = some n ∧ (n ≠ "str" → Q (.bl false) H) ∧ (∀ z, v = .str z → z.length ≤ 100 ∧ ∀ H', Same H H' → Q (.bl (nm z)) H')
noncomputable def spDigits : Sp := fun vs H Q _ => ∃ n m : Int, vs = [.int n, .int m, .int 26] ∧ 0 ≤ m ∧ m ≤ 10 ∧ ∀ (a : Addr) H' (ds : List Int), Same H H' → H' a = some (.lst (ds.map V.int)) → (ds.length : Int) = m → (∀ d ∈ ds, 0 ≤ d ∧ d < 26) → Q (.ref a) H'
theorem str_of {H : Hp} {v : V} (h : tyS H v = some "str") : ∃ z, v = .str z := by
  cases v with
  | str z => exact ⟨z, rfl⟩
  | ref a =>
    have h : tyH (H a) = some "str" := h
    rcases tyH_cases h with ⟨e, _⟩ | ⟨e, _⟩ | ⟨e, _⟩ <;> exact absurd e (by decide)
  | non => exact absurd h (by simp [tyS])
  | bl b => exact absurd h (by simp [tyS])
  | int x => exact absurd h (by simp [tyS])
  | byt x => exact absurd h (by simp [tyS])
  | flt x => exact absurd h (by simp [tyS])
  | ty x => exact absurd h (by simp [tyS])
theorem sub_str {n : String} (h : n ≠ "str") : subS n "str" = false := by
  simp [subS, h]
noncomputable abbrev one1 (c : Nat) : Str := ⟨#[c]⟩
theorem join_cs : ∀ cs : List Nat, Txt.join "" (cs.map one1) = ⟨cs.toArray⟩ := by
  intro cs
  rw [eq_of_beq (PyProof.Rows.join_plain_closes _ _)]
  have e : (Str.ofString "") = ⟨#[]⟩ := by decide +kernel
  show Str.join (Str.ofString "") _ = _
  rw [e]
  induction cs with
  | nil => rfl
  | cons c cs ih =>
    rw [List.map_cons, PyProof.Rows.join_nil_cons, ih]
    show (⟨#[c] ++ cs.toArray⟩ : Str) = _
    simp
theorem sum_ones (cs : List Nat) : ((cs.map one1).map (·.length)).sum = cs.length := by
  induction cs with
  | nil => rfl
  | cons c cs ih =>
    rw [List.map_cons, List.map_cons, List.sum_cons, ih, List.length_cons]
    show 1 + _ = _
    omega
theorem nm_cs {cs : List Nat} (h : ∀ c ∈ cs, c ∈ LT.cps.toList) : nm ⟨cs.toArray⟩ = decide (1 ≤ cs.length ∧ cs.length ≤ 8) := by
  unfold nm
  have e : (⟨cs.toArray⟩ : Str).cps.toList.all inL = true := by
    rw [List.all_eq_true]
    intro c hc
    exact inL_yes c (h c (by simpa using hc))
  rw [e, Bool.and_true]
  rfl
theorem ty_of {H : Hp} {p : Addr} {o : HO} {m : String} (h : H p = some o) (e : tyH (some o) = some m) : tyS H (.ref p) = some m := by
  show tyH (H p) = _
  rw [h]; exact e
theorem pow10_30 : (10 : Int) ^ (30 : Int).toNat = 1000000000000000000000000000000 := by decide
noncomputable def figs (n : Int) : Str := Str.ofString (toString n)
noncomputable def numTxt (x y : Int) : Str := if y = 1 then figs x else figs x ++ "/" ++ figs y
theorem log_small {n : Int} (h0 : 0 ≤ n) (h1 : n < 10 ^ 12) : n.natAbs.log2 < 1920 := by
  have h : n.natAbs < 2 ^ 1920 := Nat.lt_of_lt_of_le (show n.natAbs < 10 ^ 12 by omega) (by decide)
  by_cases z : n.natAbs = 0
  · rw [z]; decide
  · exact (Nat.log2_lt z).mpr h
theorem slash_len : (Str.ofString "/").length = 1 := by decide
theorem figs_len {n : Int} (h0 : 0 ≤ n) (h1 : n < 10 ^ 12) : (figs n).length ≤ 12 := PyProof.Rows.toString_length_le h0 (by decide) h1
noncomputable def spShown (K : PySem.W.Frag) : Sp := fun vs H Q _ => ∃ (a : Addr) (x y : Int), vs = [.ref a] ∧ SqT K H a [.int x, .int y] ∧ 0 ≤ x ∧ x < 10 ^ 12 ∧ 0 < y ∧ y < 10 ^ 12 ∧ Q (.str (numTxt x y)) H
theorem figs_signs (m : Nat) : (figs (m : Int)).cps.toList = (Nat.toDigits 10 m).map Char.toNat := PySem.W.KIN.signs_num m
theorem dig_range {m c : Nat} (h : c ∈ (Nat.toDigits 10 m).map Char.toNat) : 48 ≤ c ∧ c ≤ 57 := by
  obtain ⟨ch, hch, rfl⟩ := List.mem_map.mp h
  exact PyProof.Rows.digit_range (Nat.isDigit_of_mem_toDigits (by decide) (by decide) hch)
theorem dig_head : ∀ m : Nat, 0 < m → ((Nat.toDigits 10 m).map Char.toNat).head? ≠ some 48 := by
  intro m
  induction m using Nat.strongRecOn with
  | _ m ih =>
    intro h0
    by_cases h : m < 10
    · rw [Nat.toDigits_of_lt_base h]
      have z : ∀ d : Nat, d < 10 → 0 < d → ¬ (Nat.digitChar d).toNat = 48 := by decide
      intro e
      exact z m h h0 (Option.some.inj e)
    · have hm : m % 10 < 10 := Nat.mod_lt m (by decide)
      have t : Nat.toDigits 10 (m / 10) ++ Nat.toDigits 10 (m % 10) = Nat.toDigits 10 (10 * (m / 10) + m % 10) := Nat.toDigits_append_toDigits (by decide) (by omega) hm
      rw [Nat.div_add_mod] at t
      rw [← t, List.map_append]
      have h1 := ih (m / 10) (by omega) (by omega)
      cases q : (Nat.toDigits 10 (m / 10)).map Char.toNat with
      | nil => exact absurd (List.map_eq_nil_iff.mp q) Nat.toDigits_ne_nil
      | cons c cs =>
        rw [q] at h1
        exact h1
theorem figs_pos (m : Nat) : 1 ≤ (figs (m : Int)).length := by
  have e : (figs (m : Int)).cps.toList.length = (figs (m : Int)).length := Array.length_toList
  rw [figs_signs, List.length_map] at e
  cases q : Nat.toDigits 10 m with
  | nil => exact absurd q Nat.toDigits_ne_nil
  | cons c cs => rw [q, List.length_cons] at e; omega
noncomputable abbrev FG : Str := "0123456789"
noncomputable def inF (c : Nat) : Bool := !(Builtin.Str.occurrences FG ⟨#[c]⟩ 0 FG.length 1).isEmpty
theorem inF_all : ∀ c ∈ [48, 49, 50, 51, 52, 53, 54, 55, 56, 57], inF c = true := by decide +kernel
theorem inF_yes {c : Nat} (h0 : 48 ≤ c) (h1 : c ≤ 57) : inF c = true := by
  refine inF_all c ?_
  have : c = 48 ∨ c = 49 ∨ c = 50 ∨ c = 51 ∨ c = 52 ∨ c = 53 ∨ c = 54 ∨ c = 55 ∨ c = 56 ∨ c = 57 := by omega
  simpa using this
theorem figs_in (m : Nat) : ((figs (m : Int)).cps.toList.map inF).all id = true := by
  rw [figs_signs, List.all_eq_true]
  intro b hb
  obtain ⟨c, hc, rfl⟩ := List.mem_map.mp hb
  obtain ⟨h0, h1⟩ := dig_range hc
  exact inF_yes h0 h1
noncomputable def spWholeR : Sp := fun vs H Q _ => ∃ n : Int, vs = [.str (figs n)] ∧ 0 ≤ n ∧ n < 10 ^ 12 ∧ ∀ H', Same H H' → Q (.int n) H'
noncomputable def spFrT (K : PySem.W.Frag) : Sp := fun vs H Q _ => ∃ (a : Addr) (x y : Int), vs = [.ref a] ∧ H a = some (.tup [.int x, .int y]) ∧ 0 < y ∧ Int.gcd x y = 1 ∧ Q (.bl true) H
theorem slash_eq : Str.ofString "/" = ⟨#[47]⟩ := by decide +kernel
theorem figs_free (m c : Nat) (h : c < 48 ∨ 57 < c) : c ∉ (figs (m : Int)).cps.toList := by
  rw [figs_signs]
  intro z
  have := dig_range z
  omega
theorem num_split {x y : Int} (hx : 0 ≤ x) (hy : 0 < y) : Txt.split (numTxt x y) (Str.ofString "/") = if y = 1 then [figs x] else [figs x, figs y] := by
  obtain ⟨m, rfl⟩ := Int.eq_ofNat_of_zero_le hx
  obtain ⟨n, rfl⟩ := Int.eq_ofNat_of_zero_le (show 0 ≤ y by omega)
  have fm := figs_free m 47 (.inl (by decide))
  have fn := figs_free n 47 (.inl (by decide))
  unfold numTxt
  rw [slash_eq]
  split
  · exact split_join (ys := [figs (m : Int)]) (List.cons_ne_nil _ _) (by simpa using fm)
  · exact split_join (ys := [figs (m : Int), figs (n : Int)]) (List.cons_ne_nil _ _) (by intro z hz; rcases List.mem_cons.mp hz with rfl | hz; exact fm; have := List.mem_singleton.mp hz; subst this; exact fn)
theorem num_len {x y : Int} (hx0 : 0 ≤ x) (hx : x < 10 ^ 12) (hy0 : 0 < y) (hy : y < 10 ^ 12) : (numTxt x y).length ≤ 25 := by
  have l1 := figs_len hx0 hx
  have l2 := figs_len (by omega) hy
  have ld := slash_len
  unfold numTxt
  split
  · omega
  · rw [strLen_append, strLen_append]; omega
noncomputable def spNumR (K : PySem.W.Frag) : Sp := fun vs H Q _ => ∃ x y : Int, vs = [.str (numTxt x y)] ∧ 0 ≤ x ∧ x < 10 ^ 12 ∧ 0 < y ∧ y < 10 ^ 12 ∧ Int.gcd x y = 1 ∧ ∀ p H', Same H H' → H' p = some (.tup [.int x, .int y]) → Q (.ref p) H'
noncomputable def spAmR (K : PySem.W.Frag) : Sp := fun vs H Q _ => ∃ x y : Int, vs = [.str (numTxt x y)] ∧ 0 < x ∧ x < 10 ^ 12 ∧ 0 < y ∧ y < 10 ^ 12 ∧ Int.gcd x y = 1 ∧ ∀ p H', Same H H' → H' p = some (.tup [.int x, .int y]) → Q (.ref p) H'
noncomputable def spShR (K : PySem.W.Frag) : Sp := fun vs H Q _ => ∃ x y : Int, vs = [.str (numTxt x y)] ∧ 0 ≤ x ∧ x ≤ y ∧ 0 < y ∧ y < 10 ^ 12 ∧ Int.gcd x y = 1 ∧ ∀ p H', Same H H' → H' p = some (.tup [.int x, .int y]) → Q (.ref p) H'
noncomputable def spCheck (K : PySem.W.Frag) : Sp := fun vs H Q _ => ∃ (a : Addr) (zs : List Str) (l : Int), vs = [.ref a, .int l] ∧ SqL K H a (zs.map V.str) ∧ l ≤ zs.length ∧ zs.length ≤ 100 ∧ (∀ z ∈ zs, nm z = true) ∧ ∀ H', Same H H' → Q .non H'
theorem nm_short {z : Str} (h : nm z = true) : z.length ≤ 8 := by
  unfold nm at h
  rw [Bool.and_eq_true] at h
  exact (of_decide_eq_true h.1).2
noncomputable def spMeas (K : PySem.W.Frag) : Sp := fun vs H Q _ => ∃ (a p : Addr) (u x y z : Str), vs = [.ref a, .ref p] ∧ SqL K H a [.str u, .str x, .str y, .str z] ∧ nm x = true ∧ nm y = true ∧ ∀ q H', Same H H' → H' q = some (.tup [.str u, .str x, .str y, .ref p]) → Q (.ref q) H'
inductive Pd where
  | year | dor (x : Str) (ps : List Str) | two (u x y : Str) | mea (u x y : Str) (n d : Int)
noncomputable def Pd.words : Pd → List Str
  | .year => [Str.ofString "year"]
  | .dor x ps => Str.ofString "do" :: x :: ps
  | .two u x y => [u, x, y]
  | .mea u x y n d => [u, x, y, numTxt n d]
noncomputable def Pd.Ok : Pd → Prop
  | .year => True
  | .dor x ps => nm x = true ∧ 1 ≤ ps.length ∧ ps.length ≤ 8 ∧ ∀ p ∈ ps, nm p = true
  | .two u x y => (u = Str.ofString "all" ∨ u = Str.ofString "fill") ∧ nm x = true ∧ nm y = true
  | .mea u x y n d => ((u = Str.ofString "bring" ∨ u = Str.ofString "move") ∧ 0 < n ∨ u = Str.ofString "part" ∧ n ≤ d) ∧ nm x = true ∧ nm y = true ∧ 0 ≤ n ∧ n < 10 ^ 12 ∧ 0 < d ∧ d < 10 ^ 12 ∧ Int.gcd n d = 1
noncomputable def PdV (H : Hp) (v : V) : Pd → Prop
  | .year => ∃ a, v = .ref a ∧ H a = some (.tup [.str (Str.ofString "year")])
  | .dor x ps => ∃ a b, v = .ref a ∧ H a = some (.tup [.str (Str.ofString "do"), .str x, .ref b]) ∧ H b = some (.tup (ps.map V.str))
  | .two u x y => ∃ a, v = .ref a ∧ H a = some (.tup [.str u, .str x, .str y])
  | .mea u x y n d => ∃ a b, v = .ref a ∧ H a = some (.tup [.str u, .str x, .str y, .ref b]) ∧ H b = some (.tup [.int n, .int d])
noncomputable def spRowOf (K : PySem.W.Frag) : Sp := fun vs H Q _ => ∃ (v : V) (p : Pd), vs = [v] ∧ PdV H v p ∧ p.Ok ∧ ∀ H', Same H H' → Q (.str (Txt.join (Str.ofString " ") p.words)) H'
theorem join_room {ws : List Str} (h : ∀ w ∈ ws, w.length ≤ 25) (hl : ws.length ≤ 10) : (ws.map (·.length)).sum + ws.length * (Str.ofString " ").length ≤ 16777216 := by
  have e : (Str.ofString " ").length = 1 := by decide
  have : ∀ ws : List Str, (∀ w ∈ ws, w.length ≤ 25) → (ws.map (·.length)).sum ≤ 25 * ws.length := by
    intro ws
    induction ws with
    | nil => intro _; exact Nat.le_refl _
    | cons a r ih =>
      intro h
      have h1 := h a (.head _)
      have h2 := ih fun w hw => h w (.tail _ hw)
      rw [List.map_cons, List.sum_cons, List.length_cons]
      omega
  have := this ws h
  rw [e]
  omega
theorem Pd.room {d : Pd} (h : d.Ok) : (∀ w ∈ d.words, w.length ≤ 25) ∧ d.words.length ≤ 10 := by
  cases d with
  | year => exact ⟨by decide, by decide⟩
  | dor x ps =>
    obtain ⟨h1, h2, h3, h4⟩ := h
    refine ⟨fun w hw => ?_, by show ps.length + 1 + 1 ≤ 10; omega⟩
    rcases List.mem_cons.mp hw with rfl | hw
    · decide
    rcases List.mem_cons.mp hw with rfl | hw
    · have := nm_short h1; omega
    · have := nm_short (h4 w hw); omega
  | two u x y =>
    obtain ⟨h1, h2, h3⟩ := h
    have a := nm_short h2
    have b := nm_short h3
    refine ⟨fun w hw => ?_, by show 3 ≤ 10; decide⟩
    simp only [Pd.words, List.mem_cons, List.not_mem_nil, or_false] at hw
    rcases hw with rfl | rfl | rfl
    · rcases h1 with rfl | rfl <;> decide
    · omega
    · omega
  | mea u x y n d =>
    obtain ⟨h1, h2, h3, h4, h5, h6, h7, _⟩ := h
    have a := nm_short h2
    have b := nm_short h3
    have c := num_len h4 h5 h6 h7
    refine ⟨fun w hw => ?_, by show 4 ≤ 10; decide⟩
    simp only [Pd.words, List.mem_cons, List.not_mem_nil, or_false] at hw
    rcases hw with rfl | rfl | rfl | rfl
    · rcases h1 with ⟨rfl | rfl, _⟩ | ⟨rfl, _⟩ <;> decide
    · omega
    · omega
    · exact c
noncomputable def Wd (z : Str) : Prop := ∀ c ∈ z.cps.toList, 47 ≤ c ∧ c < 123
theorem lt_wd : ∀ c ∈ LT.cps.toList, 47 ≤ c ∧ c < 123 := by decide +kernel
theorem nm_wd {z : Str} (h : nm z = true) : Wd z := by
  unfold nm at h
  rw [Bool.and_eq_true] at h
  intro c hc
  have h1 := List.all_eq_true.mp h.2 c hc
  have h2 : inL c = decide (c ∈ LT.cps.toList) := PySem.StrLaws.found_one LT c
  rw [h2] at h1
  exact lt_wd c (of_decide_eq_true h1)
theorem figs_wd {n : Int} (h : 0 ≤ n) : Wd (figs n) := by
  obtain ⟨m, rfl⟩ := Int.eq_ofNat_of_zero_le h
  intro c hc
  rw [figs_signs] at hc
  have := dig_range hc
  omega
theorem num_wd {x y : Int} (hx : 0 ≤ x) (hy : 0 < y) : Wd (numTxt x y) := by
  unfold numTxt
  split
  · exact figs_wd hx
  · intro c hc
    rw [slash_eq, cps_sep, List.mem_append, List.mem_cons] at hc
    rcases hc with h | h | h
    · exact figs_wd hx c h
    · omega
    · exact figs_wd (by omega) c h
theorem wd_lay {z : Str} (h : Wd z) : (PyData.str z).canLay0 = true := by
  simp only [PyData.canLay0, PyData.strOk]
  rw [Array.all_eq_true]
  intro i hi
  have := h z.cps[i] (Array.mem_toList_iff.mpr (Array.getElem_mem hi))
  exact decide_eq_true (by omega)
theorem rep_words {K : PySem.W.Frag} {H : Hp} : ∀ {L : List Str}, (∀ z ∈ L, Wd z) → RepDs K H (L.map PyData.str) (L.map V.str)
  | [], _ => by simp [RepDs]
  | z :: L, h => by
    have r := rep_words (K := K) (H := H) fun y hy => h y (List.mem_cons_of_mem z hy)
    simp only [List.map_cons, RepDs, RepD]
    exact ⟨_, _, rfl, ⟨rfl, wd_lay (h z List.mem_cons_self)⟩, r⟩
theorem dep_words : ∀ l : List Str, PyData.depthAll (l.map PyData.str) ≤ 10
  | [] => by simp [PyData.depthAll]
  | a :: l => by
    have := dep_words l
    simp only [List.map_cons, PyData.depthAll, PyData.depth]
    omega
theorem eqv_words (zs : List Str) (y : Str) : PyData.eqv (.list (zs.map PyData.str)) (.list [.str y]) = decide (zs = [y]) := by
  match zs with
  | [] => simp [PyData.eqv, PyData.eqvAll]
  | [z] =>
    by_cases h : z = y
    · subst h; simp [PyData.eqv, PyData.eqvAll]
    · simp [PyData.eqv, PyData.eqvAll, h]
  | z :: x :: r => simp [PyData.eqv, PyData.eqvAll]
theorem words_eq {K : PySem.W.Frag} {H : Hp} {a b : Addr} {zs : List Str} {y : Str} {Q : VK} (ha : SqL K H a (zs.map V.str)) (hb : H b = some (.lst [.str y])) (hz : ∀ z ∈ zs, Wd z) (hy : Wd y) (h : Q (.bl (decide (zs = [y]))) H) : rEqD K (.ref a) (.ref b) H Q := by
  refine ⟨.list (zs.map PyData.str), .list [.str y], ?_, ?_, ?_, ?_⟩
  · simp only [RepD]; exact ⟨a, _, rfl, ha, rep_words hz⟩
  · simp only [RepD, RepDs]; exact ⟨b, _, rfl, SqL.of hb, _, _, rfl, ⟨rfl, wd_lay hy⟩, rfl⟩
  · have := dep_words zs
    simp only [PyData.depth]; omega
  · rw [eqv_words]; exact h
theorem join_mem {c x : Nat} : ∀ {ws : List Str}, x ∈ (Str.join ⟨#[c]⟩ ws).cps.toList → x = c ∨ ∃ w ∈ ws, x ∈ w.cps.toList
  | [], h => by
    have h : x ∈ ([] : List Nat) := h
    cases h
  | [w], h => .inr ⟨w, .head _, h⟩
  | w :: w2 :: r, h => by
    have h : x ∈ (w ++ ⟨#[c]⟩ ++ Str.join ⟨#[c]⟩ (w2 :: r)).cps.toList := h
    rw [cps_sep, List.mem_append, List.mem_cons] at h
    rcases h with h | h | h
    · exact .inr ⟨w, .head _, h⟩
    · exact .inl h
    · rcases join_mem h with h | ⟨u, hu, h⟩
      · exact .inl h
      · exact .inr ⟨u, .tail _ hu, h⟩
theorem join_len {c m : Nat} : ∀ {ws : List Str}, (∀ w ∈ ws, w.length ≤ m) → (Str.join ⟨#[c]⟩ ws).length ≤ (m + 1) * ws.length
  | [], _ => Nat.zero_le _
  | [w], h => by
    have h : w.length ≤ m := h w (.head _)
    show w.length ≤ (m + 1) * 1
    omega
  | w :: w2 :: r, h => by
    have ih := join_len (c := c) (m := m) (ws := w2 :: r) fun u hu => h u (.tail _ hu)
    have h : w.length ≤ m := h w (.head _)
    show (w ++ ⟨#[c]⟩ ++ Str.join ⟨#[c]⟩ (w2 :: r)).length ≤ _
    rw [strLen_append, strLen_append, List.length_cons, Nat.mul_succ]
    have e : (⟨#[c]⟩ : Str).length = 1 := rfl
    omega
theorem sum_len {m : Nat} : ∀ {ws : List Str}, (∀ w ∈ ws, w.length ≤ m) → (ws.map (·.length)).sum ≤ m * ws.length
  | [], _ => Nat.zero_le _
  | w :: r, h => by
    have ih := sum_len (m := m) (ws := r) fun u hu => h u (.tail _ hu)
    have h : w.length ≤ m := h w (.head _)
    rw [List.map_cons, List.sum_cons, List.length_cons, Nat.mul_succ]
    omega
theorem sp_eq : Str.ofString " " = ⟨#[32]⟩ := by decide +kernel
theorem nl_eq : Str.ofString "\n" = ⟨#[10]⟩ := by decide +kernel
theorem tj (z : Str) (ys : List Str) : Txt.join z ys = Str.join z ys := eq_of_beq (PyProof.Rows.join_plain_closes _ _)
inductive Tk where
  | pl (p : Pd) | op (n : Int) | cl | rl (x : Str) (ps : List Str)
noncomputable def Tk.words : Tk → List Str
  | .pl p => p.words
  | .op n => [Str.ofString "times", figs n]
  | .cl => [Str.ofString "end"]
  | .rl x ps => Str.ofString "rule" :: x :: ps
noncomputable def Tk.Ok : Tk → Prop
  | .pl p => p.Ok
  | .op n => 0 ≤ n ∧ n ≤ 60
  | .cl => True
  | .rl x ps => nm x = true ∧ 1 ≤ ps.length ∧ ps.length ≤ 8 ∧ ∀ p ∈ ps, nm p = true
noncomputable def Tk.row (t : Tk) : Str := Txt.join (Str.ofString " ") t.words
theorem wd_const : ∀ z ∈ ([Str.ofString "year", Str.ofString "do", Str.ofString "all", Str.ofString "fill", Str.ofString "bring", Str.ofString "move", Str.ofString "part", Str.ofString "times", Str.ofString "end", Str.ofString "rule"] : List Str), ∀ c ∈ z.cps.toList, 47 ≤ c ∧ c < 123 := by decide +kernel
theorem Pd.wd {p : Pd} (ok : p.Ok) : ∀ w ∈ p.words, Wd w := by
  cases p with
  | year => intro w hw; rw [List.mem_singleton.mp hw]; exact wd_const _ (by simp)
  | dor x ps =>
    intro w hw
    rcases List.mem_cons.mp hw with rfl | hw
    · exact wd_const _ (by simp)
    rcases List.mem_cons.mp hw with rfl | hw
    · exact nm_wd ok.1
    · exact nm_wd (ok.2.2.2 w hw)
  | two u x y =>
    intro w hw
    simp only [Pd.words, List.mem_cons, List.not_mem_nil, or_false] at hw
    rcases hw with rfl | rfl | rfl
    · rcases ok.1 with rfl | rfl <;> exact wd_const _ (by simp)
    · exact nm_wd ok.2.1
    · exact nm_wd ok.2.2
  | mea u x y n d =>
    obtain ⟨h1, h2, h3, h4, _, h6, _⟩ := ok
    intro w hw
    simp only [Pd.words, List.mem_cons, List.not_mem_nil, or_false] at hw
    rcases hw with rfl | rfl | rfl | rfl
    · rcases h1 with ⟨rfl | rfl, _⟩ | ⟨rfl, _⟩ <;> exact wd_const _ (by simp)
    · exact nm_wd h2
    · exact nm_wd h3
    · exact num_wd h4 h6
theorem Tk.wd {t : Tk} (ok : t.Ok) : ∀ w ∈ t.words, Wd w := by
  cases t with
  | pl p => exact Pd.wd ok
  | op n =>
    intro w hw
    simp only [Tk.words, List.mem_cons, List.not_mem_nil, or_false] at hw
    rcases hw with rfl | rfl
    · exact wd_const _ (by simp)
    · exact figs_wd ok.1
  | cl => intro w hw; rw [List.mem_singleton.mp hw]; exact wd_const _ (by simp)
  | rl x ps =>
    intro w hw
    rcases List.mem_cons.mp hw with rfl | hw
    · exact wd_const _ (by simp)
    rcases List.mem_cons.mp hw with rfl | hw
    · exact nm_wd ok.1
    · exact nm_wd (ok.2.2.2 w hw)
theorem Tk.room {t : Tk} (ok : t.Ok) : (∀ w ∈ t.words, w.length ≤ 25) ∧ t.words.length ≤ 10 := by
  cases t with
  | pl p => exact Pd.room ok
  | op n =>
    refine ⟨fun w hw => ?_, by show 2 ≤ 10; decide⟩
    simp only [Tk.words, List.mem_cons, List.not_mem_nil, or_false] at hw
    rcases hw with rfl | rfl
    · decide
    · have := figs_len ok.1 (show n < 10 ^ 12 by have := ok.2; omega)
      omega
  | cl => exact ⟨by decide, by decide⟩
  | rl x ps =>
    obtain ⟨h1, h2, h3, h4⟩ := ok
    refine ⟨fun w hw => ?_, by show ps.length + 1 + 1 ≤ 10; omega⟩
    rcases List.mem_cons.mp hw with rfl | hw
    · decide
    rcases List.mem_cons.mp hw with rfl | hw
    · have := nm_short h1; omega
    · have := nm_short (h4 w hw); omega
theorem Tk.ne {t : Tk} : t.words ≠ [] := by
  cases t with
  | pl p => cases p <;> exact List.cons_ne_nil _ _
  | _ => exact List.cons_ne_nil _ _
theorem row_len {t : Tk} (ok : t.Ok) : t.row.length ≤ 260 := by
  obtain ⟨h1, h2⟩ := Tk.room ok
  have := join_len (c := 32) h1
  unfold Tk.row
  rw [tj, sp_eq]
  omega
theorem row_split {t : Tk} (ok : t.Ok) : Txt.split t.row (Str.ofString " ") = t.words := by
  unfold Tk.row
  rw [tj, sp_eq]
  refine split_join Tk.ne fun y hy z => ?_
  have := Tk.wd ok y hy 32 z
  omega
theorem rows_split {ts : List Tk} (h : ts ≠ []) (ok : ∀ t ∈ ts, t.Ok) : Txt.split (Txt.join (Str.ofString "\n") (ts.map Tk.row)) (Str.ofString "\n") = ts.map Tk.row := by
  rw [tj, nl_eq]
  refine split_join (by simpa using h) fun y hy z => ?_
  obtain ⟨t, ht, rfl⟩ := List.mem_map.mp hy
  unfold Tk.row at z
  rw [tj, sp_eq] at z
  rcases join_mem z with z | ⟨w, hw, z⟩
  · cases z
  · have := Tk.wd (ok t ht) w hw 10 z
    omega
theorem rows_len {ts : List Tk} (ok : ∀ t ∈ ts, t.Ok) (hl : ts.length ≤ 300) : (Txt.join (Str.ofString "\n") (ts.map Tk.row)).length + 2 ≤ 16777216 ∧ ((ts.map Tk.row).map (·.length)).sum + (ts.map Tk.row).length * (Str.ofString "\n").length ≤ 16777216 := by
  have h : ∀ w ∈ ts.map Tk.row, w.length ≤ 260 := fun w hw => by
    obtain ⟨t, ht, rfl⟩ := List.mem_map.mp hw
    exact row_len (ok t ht)
  have h1 := join_len (c := 10) h
  have h2 := sum_len h
  rw [tj, nl_eq]
  have e : (⟨#[10]⟩ : Str).length = 1 := rfl
  rw [List.length_map] at h1 h2 ⊢
  rw [e]
  omega
theorem rows_ne {ts : List Tk} (h : ts ≠ []) (ok : ∀ t ∈ ts, t.Ok) : Txt.join (Str.ofString "\n") (ts.map Tk.row) ≠ Str.ofString "" := by
  intro e
  have h1 := rows_split h ok
  rw [e] at h1
  have e1 : Txt.split (Str.ofString "") (Str.ofString "\n") = [Str.ofString ""] := by decide +kernel
  have e2 : Txt.split (Str.ofString "") (Str.ofString " ") = [Str.ofString ""] := by decide +kernel
  rw [e1] at h1
  match ts, h, h1 with
  | [t], _, h1 =>
    have h2 := row_split (ok t (.head _))
    have h3 : Str.ofString "" = t.row := (List.cons.inj h1).1
    rw [← h3, e2] at h2
    cases t with
    | pl p =>
      cases p with
      | year => exact absurd h2 (by decide +kernel)
      | _ => exact absurd (congrArg List.length h2) (by simp [Tk.words, Pd.words])
    | cl => exact absurd h2 (by decide +kernel)
    | _ => exact absurd (congrArg List.length h2) (by simp [Tk.words])
  | _ :: _ :: _, _, h1 => exact absurd (congrArg List.length h1) (by simp)
noncomputable def go : List Tk → Nat → Nat → Prop
  | [], d, e => d = e
  | .pl p :: r, d, e => p.Ok ∧ go r d e
  | .op n :: r, d, e => 0 < d ∧ 0 ≤ n ∧ n ≤ 60 ∧ go r (d - 1) e
  | .cl :: r, d, e => d < 8 ∧ go r (d + 1) e
  | .rl _ _ :: _, _, _ => False
theorem go_app : ∀ {a b : List Tk} {d e f : Nat}, go a d e → go b e f → go (a ++ b) d f
  | [], _, _, _, _, h, g => by have h : _ = _ := h; subst h; exact g
  | .pl _ :: _, _, _, _, _, h, g => ⟨h.1, go_app h.2 g⟩
  | .op _ :: _, _, _, _, _, h, g => ⟨h.1, h.2.1, h.2.2.1, go_app h.2.2.2 g⟩
  | .cl :: _, _, _, _, _, h, g => ⟨h.1, go_app h.2 g⟩
  | .rl _ _ :: _, _, _, _, _, h, _ => False.elim h
theorem go_ok : ∀ {a : List Tk} {d e : Nat}, go a d e → ∀ t ∈ a, t.Ok
  | [], _, _, _, _, z => nomatch z
  | .pl _ :: _, _, _, h, t, ht => by
    rcases List.mem_cons.mp ht with rfl | ht
    · exact h.1
    · exact go_ok h.2 t ht
  | .op _ :: _, _, _, h, t, ht => by
    rcases List.mem_cons.mp ht with rfl | ht
    · exact ⟨h.2.1, h.2.2.1⟩
    · exact go_ok h.2.2.2 t ht
  | .cl :: _, _, _, h, t, ht => by
    rcases List.mem_cons.mp ht with rfl | ht
    · exact trivial
    · exact go_ok h.2 t ht
  | .rl _ _ :: _, _, _, h, _, _ => False.elim h
noncomputable def TSame (H H' : Hp) : Prop := ∀ a xs, H a = some (.tup xs) → H' a = some (.tup xs)
theorem _root_.L2.Same.ts {H H' : Hp} (s : Same H H') : TSame H H' := fun a _ h => s a _ h
theorem TSame.updL {H : Hp} {L : Addr} {vs : List V} {o : HO} (h : H L = some (.lst vs)) : TSame H (upd H L o) := fun a xs e => by
  have ne : a ≠ L := by rintro rfl; rw [h] at e; cases e
  rw [upd_ne ne]; exact e
theorem PdV.ts {H H' : Hp} {v : V} (s : TSame H H') : ∀ {p : Pd}, PdV H v p → PdV H' v p
  | .year, ⟨a, e, h⟩ => ⟨a, e, s _ _ h⟩
  | .dor _ _, ⟨a, b, e, h, h2⟩ => ⟨a, b, e, s _ _ h, s _ _ h2⟩
  | .two _ _ _, ⟨a, e, h⟩ => ⟨a, e, s _ _ h⟩
  | .mea _ _ _ _ _, ⟨a, b, e, h, h2⟩ => ⟨a, b, e, s _ _ h, s _ _ h2⟩
inductive Rp (H : Hp) : Nat → List V → List Tk → Prop where
  | nil {d : Nat} : Rp H d [] []
  | pl {d : Nat} {v : V} {p : Pd} {vs : List V} {ts : List Tk} : PdV H v p → p.Ok → Rp H d vs ts → Rp H d (v :: vs) (.pl p :: ts)
  | tm {d : Nat} {a b : Addr} {n : Int} {us vs : List V} {t1 ts : List Tk} : H a = some (.tup [.str (Str.ofString "times"), .int n, .ref b]) → H b = some (.tup us) → 0 ≤ n → n ≤ 60 → Rp H d us t1 → Rp H (d + 1) vs ts → Rp H (d + 1) (.ref a :: vs) (.op n :: (t1 ++ .cl :: ts))
theorem Rp.ts {H H' : Hp} (s : TSame H H') {d : Nat} {vs : List V} {ts : List Tk} (h : Rp H d vs ts) : Rp H' d vs ts := by
  induction h with
  | nil => exact .nil
  | pl a b _ ih => exact .pl (a.ts s) b ih
  | tm a b c e _ _ ih1 ih2 => exact .tm (s _ _ a) (s _ _ b) c e ih1 ih2
theorem Rp.app {H : Hp} {d : Nat} {vs us : List V} {ts t2 : List Tk} (h : Rp H d vs ts) (g : Rp H d us t2) : Rp H d (vs ++ us) (ts ++ t2) := by
  induction h with
  | nil => exact g
  | pl a b _ ih => exact .pl a b (ih g)
  | @tm d a b n us' vs' t1 ts' ha hb h0 h1 r1 _ _ ih2 =>
    have e : Tk.op n :: (t1 ++ Tk.cl :: ts') ++ t2 = Tk.op n :: (t1 ++ Tk.cl :: (ts' ++ t2)) := by simp
    rw [e]
    exact .tm ha hb h0 h1 r1 (ih2 g)
theorem Rp.len {H : Hp} {d : Nat} {vs : List V} {ts : List Tk} (h : Rp H d vs ts) : vs.length ≤ ts.length := by
  induction h with
  | nil => exact Nat.le_refl _
  | pl _ _ _ ih => exact Nat.succ_le_succ ih
  | tm _ _ _ _ _ _ _ ih =>
    simp only [List.length_cons, List.length_append]
    omega
theorem Rp.go {H : Hp} {d : Nat} {vs : List V} {ts : List Tk} (h : Rp H d vs ts) : d ≤ 8 → go ts d d := by
  induction h with
  | nil => intro _; rfl
  | pl _ b _ ih => intro hd; exact ⟨b, ih hd⟩
  | tm _ _ h0 h1 _ _ ih1 ih2 =>
    intro hd
    exact ⟨Nat.succ_pos _, h0, h1, go_app (ih1 (by omega)) ⟨by omega, ih2 hd⟩⟩
inductive Stk (H : Hp) (pre b0 : List V) : Nat → List Addr → List V → List Tk → Prop where
  | base {k L : Addr} {vs : List V} {ts : List Tk} : H k = some (.tup (b0 ++ [.ref L])) → H L = some (.lst vs) → Rp H 8 vs ts → Stk H pre b0 8 [L] [.ref k] ts
  | up {d : Nat} {Ls : List Addr} {ks : List V} {ts t : List Tk} {n : Int} {k L : Addr} {vs : List V} : Stk H pre b0 (d + 1) Ls ks ts → H k = some (.tup (pre ++ [.int n, .ref L])) → 0 ≤ n → n ≤ 60 → H L = some (.lst vs) → Rp H d vs t → L ∉ Ls → Stk H pre b0 d (L :: Ls) (.ref k :: ks) (ts ++ .op n :: t)
theorem Stk.mono {H H' : Hp} {pre b0 : List V} {d : Nat} {Ls : List Addr} {ks : List V} {ts : List Tk} (s : TSame H H') (h : Stk H pre b0 d Ls ks ts) : (∀ L ∈ Ls, ∀ o, H L = some o → H' L = some o) → Stk H' pre b0 d Ls ks ts := by
  induction h with
  | base a b c => intro e; exact .base (s _ _ a) (e _ (.head _) _ b) (c.ts s)
  | up _ b c f g h i ih => intro e; exact .up (ih fun L hL => e L (.tail _ hL)) (s _ _ b) c f (e _ (.head _) _ g) (h.ts s) i
theorem Stk.deep {H : Hp} {pre b0 : List V} {d : Nat} {Ls : List Addr} {ks : List V} {ts : List Tk} (h : Stk H pre b0 d Ls ks ts) : ks.length + d = 9 ∧ d ≤ 8 := by
  induction h with
  | base => exact ⟨rfl, Nat.le_refl _⟩
  | up _ _ _ _ _ _ _ ih => rw [List.length_cons]; omega
theorem Stk.one {H : Hp} {pre b0 : List V} {d : Nat} {Ls : List Addr} {ks : List V} {ts : List Tk} (h : Stk H pre b0 d Ls ks ts) (hd : d = 8) : ∃ k L vs, Ls = [L] ∧ ks = [.ref k] ∧ H k = some (.tup (b0 ++ [.ref L])) ∧ H L = some (.lst vs) ∧ Rp H 8 vs ts := by
  cases h with
  | base a b c => exact ⟨_, _, _, rfl, rfl, a, b, c⟩
  | up a => have := a.deep.2; omega
theorem Stk.top {H : Hp} {pre b0 : List V} {d m : Nat} {Ls : List Addr} {ks : List V} {ts : List Tk} (h : Stk H pre b0 d Ls ks ts) (h0 : b0.length = m) (h1 : pre.length + 1 = m) :
    ∃ k kr L Lr vs bb, ks = .ref k :: kr ∧ Ls = L :: Lr ∧ H k = some (.tup (bb ++ [.ref L])) ∧ bb.length = m ∧ H L = some (.lst vs) ∧ vs.length ≤ ts.length ∧ ∀ H1, TSame H H1 → (∀ L' ∈ Ls, ∀ o, H L' = some o → H1 L' = some o) → ∀ v c, Rp H1 d [v] c → Stk (upd H1 L (.lst (vs ++ [v]))) pre b0 d Ls ks (ts ++ c) := by
  cases h with
  | @base k L vs ts a b c =>
    refine ⟨k, [], L, [], vs, b0, rfl, rfl, a, h0, b, c.len, fun H1 s1 hk v c' hr => ?_⟩
    have tS := TSame.updL (o := .lst (vs ++ [v])) (hk _ (.head _) _ b)
    exact .base (tS _ _ (s1 _ _ a)) upd_same (((c.ts s1).app hr).ts tS)
  | @up d Ls ks ts t n k L vs a b c e f g i =>
    refine ⟨k, ks, L, Ls, vs, pre ++ [.int n], rfl, rfl, (by rw [List.append_assoc]; exact b), (by rw [List.length_append]; exact h1), f, ?_, fun H1 s1 hk v c' hr => ?_⟩
    · have := g.len
      rw [List.length_append, List.length_cons]; omega
    have tS := TSame.updL (o := .lst (vs ++ [v])) (hk _ (.head _) _ f)
    have e2 : ts ++ Tk.op n :: t ++ c' = ts ++ Tk.op n :: (t ++ c') := by simp
    rw [e2]
    refine .up ((a.mono s1 fun L' hL o ho => hk _ (.tail _ hL) _ ho).mono tS fun L' hL o ho => ?_) (tS _ _ (s1 _ _ b)) c e upd_same (((g.ts s1).app hr).ts tS) i
    have ne : L' ≠ L := by rintro rfl; exact i hL
    rw [upd_ne ne]; exact ho
theorem Stk.close {H : Hp} {pre b0 : List V} {d m : Nat} {Ls : List Addr} {ks : List V} {ts : List Tk} (st : Stk H pre b0 d Ls ks ts) (hd : d < 8) (h0 : b0.length = m) (h1 : pre.length + 1 = m) :
    ∃ n k L us k2 kr L2 Lr vs2 bb, ks = .ref k :: .ref k2 :: kr ∧ Ls = L :: L2 :: Lr ∧ H k = some (.tup (pre ++ [.int n, .ref L])) ∧ H L = some (.lst us) ∧ H k2 = some (.tup (bb ++ [.ref L2])) ∧ bb.length = m ∧ H L2 = some (.lst vs2) ∧ vs2.length ≤ ts.length ∧
      ∀ H6, TSame H H6 → (∀ L' ∈ L2 :: Lr, ∀ o, H L' = some o → H6 L' = some o) → ∀ a b, H6 a = some (.tup [.str (Str.ofString "times"), .int n, .ref b]) → H6 b = some (.tup us) → Stk (upd H6 L2 (.lst (vs2 ++ [.ref a]))) pre b0 (d + 1) (L2 :: Lr) (.ref k2 :: kr) (ts ++ [.cl]) := by
  cases st with
  | base => omega
  | @up _ Ls ks ts t n k L us a b c e f g i =>
    obtain ⟨k2, kr, L2, Lr, vs2, bb, rfl, rfl, hk2, hbb, hL2, hvl, _⟩ := a.top h0 h1
    refine ⟨n, k, L, us, k2, kr, L2, Lr, vs2, bb, rfl, rfl, b, f, hk2, hbb, hL2, by rw [List.length_append]; omega, fun H6 tS hk a6 b6 h6 h7 => ?_⟩
    have st6 := a.mono tS hk
    obtain ⟨k7, kr7, L7, Lr7, vs7, bb7, e71, e72, _, _, hL7, _, kst7⟩ := st6.top h0 h1
    obtain ⟨rfl, rfl⟩ := List.cons.inj e72
    have hL26 := hk _ (.head _) _ hL2
    have e7 : vs7 = vs2 := by rw [hL7] at hL26; cases hL26; rfl
    subst e7
    have fin := kst7 H6 (fun _ _ h => h) (fun _ _ _ h => h) (.ref a6) (.op n :: (t ++ .cl :: [])) (.tm h6 h7 c e (g.ts tS) .nil)
    have e8 : ts ++ Tk.op n :: t ++ [Tk.cl] = ts ++ Tk.op n :: (t ++ Tk.cl :: []) := by simp
    rw [e8]; exact fin
theorem cut_from (L : List Str) {a : Nat} (h : a ≤ L.length) : cutV (L.map V.str) (some (a : Int)) none = (L.drop a).map V.str := by
  unfold cutV
  rw [HT.sIx_nat, HT.sIx_none, List.length_map, Nat.min_eq_left h, ← List.map_drop]
  rw [List.take_of_length_le (by rw [List.length_map, List.length_drop]; exact Nat.le_refl _)]
theorem cut_upto (L : List Str) {a : Nat} (h : a ≤ L.length) : cutV (L.map V.str) none (some (a : Int)) = (L.take a).map V.str := by
  unfold cutV
  rw [HT.sIx_nat, HT.sIx_none, List.length_map, Nat.min_eq_left h, List.drop_zero, Nat.sub_zero, List.map_take]
theorem cut_at {H : Hp} {q : Addr} {L : List Str} {a : Nat} (h : a ≤ L.length) : upd H q (.lst (cutV (L.map V.str) (some (a : Int)) none)) q = some (.lst ((L.drop a).map V.str)) := by
  rw [upd_same, cut_from L h]
noncomputable def spDeedR (K : PySem.W.Frag) : Sp := fun vs H Q _ => ∃ (a : Addr) (p : Pd), vs = [.ref a] ∧ SqL K H a (p.words.map V.str) ∧ p.Ok ∧ ∀ v H', Same H H' → PdV H' v p → Q v H'
theorem at_end {α : Type} (xs : List α) (v : α) : atI (xs ++ [v]) ((((xs ++ [v]).length : Nat) : Int) - 1) = some v := by
  have e : (((xs ++ [v]).length : Nat) : Int) - 1 = ((xs.length : Nat) : Int) := by
    rw [List.length_append, List.length_singleton]; omega
  rw [e]
  exact atI_nat (by simp)
theorem at_0 {α : Type} (x : α) (r : List α) : atI (x :: r) 0 = some x := atI_nat (j := 0) rfl
theorem at_1 {α : Type} (x y : α) (r : List α) : atI (x :: y :: r) 1 = some y := atI_nat (j := 1) rfl
theorem inV_str (x : Str) : ∀ L : List Str, inV (.str x) (L.map V.str) = decide (x ∈ L)
  | [] => by simp [inV]
  | y :: L => by
    have ih := inV_str x L
    unfold inV at ih ⊢
    rw [List.map_cons, List.any_cons, ih]
    by_cases h : y = x
    · subst h; simp [eqV]
    · have h2 : ¬ x = y := fun e => h e.symm
      simp [eqV, h, h2]
noncomputable def spTimesH (K : PySem.W.Frag) : Sp := fun vs H Q _ => ∃ (a B : Addr) (n : Int) (bs : List V) (s : Nat), vs = [.ref a, .ref B] ∧ SqL K H a [.str (Str.ofString "times"), .str (figs n)] ∧ 0 ≤ n ∧ n ≤ 60 ∧ H B = some (.lst bs) ∧ bs.length ≤ s + 7 ∧ s ≤ 2 ∧
  (∀ j b, bs[j]? = some b → ∃ k z r, b = V.ref k ∧ H k = some (.tup (.str z :: r)) ∧ (z = Str.ofString "times" → s ≤ j)) ∧ ∀ p L H', Same H H' → H' p = some (.tup [.str (Str.ofString "times"), .int n, .ref L]) → H' L = some (.lst []) → H L = none → Q (.ref p) H'
noncomputable abbrev Rl := Str × List Str × List Tk
noncomputable def RlV (H : Hp) (v : V) (r : Rl) : Prop := ∃ (a b c : Addr) (us : List V), v = .ref a ∧ H a = some (.tup [.str r.1, .ref b, .ref c]) ∧ H b = some (.tup (r.2.1.map V.str)) ∧ H c = some (.tup us) ∧ Rp H 8 us r.2.2
theorem RlV.ts {H H' : Hp} {v : V} {r : Rl} (s : TSame H H') (h : RlV H v r) : RlV H' v r := by
  obtain ⟨a, b, c, us, e, h1, h2, h3, h4⟩ := h
  exact ⟨a, b, c, us, e, s _ _ h1, s _ _ h2, s _ _ h3, h4.ts s⟩
noncomputable def flatR : List Rl → List Tk
  | [] => []
  | (x, ps, t) :: r => .rl x ps :: (t ++ .cl :: flatR r)
noncomputable def SOk (rls : List Rl) : Prop := (rls.map (·.1)).Nodup ∧ ∀ r ∈ rls, (Tk.rl r.1 r.2.1).Ok ∧ r.2.1.Nodup ∧ go r.2.2 8 8
noncomputable def spRuleH (K : PySem.W.Frag) : Sp := fun vs H Q _ => ∃ (a B R k0 L0 : Addr) (x : Str) (ps : List Str) (rv : List V) (rls : List Rl), vs = [.ref a, .ref B, .ref R] ∧ SqL K H a ((Str.ofString "rule" :: x :: ps).map V.str) ∧ (Tk.rl x ps).Ok ∧ ps.Nodup ∧
  H B = some (.lst [.ref k0]) ∧ H k0 = some (.tup [.str (Str.ofString "script"), .non, .ref L0]) ∧ H L0 = some (.lst []) ∧ H R = some (.lst rv) ∧ Paired (RlV H) rv rls ∧ rls.length ≤ 400 ∧ x ∉ rls.map (·.1) ∧
  ∀ p q b L H', Same H H' → H' p = some (.tup [.str (Str.ofString "rule"), .ref q, .ref L]) → H' q = some (.tup [.str x, .ref b]) → H' b = some (.tup (ps.map V.str)) → H' L = some (.lst []) → H L = none → Q (.ref p) H'
noncomputable def spEnd (K : PySem.W.Frag) : Sp := fun vs H Q _ => ∃ (B R : Addr) (bs : List V) (k L : Addr) (z : Str) (c : V) (us : List V), vs = [.ref B, .ref R] ∧ H B = some (.lst (bs ++ [.ref k])) ∧ bs ≠ [] ∧ H k = some (.tup [.str z, c, .ref L]) ∧ H L = some (.lst us) ∧ L ≠ B ∧
  ((z = Str.ofString "times" ∧ ∃ (bs' : List V) (k2 L2 : Addr) (b1 b2 : V) (vs2 : List V), bs = bs' ++ [.ref k2] ∧ H k2 = some (.tup [b1, b2, .ref L2]) ∧ H L2 = some (.lst vs2) ∧ vs2.length ≤ 400 ∧ L2 ≠ B ∧ ∀ a b H1, Same (upd H B (.lst bs)) H1 → H1 a = some (.tup [.str z, c, .ref b]) → H1 b = some (.tup us) → Q .non (upd H1 L2 (.lst (vs2 ++ [.ref a]))))
  ∨ (z = Str.ofString "rule" ∧ ∃ (q : Addr) (x b : V) (rv : List V), c = .ref q ∧ H q = some (.tup [x, b]) ∧ H R = some (.lst rv) ∧ rv.length ≤ 400 ∧ R ≠ B ∧ ∀ a b' H1, Same (upd H B (.lst bs)) H1 → H1 a = some (.tup [x, b, .ref b']) → H1 b' = some (.tup us) → Q .non (upd H1 R (.lst (rv ++ [.ref a])))))
noncomputable def Md (H0 H : Hp) (B R : Addr) (pf b0 : List V) (Ls : List Addr) (tt rest : List Tk) (rls1 rls2 rls : List Rl) (dts : List Tk) : Prop :=
  (pf = [] ∧ b0 = [.str (Str.ofString "script"), .non] ∧ rls = rls1 ++ rls2 ∧ ((rls2 = [] ∧ tt = dts ∧ rest = []) ∨ (rls2 ≠ [] ∧ tt = [] ∧ rest = flatR rls2 ++ dts)))
  ∨ ∃ (k0 L0 q b : Addr) (x : Str) (ps : List Str), pf = [.ref k0] ∧ b0 = [.str (Str.ofString "rule"), .ref q] ∧ rls = rls1 ++ (x, ps, tt) :: rls2 ∧ rest = .cl :: (flatR rls2 ++ dts) ∧ H k0 = some (.tup [.str (Str.ofString "script"), .non, .ref L0]) ∧ H L0 = some (.lst []) ∧ L0 ∉ Ls ∧ H0 L0 = none ∧ L0 ≠ B ∧ L0 ≠ R ∧ H q = some (.tup [.str x, .ref b]) ∧ H b = some (.tup (ps.map V.str))
theorem Md.mono {H0 H H' : Hp} {B R : Addr} {pf b0 : List V} {Ls Ls' : List Addr} {tt rest : List Tk} {rls1 rls2 rls : List Rl} {dts : List Tk} (h : Md H0 H B R pf b0 Ls tt rest rls1 rls2 rls dts) (s : TSame H H')
    (hl : ∀ L0, H L0 = some (.lst []) → L0 ∉ Ls → L0 ≠ B → L0 ≠ R → H' L0 = some (.lst []) ∧ L0 ∉ Ls') : Md H0 H' B R pf b0 Ls' tt rest rls1 rls2 rls dts := by
  rcases h with h | ⟨k0, L0, q, b, x, ps, h1, h2, h3, h4, h5, h6, h7, h8, h9, h10, h11, h12⟩
  · exact .inl h
  · obtain ⟨g1, g2⟩ := hl L0 h6 h7 h9 h10
    exact .inr ⟨k0, L0, q, b, x, ps, h1, h2, h3, h4, s _ _ h5, g1, g2, h8, h9, h10, s _ _ h11, s _ _ h12⟩
theorem Md.heads {H0 H : Hp} {B R : Addr} {pf b0 : List V} {Ls : List Addr} {tt rest : List Tk} {rls1 rls2 rls : List Rl} {dts : List Tk} (h : Md H0 H B R pf b0 Ls tt rest rls1 rls2 rls dts) :
    ∃ z0 v0, b0 = [.str z0, v0] ∧ z0 ≠ Str.ofString "times" ∧ pf.length ≤ 1 ∧ ∀ v ∈ pf, ∃ k r, v = V.ref k ∧ H k = some (.tup (.str (Str.ofString "script") :: r)) := by
  rcases h with ⟨rfl, rfl, _⟩ | ⟨k0, L0, q, b, x, ps, rfl, rfl, _, _, h5, _⟩
  · exact ⟨_, _, rfl, by decide +kernel, Nat.zero_le _, fun _ z => nomatch z⟩
  · exact ⟨_, _, rfl, by decide +kernel, Nat.le_refl _, fun v hv => ⟨k0, _, List.mem_singleton.mp hv, h5⟩⟩
theorem Stk.kinds {H : Hp} {z0 : Str} {v0 : V} {d : Nat} {Ls : List Addr} {ks : List V} {ts : List Tk} (h : Stk H [.str (Str.ofString "times")] [.str z0, v0] d Ls ks ts) (hz : z0 ≠ Str.ofString "times") :
    1 ≤ ks.length ∧ ∀ j b, ks.reverse[j]? = some b → ∃ k z r, b = V.ref k ∧ H k = some (.tup (.str z :: r)) ∧ (z = Str.ofString "times" → 1 ≤ j) := by
  induction h with
  | @base k L vs ts a _ _ =>
    refine ⟨Nat.le_refl _, fun j b hb => ?_⟩
    have hm := List.mem_of_getElem? hb
    exact ⟨k, z0, _, List.mem_singleton.mp hm, a, fun e => absurd e hz⟩
  | @up d Ls ks ts t n k L vs _ b _ _ _ _ _ ih =>
    refine ⟨Nat.succ_pos _, fun j b' hb => ?_⟩
    rw [List.reverse_cons] at hb
    by_cases hj : j < ks.reverse.length
    · rw [List.getElem?_append_left hj] at hb
      exact ih.2 j b' hb
    · have hm := List.mem_of_getElem? hb
      rw [List.getElem?_append_right (by omega)] at hb
      have hm := List.mem_of_getElem? hb
      rw [List.length_reverse] at hj
      have := ih.1
      exact ⟨k, _, _, List.mem_singleton.mp hm, b, fun _ => by omega⟩
theorem Stk.lists {H : Hp} {pre b0 : List V} {d : Nat} {Ls : List Addr} {ks : List V} {ts : List Tk} (h : Stk H pre b0 d Ls ks ts) : ∀ L ∈ Ls, ∃ vs, H L = some (.lst vs) := by
  induction h with
  | base _ b _ => intro L hL; rw [List.mem_singleton.mp hL]; exact ⟨_, b⟩
  | up _ _ _ _ g _ _ ih =>
    intro L hL
    rcases List.mem_cons.mp hL with rfl | hL
    · exact ⟨_, g⟩
    · exact ih L hL
noncomputable def Inn (H0 H : Hp) (B R : Addr) (rls : List Rl) (dts rem : List Tk) : Prop :=
  ∃ (pf b0 : List V) (d : Nat) (Ls : List Addr) (ks : List V) (t1 t2 rest : List Tk) (rv : List V) (rls1 rls2 : List Rl), rem = t2 ++ rest ∧ go t2 d 8 ∧ t1.length + rem.length ≤ 300 ∧ Stk H [.str (Str.ofString "times")] b0 d Ls ks t1 ∧ (∀ L ∈ Ls, H0 L = none ∧ L ≠ B ∧ L ≠ R) ∧
    H B = some (.lst (pf ++ ks.reverse)) ∧ H R = some (.lst rv) ∧ Paired (RlV H) rv rls1 ∧ Md H0 H B R pf b0 Ls (t1 ++ t2) rest rls1 rls2 rls dts
theorem Inn.startA {H0 H : Hp} {B R k0 L0 : Addr} {rls rls1 rls2 : List Rl} {dts : List Tk} {rv : List V} (hk0 : H k0 = some (.tup [.str (Str.ofString "script"), .non, .ref L0])) (hL0 : H L0 = some (.lst [])) (h0 : H0 L0 = none) (nB : L0 ≠ B) (nR : L0 ≠ R)
    (hB : H B = some (.lst [.ref k0])) (hR : H R = some (.lst rv)) (hP : Paired (RlV H) rv rls1) (e : rls = rls1 ++ rls2) (hg : go dts 8 8) (hlen : (flatR rls2 ++ dts).length ≤ 300) : Inn H0 H B R rls dts (flatR rls2 ++ dts) := by
  have st : Stk H [.str (Str.ofString "times")] [.str (Str.ofString "script"), .non] 8 [L0] [.ref k0] [] := .base hk0 hL0 .nil
  have hLs : ∀ L ∈ [L0], H0 L = none ∧ L ≠ B ∧ L ≠ R := fun L hL => by rw [List.mem_singleton.mp hL]; exact ⟨h0, nB, nR⟩
  have hl2 : ([] : List Tk).length + (flatR rls2 ++ dts).length ≤ 300 := by rw [List.length_nil]; omega
  cases rls2 with
  | nil => exact ⟨[], _, 8, [L0], [.ref k0], [], dts, [], rv, rls1, [], (by simp [flatR]), hg, hl2, st, hLs, hB, hR, hP, .inl ⟨rfl, rfl, e, .inl ⟨rfl, rfl, rfl⟩⟩⟩
  | cons r rs => exact ⟨[], _, 8, [L0], [.ref k0], [], [], flatR (r :: rs) ++ dts, rv, rls1, r :: rs, rfl, rfl, hl2, st, hLs, hB, hR, hP, .inl ⟨rfl, rfl, e, .inr ⟨List.cons_ne_nil _ _, rfl, rfl⟩⟩⟩
theorem Inn.step {H0 H H' : Hp} {B R : Addr} {rls rls1 rls2 : List Rl} {dts t1 t2 rest : List Tk} {t : Tk} {pf b0 rv : List V} {Ls Ls' : List Addr} {ks' : List V} {d' : Nat} (hM : Md H0 H B R pf b0 Ls (t1 ++ t :: t2) rest rls1 rls2 rls dts)
    (hlen : t1.length + (t :: (t2 ++ rest)).length ≤ 300) (hP : Paired (RlV H) rv rls1) (ts : TSame H H') (st : Stk H' [.str (Str.ofString "times")] b0 d' Ls' ks' (t1 ++ [t])) (g : go t2 d' 8) (hLs' : ∀ L ∈ Ls', H0 L = none ∧ L ≠ B ∧ L ≠ R)
    (hB' : H' B = some (.lst (pf ++ ks'.reverse))) (hR' : H' R = some (.lst rv)) (hl : ∀ L0, H L0 = some (.lst []) → L0 ∉ Ls → L0 ≠ B → L0 ≠ R → H' L0 = some (.lst []) ∧ L0 ∉ Ls') : Inn H0 H' B R rls dts (t2 ++ rest) := by
  refine ⟨pf, b0, d', Ls', ks', t1 ++ [t], t2, rest, rv, rls1, rls2, rfl, g, ?_, st, hLs', hB', hR', Paired.mapP hP fun _ _ h => h.ts ts, ?_⟩
  · rw [List.length_append, List.length_singleton]
    rw [List.length_cons] at hlen
    omega
  · have e : t1 ++ [t] ++ t2 = t1 ++ t :: t2 := by simp
    rw [e]
    exact hM.mono ts hl
noncomputable def ScV (H : Hp) (v : V) (rls : List Rl) (dts : List Tk) : Prop := ∃ (p a b : Addr) (rv us : List V), v = .ref p ∧ H p = some (.tup [.ref a, .ref b]) ∧ H a = some (.tup rv) ∧ Paired (RlV H) rv rls ∧ H b = some (.tup us) ∧ Rp H 8 us dts
theorem ScV.ts {H H' : Hp} {v : V} {rls : List Rl} {dts : List Tk} (s : TSame H H') (h : ScV H v rls dts) : ScV H' v rls dts := by
  obtain ⟨p, a, b, rv, us, e, h1, h2, h3, h4, h5⟩ := h
  exact ⟨p, a, b, rv, us, e, s _ _ h1, s _ _ h2, Paired.mapP h3 fun _ _ h => h.ts s, s _ _ h4, h5.ts s⟩
noncomputable def spReadRows (K : PySem.W.Frag) : Sp := fun vs H Q _ => ∃ (a : Addr) (rls : List Rl) (dts : List Tk), vs = [.ref a] ∧ SqL K H a (((flatR rls ++ dts).map Tk.row).map V.str) ∧ SOk rls ∧ go dts 8 8 ∧ (flatR rls ++ dts).length ≤ 300 ∧ ∀ v H', Same H H' → ScV H' v rls dts → Q v H'
theorem flatR_len : ∀ rls : List Rl, rls.length ≤ (flatR rls).length
  | [] => Nat.le_refl _
  | (x, ps, t) :: r => by
    have := flatR_len r
    simp only [flatR, List.length_cons, List.length_append]
    omega
theorem flatR_ok : ∀ {rls : List Rl}, (∀ r ∈ rls, (Tk.rl r.1 r.2.1).Ok ∧ r.2.1.Nodup ∧ go r.2.2 8 8) → ∀ t ∈ flatR rls, t.Ok
  | [], _, _, z => nomatch z
  | (x, ps, t) :: r, h, u, hu => by
    obtain ⟨h1, _, h3⟩ := h _ (.head _)
    rcases List.mem_cons.mp hu with rfl | hu
    · exact h1
    rcases List.mem_append.mp hu with hu | hu
    · exact go_ok h3 u hu
    rcases List.mem_cons.mp hu with rfl | hu
    · exact trivial
    · exact flatR_ok (fun q hq => h q (.tail _ hq)) u hu
theorem Pd.first {p : Pd} (ok : p.Ok) : ∃ u r, p.words = u :: r ∧ ¬ V.str u = V.str (Str.ofString "rule") ∧ ¬ V.str u = V.str (Str.ofString "times") ∧ ¬ u :: r = [Str.ofString "end"] := by
  cases p with
  | year => exact ⟨_, _, rfl, by decide +kernel, by decide +kernel, by decide +kernel⟩
  | dor x ps => exact ⟨_, _, rfl, by decide +kernel, by decide +kernel, fun e => absurd (congrArg List.length e) (by simp)⟩
  | two u x y => obtain ⟨rfl | rfl, _⟩ := ok <;> exact ⟨_, _, rfl, by decide +kernel, by decide +kernel, fun e => absurd (congrArg List.length e) (by simp)⟩
  | mea u x y n d => obtain ⟨⟨rfl | rfl, _⟩ | ⟨rfl, _⟩, _⟩ := ok <;> exact ⟨_, _, rfl, by decide +kernel, by decide +kernel, fun e => absurd (congrArg List.length e) (by simp)⟩
theorem at2 {bb : List V} {L : Addr} (h : bb.length = 2) : atI (bb ++ [V.ref L]) 2 = some (V.ref L) := atI_nat (j := 2) (by rw [List.getElem?_append_right (by omega), h]; rfl)
noncomputable def rowsT (rls : List Rl) (dts : List Tk) : Str := Txt.join (Str.ofString "\n") ((flatR rls ++ dts).map Tk.row)
noncomputable def spRead (K : PySem.W.Frag) : Sp := fun vs H Q _ => ∃ (rls : List Rl) (dts : List Tk), vs = [.str (rowsT rls dts)] ∧ SOk rls ∧ go dts 8 8 ∧ (flatR rls ++ dts).length ≤ 300 ∧ ∀ v H', Same H H' → ScV H' v rls dts → Q v H'
theorem PdV.head {H : Hp} {v : V} {p : Pd} (h : PdV H v p) (ok : p.Ok) : ∃ a u r, v = V.ref a ∧ H a = some (.tup (.str u :: r)) ∧ ¬ V.str u = V.str (Str.ofString "times") := by
  cases p with
  | year => obtain ⟨a, e, h⟩ := h; exact ⟨a, _, _, e, h, by decide +kernel⟩
  | dor x ps => obtain ⟨a, b, e, h, _⟩ := h; exact ⟨a, _, _, e, h, by decide +kernel⟩
  | two u x y => obtain ⟨a, e, h⟩ := h; obtain ⟨rfl | rfl, _⟩ := ok <;> exact ⟨a, _, _, e, h, by decide +kernel⟩
  | mea u x y n d => obtain ⟨a, b, e, h, _⟩ := h; obtain ⟨⟨rfl | rfl, _⟩ | ⟨rfl, _⟩, _⟩ := ok <;> exact ⟨a, _, _, e, h, by decide +kernel⟩
theorem app_assoc (x y z : Str) : x ++ y ++ z = x ++ (y ++ z) := by
  refine str_ext ?_
  show (x.cps ++ y.cps ++ z.cps).toList = (x.cps ++ (y.cps ++ z.cps)).toList
  simp
theorem op_row (n : Int) : Str.ofString "times " ++ figs n = (Tk.op n).row := by
  unfold Tk.row
  rw [tj, sp_eq]
  show _ = Str.ofString "times" ++ ⟨#[32]⟩ ++ figs n
  have e : Str.ofString "times " = Str.ofString "times" ++ ⟨#[32]⟩ := by decide +kernel
  rw [e]
theorem cl_row : Str.ofString "end" = Tk.cl.row := by
  unfold Tk.row
  rw [tj]
  rfl
noncomputable def spRowsOf (K : PySem.W.Frag) (d : Nat) : Sp := fun vs H Q _ => ∃ (a : Addr) (us : List V) (ts : List Tk) (e : Nat), vs = [.ref a] ∧ H a = some (.tup us) ∧ e + 1 = d ∧ Rp H e us ts ∧ ts.length ≤ 300 ∧ ∀ l H', Same H H' → H' l = some (.lst ((ts.map Tk.row).map V.str)) → Q (.ref l) H'
theorem rows_app (a b : List Tk) : ((a ++ b).map Tk.row).map V.str = (a.map Tk.row).map V.str ++ (b.map Tk.row).map V.str := by
  rw [List.map_append, List.map_append]
theorem rows_n (a : List Tk) : ((a.map Tk.row).map V.str).length = a.length := by
  rw [List.length_map, List.length_map]
theorem flatR_app : ∀ a b : List Rl, flatR (a ++ b) = flatR a ++ flatR b
  | [], _ => rfl
  | (x, ps, t) :: a, b => by
    show Tk.rl x ps :: (t ++ Tk.cl :: flatR (a ++ b)) = Tk.rl x ps :: (t ++ Tk.cl :: flatR a) ++ flatR b
    rw [flatR_app a b]; simp
noncomputable def spShow (K : PySem.W.Frag) : Sp := fun vs H Q _ => ∃ (v : V) (rls : List Rl) (dts : List Tk), vs = [v] ∧ ScV H v rls dts ∧ SOk rls ∧ go dts 8 8 ∧ (flatR rls ++ dts).length ≤ 300 ∧ ∀ H', Same H H' → Q (.str (rowsT rls dts)) H'
noncomputable def BG : Int := 10000000000000000000000000000000000000000
noncomputable def spMix : Sp := fun vs H Q _ => ∃ c : Int, vs = [.int c] ∧ ∀ m : Int, 0 ≤ m → m < BG → Q (.int m) H
theorem fdv {n d : Int} (h : 0 ≤ n) (hd : 0 < d) : 0 ≤ n.fdiv d ∧ n.fdiv d ≤ n := by
  rw [Int.fdiv_eq_ediv_of_nonneg _ (by omega)]
  exact ⟨Int.ediv_nonneg h (by omega), Int.ediv_le_self _ h⟩
theorem dd {i d : Int} (h1 : 0 < d) (h2 : d ≤ 1000000) : CDivB i d := divB_of (by omega) (Nat.lt_of_le_of_lt (m := 1000000) (by omega) (by decide))
theorem big_bits {n : Int} (h : 0 ≤ n) (h2 : n < BG) : n.natAbs < 2 ^ 256 := Nat.lt_trans (show n.natAbs < 10000000000000000000000000000000000000000 by unfold BG at h2; omega) (by decide)
theorem lt_all : ∀ k, k < 26 → LT.cps.toList[k]? = some (97 + k) := by decide +kernel
theorem lt_at {x : Int} (h : 0 ≤ x ∧ x < 26) : atI LT.cps.toList x = some (97 + x.toNat) := by
  obtain ⟨k, rfl⟩ := Int.eq_ofNat_of_zero_le h.1
  exact atI_nat (lt_all k (by omega))
noncomputable def lr (bs : List Int) (at' : Int) (j k : Nat) : Nat := 97 + ((bs.getD k 0 + (j : Int) * (if decide (V.int (k : Nat) = V.int at') = true then 1 else 0)).fmod 26).toNat
noncomputable def lrs (bs : List Int) (at' : Int) (n j : Nat) : List Nat := (List.range n).map (lr bs at' j)
noncomputable def nam (bs : List Int) (at' : Int) (n j : Nat) : Str := ⟨(lrs bs at' n j).toArray⟩
theorem lr_in (bs : List Int) (at' : Int) (j k : Nat) : lr bs at' j k ∈ LT.cps.toList := by
  have q := fmod_lt (c := bs.getD k 0 + (j : Int) * (if decide (V.int (k : Nat) = V.int at') = true then 1 else 0)) (m := 26) (by decide)
  exact List.mem_of_getElem? (lt_all _ (by omega))
theorem nam_nm {bs : List Int} {at' : Int} {n j : Nat} (h1 : 1 ≤ n) (h8 : n ≤ 8) : nm (nam bs at' n j) = true := by
  have hm : ∀ c ∈ lrs bs at' n j, c ∈ LT.cps.toList := fun c hc => by
    obtain ⟨k, _, rfl⟩ := List.mem_map.mp hc
    exact lr_in _ _ _ _
  unfold nam
  rw [nm_cs hm]
  refine decide_eq_true ?_
  unfold lrs
  rw [List.length_map, List.length_range]
  exact ⟨h1, h8⟩
theorem nam_inj {bs : List Int} {a n : Nat} (ha : a < n) {k k' : Nat} (hk : k < 10) (hk' : k' < 10) (e : nam bs (a : Nat) n k = nam bs (a : Nat) n k') : k = k' := by
  have e1 : lrs bs (a : Nat) n k = lrs bs (a : Nat) n k' := by
    have := congrArg (fun z : Str => z.cps.toList) e
    simpa [nam] using this
  have e2 : lr bs (a : Nat) k a = lr bs (a : Nat) k' a := by
    have h1 := congrArg (fun l : List Nat => l[a]?) e1
    simpa [lrs, ha] using h1
  unfold lr at e2
  rw [decide_eq_true rfl, if_pos rfl, Int.mul_one, Int.mul_one] at e2
  have q1 := fmod_lt (c := bs.getD a 0 + (k : Int)) (m := 26) (by decide)
  have q2 := fmod_lt (c := bs.getD a 0 + (k' : Int)) (m := 26) (by decide)
  rw [Int.fmod_eq_emod_of_nonneg _ (by decide)] at q1 q2
  rw [Int.fmod_eq_emod_of_nonneg _ (by decide), Int.fmod_eq_emod_of_nonneg _ (by decide)] at e2
  omega
theorem nam_nodup {bs : List Int} {a n : Nat} (ha : a < n) {m : Nat} (hm : m ≤ 9) : ((List.range m).map (nam bs (a : Nat) n)).Nodup := by
  unfold List.Nodup
  rw [List.pairwise_map]
  refine List.Pairwise.imp_of_mem (fun {x y} hx hy hxy e => hxy ?_) (List.nodup_range (n := m))
  exact nam_inj ha (by have := List.mem_range.mp hx; omega) (by have := List.mem_range.mp hy; omega) e
noncomputable def WN : List Str := [Str.ofString "end", Str.ofString "rule", Str.ofString "times", Str.ofString "year", Str.ofString "do", Str.ofString "bring", Str.ofString "move", Str.ofString "part", Str.ofString "all", Str.ofString "fill"]
theorem wn_nd : WN.Nodup := by decide +kernel
theorem wn_nm : ∀ z ∈ WN, nm z = true := by decide +kernel
noncomputable def spNam : Sp := fun vs H Q _ => ∃ c m : Int, vs = [.int c, .int m] ∧ 0 ≤ m ∧ m ≤ 9 ∧ ∀ (p : Addr) (H' : Hp) (zs : List Str), Same H H' → H p = none → H' p = some (.lst (zs.map V.str)) → (zs.length : Int) = m → zs.Nodup → (∀ z ∈ zs, nm z = true) → Q (.ref p) H'
theorem getD_at' {bs : List Int} {j : Nat} (hj : j < bs.length) : atI (bs.map V.int) (0 + (j : Int)) = some (V.int (bs.getD j 0)) := by
  rw [Int.zero_add]
  refine atI_nat ?_
  rw [List.getElem?_map, List.getElem?_eq_getElem hj, List.getD_eq_getElem?_getD, List.getElem?_eq_getElem hj]
  rfl
noncomputable def spLow : Sp := fun vs H Q _ => ∃ t b : Int, vs = [.int t, .int b] ∧ 0 ≤ t ∧ t < 10 ^ 12 ∧ 0 < b ∧ b < 10 ^ 12 ∧ ∀ (p : Addr) (x y : Int) (H' : Hp), Same H H' → H' p = some (.tup [.int x, .int y]) → 0 ≤ x → x < 10 ^ 12 → 0 < y → y < 10 ^ 12 → Int.gcd x y = 1 → (0 < t → 0 < x) → (t ≤ b → x ≤ y) → Q (.ref p) H'
noncomputable def spAmt : Sp := fun vs H Q _ => ∃ n : Int, vs = [.int n] ∧ 0 ≤ n ∧ n < BG ∧ ∀ (p : Addr) (x y : Int) (H' : Hp), Same H H' → H' p = some (.tup [.int x, .int y]) → 0 < x → x < 10 ^ 12 → 0 < y → y < 10 ^ 12 → Int.gcd x y = 1 → Q (.ref p) H'
noncomputable def spShr : Sp := fun vs H Q _ => ∃ n : Int, vs = [.int n] ∧ 0 ≤ n ∧ n < BG ∧ ∀ (p : Addr) (x y : Int) (H' : Hp), Same H H' → H' p = some (.tup [.int x, .int y]) → 0 ≤ x → x ≤ y → 0 < y → y < 10 ^ 12 → Int.gcd x y = 1 → Q (.ref p) H'
noncomputable def spNT (K : PySem.W.Frag) : Sp := fun vs H Q _ => ∃ (a : Addr) (x y : Int), vs = [.ref a] ∧ SqT K H a [.int x, .int y] ∧ 0 ≤ x ∧ x < 10 ^ 12 ∧ 0 < y ∧ y < 10 ^ 12 ∧ Q (.str (numTxt x y)) H
noncomputable def spWord : Sp := fun vs H Q _ => ∃ n : Int, vs = [.int n] ∧ ∀ (z : Str) (H' : Hp), Same H H' → nm z = true → Q (.str z) H'
theorem low_facts {t b g : Int} (ht : 0 ≤ t) (ht2 : t < 10 ^ 12) (hb : 0 < b) (hb2 : b < 10 ^ 12) (hg : g = ((Int.gcd t b : Nat) : Int)) : 0 < g ∧ 0 ≤ t.fdiv g ∧ t.fdiv g < 10 ^ 12 ∧ 0 < b.fdiv g ∧ b.fdiv g < 10 ^ 12 ∧ Int.gcd (t.fdiv g) (b.fdiv g) = 1 ∧ (0 < t → 0 < t.fdiv g) ∧ (t ≤ b → t.fdiv g ≤ b.fdiv g) := by
  have h0 : 0 < Int.gcd t b := Int.gcd_pos_of_ne_zero_right _ (by omega)
  have g0 : 0 < g := by omega
  have e1 : t.fdiv g = t / g := Int.fdiv_eq_ediv_of_nonneg _ (by omega)
  have e2 : b.fdiv g = b / g := Int.fdiv_eq_ediv_of_nonneg _ (by omega)
  have d1 : g ∣ t := hg ▸ Int.gcd_dvd_left ..
  have d2 : g ∣ b := hg ▸ Int.gcd_dvd_right ..
  obtain ⟨x, hx⟩ := d1
  obtain ⟨y, hy⟩ := d2
  have q1 : t / g = x := by rw [hx]; exact Int.mul_ediv_cancel_left _ (by omega)
  have q2 : b / g = y := by rw [hy]; exact Int.mul_ediv_cancel_left _ (by omega)
  have f1 := fdv ht g0
  have f2 := fdv (show 0 ≤ b by omega) g0
  rw [e1] at f1 ⊢
  rw [e2] at f2 ⊢
  have y0 : 0 < b / g := by
    rcases Int.lt_or_le 0 (b / g) with h | h
    · exact h
    · have : b / g = 0 := by omega
      rw [q2] at this
      rw [this, Int.mul_zero] at hy
      omega
  have x0 : 0 < t → 0 < t / g := fun h => by
    rcases Int.lt_or_le 0 (t / g) with h2 | h2
    · exact h2
    · have : t / g = 0 := by omega
      rw [q1] at this
      rw [this, Int.mul_zero] at hx
      omega
  refine ⟨g0, f1.1, by omega, y0, by omega, ?_, x0, fun h => Int.ediv_le_ediv g0 h⟩
  rw [hg]
  exact Int.gcd_ediv_gcd_ediv_gcd h0
theorem row3 (u x y : Str) : u ++ Str.ofString " " ++ x ++ Str.ofString " " ++ y = Txt.join (Str.ofString " ") [u, x, y] := by
  rw [tj]
  show _ = u ++ Str.ofString " " ++ (x ++ Str.ofString " " ++ y)
  simp only [app_assoc]
theorem row4 (u x y z : Str) : u ++ Str.ofString " " ++ x ++ Str.ofString " " ++ y ++ Str.ofString " " ++ z = Txt.join (Str.ofString " ") [u, x, y, z] := by
  rw [tj]
  show _ = u ++ Str.ofString " " ++ (x ++ Str.ofString " " ++ (y ++ Str.ofString " " ++ z))
  simp only [app_assoc]
theorem sp_len : (Str.ofString " ").length = 1 := by decide
noncomputable def spPlain (K : PySem.W.Frag) : Sp := fun vs H Q _ => ∃ n : Int, vs = [.int n] ∧ 0 ≤ n ∧ n < BG ∧ ∀ (p : Addr) (d : V) (pd : Pd) (H' : Hp), Same H H' → H' p = some (.tup [d, .str (Tk.pl pd).row]) → PdV H' d pd → pd.Ok → Q (.ref p) H'
theorem year_row : Str.ofString "year" = (Tk.pl .year).row := by
  unfold Tk.row
  rw [tj]
  rfl
noncomputable abbrev W7 : List V := [.str (Str.ofString "bring"), .str (Str.ofString "move"), .str (Str.ofString "part"), .str (Str.ofString "all"), .str (Str.ofString "fill"), .str (Str.ofString "year"), .str (Str.ofString "do")]
theorem w7 {r : Int} (h : 0 ≤ r ∧ r < 7) : ∃ u : Str, atI W7 r = some (V.str u) ∧ u.length ≤ 5 ∧ (u = Str.ofString "year" ∨ u = Str.ofString "do" ∨ (u = Str.ofString "all" ∨ u = Str.ofString "fill") ∨ (u = Str.ofString "bring" ∨ u = Str.ofString "move") ∨ u = Str.ofString "part") := by
  have h : r = 0 ∨ r = 1 ∨ r = 2 ∨ r = 3 ∨ r = 4 ∨ r = 5 ∨ r = 6 := by omega
  rcases h with rfl | rfl | rfl | rfl | rfl | rfl | rfl
  · exact ⟨_, rfl, by decide, .inr (.inr (.inr (.inl (.inl rfl))))⟩
  · exact ⟨_, rfl, by decide, .inr (.inr (.inr (.inl (.inr rfl))))⟩
  · exact ⟨_, rfl, by decide, .inr (.inr (.inr (.inr rfl)))⟩
  · exact ⟨_, rfl, by decide, .inr (.inr (.inl (.inl rfl)))⟩
  · exact ⟨_, rfl, by decide, .inr (.inr (.inl (.inr rfl)))⟩
  · exact ⟨_, rfl, by decide, .inl rfl⟩
  · exact ⟨_, rfl, by decide, .inr (.inl rfl)⟩
noncomputable def Dee (H0 H : Hp) (F R : Addr) (rs : List V) (d : Nat) (ts : List Tk) : Prop := ∃ (Ls : List Addr) (ks : List V), Stk H [] [.int 1] d Ls ks ts ∧ (∀ L ∈ Ls, H0 L = none ∧ L ≠ F ∧ L ≠ R) ∧ H F = some (.lst ks.reverse) ∧ H R = some (.lst (rs ++ (ts.map Tk.row).map V.str)) ∧ ∀ c o, c ≠ R → H0 c = some o → H c = some o
noncomputable def spDeeds (K : PySem.W.Frag) : Sp := fun vs H Q _ => ∃ (C R : Addr) (ns : List Int) (rs : List V), vs = [.ref C, .ref R] ∧ H C = some (.lst (ns.map V.int)) ∧ ns.length ≤ 62 ∧ H R = some (.lst rs) ∧ rs.length ≤ 200 ∧ C ≠ R ∧
  ∀ p us ts H', (∀ c o, c ≠ R → H c = some o → H' c = some o) → H' R = some (.lst (rs ++ (ts.map Tk.row).map V.str)) → H' p = some (.tup us) → Rp H' 8 us ts → ts.length ≤ ns.length + 8 → Q (.ref p) H'
theorem by_key0 {P G : Prop} (go : P → G) (body : P) : G := go body
theorem at1 {bb : List V} {L : Addr} (h : bb.length = 1) : atI (bb ++ [V.ref L]) 1 = some (V.ref L) := atI_nat (j := 1) (by rw [List.getElem?_append_right (by omega), h]; rfl)
theorem Dee.end {H0 H H3 : Hp} {F R : Addr} {rs : List V} {d : Nat} {ts : List Tk} {n : Int} {k L k2 L2 a b : Addr} {us kr vs2 : List V} {Lr : List Addr} (nFR : F ≠ R) (hF0 : H0 F = none)
    (hLs : ∀ L' ∈ L :: L2 :: Lr, H0 L' = none ∧ L' ≠ F ∧ L' ≠ R) (hF : H F = some (.lst (V.ref k :: V.ref k2 :: kr).reverse)) (hR : H R = some (.lst (rs ++ (ts.map Tk.row).map V.str))) (hk0 : ∀ c o, c ≠ R → H0 c = some o → H c = some o)
    (fin : ∀ H6, TSame H H6 → (∀ L' ∈ L2 :: Lr, ∀ o, H L' = some o → H6 L' = some o) → ∀ a b, H6 a = some (.tup [.str (Str.ofString "times"), .int n, .ref b]) → H6 b = some (.tup us) → Stk (upd H6 L2 (.lst (vs2 ++ [.ref a]))) [] [.int 1] (d + 1) (L2 :: Lr) (.ref k2 :: kr) (ts ++ [.cl]))
    (hL2 : H L2 = some (.lst vs2)) (s3 : Same (upd (upd H F (.lst (V.ref k2 :: kr).reverse)) R (.lst (rs ++ (ts.map Tk.row).map V.str ++ [.str (Str.ofString "end")]))) H3) (ha : H3 a = some (.tup [.str (Str.ofString "times"), .int n, .ref b])) (hb : H3 b = some (.tup us)) :
    Dee H0 (upd H3 L2 (.lst (vs2 ++ [.ref a]))) F R rs (d + 1) (ts ++ [.cl]) := by
  have n2 := hLs L2 (.tail _ (.head _))
  have kp : ∀ c o, c ≠ F → c ≠ R → H c = some o → H3 c = some o := fun c o c1 c2 h => s3 _ _ (by rw [upd_ne c2, upd_ne c1]; exact h)
  have tS : TSame H H3 := fun c xs h => kp c _ (by rintro rfl; rw [hF] at h; cases h) (by rintro rfl; rw [hR] at h; cases h) h
  have st := fin H3 tS (fun L' h' o ho => kp L' o (hLs L' (.tail _ h')).2.1 (hLs L' (.tail _ h')).2.2 ho) a b ha hb
  refine ⟨_, _, st, fun L' h' => hLs L' (.tail _ h'), ?_, ?_, fun c o hc h => ?_⟩
  · rw [upd_ne (Ne.symm n2.2.1)]; exact s3 _ _ (by rw [upd_ne nFR, upd_same])
  · rw [upd_ne (Ne.symm n2.2.2)]
    refine s3 _ _ ?_
    rw [upd_same, rows_app, cl_row, List.append_assoc]; rfl
  · have c2 : c ≠ L2 := ne_of_none h n2.1
    have c1 : c ≠ F := ne_of_none h hF0
    rw [upd_ne c2]; exact kp c o c1 hc (hk0 c o hc h)
theorem cut_ints (ns : List Int) (lo hi : Option Int) : ∃ ms : List Int, cutV (ns.map V.int) lo hi = ms.map V.int ∧ ms.length ≤ HT.sIx ns.length ns.length hi - HT.sIx ns.length 0 lo ∧ ms.length ≤ ns.length := by
  refine ⟨(ns.drop (HT.sIx ns.length 0 lo)).take (HT.sIx ns.length ns.length hi - HT.sIx ns.length 0 lo), ?_, ?_, ?_⟩
  · unfold cutV
    rw [List.length_map, List.map_take, List.map_drop]
  · rw [List.length_take]; omega
  · rw [List.length_take, List.length_drop]; omega
noncomputable def spScript (K : PySem.W.Frag) : Sp := fun vs H Q _ => ∃ (C : Addr) (ns : List Int) (c : Int), vs = [.ref C, .int c] ∧ H C = some (.lst (ns.map V.int)) ∧ ns.length ≤ 62 ∧
  ∀ p v rls dts H', Same H H' → H' p = some (.tup [v, .str (rowsT rls dts)]) → ScV H' v rls dts → SOk rls → go dts 8 8 → (flatR rls ++ dts).length ≤ 300 → Q (.ref p) H'
theorem rl_one (x : Str) (ps : List Str) (ts : List Tk) : flatR [(x, ps, ts)] = [Tk.rl x ps] ++ ts ++ [Tk.cl] := by simp [flatR]
noncomputable def Alk (H : Hp) : Nat → V → V → Prop
  | 0, _, _ => False
  | d + 1, v, u => (∃ s, v = .str s ∧ u = .str s) ∨ (∃ n, v = .int n ∧ u = .int n) ∨ ∃ a b xs ys, v = .ref a ∧ u = .ref b ∧ H a = some (.tup xs) ∧ H b = some (.tup ys) ∧ xs.length ≤ 400 ∧ Paired (Alk H d) xs ys
theorem Alk.up {H : Hp} : ∀ {d : Nat} {v u : V}, Alk H d v u → Alk H (d + 1) v u
  | 0, _, _, h => False.elim h
  | d + 1, _, _, h => by
    rcases h with h | h | ⟨a, b, xs, ys, e1, e2, h1, h2, h3, h4⟩
    · exact .inl h
    · exact .inr (.inl h)
    · exact .inr (.inr ⟨a, b, xs, ys, e1, e2, h1, h2, h3, Paired.mapP h4 fun _ _ h => Alk.up h⟩)
theorem Alk.ts {H H' : Hp} (s : TSame H H') : ∀ {d : Nat} {v u : V}, Alk H d v u → Alk H' d v u
  | 0, _, _, h => False.elim h
  | d + 1, _, _, h => by
    rcases h with h | h | ⟨a, b, xs, ys, e1, e2, h1, h2, h3, h4⟩
    · exact .inl h
    · exact .inr (.inl h)
    · exact .inr (.inr ⟨a, b, xs, ys, e1, e2, s _ _ h1, s _ _ h2, h3, Paired.mapP h4 fun _ _ h => Alk.ts s h⟩)
theorem alk_s {H : Hp} {d : Nat} {z : Str} : Alk H (d + 1) (.str z) (.str z) := .inl ⟨z, rfl, rfl⟩
theorem alk_i {H : Hp} {d : Nat} {n : Int} : Alk H (d + 1) (.int n) (.int n) := .inr (.inl ⟨n, rfl, rfl⟩)
theorem alk_t {H : Hp} {d : Nat} {a b : Addr} {xs ys : List V} (h1 : H a = some (.tup xs)) (h2 : H b = some (.tup ys)) (hl : xs.length ≤ 400) (h : Paired (Alk H d) xs ys) : Alk H (d + 1) (.ref a) (.ref b) := .inr (.inr ⟨a, b, xs, ys, rfl, rfl, h1, h2, hl, h⟩)
theorem alk_strs {H : Hp} {d : Nat} : ∀ ps : List Str, Paired (Alk H (d + 1)) (ps.map V.str) (ps.map V.str)
  | [] => .nil
  | _ :: ps => .cons alk_s (alk_strs ps)
theorem alk_pd {H : Hp} {d : Nat} {v u : V} {p : Pd} (h : PdV H v p) (g : PdV H u p) (ok : p.Ok) : Alk H (d + 3) v u := by
  cases p with
  | year =>
    obtain ⟨a, rfl, ha⟩ := h
    obtain ⟨b, rfl, hb⟩ := g
    exact alk_t ha hb (by simp) (.cons alk_s .nil)
  | dor x ps =>
    obtain ⟨a, a2, rfl, ha, ha2⟩ := h
    obtain ⟨b, b2, rfl, hb, hb2⟩ := g
    have o := ok.2.2.1
    exact alk_t ha hb (by simp) (.cons alk_s (.cons alk_s (.cons (alk_t ha2 hb2 (by rw [List.length_map]; omega) (alk_strs ps)) .nil)))
  | two w x y =>
    obtain ⟨a, rfl, ha⟩ := h
    obtain ⟨b, rfl, hb⟩ := g
    exact alk_t ha hb (by simp) (.cons alk_s (.cons alk_s (.cons alk_s .nil)))
  | mea w x y n e =>
    obtain ⟨a, a2, rfl, ha, ha2⟩ := h
    obtain ⟨b, b2, rfl, hb, hb2⟩ := g
    exact alk_t ha hb (by simp) (.cons alk_s (.cons alk_s (.cons alk_s (.cons (alk_t ha2 hb2 (by simp) (.cons alk_i (.cons alk_i .nil))) .nil))))
noncomputable def Brk (r : List Tk) : Prop := r = [] ∨ ∃ q, r = Tk.cl :: q
theorem alk_rp {H : Hp} {d : Nat} {us : List V} {t : List Tk} (h : Rp H d us t) : ∀ {d' : Nat} {us' : List V} {t' r r' : List Tk}, Rp H d' us' t' → Brk r → Brk r' → t.length ≤ 300 → t ++ r = t' ++ r' → t = t' ∧ Paired (Alk H (2 * d + 3)) us us' := by
  induction h with
  | nil =>
    intro d' us' t' r r' g b b' _ e
    cases g with
    | nil => exact ⟨rfl, .nil⟩
    | pl => rcases b with rfl | ⟨q, rfl⟩ <;> cases e
    | tm => rcases b with rfl | ⟨q, rfl⟩ <;> cases e
  | pl hv ok _ ih =>
    intro d' us' t' r r' g b b' hl e
    cases g with
    | nil => rcases b' with rfl | ⟨q, rfl⟩ <;> cases e
    | pl hv' _ g' =>
      obtain ⟨e1, e2⟩ := List.cons.inj e
      cases e1
      obtain ⟨rfl, hp⟩ := ih g' b b' (by rw [List.length_cons] at hl; omega) e2
      exact ⟨rfl, .cons (alk_pd hv hv' ok) hp⟩
    | tm => cases (List.cons.inj e).1
  | @tm d a a2 n us1 vs1 t1 ts ha ha2 _ _ r1 _ ih1 ih2 =>
    intro d' us' t' r r' g b b' hl e
    cases g with
    | nil => rcases b' with rfl | ⟨q, rfl⟩ <;> cases e
    | pl => cases (List.cons.inj e).1
    | @tm _ c c2 n' us2 vs2 t2 ts2 hc hc2 _ _ g1 g2 =>
      obtain ⟨e1, e2⟩ := List.cons.inj e
      cases e1
      simp only [List.length_cons, List.length_append] at hl
      have e2 : (t1 ++ Tk.cl :: ts) ++ r = (t2 ++ Tk.cl :: ts2) ++ r' := e2
      rw [List.append_assoc, List.append_assoc] at e2
      obtain ⟨rfl, hp1⟩ := ih1 g1 (.inr ⟨_, rfl⟩) (.inr ⟨_, rfl⟩) (by omega) e2
      have e3 := (List.cons.inj (List.append_cancel_left e2)).2
      obtain ⟨rfl, hp2⟩ := ih2 g2 b b' (by omega) e3
      have hlu := r1.len
      exact ⟨rfl, .cons (alk_t ha hc (by simp) (.cons alk_s (.cons alk_i (.cons (alk_t ha2 hc2 (by omega) hp1) .nil)))) hp2⟩
theorem alk_sc {H : Hp} {v u : V} {rls : List Rl} {dts : List Tk} (h : ScV H v rls dts) (g : ScV H u rls dts) (hl : (flatR rls ++ dts).length ≤ 300) (ok : ∀ r ∈ rls, r.2.1.length ≤ 8) : Alk H 23 v u := by
  obtain ⟨p, a, b, rv, us, rfl, h1, h2, h3, h4, h5⟩ := h
  obtain ⟨p', a', b', rv', us', rfl, g1, g2, g3, g4, g5⟩ := g
  rw [List.length_append] at hl
  have hrl := flatR_len rls
  have one : ∀ {x y : V} {r : Rl}, RlV H x r → RlV H y r → r.2.2.length ≤ 300 → r.2.1.length ≤ 8 → Alk H 21 x y := fun {x y r} h g hl2 h8 => by
    obtain ⟨a, b, c, us, rfl, e1, e2, e3, e4⟩ := h
    obtain ⟨a', b', c', us', rfl, f1, f2, f3, f4⟩ := g
    have hu := e4.len
    exact alk_t e1 f1 (by simp) (.cons alk_s (.cons (alk_t e2 f2 (by rw [List.length_map]; omega) (alk_strs _)) (.cons (alk_t e3 f3 (by omega) (alk_rp e4 f4 (.inl rfl) (.inl rfl) hl2 rfl).2) .nil)))
  have all : ∀ {rls : List Rl} {rv rv' : List V}, Paired (RlV H) rv rls → Paired (RlV H) rv' rls → (flatR rls).length ≤ 300 → (∀ r ∈ rls, r.2.1.length ≤ 8) → Paired (Alk H 21) rv rv' := by
    intro rls
    induction rls with
    | nil => intro rv rv' h g _ _; cases h; cases g; exact .nil
    | cons r rls ih =>
      intro rv rv' h g hl ok
      obtain ⟨x, ps, t⟩ := r
      simp only [flatR, List.length_cons, List.length_append] at hl
      cases h with
      | cons h1 h2 =>
        cases g with
        | cons g1 g2 => exact .cons (one h1 g1 (by show t.length ≤ 300; omega) (ok _ (.head _))) (ih h2 g2 (by omega) fun r hr => ok r (.tail _ hr))
  have hu := h5.len
  refine alk_t h1 g1 (by simp) (.cons (alk_t h2 g2 (by rw [h3.length]; omega) (all h3 g3 (by omega) ok)) (.cons (Alk.up (Alk.up (alk_t h4 g4 (by omega) (alk_rp h5 g5 (.inl rfl) (.inl rfl) (by omega) rfl).2))) .nil))
noncomputable def spAlk (K : PySem.W.Frag) (d : Nat) : Sp := fun vs H Q _ => ∃ v u, vs = [v, u] ∧ Alk H d v u ∧ ∀ H', Same H H' → Q (.bl true) H'
theorem all_true : ∀ n : Nat, (List.replicate n true).all id = true
  | 0 => rfl
  | n + 1 => by rw [List.replicate_succ, List.all_cons, all_true n]; rfl
end T12
namespace T12
open PySem L2 Tc
section
variable {P : Program} {w : World} {K : PySem.W.Frag} {mg : Str → Option Value} {base : Heap}
noncomputable abbrev s_is_name : Stmt := top 5
theorem sc_is_name : FnScope ["thing"] ["thing"] (defScope s_is_name) := ⟨rfl, rfl, rfl, by decide +kernel, rfl, by decide +kernel, by decide +kernel⟩
theorem ok_is_name (D : DefAt K mg "is_name" s_is_name) (T : Txt K mg) : FnAt P w K mg base CX0 1 "is_name" ["thing"] (spIsName) := by
  refine D.ok sc_is_name (fun vs H Q E h => ?_) (fun _ _ _ _ _ _ us hl => match us, hl with | [_], _ => rfl) (fun f cdv A outer s H vs Q E hr h => ?_)
  · obtain ⟨v, n, rfl, hv, k0, k1⟩ := h; rfl
  · obtain ⟨v, n, rfl, hv, k0, k1⟩ := h
    have nd := sc_is_name.nd
    refine ⟨_, (@pss_cons _ _ _ _ _ (ps_if (PW.pt (pw_or (pt_not (pt_val (pe_callB (call_isi' (K := K) rfl) (by rfl) T.z_isinstance bt_isinstance (@pa_cons _ _ _ _ _ (pv 0) (@pa_cons _ _ _ _ _ (pe_bltn (v := .ty "str") (by rfl) T.z_str bt_str rfl) pa_nil (by rfl)) (by rfl))))) (pw_or (pt_cmpR op_lt (pe_callB (call_len' (K := K) rfl) (by rfl) T.z_len PySem.boot_len (@pa_cons _ _ _ _ _ (pv 0) pa_nil (by rfl))) pe_int (nomark _)) (pw_or1 (pt_cmpR op_gt (pe_callB (call_len' (K := K) rfl) (by rfl) T.z_len PySem.boot_len (@pa_cons _ _ _ _ _ (pv 0) pa_nil (by rfl))) pe_int (nomark _)))))) (@pss_one _ _ _ (ps_ret pe_bl)) pss_nil)
      (@pss_one _ _ _ (ps_ret (pe_callB (call_all' (K := K) rfl rfl) (by rfl) T.z_all bt_all (@pa_cons _ _ _ _ _ (pe_comp ["letter"] [] [] rfl (by rfl) (pi_str (pv 0)) (fun _ _ _ _ => (pg_name (i := 0) (show List.Nodup (["letter"] : List Str) from by decide) rfl (Or.inl rfl))) (fun _ _ _ _ => pif_none) (fun _ _ _ _ => (pe_cmpR op_in_str (pv 0) (pe_gstr (by rfl) T.g_LETTERS) (by rfl)))) pa_nil (by rfl)))))), ?_⟩
    refine ⟨_, rfl, _, _, _, _, rfl, tyOf_of hv, kit_tt (tyS_mem hv) (by decide), _, rfl, ?_⟩
    by_cases hs : n = "str"
    · subst hs
      obtain ⟨z, rfl⟩ := str_of hv
      obtain ⟨hz, k1⟩ := k1 z rfl
      have hl : z.length ≤ sizeLine := sz (by omega)
      refine iteF ?_
      refine ⟨_, rfl, _, _, rfl, ⟨hl, rfl⟩, _, _, rfl, rfl, _, rfl, ?_⟩
      refine ite2 (fun h => ?_) (fun h => ?_)
      · have h : ((z.length : Nat) : Int) < 1 := of_decide_eq_true h
        have e : nm z = false := by
          unfold nm
          rw [decide_eq_false (by omega), Bool.false_and]
        have k := k1 H (Same.refl _)
        rw [e] at k
        exact iteT k
      have h1 : ¬ ((z.length : Nat) : Int) < 1 := fun z => h (decide_eq_true z)
      refine ⟨_, rfl, _, _, rfl, ⟨hl, rfl⟩, _, _, rfl, rfl, _, rfl, ?_⟩
      refine ite2 (fun h => ?_) (fun h => ?_)
      · have h : (8 : Int) < ((z.length : Nat) : Int) := of_decide_eq_true h
        have e : nm z = false := by
          unfold nm
          rw [decide_eq_false (by omega), Bool.false_and]
        have k := k1 H (Same.refl _)
        rw [e] at k
        exact k
      have h8 : ¬ (8 : Int) < ((z.length : Nat) : Int) := fun z => h (decide_eq_true z)
      refine ⟨_, rfl, z, rfl, fun D hD => ?_⟩
      refine block_str (fun i σ' H' => ∃ v : Option V, σ' = [v] ∧ Same H H' ∧ H' D = some (.lst (((z.cps.toList.take i).map inL).map V.bl))) ⟨none, rfl, Same.upd hD, upd_same⟩ ?_ ?_
      · rintro i c σ' H' hc ⟨v, rfl, s1, hd⟩
        have hc' : z.cps.toList[i]? = some c := by simpa using hc
        refine ⟨_, rfl, _, _, rfl, rfl, _, hd, ?_, _, rfl, s1.updD hD, ?_⟩
        · have hzz : z.cps.toList.length = z.length := Array.length_toList
          rw [List.length_map, List.length_map, List.length_take]; exact sz (by omega)
        · rw [upd_same, List.take_add_one, hc', List.map_append, List.map_append]
          rfl
      · rintro σ' H' ⟨v, rfl, s1, hd⟩
        have e1 : z.cps.toList.take z.cps.size = z.cps.toList := by
          rw [← Array.length_toList, List.take_length]
        rw [e1] at hd
        refine ⟨D, _, rfl, SqL.of hd, ?_⟩
        have e : nm z = (z.cps.toList.map inL).all id := by
          unfold nm
          rw [decide_eq_true (by omega), Bool.true_and, List.all_map]
          rfl
        have k := k1 H' s1
        rw [e] at k
        exact k
    · have e := sub_str hs
      refine ite2 (fun _ => ?_) (fun h => ?_)
      · exact iteT (k0 hs)
      · have h : ¬ (!(subS n "str")) = true := h
        rw [e] at h
        exact absurd rfl h
end
end T12
namespace T12
open PySem L2 Tc
section
variable {P : Program} {w : World} {K : PySem.W.Frag} {mg : Str → Option Value} {base : Heap}
noncomputable abbrev s_is_whole : Stmt := top 7
theorem sc_is_whole : FnScope ["thing"] ["thing"] (defScope s_is_whole) := ⟨rfl, rfl, rfl, by decide +kernel, rfl, by decide +kernel, by decide +kernel⟩
theorem ok_is_whole (D : DefAt K mg "is_whole" s_is_whole) (T : Txt K mg) : FnAt P w K mg base CX0 1 "is_whole" ["thing"] (spWhole) := by
  refine D.ok sc_is_whole (fun vs H Q E h => ?_) (fun _ _ _ _ _ _ us hl => match us, hl with | [_], _ => rfl) (fun f cdv A outer s H vs Q E hr h => ?_)
  · obtain ⟨v, n, rfl, hv, k⟩ := h; rfl
  · obtain ⟨v, n, rfl, hv, k⟩ := h
    have nd := sc_is_whole.nd
    refine ⟨_, (@pss_one _ _ _ (ps_ret (pe_and (pe_callB (call_isi' (K := K) rfl) (by rfl) T.z_isinstance bt_isinstance (@pa_cons _ _ _ _ _ (pv 0) (@pa_cons _ _ _ _ _ (pe_bltn (v := .ty "int") (by rfl) T.z_int bt_int rfl) pa_nil (by rfl)) (by rfl))) (pe_one (pe_not (pe_callB (call_isi' (K := K) rfl) (by rfl) T.z_isinstance bt_isinstance (@pa_cons _ _ _ _ _ (pv 0) (@pa_cons _ _ _ _ _ (pe_bltn (v := .ty "bool") (by rfl) T.z_bool bt_bool rfl) pa_nil (by rfl)) (by rfl)))))))), ?_⟩
    refine ⟨_, rfl, _, _, _, _, rfl, tyOf_of hv, kit_tt (tyS_mem hv) (by decide), _, rfl, ?_⟩
    refine ite2 (fun h1 => ?_) (fun h1 => ?_)
    · refine ⟨_, rfl, _, _, _, _, rfl, tyOf_of hv, kit_tt (tyS_mem hv) (by decide), _, rfl, ?_⟩
      rw [sub_int] at h1
      rw [sub_bool]
      have e : (!(n == "bool")) = (n == "int") := by
        rcases Bool.or_eq_true_iff.mp h1 with z | z
        · have z := beq_iff_eq.mp z; subst z; decide
        · have z := beq_iff_eq.mp z; subst z; decide
      rw [e]; exact k
    · rw [sub_int] at h1
      have e : (n == "int") = false := by
        cases q : (n == "int") with
        | false => rfl
        | true => rw [q] at h1; exact absurd rfl h1
      rw [e] at k; exact k
end
end T12
namespace T12
open PySem L2 Tc
section
variable {P : Program} {w : World} {K : PySem.W.Frag} {mg : Str → Option Value} {base : Heap}
noncomputable abbrev s_common_divisor : Stmt := top 9
theorem sc_common_divisor : FnScope ["top", "bottom", "rest"] ["top", "bottom"] (defScope s_common_divisor) := ⟨rfl, rfl, rfl, by decide +kernel, rfl, by decide +kernel, by decide +kernel⟩
theorem ok_common_divisor (D : DefAt K mg "common_divisor" s_common_divisor) (T : Txt K mg) : FnAt P w K mg base CX0 1 "common_divisor" ["top", "bottom"] (spCd) := by
  refine D.ok sc_common_divisor (fun vs H Q E h => ?_) (fun _ _ _ _ _ _ us hl => match us, hl with | [_, _], _ => rfl) (fun f cdv A outer s H vs Q E hr h => ?_)
  · obtain ⟨t, b, rfl, hb, k⟩ := h; rfl
  · obtain ⟨t, b, rfl, hb, k⟩ := h
    have nd := sc_common_divisor.nd
    refine ⟨_, (@pss_cons _ _ _ _ _ (ps_while PassesOwn.never (pt_cmpR op_ne (pv 1) pe_int (nomark _)) (@pss_cons _ _ _ _ _ (@ps_set _ _ 2 _ _ _ _ nd rfl (Or.inl rfl) (@pe_op _ _ _ _ _ _ _ _ op_modN (pv 0) (pv 1)) (by rfl) (Or.inl rfl))
      (@pss_cons _ _ _ _ _ (@ps_set _ _ 0 _ _ _ _ nd rfl (Or.inl rfl) (pv 1) (by rfl) (Or.inl rfl))
      (@pss_one _ _ _ (@ps_set _ _ 1 _ _ _ _ nd rfl (Or.inl rfl) (pv 2) (by rfl) (Or.inl rfl))))))
      (@pss_one _ _ _ (ps_ret (pv 0)))), ?_⟩
    refine while_by (fun σ H1 => ∃ (x y : Int) (v : Option V), σ = [some (.int x), some (.int y), v] ∧ H1 = H ∧ Dv t b x y)
      (fun σ _ => match σ with | [_, some (.int y), _] => y.natAbs | _ => 0) ⟨t, b, none, rfl, rfl, Dv.start hb⟩ ?_ ?_
    · rintro σ H1 ⟨x, y, v, rfl, rfl, d⟩
      refine ⟨_, rfl, rfl, _, rfl, ?_⟩
      refine ite2 (fun h1 => ?_) (fun h1 => ?_)
      · have hy : y ≠ 0 := by
          intro e; subst e; simp at h1
        refine ⟨_, rfl, _, rfl, _, _, rfl, rfl, hy, ?_⟩
        refine ⟨_, rfl, _, rfl, ?_⟩
        exact ⟨⟨_, _, _, rfl, rfl, d.turn hy⟩, Dv.less hy⟩
      · have hy : y = 0 := by
          by_cases e : y = 0
          · exact e
          · exact absurd (by simp [e]) h1
        refine ⟨_, rfl, ?_⟩
        rw [d.done hy hb]; exact k
    · intro σ H1 Q1 Q2 hq h1
      obtain ⟨v, e, h2, c, e2, h3⟩ := h1
      exact ⟨v, e, h2, c, e2, hq _ _ h3⟩
end
end T12
namespace T12
open PySem L2 Tc
section
variable {P : Program} {w : World} {K : PySem.W.Frag} {mg : Str → Option Value} {base : Heap}
noncomputable abbrev s_is_fraction : Stmt := top 8
theorem sc_is_fraction : FnScope ["thing", "top", "bottom"] ["thing"] (defScope s_is_fraction) := ⟨rfl, rfl, rfl, by decide +kernel, rfl, by decide +kernel, by decide +kernel⟩
theorem ok_is_fraction (D : DefAt K mg "is_fraction" s_is_fraction) (T : Txt K mg) (G_is_whole : FnAt P w K mg base CX0 1 "is_whole" ["thing"] (spWhole)) (G_common_divisor : FnAt P w K mg base CX0 1 "common_divisor" ["top", "bottom"] (spCd)) : FnAt P w K mg base CX0 2 "is_fraction" ["thing"] (spFrT K) := by
  refine D.ok sc_is_fraction (fun vs H Q E h => ?_) (fun _ _ _ _ _ _ us hl => match us, hl with | [_], _ => rfl) (fun f cdv A outer s H vs Q E hr h => ?_)
  · obtain ⟨a, x, y, rfl, hS, hy0, hg, k⟩ := h; rfl
  · obtain ⟨a, x, y, rfl, hS, hy0, hg, k⟩ := h
    have nd := sc_is_fraction.nd
    refine ⟨_, (@pss_cons _ _ _ _ _ (ps_if (PW.pt (pw_or (pt_not (pt_val (pe_callB (call_isi' (K := K) rfl) (by rfl) T.z_isinstance bt_isinstance (@pa_cons _ _ _ _ _ (pv 0) (@pa_cons _ _ _ _ _ (pe_bltn (v := .ty "tuple") (by rfl) T.z_tuple bt_tuple rfl) pa_nil (by rfl)) (by rfl))))) (pw_or1 (pt_cmpR op_ne (pe_callB (call_len' (K := K) rfl) (by rfl) T.z_len PySem.boot_len (@pa_cons _ _ _ _ _ (pv 0) pa_nil (by rfl))) pe_int (nomark _))))) (@pss_one _ _ _ (ps_ret pe_bl)) pss_nil)
      (@pss_cons _ _ _ _ _ (@ps_set _ _ 1 _ _ _ _ nd rfl (Or.inl rfl) (pe_ix (ix_tup' (K := K) rfl) (pv 0) pe_int (fun _ _ => rfl)) (by rfl) (Or.inl rfl))
      (@pss_cons _ _ _ _ _ (@ps_set _ _ 2 _ _ _ _ nd rfl (Or.inl rfl) (pe_ix (ix_tup' (K := K) rfl) (pv 0) pe_int (fun _ _ => rfl)) (by rfl) (Or.inl rfl))
      (@pss_cons _ _ _ _ _ (ps_if (PW.pt (pw_or (pt_not (pt_val (pe_fn G_is_whole hr (by rfl) pass0 (@pa_cons _ _ _ _ _ (pv 1) pa_nil (by rfl))))) (pw_or (pt_not (pt_val (pe_fn G_is_whole hr (by rfl) pass0 (@pa_cons _ _ _ _ _ (pv 2) pa_nil (by rfl))))) (pw_or1 (pt_cmpR op_lt (pv 2) pe_int (nomark _)))))) (@pss_one _ _ _ (ps_ret pe_bl)) pss_nil)
      (@pss_one _ _ _ (ps_ret (pe_cmpR op_eq (pe_fn G_common_divisor hr (by rfl) pass0 (@pa_cons _ _ _ _ _ (pv 1) (@pa_cons _ _ _ _ _ (pv 2) pa_nil (by rfl)) (by rfl))) pe_int (nomark _)))))))), ?_⟩
    have hv : tyS H (.ref a) = some "tuple" := ty_of hS rfl
    refine ⟨_, rfl, _, _, _, _, rfl, tyOf_of hv, kit_tt (by decide) (by decide), _, rfl, ?_⟩
    refine iteF ?_
    refine ⟨_, rfl, _, _, rfl, .inr ⟨_, SqT.of hS, rfl⟩, rfl, _, rfl, ?_⟩
    refine iteF ?_
    refine ⟨_, rfl, a, _, 0, _, rfl, rfl, SqT.of hS, rfl, ?_⟩
    refine ⟨_, rfl, a, _, 1, _, rfl, rfl, SqT.of hS, rfl, ?_⟩
    refine ⟨_, rfl, .int x, "int", rfl, rfl, _, rfl, ?_⟩
    refine iteF ?_
    refine ⟨_, rfl, .int y, "int", rfl, rfl, _, rfl, ?_⟩
    refine iteF ?_
    refine ⟨_, rfl, _, _, rfl, rfl, _, rfl, ?_⟩
    refine ite2 (fun h => ?_) (fun _ => ?_)
    · have h : y < 1 := of_decide_eq_true h
      omega
    refine ⟨_, rfl, _, rfl, x, y, rfl, by omega, ?_⟩
    have e : dv x y = 1 := by rw [dv_pos hy0, hg]; rfl
    rw [e]
    exact ⟨rfl, k⟩
end
end T12
namespace T12
open PySem L2 Tc
section
variable {P : Program} {w : World} {K : PySem.W.Frag} {mg : Str → Option Value} {base : Heap}
noncomputable abbrev s_whole_read : Stmt := top 17
theorem sc_whole_read : FnScope ["word"] ["word"] (defScope s_whole_read) := ⟨rfl, rfl, rfl, by decide +kernel, rfl, by decide +kernel, by decide +kernel⟩
theorem ok_whole_read (D : DefAt K mg "whole_read" s_whole_read) (T : Txt K mg) : FnAt P w K mg base CX0 1 "whole_read" ["word"] (spWholeR) := by
  refine D.ok sc_whole_read (fun vs H Q E h => ?_) (fun _ _ _ _ _ _ us hl => match us, hl with | [_], _ => rfl) (fun f cdv A outer s H vs Q E hr h => ?_)
  · obtain ⟨n, rfl, h0, hn, k⟩ := h; rfl
  · obtain ⟨n, rfl, h0, hn, k⟩ := h
    have nd := sc_whole_read.nd
    refine ⟨_, (@pss_cons _ _ _ _ _ (ps_if (PW.pt (pw_or (pt_cmpR op_lt (pe_callB (call_len' (K := K) rfl) (by rfl) T.z_len PySem.boot_len (@pa_cons _ _ _ _ _ (pv 0) pa_nil (by rfl))) pe_int (nomark _)) (pw_or1 (pt_cmpR op_gt (pe_callB (call_len' (K := K) rfl) (by rfl) T.z_len PySem.boot_len (@pa_cons _ _ _ _ _ (pv 0) pa_nil (by rfl))) (pe_gint (by rfl) T.g_MOST_FIGURES) (nomark _))))) (@pss_one _ _ _ (ps_ret pe_non)) pss_nil)
      (@pss_cons _ _ _ _ _ (ps_if (pt_not (pt_val (pe_callB (call_all' (K := K) rfl rfl) (by rfl) T.z_all bt_all (@pa_cons _ _ _ _ _ (pe_comp ["figure"] [] [] rfl (by rfl) (pi_str (pv 0)) (fun _ _ _ _ => (pg_name (i := 0) (show List.Nodup (["figure"] : List Str) from by decide) rfl (Or.inl rfl))) (fun _ _ _ _ => pif_none) (fun _ _ _ _ => (pe_cmpR op_in_str (pv 0) (pe_gstr (by rfl) T.g_FIGURES) (by rfl)))) pa_nil (by rfl))))) (@pss_one _ _ _ (ps_ret pe_non)) pss_nil)
      (@pss_cons _ _ _ _ _ (ps_if (PW.pt (pw_and (pt_cmpR op_eq (pe_ix ix_str (pv 0) pe_int (fun _ _ => rfl)) pe_str (nomark _)) (pw_and1 (pt_cmpR op_ne (pv 0) pe_str (nomark _))))) (@pss_one _ _ _ (ps_ret pe_non)) pss_nil)
      (@pss_one _ _ _ (ps_ret (pe_callTy call_intT (by rfl) T.z_int bt_int (@pa_cons _ _ _ _ _ (pv 0) pa_nil (by rfl)))))))), ?_⟩
    have l12 := figs_len h0 hn
    obtain ⟨m, rfl⟩ := Int.eq_ofNat_of_zero_le h0
    have l1 := figs_pos m
    have hl : (figs (m : Int)).length ≤ sizeLine := sz (by omega)
    refine ⟨_, rfl, _, _, rfl, ⟨hl, rfl⟩, _, _, rfl, rfl, _, rfl, ?_⟩
    refine ite2 (fun h => ?_) (fun _ => ?_)
    · have h : (((figs (m : Int)).length : Nat) : Int) < 1 := of_decide_eq_true h
      omega
    refine ⟨_, rfl, _, _, rfl, ⟨hl, rfl⟩, _, _, rfl, rfl, _, rfl, ?_⟩
    refine ite2 (fun h => ?_) (fun _ => ?_)
    · have h : (12 : Int) < (((figs (m : Int)).length : Nat) : Int) := of_decide_eq_true h
      omega
    refine ⟨_, rfl, figs (m : Int), rfl, fun D hD => ?_⟩
    refine block_str (fun i σ' H' => ∃ v : Option V, σ' = [v] ∧ Same H H' ∧ H' D = some (.lst ((((figs (m : Int)).cps.toList.take i).map inF).map V.bl))) ⟨none, rfl, Same.upd hD, upd_same⟩ ?_ ?_
    · rintro i c σ' H' hc ⟨v, rfl, s1, hd⟩
      have hc' : (figs (m : Int)).cps.toList[i]? = some c := by simpa using hc
      refine ⟨_, rfl, _, _, rfl, rfl, _, hd, ?_, _, rfl, s1.updD hD, ?_⟩
      · have hzz : (figs (m : Int)).cps.toList.length = (figs (m : Int)).length := Array.length_toList
        rw [List.length_map, List.length_map, List.length_take]; exact sz (by omega)
      · rw [upd_same, List.take_add_one, hc', List.map_append, List.map_append]
        rfl
    · rintro σ' H' ⟨v, rfl, s1, hd⟩
      have e1 : (figs (m : Int)).cps.toList.take (figs (m : Int)).cps.size = (figs (m : Int)).cps.toList := by
        rw [← Array.length_toList, List.take_length]
      rw [e1] at hd
      refine ⟨D, _, rfl, SqL.of hd, _, rfl, ?_⟩
      refine ite2 (fun h => ?_) (fun _ => ?_)
      · have h : (!(((figs (m : Int)).cps.toList.map inF).all id)) = true := h
        rw [figs_in] at h
        cases h
      have hzz : (figs (m : Int)).cps.toList.length = (figs (m : Int)).length := Array.length_toList
      obtain ⟨c, hc⟩ : ∃ c, (figs (m : Int)).cps.toList[0]? = some c := ⟨_, List.getElem?_eq_getElem (by omega)⟩
      have hc2 : atI (figs (m : Int)).cps.toList 0 = some c := atI_nat (j := 0) hc
      have fin : rIntT [.str (figs (m : Int))] H' Q := ⟨_, (m : Int), rfl, int_reads m (Nat.le_trans l12 (by decide)), Nat.le_trans l12 (by decide), k H' s1⟩
      refine ⟨_, rfl, figs (m : Int), 0, c, rfl, rfl, hl, hc2, rfl, _, rfl, ?_⟩
      refine ite2 (fun h => ?_) (fun _ => ⟨_, rfl, fin⟩)
      have hc48 : c = 48 := by
        have h : V.str ⟨#[c]⟩ = V.str (Str.ofString "0") := of_decide_eq_true h
        have e0 : Str.ofString "0" = ⟨#[48]⟩ := by decide +kernel
        rw [e0] at h
        have h := V.str.inj h
        have h := Str.mk.inj h
        simpa using h
      have m0 : m = 0 := by
        apply Classical.byContradiction
        intro z
        refine dig_head m (by omega) ?_
        rw [← figs_signs, List.head?_eq_getElem?, hc, hc48]
      refine ⟨_, rfl, rfl, _, rfl, ?_⟩
      refine ite2 (fun h => ?_) (fun _ => ⟨_, rfl, fin⟩)
      subst m0
      have e2 : figs ((0 : Nat) : Int) = Str.ofString "0" := by decide +kernel
      rw [e2] at h
      have h : (!decide (V.str (Str.ofString "0") = V.str (Str.ofString "0"))) = true := h
      simp at h
end
end T12
namespace T12
open PySem L2 Tc
section
variable {P : Program} {w : World} {K : PySem.W.Frag} {mg : Str → Option Value} {base : Heap}
noncomputable abbrev s_number_read : Stmt := top 18
theorem sc_number_read : FnScope ["word", "parts", "top", "bottom"] ["word"] (defScope s_number_read) := ⟨rfl, rfl, rfl, by decide +kernel, rfl, by decide +kernel, by decide +kernel⟩
theorem ok_number_read (D : DefAt K mg "number_read" s_number_read) (T : Txt K mg) (G_whole_read : FnAt P w K mg base CX0 1 "whole_read" ["word"] (spWholeR)) (G_is_fraction : FnAt P w K mg base CX0 2 "is_fraction" ["thing"] (spFrT K)) : FnAt P w K mg base CX0 3 "number_read" ["word"] (spNumR K) := by
  refine D.ok sc_number_read (fun vs H Q E h => ?_) (fun _ _ _ _ _ _ us hl => match us, hl with | [_], _ => rfl) (fun f cdv A outer s H vs Q E hr h => ?_)
  · obtain ⟨x, y, rfl, hx0, hx, hy0, hy, hg, k⟩ := h; rfl
  · obtain ⟨x, y, rfl, hx0, hx, hy0, hy, hg, k⟩ := h
    have nd := sc_number_read.nd
    refine ⟨_, (@pss_cons _ _ _ _ _ (@ps_set _ _ 1 _ _ _ _ nd rfl (Or.inl rfl) (pe_bm' (K := K) rfl PySem.F.plainAttrs_str PySem.F.slot_str_split PySem.F.type_str_split mt_split (pv 0) (@pa_cons _ _ _ _ _ pe_str pa_nil (by rfl))) (by rfl) (Or.inl rfl))
      (@pss_cons _ _ _ _ _ (@ps_set _ _ 2 _ _ _ _ nd rfl (Or.inl rfl) (pe_fn G_whole_read hr (by rfl) pass0 (@pa_cons _ _ _ _ _ (pe_ix (ix_list' (K := K) rfl) (pv 1) pe_int (fun _ _ => rfl)) pa_nil (by rfl))) (by rfl) (Or.inl rfl))
      (@pss_cons _ _ _ _ _ (ps_if (PW.pt (pw_or (pt_cmpR op_isN (pv 2) pe_non (nomark _)) (pw_or1 (pt_cmpR op_gt (pe_callB (call_len' (K := K) rfl) (by rfl) T.z_len PySem.boot_len (@pa_cons _ _ _ _ _ (pv 1) pa_nil (by rfl))) pe_int (nomark _))))) (@pss_one _ _ _ (ps_ret pe_non)) pss_nil)
      (@pss_cons _ _ _ _ _ (ps_if (pt_cmpR op_eq (pe_callB (call_len' (K := K) rfl) (by rfl) T.z_len PySem.boot_len (@pa_cons _ _ _ _ _ (pv 1) pa_nil (by rfl))) pe_int (nomark _)) (@pss_one _ _ _ (ps_ret (@pe_tup _ _ _ _ _ (@pa_cons _ _ _ _ _ (pv 2) (@pa_cons _ _ _ _ _ pe_int pa_nil (by rfl)) (by rfl))))) pss_nil)
      (@pss_cons _ _ _ _ _ (@ps_set _ _ 3 _ _ _ _ nd rfl (Or.inl rfl) (pe_fn G_whole_read hr (by rfl) pass0 (@pa_cons _ _ _ _ _ (pe_ix (ix_list' (K := K) rfl) (pv 1) pe_int (fun _ _ => rfl)) pa_nil (by rfl))) (by rfl) (Or.inl rfl))
      (@pss_cons _ _ _ _ _ (ps_if (PW.pt (pw_or (pt_cmpR op_isN (pv 3) pe_non (nomark _)) (pw_or (pt_cmpR op_lt (pv 3) pe_int (nomark _)) (pw_or1 (pt_not (pt_val (pe_fn G_is_fraction hr (by rfl) pass0 (@pa_cons _ _ _ _ _ (@pe_tup _ _ _ _ _ (@pa_cons _ _ _ _ _ (pv 2) (@pa_cons _ _ _ _ _ (pv 3) pa_nil (by rfl)) (by rfl))) pa_nil (by rfl))))))))) (@pss_one _ _ _ (ps_ret pe_non)) pss_nil)
      (@pss_one _ _ _ (ps_ret (@pe_tup _ _ _ _ _ (@pa_cons _ _ _ _ _ (pv 2) (@pa_cons _ _ _ _ _ (pv 3) pa_nil (by rfl)) (by rfl))))))))))), ?_⟩
    have hl := num_len hx0 hx hy0 hy
    have hs := num_split hx0 hy0
    refine ⟨_, rfl, rfl, numTxt x y, Str.ofString "/", rfl, rfl, (by decide), by omega, fun p hp => ?_⟩
    rw [hs]
    have hq : upd H p (.lst ((if y = 1 then [figs x] else [figs x, figs y]).map V.str)) p = some (.lst ((if y = 1 then [figs x] else [figs x, figs y]).map V.str)) := upd_same
    by_cases hy1 : y = 1
    · rw [if_pos hy1] at hq ⊢
      refine ⟨_, rfl, p, _, 0, _, rfl, rfl, SqL.of hq, rfl, x, rfl, hx0, hx, fun H1 s1 => ?_⟩
      have hq1 := s1 _ _ hq
      have sa : Same H H1 := (Same.upd hp).trans s1
      refine ⟨_, rfl, rfl, _, rfl, ?_⟩
      refine iteF ?_
      refine ⟨_, rfl, _, _, rfl, .inl ⟨_, SqL.of hq1, rfl⟩, _, _, rfl, rfl, _, rfl, ?_⟩
      refine iteF ?_
      refine ⟨_, rfl, _, _, rfl, .inl ⟨_, SqL.of hq1, rfl⟩, rfl, _, rfl, ?_⟩
      refine iteT ?_
      refine ⟨_, rfl, sz (show 2 ≤ 1000 by decide), fun p2 h2 => k p2 _ (sa.trans (Same.upd h2)) ?_⟩
      rw [hy1]; exact upd_same
    rw [if_neg hy1] at hq ⊢
    refine ⟨_, rfl, p, _, 0, _, rfl, rfl, SqL.of hq, rfl, x, rfl, hx0, hx, fun H1 s1 => ?_⟩
    have hq1 := s1 _ _ hq
    have sa : Same H H1 := (Same.upd hp).trans s1
    refine ⟨_, rfl, rfl, _, rfl, ?_⟩
    refine iteF ?_
    refine ⟨_, rfl, _, _, rfl, .inl ⟨_, SqL.of hq1, rfl⟩, _, _, rfl, rfl, _, rfl, ?_⟩
    refine iteF ?_
    refine ⟨_, rfl, _, _, rfl, .inl ⟨_, SqL.of hq1, rfl⟩, rfl, _, rfl, ?_⟩
    refine iteF ?_
    refine ⟨_, rfl, p, _, 1, _, rfl, rfl, SqL.of hq1, rfl, y, rfl, by omega, hy, fun H2 s2 => ?_⟩
    refine ⟨_, rfl, rfl, _, rfl, ?_⟩
    refine iteF ?_
    refine ⟨_, rfl, _, _, rfl, rfl, _, rfl, ?_⟩
    refine ite2 (fun h => ?_) (fun _ => ?_)
    · have h : y < 2 := of_decide_eq_true h
      omega
    refine ⟨_, rfl, _, rfl, sz (show 2 ≤ 1000 by decide), fun p2 h2 => ⟨p2, x, y, rfl, upd_same, hy0, hg, _, rfl, ?_⟩⟩
    refine iteF ?_
    exact ⟨_, rfl, _, rfl, sz (show 2 ≤ 1000 by decide), fun p3 h3 => k p3 _ (((sa.trans s2).trans (Same.upd h2)).trans (Same.upd h3)) upd_same⟩
end
end T12
namespace T12
open PySem L2 Tc
section
variable {P : Program} {w : World} {K : PySem.W.Frag} {mg : Str → Option Value} {base : Heap}
noncomputable abbrev s_amount_read : Stmt := top 19
theorem sc_amount_read : FnScope ["word", "amount"] ["word"] (defScope s_amount_read) := ⟨rfl, rfl, rfl, by decide +kernel, rfl, by decide +kernel, by decide +kernel⟩
theorem ok_amount_read (D : DefAt K mg "amount_read" s_amount_read) (T : Txt K mg) (G_number_read : FnAt P w K mg base CX0 3 "number_read" ["word"] (spNumR K)) : FnAt P w K mg base CX0 4 "amount_read" ["word"] (spAmR K) := by
  refine D.ok sc_amount_read (fun vs H Q E h => ?_) (fun _ _ _ _ _ _ us hl => match us, hl with | [_], _ => rfl) (fun f cdv A outer s H vs Q E hr h => ?_)
  · obtain ⟨x, y, rfl, hx0, hx, hy0, hy, hg, k⟩ := h; rfl
  · obtain ⟨x, y, rfl, hx0, hx, hy0, hy, hg, k⟩ := h
    have nd := sc_amount_read.nd
    refine ⟨_, (@pss_cons _ _ _ _ _ (@ps_set _ _ 1 _ _ _ _ nd rfl (Or.inl rfl) (pe_fn G_number_read hr (by rfl) pass0 (@pa_cons _ _ _ _ _ (pv 0) pa_nil (by rfl))) (by rfl) (Or.inl rfl))
      (@pss_cons _ _ _ _ _ (ps_if (PW.pt (pw_or (pt_cmpR op_isN (pv 1) pe_non (nomark _)) (pw_or1 (pt_cmpR op_eq (pe_ix (ix_tup' (K := K) rfl) (pv 1) pe_int (fun _ _ => rfl)) pe_int (nomark _))))) (@pss_one _ _ _ (ps_ret pe_non)) pss_nil)
      (@pss_one _ _ _ (ps_ret (pv 1))))), ?_⟩
    refine ⟨_, rfl, x, y, rfl, by omega, hx, hy0, hy, hg, fun p H1 s1 hp => ?_⟩
    refine ⟨_, rfl, rfl, _, rfl, ?_⟩
    refine iteF ?_
    refine ⟨_, rfl, p, _, 0, _, rfl, rfl, SqT.of hp, rfl, rfl, _, rfl, ?_⟩
    refine ite2 (fun h => ?_) (fun _ => ⟨_, rfl, k p H1 s1 hp⟩)
    have h := V.int.inj (of_decide_eq_true h)
    omega
end
end T12
namespace T12
open PySem L2 Tc
section
variable {P : Program} {w : World} {K : PySem.W.Frag} {mg : Str → Option Value} {base : Heap}
noncomputable abbrev s_share_read : Stmt := top 20
theorem sc_share_read : FnScope ["word", "share"] ["word"] (defScope s_share_read) := ⟨rfl, rfl, rfl, by decide +kernel, rfl, by decide +kernel, by decide +kernel⟩
theorem ok_share_read (D : DefAt K mg "share_read" s_share_read) (T : Txt K mg) (G_number_read : FnAt P w K mg base CX0 3 "number_read" ["word"] (spNumR K)) : FnAt P w K mg base CX0 4 "share_read" ["word"] (spShR K) := by
  refine D.ok sc_share_read (fun vs H Q E h => ?_) (fun _ _ _ _ _ _ us hl => match us, hl with | [_], _ => rfl) (fun f cdv A outer s H vs Q E hr h => ?_)
  · obtain ⟨x, y, rfl, hx0, hxy, hy0, hy, hg, k⟩ := h; rfl
  · obtain ⟨x, y, rfl, hx0, hxy, hy0, hy, hg, k⟩ := h
    have nd := sc_share_read.nd
    refine ⟨_, (@pss_cons _ _ _ _ _ (@ps_set _ _ 1 _ _ _ _ nd rfl (Or.inl rfl) (pe_fn G_number_read hr (by rfl) pass0 (@pa_cons _ _ _ _ _ (pv 0) pa_nil (by rfl))) (by rfl) (Or.inl rfl))
      (@pss_cons _ _ _ _ _ (ps_if (PW.pt (pw_or (pt_cmpR op_isN (pv 1) pe_non (nomark _)) (pw_or1 (pt_cmpR op_gt (pe_ix (ix_tup' (K := K) rfl) (pv 1) pe_int (fun _ _ => rfl)) (pe_ix (ix_tup' (K := K) rfl) (pv 1) pe_int (fun _ _ => rfl)) (nomark _))))) (@pss_one _ _ _ (ps_ret pe_non)) pss_nil)
      (@pss_one _ _ _ (ps_ret (pv 1))))), ?_⟩
    refine ⟨_, rfl, x, y, rfl, hx0, by omega, hy0, hy, hg, fun p H1 s1 hp => ?_⟩
    refine ⟨_, rfl, rfl, _, rfl, ?_⟩
    refine iteF ?_
    refine ⟨_, rfl, p, _, 0, _, rfl, rfl, SqT.of hp, rfl, _, rfl, p, _, 1, _, rfl, rfl, SqT.of hp, rfl, _, _, rfl, rfl, _, rfl, ?_⟩
    refine ite2 (fun h => ?_) (fun _ => ⟨_, rfl, k p H1 s1 hp⟩)
    have h : y < x := of_decide_eq_true h
    omega
end
end T12
namespace T12
open PySem L2 Tc
section
variable {P : Program} {w : World} {K : PySem.W.Frag} {mg : Str → Option Value} {base : Heap}
noncomputable abbrev s_check_names : Stmt := top 21
theorem sc_check_names : FnScope ["words", "least"] ["words", "least"] (defScope s_check_names) := ⟨rfl, rfl, rfl, by decide +kernel, rfl, by decide +kernel, by decide +kernel⟩
theorem ok_check_names (D : DefAt K mg "check_names" s_check_names) (T : Txt K mg) (G_is_name : FnAt P w K mg base CX0 1 "is_name" ["thing"] (spIsName)) : FnAt P w K mg base CX0 2 "check_names" ["words", "least"] (spCheck K) := by
  refine D.ok sc_check_names (fun vs H Q E h => ?_) (fun _ _ _ _ _ _ us hl => match us, hl with | [_, _], _ => rfl) (fun f cdv A outer s H vs Q E hr h => ?_)
  · obtain ⟨a, zs, l, rfl, hS, hl, hz, hn, k⟩ := h; rfl
  · obtain ⟨a, zs, l, rfl, hS, hl, hz, hn, k⟩ := h
    have nd := sc_check_names.nd
    refine ⟨_, (@pss_one _ _ _ (ps_if (PW.pt (pw_or (pt_cmpR op_lt (pe_callB (call_len' (K := K) rfl) (by rfl) T.z_len PySem.boot_len (@pa_cons _ _ _ _ _ (pv 0) pa_nil (by rfl))) (pv 1) (nomark _)) (pw_or1 (pt_not (pt_val (pe_callB (call_all' (K := K) rfl rfl) (by rfl) T.z_all bt_all (@pa_cons _ _ _ _ _ (pe_comp ["word"] [] [] rfl (by rfl) (pi_list' (K := K) rfl (pv 0)) (fun _ _ _ _ => (pg_name (i := 0) (show List.Nodup (["word"] : List Str) from by decide) rfl (Or.inl rfl))) (fun _ _ _ _ => pif_none) (fun _ _ _ _ => (pe_fn G_is_name hr (by rfl) pass0 (@pa_cons _ _ _ _ _ (pv 0) pa_nil (by rfl))))) pa_nil (by rfl)))))))) (@pss_one _ _ _ ps_never) pss_nil)), ?_⟩
    refine ⟨_, rfl, _, _, rfl, .inl ⟨_, hS, rfl⟩, _, rfl, _, _, rfl, rfl, _, rfl, ?_⟩
    refine ite2 (fun h => ?_) (fun _ => ?_)
    · have h : (((zs.map V.str).length : Nat) : Int) < l := of_decide_eq_true h
      rw [List.length_map] at h
      omega
    refine ⟨_, rfl, a, rfl, ⟨_, hS⟩, fun D hD => ?_⟩
    refine block_list (xs := zs.map V.str) (fun j σ' H' => ∃ v : Option V, σ' = [v] ∧ Same H H' ∧ H' D = some (.lst (((zs.take j).map nm).map V.bl))) ⟨none, rfl, Same.upd hD, upd_same⟩ ?_ ?_ ?_
    · rintro j σ' H' hj ⟨v, rfl, s2, hd⟩
      exact s2.seq hS
    · rintro j y σ' H' hy ⟨v, rfl, s2, hd⟩
      rw [List.getElem?_map] at hy
      obtain ⟨z, hz1, rfl⟩ := Option.map_eq_some_iff.mp hy
      have hzn := hn z (List.mem_of_getElem? hz1)
      have hz8 := nm_short hzn
      refine ⟨_, rfl, .str z, "str", rfl, rfl, fun e => absurd rfl e, fun z' e => ?_⟩
      have e := V.str.inj e
      subst e
      refine ⟨by omega, fun H3 s3 => ?_⟩
      refine ⟨_, s3 _ _ hd, ?_, _, rfl, (s2.trans s3).updD hD, ?_⟩
      · rw [List.length_map, List.length_map, List.length_take]; exact sz (by omega)
      · rw [upd_same, List.take_add_one, hz1, List.map_append, List.map_append]
        rfl
    · rintro σ' H' ⟨v, rfl, s1, hd⟩
      rw [List.length_map, List.take_length] at hd
      refine ⟨D, _, rfl, SqL.of hd, _, rfl, ?_⟩
      refine ite2 (fun h => ?_) (fun _ => k H' s1)
      have h : (!((zs.map nm).all id)) = true := h
      have e : (zs.map nm).all id = true := by
        rw [List.all_eq_true]
        intro b hb
        obtain ⟨z, hz2, rfl⟩ := List.mem_map.mp hb
        exact hn z hz2
      rw [e] at h
      cases h
end
end T12
namespace T12
open PySem L2 Tc
section
variable {P : Program} {w : World} {K : PySem.W.Frag} {mg : Str → Option Value} {base : Heap}
noncomputable abbrev s_measured : Stmt := top 22
theorem sc_measured : FnScope ["words", "number"] ["words", "number"] (defScope s_measured) := ⟨rfl, rfl, rfl, by decide +kernel, rfl, by decide +kernel, by decide +kernel⟩
theorem ok_measured (D : DefAt K mg "measured" s_measured) (T : Txt K mg) (G_check_names : FnAt P w K mg base CX0 2 "check_names" ["words", "least"] (spCheck K)) : FnAt P w K mg base CX0 3 "measured" ["words", "number"] (spMeas K) := by
  refine D.ok sc_measured (fun vs H Q E h => ?_) (fun _ _ _ _ _ _ us hl => match us, hl with | [_, _], _ => rfl) (fun f cdv A outer s H vs Q E hr h => ?_)
  · obtain ⟨a, p, u, x, y, z, rfl, hS, hx, hy, k⟩ := h; rfl
  · obtain ⟨a, p, u, x, y, z, rfl, hS, hx, hy, k⟩ := h
    have nd := sc_measured.nd
    refine ⟨_, (@pss_cons _ _ _ _ _ (ps_if (pt_cmpR op_isN (pv 1) pe_non (nomark _)) (@pss_one _ _ _ ps_never) pss_nil)
      (@pss_cons _ _ _ _ _ (ps_expr (pe_fn G_check_names hr (by rfl) pass0 (@pa_cons _ _ _ _ _ (pe_slice (sl_list' (K := K) rfl) (pv 0) (po_some pe_int) (po_some pe_int)) (@pa_cons _ _ _ _ _ pe_int pa_nil (by rfl)) (by rfl))))
      (@pss_one _ _ _ (ps_ret (@pe_tup _ _ _ _ _ (@pa_cons _ _ _ _ _ (pe_ix (ix_list' (K := K) rfl) (pv 0) pe_int (fun _ _ => rfl)) (@pa_cons _ _ _ _ _ (pe_ix (ix_list' (K := K) rfl) (pv 0) pe_int (fun _ _ => rfl)) (@pa_cons _ _ _ _ _ (pe_ix (ix_list' (K := K) rfl) (pv 0) pe_int (fun _ _ => rfl)) (@pa_cons _ _ _ _ _ (pv 1) pa_nil (by rfl)) (by rfl)) (by rfl)) (by rfl))))))), ?_⟩
    refine ⟨_, rfl, rfl, _, rfl, ?_⟩
    refine iteF ?_
    refine ⟨_, rfl, ⟨1, rfl, 3, rfl, a, _, rfl, hS, fun q hq => ?_⟩⟩
    refine ⟨q, [x, y], 2, rfl, SqL.of upd_same, (show (2 : Int) ≤ 2 by decide), (show 2 ≤ 100 by decide), ?_, fun H1 s1 => ?_⟩
    · intro w hw
      rcases List.mem_cons.mp hw with rfl | hw
      · exact hx
      · rw [List.mem_singleton.mp hw]; exact hy
    have sa : Same H H1 := (Same.upd hq).trans s1
    have h1 := sa.seq hS
    refine ⟨_, rfl, a, _, 0, _, rfl, rfl, h1, rfl, _, rfl, a, _, 1, _, rfl, rfl, h1, rfl, _, rfl, a, _, 2, _, rfl, rfl, h1, rfl, _, rfl, sz (show 4 ≤ 1000 by decide), fun q2 h2 => k q2 _ (sa.trans (Same.upd h2)) upd_same⟩
end
end T12
namespace T12
open PySem L2 Tc
section
variable {P : Program} {w : World} {K : PySem.W.Frag} {mg : Str → Option Value} {base : Heap}
noncomputable abbrev s_deed_read : Stmt := top 23
theorem sc_deed_read : FnScope ["words"] ["words"] (defScope s_deed_read) := ⟨rfl, rfl, rfl, by decide +kernel, rfl, by decide +kernel, by decide +kernel⟩
theorem ok_deed_read (D : DefAt K mg "deed_read" s_deed_read) (T : Txt K mg) (G_check_names : FnAt P w K mg base CX0 2 "check_names" ["words", "least"] (spCheck K)) (G_measured : FnAt P w K mg base CX0 3 "measured" ["words", "number"] (spMeas K)) (G_amount_read : FnAt P w K mg base CX0 4 "amount_read" ["word"] (spAmR K)) (G_share_read : FnAt P w K mg base CX0 4 "share_read" ["word"] (spShR K)) : FnAt P w K mg base CX0 5 "deed_read" ["words"] (spDeedR K) := by
  refine D.ok sc_deed_read (fun vs H Q E h => ?_) (fun _ _ _ _ _ _ us hl => match us, hl with | [_], _ => rfl) (fun f cdv A outer s H vs Q E hr h => ?_)
  · obtain ⟨a, p, rfl, hS, ok, k⟩ := h; rfl
  · obtain ⟨a, p, rfl, hS, ok, k⟩ := h
    have nd := sc_deed_read.nd
    refine ⟨_, (@pss_cons _ _ _ _ _ (ps_if (pt_cmpR (op_eqD' (K := K) rfl hr) (pv 0) (@pe_lst _ _ _ _ (@pa_cons _ _ _ _ _ pe_str pa_nil (by rfl))) (nomark _)) (@pss_one _ _ _ (ps_ret (@pe_tup _ _ _ _ _ (@pa_cons _ _ _ _ _ pe_str pa_nil (by rfl))))) pss_nil)
      (@pss_cons _ _ _ _ _ (ps_if (PW.pt (pw_and (pt_cmpR op_eq (pe_ix (ix_list' (K := K) rfl) (pv 0) pe_int (fun _ _ => rfl)) pe_str (nomark _)) (pw_and1 (pt_cmpR op_le (pe_callB (call_len' (K := K) rfl) (by rfl) T.z_len PySem.boot_len (@pa_cons _ _ _ _ _ (pv 0) pa_nil (by rfl))) (@pe_op _ _ _ _ _ _ _ _ op_add (pe_gint (by rfl) T.g_MOST_PLACES) pe_int) (nomark _))))) (@pss_cons _ _ _ _ _ (ps_expr (pe_fn G_check_names hr (by rfl) pass0 (@pa_cons _ _ _ _ _ (pe_slice (sl_list' (K := K) rfl) (pv 0) (po_some pe_int) po_none) (@pa_cons _ _ _ _ _ pe_int pa_nil (by rfl)) (by rfl))))
      (@pss_one _ _ _ (ps_ret (@pe_tup _ _ _ _ _ (@pa_cons _ _ _ _ _ pe_str (@pa_cons _ _ _ _ _ (pe_ix (ix_list' (K := K) rfl) (pv 0) pe_int (fun _ _ => rfl)) (@pa_cons _ _ _ _ _ (pe_callTy (call_tuple_of' (K := K) rfl) (by rfl) T.z_tuple bt_tuple (@pa_cons _ _ _ _ _ (pe_slice (sl_list' (K := K) rfl) (pv 0) (po_some pe_int) po_none) pa_nil (by rfl))) pa_nil (by rfl)) (by rfl)) (by rfl)))))) pss_nil)
      (@pss_cons _ _ _ _ _ (ps_if (PW.pt (pw_and (pt_cmpR (op_in_seq' (K := K) rfl) (pe_ix (ix_list' (K := K) rfl) (pv 0) pe_int (fun _ _ => rfl)) (@pe_tup _ _ _ _ _ (@pa_cons _ _ _ _ _ pe_str (@pa_cons _ _ _ _ _ pe_str pa_nil (by rfl)) (by rfl))) (by rfl)) (pw_and1 (pt_cmpR op_eq (pe_callB (call_len' (K := K) rfl) (by rfl) T.z_len PySem.boot_len (@pa_cons _ _ _ _ _ (pv 0) pa_nil (by rfl))) pe_int (nomark _))))) (@pss_cons _ _ _ _ _ (ps_expr (pe_fn G_check_names hr (by rfl) pass0 (@pa_cons _ _ _ _ _ (pe_slice (sl_list' (K := K) rfl) (pv 0) (po_some pe_int) po_none) (@pa_cons _ _ _ _ _ pe_int pa_nil (by rfl)) (by rfl))))
      (@pss_one _ _ _ (ps_ret (pe_callTy (call_tuple_of' (K := K) rfl) (by rfl) T.z_tuple bt_tuple (@pa_cons _ _ _ _ _ (pv 0) pa_nil (by rfl)))))) pss_nil)
      (@pss_cons _ _ _ _ _ (ps_if (PW.pt (pw_and (pt_cmpR (op_in_seq' (K := K) rfl) (pe_ix (ix_list' (K := K) rfl) (pv 0) pe_int (fun _ _ => rfl)) (@pe_tup _ _ _ _ _ (@pa_cons _ _ _ _ _ pe_str (@pa_cons _ _ _ _ _ pe_str pa_nil (by rfl)) (by rfl))) (by rfl)) (pw_and1 (pt_cmpR op_eq (pe_callB (call_len' (K := K) rfl) (by rfl) T.z_len PySem.boot_len (@pa_cons _ _ _ _ _ (pv 0) pa_nil (by rfl))) pe_int (nomark _))))) (@pss_one _ _ _ (ps_ret (pe_fn G_measured hr (by rfl) pass0 (@pa_cons _ _ _ _ _ (pv 0) (@pa_cons _ _ _ _ _ (pe_fn G_amount_read hr (by rfl) pass0 (@pa_cons _ _ _ _ _ (pe_ix (ix_list' (K := K) rfl) (pv 0) pe_int (fun _ _ => rfl)) pa_nil (by rfl))) pa_nil (by rfl)) (by rfl))))) pss_nil)
      (@pss_cons _ _ _ _ _ (ps_if (PW.pt (pw_and (pt_cmpR op_eq (pe_ix (ix_list' (K := K) rfl) (pv 0) pe_int (fun _ _ => rfl)) pe_str (nomark _)) (pw_and1 (pt_cmpR op_eq (pe_callB (call_len' (K := K) rfl) (by rfl) T.z_len PySem.boot_len (@pa_cons _ _ _ _ _ (pv 0) pa_nil (by rfl))) pe_int (nomark _))))) (@pss_one _ _ _ (ps_ret (pe_fn G_measured hr (by rfl) pass0 (@pa_cons _ _ _ _ _ (pv 0) (@pa_cons _ _ _ _ _ (pe_fn G_share_read hr (by rfl) pass0 (@pa_cons _ _ _ _ _ (pe_ix (ix_list' (K := K) rfl) (pv 0) pe_int (fun _ _ => rfl)) pa_nil (by rfl))) pa_nil (by rfl)) (by rfl))))) pss_nil)
      (@pss_one _ _ _ ps_never)))))), ?_⟩
    have wd := Pd.wd ok
    refine ⟨_, rfl, sz (show 1 ≤ 1000 by decide), fun q0 hq0 => ?_⟩
    have s0 := Same.upd (o := .lst [.str (Str.ofString "year")]) hq0
    refine words_eq (s0.seq hS) upd_same wd (wd_const _ (by simp)) ⟨_, rfl, ?_⟩
    have h1 := s0.seq hS
    cases p with
    | year =>
      refine ite2 (fun _ => ?_) (fun h => absurd (decide_eq_true rfl) h)
      exact ⟨sz (show 1 ≤ 1000 by decide), fun q hq => k _ _ (s0.trans (Same.upd hq)) ⟨q, rfl, upd_same⟩⟩
    | dor x ps =>
      obtain ⟨o1, o2, o3, o4⟩ := id ok
      refine ite2 (fun h => absurd (congrArg List.length (of_decide_eq_true h)) (by simp [Pd.words])) (fun _ => ?_)
      refine ⟨_, rfl, a, _, 0, _, rfl, rfl, h1, at_0 _ _, rfl, _, rfl, ?_⟩
      refine dec_true rfl ?_
      refine ⟨_, rfl, _, _, rfl, .inl ⟨_, h1, rfl⟩, _, _, rfl, rfl, _, _, rfl, rfl, _, rfl, ?_⟩
      refine ite2 (fun _ => ?_) (fun h => absurd (decide_eq_true (by simp [Pd.words]; omega)) h)
      refine ⟨_, rfl, 1, rfl, a, _, rfl, h1, fun q hq => ?_⟩
      refine ⟨q, x :: ps, 2, rfl, SqL.of (cut_at (L := Str.ofString "do" :: x :: ps) (a := 1) (by simp)), by rw [List.length_cons]; omega, by rw [List.length_cons]; omega, ?_, fun H1 s1 => ?_⟩
      · intro z hz
        rcases List.mem_cons.mp hz with rfl | hz
        · exact o1
        · exact o4 z hz
      have sa := (s0.trans (Same.upd hq)).trans s1
      have h2 := sa.seq hS
      refine ⟨_, rfl, a, _, 1, _, rfl, rfl, h2, at_1 _ _ _, _, rfl, 2, rfl, a, _, rfl, h2, fun q2 hq2 => ?_⟩
      have e2 := cut_at (H := H1) (q := q2) (L := Str.ofString "do" :: x :: ps) (a := 2) (by simp)
      refine ⟨q2, _, rfl, .inl ⟨SqL.of e2, fun l hl => ⟨sz (show 3 ≤ 1000 by decide), fun t ht => ?_⟩⟩⟩
      refine k _ _ (((sa.trans (Same.upd hq2)).trans (Same.upd hl)).trans (Same.upd ht)) ⟨t, l, rfl, upd_same, (Same.upd ht) _ _ upd_same⟩
    | two u x y =>
      obtain ⟨o1, o2, o3⟩ := id ok
      have n1 : ¬ V.str u = V.str (Str.ofString "do") := by rcases o1 with rfl | rfl <;> decide +kernel
      have n2 : inV (V.str u) [.str (Str.ofString "all"), .str (Str.ofString "fill")] = true := by rcases o1 with rfl | rfl <;> decide +kernel
      refine ite2 (fun h => absurd (congrArg List.length (of_decide_eq_true h)) (by simp [Pd.words])) (fun _ => ?_)
      refine ⟨_, rfl, a, _, 0, _, rfl, rfl, h1, rfl, rfl, _, rfl, ?_⟩
      refine dec_false n1 ?_
      refine iteF ?_
      refine ⟨_, rfl, a, _, 0, _, rfl, rfl, h1, rfl, sz (show 2 ≤ 1000 by decide), fun q hq => ⟨q, _, rfl, .inr (SqT.of upd_same), rfl, rfl, _, rfl, ?_⟩⟩
      have s1 := s0.trans (Same.upd (o := .tup [.str (Str.ofString "all"), .str (Str.ofString "fill")]) hq)
      refine ite2 (fun _ => ?_) (fun h => absurd n2 h)
      have h2 := s1.seq hS
      refine ⟨_, rfl, _, _, rfl, .inl ⟨_, h2, rfl⟩, rfl, _, rfl, ?_⟩
      refine iteT ?_
      refine ⟨_, rfl, 1, rfl, a, _, rfl, h2, fun q2 hq2 => ?_⟩
      refine ⟨q2, [x, y], 2, rfl, SqL.of (cut_at (L := [u, x, y]) (a := 1) (by simp)), (show (2 : Int) ≤ 2 by decide), (show 2 ≤ 100 by decide), ?_, fun H1 s2 => ?_⟩
      · intro z hz
        rcases List.mem_cons.mp hz with rfl | hz
        · exact o2
        · rw [List.mem_singleton.mp hz]; exact o3
      have sa := (s1.trans (Same.upd hq2)).trans s2
      exact ⟨_, rfl, a, _, rfl, .inl ⟨sa.seq hS, fun l hl => k _ _ (sa.trans (Same.upd hl)) ⟨l, rfl, upd_same⟩⟩⟩
    | mea u x y n e =>
      obtain ⟨o1, o2, o3, hn0, hn, he0, he, hg⟩ := id ok
      have n1 : ¬ V.str u = V.str (Str.ofString "do") := by rcases o1 with ⟨rfl | rfl, _⟩ | ⟨rfl, _⟩ <;> decide +kernel
      have n2 : ¬ inV (V.str u) [.str (Str.ofString "all"), .str (Str.ofString "fill")] = true := by rcases o1 with ⟨rfl | rfl, _⟩ | ⟨rfl, _⟩ <;> decide +kernel
      refine ite2 (fun h => absurd (congrArg List.length (of_decide_eq_true h)) (by simp [Pd.words])) (fun _ => ?_)
      refine ⟨_, rfl, a, _, 0, _, rfl, rfl, h1, rfl, rfl, _, rfl, ?_⟩
      refine dec_false n1 ?_
      refine iteF ?_
      refine ⟨_, rfl, a, _, 0, _, rfl, rfl, h1, rfl, sz (show 2 ≤ 1000 by decide), fun q hq => ⟨q, _, rfl, .inr (SqT.of upd_same), rfl, rfl, _, rfl, ?_⟩⟩
      have s1 := s0.trans (Same.upd (o := .tup [.str (Str.ofString "all"), .str (Str.ofString "fill")]) hq)
      refine ite2 (fun h => absurd h n2) (fun _ => ?_)
      refine iteF ?_
      have h2 := s1.seq hS
      refine ⟨_, rfl, a, _, 0, _, rfl, rfl, h2, rfl, sz (show 2 ≤ 1000 by decide), fun q3 hq3 => ⟨q3, _, rfl, .inr (SqT.of upd_same), rfl, rfl, _, rfl, ?_⟩⟩
      have s3 := s1.trans (Same.upd (o := .tup [.str (Str.ofString "bring"), .str (Str.ofString "move")]) hq3)
      have h3 := s3.seq hS
      have fin : ∀ {H1 : Hp} {p : Addr}, Same H H1 → H1 p = some (.tup [.int n, .int e]) → ∀ E', (spMeas K) [.ref a, .ref p] H1 Q E' := fun {H1 p} s hp E' => ⟨a, p, u, x, y, _, rfl, s.seq hS, o2, o3, fun q H' s' hq => k _ _ (s.trans s') ⟨q, p, rfl, hq, s' _ _ hp⟩⟩
      rcases o1 with ⟨hu, hp⟩ | ⟨rfl, hle⟩
      · have n3 : inV (V.str u) [.str (Str.ofString "bring"), .str (Str.ofString "move")] = true := by rcases hu with rfl | rfl <;> decide +kernel
        refine ite2 (fun _ => ?_) (fun h => absurd n3 h)
        refine ⟨_, rfl, _, _, rfl, .inl ⟨_, h3, rfl⟩, rfl, _, rfl, ?_⟩
        refine iteT ?_
        refine ⟨_, rfl, _, rfl, a, _, 3, _, rfl, rfl, h3, rfl, n, e, rfl, hp, hn, he0, he, hg, fun p H1 s4 hp4 => ?_⟩
        exact fin (s3.trans s4) hp4 E
      · refine ite2 (fun h => absurd h (by decide +kernel)) (fun _ => ?_)
        refine iteF ?_
        refine ⟨_, rfl, a, _, 0, _, rfl, rfl, h3, rfl, rfl, _, rfl, ?_⟩
        refine dec_true rfl ?_
        refine ⟨_, rfl, _, _, rfl, .inl ⟨_, h3, rfl⟩, rfl, _, rfl, ?_⟩
        refine iteT ?_
        refine ⟨_, rfl, _, rfl, a, _, 3, _, rfl, rfl, h3, rfl, n, e, rfl, hn0, hle, he0, he, hg, fun p H1 s4 hp4 => ?_⟩
        exact fin (s3.trans s4) hp4 E
end
end T12
namespace T12
open PySem L2 Tc
section
variable {P : Program} {w : World} {K : PySem.W.Frag} {mg : Str → Option Value} {base : Heap}
noncomputable abbrev s_times_head : Stmt := top 24
theorem sc_times_head : FnScope ["words", "blocks", "within", "many"] ["words", "blocks"] (defScope s_times_head) := ⟨rfl, rfl, rfl, by decide +kernel, rfl, by decide +kernel, by decide +kernel⟩
theorem ok_times_head (D : DefAt K mg "times_head" s_times_head) (T : Txt K mg) (G_whole_read : FnAt P w K mg base CX0 1 "whole_read" ["word"] (spWholeR)) : FnAt P w K mg base CX0 2 "times_head" ["words", "blocks"] (spTimesH K) := by
  refine D.ok sc_times_head (fun vs H Q E h => ?_) (fun _ _ _ _ _ _ us hl => match us, hl with | [_, _], _ => rfl) (fun f cdv A outer s H vs Q E hr h => ?_)
  · obtain ⟨a, B, n, bs, s, rfl, hS, hn0, hn, hB, hl, hs2, hk, k⟩ := h; rfl
  · obtain ⟨a, B, n, bs, s, rfl, hS, hn0, hn, hB, hl, hs2, hk, k⟩ := h
    have nd := sc_times_head.nd
    refine ⟨_, (@pss_cons _ _ _ _ _ (ps_setcomp ["block"] [] [] (i := 2) nd rfl rfl rfl (by rfl) (pi_list' (K := K) rfl (pv 1)) (fun _ _ _ _ => (pg_name (i := 0) (show List.Nodup (["block"] : List Str) from by decide) rfl (Or.inl rfl))) (fun _ _ _ _ => (pif_one (pt_cmpR op_eq (pe_ix (ix_tup' (K := K) rfl) (pv 0) pe_int (fun _ _ => rfl)) pe_str (nomark _)))) (fun _ _ _ _ => (pv 0)))
      (@pss_cons _ _ _ _ _ (@ps_set _ _ 3 _ _ _ _ nd rfl (Or.inl rfl) (pe_ifExp (pt_cmpR op_eq (pe_callB (call_len' (K := K) rfl) (by rfl) T.z_len PySem.boot_len (@pa_cons _ _ _ _ _ (pv 0) pa_nil (by rfl))) pe_int (nomark _)) (pe_fn G_whole_read hr (by rfl) pass0 (@pa_cons _ _ _ _ _ (pe_ix (ix_list' (K := K) rfl) (pv 0) pe_int (fun _ _ => rfl)) pa_nil (by rfl))) pe_non) (by rfl) (Or.inl rfl))
      (@pss_cons _ _ _ _ _ (ps_if (PW.pt (pw_or (pt_cmpR op_isN (pv 3) pe_non (nomark _)) (pw_or (pt_cmpR op_gt (pv 3) (pe_gint (by rfl) T.g_MOST_TIMES) (nomark _)) (pw_or1 (pt_cmpR op_eq (pe_callB (call_len' (K := K) rfl) (by rfl) T.z_len PySem.boot_len (@pa_cons _ _ _ _ _ (pv 2) pa_nil (by rfl))) (pe_gint (by rfl) T.g_MOST_WITHIN) (nomark _)))))) (@pss_one _ _ _ ps_never) pss_nil)
      (@pss_one _ _ _ (ps_ret (@pe_tup _ _ _ _ _ (@pa_cons _ _ _ _ _ pe_str (@pa_cons _ _ _ _ _ (pv 3) (@pa_cons _ _ _ _ _ (@pe_lst _ _ _ _ pa_nil) pa_nil (by rfl)) (by rfl)) (by rfl)))))))), ?_⟩
    refine ⟨_, rfl, B, rfl, ⟨_, SqL.of hB⟩, fun D hD => ?_⟩
    refine block_list (xs := bs) (fun j σ' H' => ∃ (v : Option V) (ws : List V), σ' = [v] ∧ Same H H' ∧ H' D = some (.lst ws) ∧ ws.length ≤ j - s) ⟨none, [], rfl, Same.upd hD, upd_same, Nat.zero_le _⟩ ?_ ?_ ?_
    · rintro j σ' H' hj ⟨v, ws, rfl, s1, hd, hw⟩
      exact SqL.of (s1 _ _ hB)
    · rintro j b σ' H' hb ⟨v, ws, rfl, s1, hd, hw⟩
      obtain ⟨kk, z, r, rfl, hkk, hz⟩ := hk j b hb
      have hj : j < bs.length := (List.getElem?_eq_some_iff.mp hb).1
      refine ⟨_, rfl, kk, _, 0, _, rfl, rfl, SqT.of (s1 _ _ hkk), at_0 _ _, rfl, _, rfl, ?_⟩
      refine ite2 (fun h => ?_) (fun _ => ?_)
      · have h := V.str.inj (of_decide_eq_true h)
        have := hz h
        exact ⟨_, rfl, _, hd, sz (by omega), _, _, rfl, s1.updD hD, upd_same, by rw [List.length_append, List.length_singleton]; omega⟩
      · exact ⟨_, ws, rfl, s1, hd, by omega⟩
    rintro σ' H1 ⟨v, ws, rfl, s1, hd, hw⟩
    have hS1 := s1.seq hS
    refine ⟨_, rfl, _, _, rfl, .inl ⟨_, hS1, rfl⟩, rfl, _, rfl, ?_⟩
    refine iteT ?_
    refine ⟨_, rfl, a, _, 1, _, rfl, rfl, hS1, rfl, n, rfl, hn0, by omega, fun H2 s2 => ?_⟩
    refine ⟨_, rfl, rfl, _, rfl, ?_⟩
    refine iteF ?_
    refine ⟨_, rfl, _, _, rfl, rfl, _, rfl, ?_⟩
    refine ite2 (fun h => ?_) (fun _ => ?_)
    · have h : (60 : Int) < n := of_decide_eq_true h
      omega
    refine ⟨_, rfl, _, _, rfl, .inl ⟨_, SqL.of (s2 _ _ hd), rfl⟩, rfl, _, rfl, ?_⟩
    refine ite2 (fun h => ?_) (fun _ => ?_)
    · have h := V.int.inj (of_decide_eq_true h)
      have hw : ws.length ≤ bs.length - s := hw
      omega
    refine ⟨_, rfl, sz (by simp), fun L hL => ⟨sz (by simp), fun p hp => ?_⟩⟩
    have s12 := s1.trans s2
    exact k p L _ ((s12.trans (Same.upd hL)).trans (Same.upd hp)) upd_same ((Same.upd hp) _ _ upd_same) (s12.free hL)
end
end T12
namespace T12
open PySem L2 Tc
section
variable {P : Program} {w : World} {K : PySem.W.Frag} {mg : Str → Option Value} {base : Heap}
noncomputable abbrev s_rule_head : Stmt := top 25
theorem sc_rule_head : FnScope ["words", "blocks", "rules", "params"] ["words", "blocks", "rules"] (defScope s_rule_head) := ⟨rfl, rfl, rfl, by decide +kernel, rfl, by decide +kernel, by decide +kernel⟩
theorem ok_rule_head (D : DefAt K mg "rule_head" s_rule_head) (T : Txt K mg) (G_check_names : FnAt P w K mg base CX0 2 "check_names" ["words", "least"] (spCheck K)) : FnAt P w K mg base CX0 3 "rule_head" ["words", "blocks", "rules"] (spRuleH K) := by
  refine D.ok sc_rule_head (fun vs H Q E h => ?_) (fun _ _ _ _ _ _ us hl => match us, hl with | [_, _, _], _ => rfl) (fun f cdv A outer s H vs Q E hr h => ?_)
  · obtain ⟨a, B, R, k0, L0, x, ps, rv, rls, rfl, hS, ok, nd', hB, hk0, hL0, hR, hP, hr4, hx, k⟩ := h; rfl
  · obtain ⟨a, B, R, k0, L0, x, ps, rv, rls, rfl, hS, ok, nd', hB, hk0, hL0, hR, hP, hr4, hx, k⟩ := h
    have nd := sc_rule_head.nd
    refine ⟨_, (@pss_cons _ _ _ _ _ (ps_if (PW.pt (pw_or (pt_cmpR op_gt (pe_callB (call_len' (K := K) rfl) (by rfl) T.z_len PySem.boot_len (@pa_cons _ _ _ _ _ (pv 1) pa_nil (by rfl))) pe_int (nomark _)) (pw_or (pt_cmpR op_gt (pe_callB (call_len' (K := K) rfl) (by rfl) T.z_len PySem.boot_len (@pa_cons _ _ _ _ _ (pe_ix (ix_tup' (K := K) rfl) (pe_ix (ix_list' (K := K) rfl) (pv 1) pe_int (fun _ _ => rfl)) pe_int (fun _ _ => rfl)) pa_nil (by rfl))) pe_int (nomark _)) (pw_or1 (pt_cmpR op_gt (pe_callB (call_len' (K := K) rfl) (by rfl) T.z_len PySem.boot_len (@pa_cons _ _ _ _ _ (pv 0) pa_nil (by rfl))) (@pe_op _ _ _ _ _ _ _ _ op_add (pe_gint (by rfl) T.g_MOST_PLACES) pe_int) (nomark _)))))) (@pss_one _ _ _ ps_never) pss_nil)
      (@pss_cons _ _ _ _ _ (ps_expr (pe_fn G_check_names hr (by rfl) pass0 (@pa_cons _ _ _ _ _ (pe_slice (sl_list' (K := K) rfl) (pv 0) (po_some pe_int) po_none) (@pa_cons _ _ _ _ _ pe_int pa_nil (by rfl)) (by rfl))))
      (@pss_cons _ _ _ _ _ (@ps_set _ _ 3 _ _ _ _ nd rfl (Or.inl rfl) (pe_callTy (call_tuple_of' (K := K) rfl) (by rfl) T.z_tuple bt_tuple (@pa_cons _ _ _ _ _ (pe_slice (sl_list' (K := K) rfl) (pv 0) (po_some pe_int) po_none) pa_nil (by rfl))) (by rfl) (Or.inl rfl))
      (@pss_cons _ _ _ _ _ (ps_if (PW.pt (pw_or (pt_cmpR op_ne (pe_callB call_lenS (by rfl) T.z_len PySem.boot_len (@pa_cons _ _ _ _ _ (pe_callTy (call_setT' (K := K) rfl rfl) (by rfl) T.z_set bt_set (@pa_cons _ _ _ _ _ (pv 3) pa_nil (by rfl))) pa_nil (by rfl))) (pe_callB (call_len' (K := K) rfl) (by rfl) T.z_len PySem.boot_len (@pa_cons _ _ _ _ _ (pv 3) pa_nil (by rfl))) (nomark _)) (pw_or1 (pt_cmpR (op_in_seq' (K := K) rfl) (pe_ix (ix_list' (K := K) rfl) (pv 0) pe_int (fun _ _ => rfl)) (pe_comp ["rule"] [] [] rfl (by rfl) (pi_list' (K := K) rfl (pv 2)) (fun _ _ _ _ => (pg_name (i := 0) (show List.Nodup (["rule"] : List Str) from by decide) rfl (Or.inl rfl))) (fun _ _ _ _ => pif_none) (fun _ _ _ _ => (pe_ix (ix_tup' (K := K) rfl) (pv 0) pe_int (fun _ _ => rfl)))) (by rfl))))) (@pss_one _ _ _ ps_never) pss_nil)
      (@pss_one _ _ _ (ps_ret (@pe_tup _ _ _ _ _ (@pa_cons _ _ _ _ _ pe_str (@pa_cons _ _ _ _ _ (@pe_tup _ _ _ _ _ (@pa_cons _ _ _ _ _ (pe_ix (ix_list' (K := K) rfl) (pv 0) pe_int (fun _ _ => rfl)) (@pa_cons _ _ _ _ _ (pv 3) pa_nil (by rfl)) (by rfl))) (@pa_cons _ _ _ _ _ (@pe_lst _ _ _ _ pa_nil) pa_nil (by rfl)) (by rfl)) (by rfl))))))))), ?_⟩
    obtain ⟨o1, o2, o3, o4⟩ := ok
    refine ⟨_, rfl, _, _, rfl, .inl ⟨_, SqL.of hB, rfl⟩, _, _, rfl, rfl, _, rfl, ?_⟩
    refine iteF ?_
    refine ⟨_, rfl, B, _, 0, _, rfl, rfl, SqL.of hB, rfl, k0, _, 2, _, rfl, rfl, SqT.of hk0, rfl, _, _, rfl, .inl ⟨_, SqL.of hL0, rfl⟩, _, _, rfl, rfl, _, rfl, ?_⟩
    refine iteF ?_
    refine ⟨_, rfl, _, _, rfl, .inl ⟨_, hS, rfl⟩, _, _, rfl, rfl, _, _, rfl, rfl, _, rfl, ?_⟩
    refine ite2 (fun h => ?_) (fun _ => ?_)
    · have h : (8 : Int) + 2 < ((((Str.ofString "rule" :: x :: ps).map V.str).length : Nat) : Int) := of_decide_eq_true h
      simp at h
      omega
    refine ⟨_, rfl, 1, rfl, a, _, rfl, hS, fun q hq => ?_⟩
    refine ⟨q, x :: ps, 2, rfl, SqL.of (cut_at (L := Str.ofString "rule" :: x :: ps) (a := 1) (by simp)), by rw [List.length_cons]; omega, by rw [List.length_cons]; omega, ?_, fun H1 s1 => ?_⟩
    · intro z hz
      rcases List.mem_cons.mp hz with rfl | hz
      · exact o1
      · exact o4 z hz
    have sa := (Same.upd hq).trans s1
    have h1 := sa.seq hS
    refine ⟨_, rfl, 2, rfl, a, _, rfl, h1, fun q2 hq2 => ?_⟩
    have e2 := cut_at (H := H1) (q := q2) (L := Str.ofString "rule" :: x :: ps) (a := 2) (by simp)
    refine ⟨q2, _, rfl, .inl ⟨SqL.of e2, fun b hb => ?_⟩⟩
    have sb := (sa.trans (Same.upd (o := .lst (cutV ((Str.ofString "rule" :: x :: ps).map V.str) (some 2) none)) hq2)).trans (Same.upd (o := .tup (ps.map V.str)) hb)
    refine ⟨_, rfl, b, ps, rfl, SqT.of upd_same, nd', by omega, fun S hS2 => ⟨S, ps, rfl, upd_same, by omega, ?_⟩⟩
    have sc := Same.upd (o := setHO P w S ps) hS2
    have hb1 := sc _ _ (upd_same (a := b) (o := .tup (ps.map V.str)))
    refine ⟨_, rfl, _, _, rfl, .inr ⟨_, SqT.of hb1, rfl⟩, rfl, _, rfl, ?_⟩
    refine ite2 (fun h => ?_) (fun _ => ?_)
    · have h : (!decide (V.int (ps.length : Nat) = V.int ((ps.map V.str).length : Nat))) = true := h
      rw [List.length_map] at h
      simp at h
    have sd := sb.trans sc
    refine ⟨_, rfl, a, _, 1, _, rfl, rfl, sd.seq hS, at_1 _ _ _, _, rfl, R, rfl, ⟨_, SqL.of (sd _ _ hR)⟩, fun D hD => ?_⟩
    refine block_list (xs := rv) (fun j σ' H' => ∃ v : Option V, σ' = [v] ∧ Same (upd _ S (setHO P w S ps)) H' ∧ H' D = some (.lst (((rls.map (·.1)).take j).map V.str))) ⟨none, rfl, Same.upd hD, upd_same⟩ ?_ ?_ ?_
    · rintro j σ' H' hj ⟨v, rfl, s3, hd⟩
      exact SqL.of ((sd.trans s3) _ _ hR)
    · rintro j y σ' H' hy ⟨v, rfl, s3, hd⟩
      obtain ⟨r, hr1, ra, rb, rc, us, rfl, hra, _⟩ := paired_get hP hy
      refine ⟨_, rfl, ra, _, 0, _, rfl, rfl, SqT.of ((sd.trans s3) _ _ hra), rfl, _, hd, ?_, _, rfl, s3.updD hD, ?_⟩
      · rw [List.length_map, List.length_take, List.length_map]; exact sz (by omega)
      · rw [upd_same, List.take_add_one, List.getElem?_map, hr1, List.map_append]; rfl
    rintro σ' H3 ⟨v, rfl, s3, hd⟩
    have el : ((rls.map (·.1)).take rv.length) = rls.map (·.1) := by
      rw [List.take_of_length_le]; rw [List.length_map, hP.length]; exact Nat.le_refl _
    rw [el] at hd
    have fl : ((rls.map (·.1)).map V.str).all flatV = true := by
      rw [List.all_eq_true]
      intro v hv
      obtain ⟨z, _, rfl⟩ := List.mem_map.mp hv
      rfl
    refine ⟨D, _, rfl, .inl (SqL.of hd), rfl, fl, _, rfl, ?_⟩
    refine ite2 (fun h => ?_) (fun _ => ?_)
    · have h : inV (.str x) ((rls.map (·.1)).map V.str) = true := h
      rw [inV_str] at h
      exact absurd (of_decide_eq_true h) hx
    have se := sd.trans s3
    refine ⟨_, rfl, a, _, 1, _, rfl, rfl, se.seq hS, at_1 _ _ _, _, rfl, sz (show 2 ≤ 1000 by decide), fun q3 hq3 => ⟨sz (by simp), fun L hL => ⟨sz (show 3 ≤ 1000 by decide), fun p hp => ?_⟩⟩⟩
    have t1 := Same.upd (o := .tup [.str x, .ref b]) hq3
    have t2 := Same.upd (o := .lst []) hL
    have t3 := Same.upd (o := .tup [.str (Str.ofString "rule"), .ref q3, .ref L]) hp
    exact k p q3 b L _ (se.trans (t1.trans (t2.trans t3))) upd_same (t3 _ _ (t2 _ _ upd_same)) (t3 _ _ (t2 _ _ (t1 _ _ (s3 _ _ hb1)))) (t3 _ _ upd_same) ((se.trans t1).free hL)
end
end T12
namespace T12
open PySem L2 Tc
section
variable {P : Program} {w : World} {K : PySem.W.Frag} {mg : Str → Option Value} {base : Heap}
noncomputable abbrev s_end_block : Stmt := top 26
theorem sc_end_block : FnScope ["blocks", "rules", "block", "deeds"] ["blocks", "rules"] (defScope s_end_block) := ⟨rfl, rfl, rfl, by decide +kernel, rfl, by decide +kernel, by decide +kernel⟩
theorem ok_end_block (D : DefAt K mg "end_block" s_end_block) (T : Txt K mg) : FnAt P w K mg base CX0 1 "end_block" ["blocks", "rules"] (spEnd K) := by
  refine D.ok sc_end_block (fun vs H Q E h => ?_) (fun _ _ _ _ _ _ us hl => match us, hl with | [_, _], _ => rfl) (fun f cdv A outer s H vs Q E hr h => ?_)
  · obtain ⟨B, R, bs, kk, L, z, c, us, rfl, hB, hne, hk, hL, hLB, h⟩ := h; rfl
  · obtain ⟨B, R, bs, kk, L, z, c, us, rfl, hB, hne, hk, hL, hLB, h⟩ := h
    have nd := sc_end_block.nd
    refine ⟨_, (@pss_cons _ _ _ _ _ (ps_if (pt_cmpR op_eq (pe_callB (call_len' (K := K) rfl) (by rfl) T.z_len PySem.boot_len (@pa_cons _ _ _ _ _ (pv 0) pa_nil (by rfl))) pe_int (nomark _)) (@pss_one _ _ _ ps_never) pss_nil)
      (@pss_cons _ _ _ _ _ (@ps_set _ _ 2 _ _ _ _ nd rfl (Or.inl rfl) (pe_bm0' (K := K) rfl PySem.F.plainAttrs_list PySem.F.slot_list_pop PySem.F.type_list_pop mt_pop (pv 0)) (by rfl) (Or.inl rfl))
      (@pss_cons _ _ _ _ _ (@ps_set _ _ 3 _ _ _ _ nd rfl (Or.inl rfl) (pe_callTy (call_tuple_of' (K := K) rfl) (by rfl) T.z_tuple bt_tuple (@pa_cons _ _ _ _ _ (pe_ix (ix_tup' (K := K) rfl) (pv 2) pe_int (fun _ _ => rfl)) pa_nil (by rfl))) (by rfl) (Or.inl rfl))
      (@pss_one _ _ _ (ps_if (pt_cmpR op_eq (pe_ix (ix_tup' (K := K) rfl) (pv 2) pe_int (fun _ _ => rfl)) pe_str (nomark _)) (@pss_one _ _ _ (ps_expr (pe_bm PySem.F.plainAttrs_list PySem.F.slot_list_append PySem.F.type_list_append mt_append (pv 1) (@pa_cons _ _ _ _ _ (@pe_op _ _ _ _ _ _ _ _ (op_catT' (K := K) rfl) (pe_ix (ix_tup' (K := K) rfl) (pv 2) pe_int (fun _ _ => rfl)) (@pe_tup _ _ _ _ _ (@pa_cons _ _ _ _ _ (pv 3) pa_nil (by rfl)))) pa_nil (by rfl))))) (@pss_one _ _ _ (ps_expr (pe_bm PySem.F.plainAttrs_list PySem.F.slot_list_append PySem.F.type_list_append mt_append (pe_ix (ix_tup' (K := K) rfl) (pe_ix (ix_list' (K := K) rfl) (pv 0) (@pe_op _ _ _ _ _ _ _ _ op_sub (pe_callB (call_len' (K := K) rfl) (by rfl) T.z_len PySem.boot_len (@pa_cons _ _ _ _ _ (pv 0) pa_nil (by rfl))) pe_int) (fun _ _ => rfl)) pe_int (fun _ _ => rfl)) (@pa_cons _ _ _ _ _ (@pe_tup _ _ _ _ _ (@pa_cons _ _ _ _ _ pe_str (@pa_cons _ _ _ _ _ (pe_ix (ix_tup' (K := K) rfl) (pv 2) pe_int (fun _ _ => rfl)) (@pa_cons _ _ _ _ _ (pv 3) pa_nil (by rfl)) (by rfl)) (by rfl))) pa_nil (by rfl)))))))))), ?_⟩
    refine ⟨_, rfl, _, _, rfl, .inl ⟨_, SqL.of hB, rfl⟩, rfl, _, rfl, ?_⟩
    refine ite2 (fun h => ?_) (fun _ => ?_)
    · have h := V.int.inj (of_decide_eq_true h)
      rw [List.length_append, List.length_singleton] at h
      exact absurd (List.length_eq_zero_iff.mp (by omega)) hne
    refine ⟨_, rfl, .inl ⟨rfl, _, SqL.of hB⟩, B, _, _, rfl, rfl, hB, (by simp : (bs ++ [V.ref kk])[(bs ++ [V.ref kk]).length - 1]? = some (V.ref kk)), ?_⟩
    rw [List.dropLast_concat]
    have t0 := TSame.updL (o := .lst bs) hB
    have hL1 : upd H B (.lst bs) L = some (.lst us) := by rw [upd_ne hLB]; exact hL
    refine ⟨_, rfl, kk, _, 2, _, rfl, rfl, SqT.of (t0 _ _ hk), rfl, L, us, rfl, .inl ⟨SqL.of hL1, fun b hb => ?_⟩⟩
    have s1 := Same.upd (o := .tup us) hb
    refine ⟨_, rfl, kk, _, 0, _, rfl, rfl, SqT.of (s1 _ _ (t0 _ _ hk)), rfl, rfl, _, rfl, ?_⟩
    rcases h with ⟨rfl, bs', k2, L2, b1, b2, vs2, eb, hk2, hL2, hv2, hLB2, kq⟩ | ⟨rfl, q, x, b', rv, rfl, hq, hR, hv, hRB, kq⟩
    · refine dec_false (by decide +kernel) ?_
      have hB1 : upd (upd H B (.lst bs)) b (.tup us) B = some (.lst (bs' ++ [.ref k2])) := by rw [← eb]; exact s1 _ _ upd_same
      have hL3 : upd (upd H B (.lst bs)) b (.tup us) L2 = some (.lst vs2) := s1 _ _ (by rw [upd_ne hLB2]; exact hL2)
      refine ⟨_, rfl, _, rfl, _, _, rfl, .inl ⟨_, SqL.of hB1, rfl⟩, _, _, rfl, rfl, B, _, _, _, rfl, rfl, SqL.of hB1, at_end _ _, k2, _, 2, _, rfl, rfl, SqT.of (s1 _ _ (t0 _ _ hk2)), rfl, .inl ⟨rfl, _, SqL.of hL3⟩, _, rfl, kk, _, 1, _, rfl, rfl, SqT.of (s1 _ _ (t0 _ _ hk)), rfl, _, rfl, sz (show 3 ≤ 1000 by decide), fun a ha => ?_⟩
      have s2 := Same.upd (o := .tup [.str (Str.ofString "times"), c, .ref b]) ha
      exact ⟨L2, _, _, rfl, rfl, s2 _ _ hL3, sz (by omega), kq a b _ (s1.trans s2) upd_same (s2 _ _ upd_same)⟩
    · refine dec_true rfl ?_
      have hR1 : upd (upd H B (.lst bs)) b (.tup us) R = some (.lst rv) := s1 _ _ (by rw [upd_ne hRB]; exact hR)
      refine ⟨_, rfl, .inl ⟨rfl, _, SqL.of hR1⟩, _, rfl, kk, _, 1, _, rfl, rfl, SqT.of (s1 _ _ (t0 _ _ hk)), rfl, _, rfl, sz (show 1 ≤ 1000 by decide), fun d hd => ?_⟩
      have s2 := Same.upd (o := .tup [.ref b]) hd
      refine ⟨q, d, _, _, rfl, rfl, SqT.of (s2 _ _ (s1 _ _ (t0 _ _ hq))), SqT.of upd_same, List.cons_ne_nil _ _, sz (show 3 ≤ 1000 by decide), fun e => absurd e (List.cons_ne_nil _ _), fun _ r hr2 => ?_⟩
      have s3 := Same.upd (o := .tup ([x, b'] ++ [V.ref b])) hr2
      exact ⟨R, _, _, rfl, rfl, s3 _ _ (s2 _ _ hR1), sz (by omega), kq r b _ (s1.trans (s2.trans s3)) upd_same (s3 _ _ (s2 _ _ upd_same))⟩
end
end T12
namespace T12
open PySem L2 Tc
section
variable {P : Program} {w : World} {K : PySem.W.Frag} {mg : Str → Option Value} {base : Heap}
noncomputable abbrev s_read_rows : Stmt := top 27
theorem sc_read_rows : FnScope ["rows", "blocks", "rules", "row", "words"] ["rows"] (defScope s_read_rows) := ⟨rfl, rfl, rfl, by decide +kernel, rfl, by decide +kernel, by decide +kernel⟩
theorem ok_read_rows (D : DefAt K mg "read_rows" s_read_rows) (T : Txt K mg) (G_rule_head : FnAt P w K mg base CX0 3 "rule_head" ["words", "blocks", "rules"] (spRuleH K)) (G_times_head : FnAt P w K mg base CX0 2 "times_head" ["words", "blocks"] (spTimesH K)) (G_end_block : FnAt P w K mg base CX0 1 "end_block" ["blocks", "rules"] (spEnd K)) (G_deed_read : FnAt P w K mg base CX0 5 "deed_read" ["words"] (spDeedR K)) : FnAt P w K mg base CX0 6 "read_rows" ["rows"] (spReadRows K) := by
  refine D.ok sc_read_rows (fun vs H Q E h => ?_) (fun _ _ _ _ _ _ us hl => match us, hl with | [_], _ => rfl) (fun f cdv A outer s H vs Q E hr h => ?_)
  · obtain ⟨a, rls, dts, rfl, hS, sok, hg, hlen, k⟩ := h; rfl
  · obtain ⟨a, rls, dts, rfl, hS, sok, hg, hlen, k⟩ := h
    have nd := sc_read_rows.nd
    refine ⟨_, (@pss_cons _ _ _ _ _ (@ps_set _ _ 1 _ _ _ _ nd rfl (Or.inl rfl) (@pe_lst _ _ _ _ (@pa_cons _ _ _ _ _ (@pe_tup _ _ _ _ _ (@pa_cons _ _ _ _ _ pe_str (@pa_cons _ _ _ _ _ pe_non (@pa_cons _ _ _ _ _ (@pe_lst _ _ _ _ pa_nil) pa_nil (by rfl)) (by rfl)) (by rfl))) pa_nil (by rfl))) (by rfl) (Or.inl rfl))
      (@pss_cons _ _ _ _ _ (@ps_set _ _ 2 _ _ _ _ nd rfl (Or.inl rfl) (@pe_lst _ _ _ _ pa_nil) (by rfl) (Or.inl rfl))
      (@pss_cons _ _ _ _ _ (ps_for PassesOwn.never rfl (pi_list' (K := K) rfl (pv 0)) (pg_name (i := 3) nd rfl (Or.inl rfl)) (@pss_cons _ _ _ _ _ (@ps_set _ _ 4 _ _ _ _ nd rfl (Or.inl rfl) (pe_bm' (K := K) rfl PySem.F.plainAttrs_str PySem.F.slot_str_split PySem.F.type_str_split mt_split (pv 3) (@pa_cons _ _ _ _ _ pe_str pa_nil (by rfl))) (by rfl) (Or.inl rfl))
      (@pss_one _ _ _ (ps_if (pt_cmpR op_eq (pe_ix (ix_list' (K := K) rfl) (pv 4) pe_int (fun _ _ => rfl)) pe_str (nomark _)) (@pss_one _ _ _ (ps_expr (pe_bm PySem.F.plainAttrs_list PySem.F.slot_list_append PySem.F.type_list_append mt_append (pv 1) (@pa_cons _ _ _ _ _ (pe_fn G_rule_head hr (by rfl) pass0 (@pa_cons _ _ _ _ _ (pv 4) (@pa_cons _ _ _ _ _ (pv 1) (@pa_cons _ _ _ _ _ (pv 2) pa_nil (by rfl)) (by rfl)) (by rfl))) pa_nil (by rfl))))) (@pss_one _ _ _ (ps_if (pt_cmpR op_eq (pe_ix (ix_list' (K := K) rfl) (pv 4) pe_int (fun _ _ => rfl)) pe_str (nomark _)) (@pss_one _ _ _ (ps_expr (pe_bm PySem.F.plainAttrs_list PySem.F.slot_list_append PySem.F.type_list_append mt_append (pv 1) (@pa_cons _ _ _ _ _ (pe_fn G_times_head hr (by rfl) pass0 (@pa_cons _ _ _ _ _ (pv 4) (@pa_cons _ _ _ _ _ (pv 1) pa_nil (by rfl)) (by rfl))) pa_nil (by rfl))))) (@pss_one _ _ _ (ps_if (pt_cmpR (op_eqD' (K := K) rfl hr) (pv 4) (@pe_lst _ _ _ _ (@pa_cons _ _ _ _ _ pe_str pa_nil (by rfl))) (nomark _)) (@pss_one _ _ _ (ps_expr (pe_fn G_end_block hr (by rfl) pass0 (@pa_cons _ _ _ _ _ (pv 1) (@pa_cons _ _ _ _ _ (pv 2) pa_nil (by rfl)) (by rfl))))) (@pss_one _ _ _ (ps_expr (pe_bm PySem.F.plainAttrs_list PySem.F.slot_list_append PySem.F.type_list_append mt_append (pe_ix (ix_tup' (K := K) rfl) (pe_ix (ix_list' (K := K) rfl) (pv 1) (@pe_op _ _ _ _ _ _ _ _ op_sub (pe_callB (call_len' (K := K) rfl) (by rfl) T.z_len PySem.boot_len (@pa_cons _ _ _ _ _ (pv 1) pa_nil (by rfl))) pe_int) (fun _ _ => rfl)) pe_int (fun _ _ => rfl)) (@pa_cons _ _ _ _ _ (pe_fn G_deed_read hr (by rfl) pass0 (@pa_cons _ _ _ _ _ (pv 4) pa_nil (by rfl))) pa_nil (by rfl)))))))))))))
      (@pss_cons _ _ _ _ _ (ps_if (pt_cmpR op_gt (pe_callB (call_len' (K := K) rfl) (by rfl) T.z_len PySem.boot_len (@pa_cons _ _ _ _ _ (pv 1) pa_nil (by rfl))) pe_int (nomark _)) (@pss_one _ _ _ ps_never) pss_nil)
      (@pss_one _ _ _ (ps_ret (@pe_tup _ _ _ _ _ (@pa_cons _ _ _ _ _ (pe_callTy (call_tuple_of' (K := K) rfl) (by rfl) T.z_tuple bt_tuple (@pa_cons _ _ _ _ _ (pv 2) pa_nil (by rfl))) (@pa_cons _ _ _ _ _ (pe_callTy (call_tuple_of' (K := K) rfl) (by rfl) T.z_tuple bt_tuple (@pa_cons _ _ _ _ _ (pe_ix (ix_tup' (K := K) rfl) (pe_ix (ix_list' (K := K) rfl) (pv 1) pe_int (fun _ _ => rfl)) pe_int (fun _ _ => rfl)) pa_nil (by rfl))) pa_nil (by rfl)) (by rfl))))))))), ?_⟩
    refine ⟨sz (by simp), fun L0 hL0 => ⟨sz (by simp), fun k0 hk0 => ⟨sz (by simp), fun B hB => ?_⟩⟩⟩
    refine ⟨sz (by simp), fun R hR => ?_⟩
    have i1 := Same.upd (o := .lst []) hL0
    have i2 := Same.upd (o := .tup [.str (Str.ofString "script"), .non, .ref L0]) hk0
    have i3 := Same.upd (o := .lst [.ref k0]) hB
    have i4 := Same.upd (o := .lst []) hR
    have i0 := i1.trans (i2.trans (i3.trans i4))
    have nB0 : L0 ≠ B := ne_of_none (i2 _ _ upd_same) hB
    have nR0 : L0 ≠ R := ne_of_none (i3 _ _ (i2 _ _ upd_same)) hR
    have nBR : B ≠ R := ne_of_none upd_same hR
    have fB : H B = none := (i1.trans i2).free hB
    have fR : H R = none := (i1.trans (i2.trans i3)).free hR
    have hrl : rls.length ≤ 300 := by
      have := flatR_len rls
      rw [List.length_append] at hlen
      omega
    have allok : ∀ t ∈ flatR rls ++ dts, t.Ok := fun t ht => by
      rcases List.mem_append.mp ht with h | h
      · exact flatR_ok sok.2 t h
      · exact go_ok hg t h
    refine ⟨_, rfl, a, rfl, ⟨_, i0.seq hS⟩, ?_⟩
    refine for_list (xs := ((flatR rls ++ dts).map Tk.row).map V.str) (fun i σ H1 => ∃ v3 v4 : Option V, σ = [some (.ref a), some (.ref B), some (.ref R), v3, v4] ∧ Same H H1 ∧ Inn H H1 B R rls dts ((flatR rls ++ dts).drop i)) ⟨none, none, rfl, i0, ?_⟩ ?_ ?_ ?_
    · exact Inn.startA (rls1 := []) (rls2 := rls) (i4 _ _ (i3 _ _ upd_same)) (i4 _ _ (i3 _ _ (i2 _ _ upd_same))) hL0 nB0 nR0 (i4 _ _ upd_same) upd_same .nil rfl hg hlen
    · rintro i σ H1 hi ⟨v3, v4, rfl, s1, _⟩
      exact s1.seq hS
    · rintro i x σ H1 hx ⟨v3, v4, rfl, s1, pf, b0, d, Ls, ks, t1, t2, rest, rv, rls1, rls2, er, hgo, hl3, st, hLs, hB1, hR1, hP, hM⟩
      rw [List.getElem?_map, List.getElem?_map] at hx
      obtain ⟨z, hz, rfl⟩ := Option.map_eq_some_iff.mp hx
      obtain ⟨t, ht, rfl⟩ := Option.map_eq_some_iff.mp hz
      have tok := allok t (List.mem_of_getElem? ht)
      have edrop : (flatR rls ++ dts).drop i = t :: (flatR rls ++ dts).drop (i + 1) := by
        obtain ⟨hi, he⟩ := List.getElem?_eq_some_iff.mp ht
        rw [← he]; exact List.drop_eq_getElem_cons hi
      rw [edrop] at er hl3
      have rl := row_len tok
      have rs := row_split tok
      refine ⟨_, rfl, rfl, t.row, Str.ofString " ", rfl, rfl, (by decide), by omega, fun wl hwl => ?_⟩
      rw [rs]
      have sw := Same.upd (o := .lst (t.words.map V.str)) hwl
      have hw : upd H1 wl (.lst (t.words.map V.str)) wl = some (.lst (t.words.map V.str)) := upd_same
      cases t2 with
      | cons t' t2 =>
        obtain ⟨rfl, er2⟩ := List.cons.inj er
        rw [er2] at hl3 ⊢
        obtain ⟨z0, v0, rfl, hz0, hpf, hpv⟩ := hM.heads
        obtain ⟨kk, kr, L, Lr, vs, bb, rfl, rfl, hkk, hbb, hL, hvl, kst⟩ := st.top (m := 2) rfl rfl
        have hB2 : H1 B = some (.lst ((pf ++ kr.reverse) ++ [.ref kk])) := by rw [hB1]; simp
        have nL := hLs L (.head _)
        cases t with
        | pl p =>
          obtain ⟨u, r, eu, n1, n2, n3⟩ := Pd.first tok
          have eu2 : (Tk.pl p).words = u :: r := eu
          rw [eu2] at hw sw
          rw [eu2]
          refine ⟨_, rfl, wl, _, 0, _, rfl, rfl, SqL.of hw, at_0 _ _, rfl, _, rfl, ?_⟩
          refine dec_false n1 ?_
          refine ⟨_, rfl, wl, _, 0, _, rfl, rfl, SqL.of hw, at_0 _ _, rfl, _, rfl, ?_⟩
          refine dec_false n2 ?_
          refine ⟨_, rfl, sz (show 1 ≤ 1000 by decide), fun e he => ?_⟩
          have s2 := Same.upd (o := .lst [.str (Str.ofString "end")]) he
          refine words_eq (SqL.of (s2 _ _ hw)) upd_same (by rw [← eu]; exact Tk.wd tok) (wd_const _ (by simp)) ⟨_, rfl, ?_⟩
          refine ite2 (fun h => absurd (of_decide_eq_true h) n3) (fun _ => ?_)
          have s3 := sw.trans s2
          refine ⟨_, rfl, _, rfl, _, _, rfl, .inl ⟨_, SqL.of (s3 _ _ hB2), rfl⟩, _, _, rfl, rfl, B, _, _, _, rfl, rfl, SqL.of (s3 _ _ hB2), at_end _ _, kk, _, 2, _, rfl, rfl, SqT.of (s3 _ _ hkk), at2 hbb, .inl ⟨rfl, _, SqL.of (s3 _ _ hL)⟩, _, rfl, wl, p, rfl, SqL.of (by rw [eu]; exact s2 _ _ hw), tok, fun v H2 s4 hv => ?_⟩
          have s5 := s3.trans s4
          refine ⟨L, _, _, rfl, rfl, s5 _ _ hL, sz (by rw [List.length_cons] at hl3; omega), _, _, rfl, (s1.trans s5).updD nL.1, ?_⟩
          refine Inn.step hM hl3 hP (fun c xs hc => TSame.updL (s5 _ _ hL) c xs (s5 _ _ hc)) (kst H2 s5.ts (fun _ _ o ho => s5 _ _ ho) v [.pl p] (.pl hv tok .nil)) hgo.2 hLs ?_ ?_ (fun L1 h1 h2 h3 h4 => ⟨?_, h2⟩)
          · rw [upd_ne (Ne.symm nL.2.1)]; exact s5 _ _ hB1
          · rw [upd_ne (Ne.symm nL.2.2)]; exact s5 _ _ hR1
          · have ne : L1 ≠ L := by rintro rfl; exact h2 (.head _)
            rw [upd_ne ne]; exact s5 _ _ h1
        | op n =>
          obtain ⟨hd, hn0, hn, hgo2⟩ := hgo
          refine ⟨_, rfl, wl, _, 0, _, rfl, rfl, SqL.of hw, rfl, rfl, _, rfl, ?_⟩
          refine dec_false (by decide +kernel) ?_
          refine ⟨_, rfl, wl, _, 0, _, rfl, rfl, SqL.of hw, rfl, rfl, _, rfl, ?_⟩
          refine dec_true rfl ?_
          obtain ⟨_, hkinds⟩ := st.kinds hz0
          have hdeep := st.deep
          refine ⟨_, rfl, .inl ⟨rfl, _, SqL.of (sw _ _ hB1)⟩, _, rfl, _, rfl, wl, B, n, pf ++ (V.ref kk :: kr).reverse, pf.length + 1, rfl, SqL.of hw, hn0, hn, sw _ _ hB1, ?_, by omega, ?_, fun p L2 H2 s2 hp2 hL2 hf2 => ?_⟩
          · rw [List.length_append, List.length_reverse]; omega
          · intro j b hb
            by_cases hj : j < pf.length
            · rw [List.getElem?_append_left hj] at hb
              obtain ⟨k1, r, e, hk1⟩ := hpv b (List.mem_of_getElem? hb)
              exact ⟨k1, _, r, e, sw _ _ hk1, fun e => absurd e (by decide +kernel)⟩
            · rw [List.getElem?_append_right (by omega)] at hb
              obtain ⟨k1, z, r, e, hk1, hz1⟩ := hkinds _ b hb
              exact ⟨k1, z, r, e, sw _ _ hk1, fun e => by have := hz1 e; omega⟩
          have s3 := sw.trans s2
          have fL2 : H1 L2 = none := sw.free hf2
          have hB3 := s3 _ _ hB1
          have tS : TSame H1 (upd H2 B (.lst (pf ++ (V.ref kk :: kr).reverse ++ [.ref p]))) := fun c xs hc => TSame.updL hB3 c xs (s3 _ _ hc)
          have nL2 : L2 ≠ B := (ne_of_none hB1 fL2).symm
          refine ⟨B, _, _, rfl, rfl, hB3, sz ?_, _, _, rfl, (s1.trans s3).updD fB, ?_⟩
          · rw [List.length_append, List.length_reverse]; omega
          refine Inn.step hM hl3 hP tS (d' := d - 1) (ks' := .ref p :: .ref kk :: kr) (Ls' := L2 :: L :: Lr) ?_ hgo2 ?_ ?_ ?_ (fun L1 h1 h2 h3 h4 => ⟨?_, ?_⟩)
          · obtain ⟨d1, rfl⟩ : ∃ d1, d = d1 + 1 := ⟨d - 1, by omega⟩
            refine .up (st.mono tS fun L3 h3 o ho => ?_) (TSame.updL hB3 _ _ hp2) hn0 hn ?_ .nil ?_
            · rw [upd_ne (hLs L3 h3).2.1]; exact s3 _ _ ho
            · rw [upd_ne nL2]; exact hL2
            · intro hm
              obtain ⟨_, e⟩ := st.lists L2 hm
              rw [fL2] at e; cases e
          · intro L3 h3
            rcases List.mem_cons.mp h3 with rfl | h3
            · exact ⟨s1.free fL2, nL2, (ne_of_none hR1 fL2).symm⟩
            · exact hLs L3 h3
          · rw [upd_same]; simp
          · rw [upd_ne (Ne.symm nBR)]; exact s3 _ _ hR1
          · rw [upd_ne h3]; exact s3 _ _ h1
          · intro hm
            rcases List.mem_cons.mp hm with rfl | hm
            · rw [fL2] at h1; cases h1
            · exact h2 hm
        | cl =>
          obtain ⟨hd, hgo2⟩ := hgo
          refine ⟨_, rfl, wl, _, 0, _, rfl, rfl, SqL.of hw, rfl, rfl, _, rfl, ?_⟩
          refine dec_false (by decide +kernel) ?_
          refine ⟨_, rfl, wl, _, 0, _, rfl, rfl, SqL.of hw, rfl, rfl, _, rfl, ?_⟩
          refine dec_false (by decide +kernel) ?_
          refine ⟨_, rfl, sz (show 1 ≤ 1000 by decide), fun e he => ?_⟩
          have s2 := Same.upd (o := .lst [.str (Str.ofString "end")]) he
          refine words_eq (zs := [Str.ofString "end"]) (SqL.of (s2 _ _ hw)) upd_same (Tk.wd tok) (wd_const _ (by simp)) ⟨_, rfl, ?_⟩
          refine iteT ?_
          have s3 := sw.trans s2
          obtain ⟨n, k5, L5, us, k2, kr2, L2, Lr2, vs2, bb2, e1, e2, hk5, hL5, hk2, hbb2, hL2, hv2, fin⟩ := st.close (m := 2) hd rfl rfl
          obtain ⟨b1, b2, rfl⟩ : ∃ b1 b2, bb2 = [b1, b2] := by
            match bb2, hbb2 with
            | [b1, b2], _ => exact ⟨b1, b2, rfl⟩
          rw [e2] at hLs hM
          rw [e1] at hB1
          have nL5 := hLs L5 (.head _)
          have nL2 := hLs L2 (.tail _ (.head _))
          have hB4 : H1 B = some (.lst ((pf ++ kr2.reverse ++ [.ref k2]) ++ [.ref k5])) := by rw [hB1]; simp
          have eB : pf ++ kr2.reverse ++ [V.ref k2] = pf ++ (V.ref k2 :: kr2).reverse := by simp
          refine ⟨_, rfl, _, rfl, B, R, pf ++ kr2.reverse ++ [.ref k2], k5, L5, Str.ofString "times", .int n, us, rfl, s3 _ _ hB4, by simp, s3 _ _ hk5, s3 _ _ hL5, nL5.2.1, .inl ⟨rfl, pf ++ kr2.reverse, k2, L2, b1, b2, vs2, rfl, s3 _ _ hk2, s3 _ _ hL2, ?_, nL2.2.1, fun a6 b6 H6 s6 h6 h7 => ?_⟩⟩
          · omega
          have kp : ∀ c o, c ≠ B → H1 c = some o → H6 c = some o := fun c o hc h => s6 _ _ (by rw [upd_ne hc]; exact s3 _ _ h)
          have tS6 : TSame H1 H6 := fun c xs hc => kp c _ (by rintro rfl; rw [hB1] at hc; cases hc) hc
          have hL6 := kp _ _ nL2.2.1 hL2
          refine ⟨_, _, rfl, ?_, ?_⟩
          · exact Same.updD (fun c o hc => kp c o (ne_of_none hc fB) (s1 _ _ hc)) nL2.1
          refine Inn.step hM hl3 hP (fun c xs hc => TSame.updL hL6 c xs (tS6 c xs hc)) (fin H6 tS6 (fun L3 h3 o ho => kp L3 o (hLs L3 (.tail _ h3)).2.1 ho) a6 b6 h6 h7) hgo2 (fun L3 h3 => hLs L3 (.tail _ h3)) ?_ ?_ (fun L1 h1 h2 h3 h4 => ⟨?_, fun hm => h2 (.tail _ hm)⟩)
          · rw [upd_ne (Ne.symm nL2.2.1), ← eB]; exact s6 _ _ upd_same
          · rw [upd_ne (Ne.symm nL2.2.2)]; exact kp _ _ (Ne.symm nBR) hR1
          · have ne : L1 ≠ L2 := by rintro rfl; exact h2 (.tail _ (.head _))
            rw [upd_ne ne]; exact kp _ _ h3 h1
        | rl _ _ => exact False.elim hgo
      | nil =>
        have hd8 : d = 8 := hgo
        subst hd8
        have er : t :: (flatR rls ++ dts).drop (i + 1) = rest := er
        rcases hM with ⟨rfl, rfl, e1, ⟨_, _, rfl⟩ | ⟨hne, ett, erest⟩⟩ | ⟨k5, L5, q, b, x, ps, rfl, rfl, e1, erest, h5, h6, h7, h8, h9, h10, h11, h12⟩
        · cases er
        · rw [List.append_nil] at ett
          subst ett
          cases rls2 with
          | nil => exact absurd rfl hne
          | cons r rr =>
            obtain ⟨x, ps, tt⟩ := r
            rw [erest] at er
            obtain ⟨rfl, er2⟩ := List.cons.inj er
            have er2 : (flatR rls ++ dts).drop (i + 1) = tt ++ Tk.cl :: (flatR rr ++ dts) := by rw [er2]; simp
            rw [er2] at hl3 ⊢
            have hmem : (x, ps, tt) ∈ rls := by rw [e1]; simp
            obtain ⟨o1, o2, o3⟩ := sok.2 _ hmem
            have hx : x ∉ rls1.map (·.1) := by
              have h1 := sok.1
              rw [e1, List.map_append, List.nodup_append] at h1
              intro hm
              exact h1.2.2 x hm x (by simp) rfl
            obtain ⟨k5, L5, vs5, rfl, rfl, a5, b5, c5⟩ := st.one rfl
            · have ev : vs5 = [] := by
                have := c5.len
                exact List.length_eq_zero_iff.mp (by simpa using this)
              subst ev
              refine ⟨_, rfl, wl, _, 0, _, rfl, rfl, SqL.of hw, at_0 _ _, rfl, _, rfl, ?_⟩
              refine dec_true rfl ?_
              have nL := hLs L5 (.head _)
              refine ⟨_, rfl, .inl ⟨rfl, _, SqL.of (sw _ _ hB1)⟩, _, rfl, _, rfl, _, rfl, wl, B, R, k5, L5, x, ps, rv, rls1, rfl, SqL.of hw, o1, o2, sw _ _ hB1, sw _ _ a5, sw _ _ b5, sw _ _ hR1, Paired.mapP hP (fun _ _ h => h.ts sw.ts), ?_, hx, fun p q b L H2 s2 hp hq hb hL hf => ?_⟩
              · rw [e1, List.length_append] at hrl; omega
              have s3 := sw.trans s2
              have hB3 := s3 _ _ hB1
              have fL : H1 L = none := sw.free hf
              have nLB : L ≠ B := (ne_of_none hB1 fL).symm
              have tS : TSame H1 (upd H2 B (.lst ([V.ref k5] ++ [.ref p]))) := fun c xs hc => TSame.updL hB3 c xs (s3 _ _ hc)
              refine ⟨B, _, _, rfl, rfl, hB3, sz (by simp), _, _, rfl, (s1.trans s3).updD fB, ?_⟩
              refine ⟨[.ref k5], [.str (Str.ofString "rule"), .ref q], 8, [L], [.ref p], [], tt, Tk.cl :: (flatR rr ++ dts), rv, rls1, rr, rfl, o3, ?_, .base (TSame.updL hB3 _ _ hp) (by rw [upd_ne nLB]; exact hL) .nil, ?_, upd_same, (by rw [upd_ne (Ne.symm nBR)]; exact s3 _ _ hR1), Paired.mapP hP fun _ _ h => h.ts tS, .inr ⟨k5, L5, q, b, x, ps, rfl, rfl, e1, rfl, tS _ _ a5, ?_, ?_, nL.1, nL.2.1, nL.2.2, TSame.updL hB3 _ _ hq, TSame.updL hB3 _ _ hb⟩⟩
              · rw [List.length_cons] at hl3
                rw [List.length_nil] at hl3 ⊢
                omega
              · intro L3 h3
                rw [List.mem_singleton.mp h3]
                exact ⟨s1.free fL, nLB, (ne_of_none hR1 fL).symm⟩
              · rw [upd_ne nL.2.1]; exact s3 _ _ b5
              · intro hm
                rw [← List.mem_singleton.mp hm, b5] at fL; cases fL
        · rw [erest] at er
          obtain ⟨rfl, er2⟩ := List.cons.inj er
          rw [er2] at hl3 ⊢
          rw [List.append_nil] at e1
          obtain ⟨k6, L6, vs6, rfl, rfl, a6, b6, c6⟩ := st.one rfl
          · have nL := hLs L6 (.head _)
            refine ⟨_, rfl, wl, _, 0, _, rfl, rfl, SqL.of hw, rfl, rfl, _, rfl, ?_⟩
            refine dec_false (by decide +kernel) ?_
            refine ⟨_, rfl, wl, _, 0, _, rfl, rfl, SqL.of hw, rfl, rfl, _, rfl, ?_⟩
            refine dec_false (by decide +kernel) ?_
            refine ⟨_, rfl, sz (show 1 ≤ 1000 by decide), fun e he => ?_⟩
            have s2 := Same.upd (o := .lst [.str (Str.ofString "end")]) he
            refine words_eq (zs := [Str.ofString "end"]) (SqL.of (s2 _ _ hw)) upd_same (Tk.wd tok) (wd_const _ (by simp)) ⟨_, rfl, ?_⟩
            refine iteT ?_
            have s3 := sw.trans s2
            have hB4 : H1 B = some (.lst ([V.ref k5] ++ [.ref k6])) := hB1
            have hrl1 : rls1.length ≤ 300 := by rw [e1, List.length_append] at hrl; omega
            refine ⟨_, rfl, _, rfl, B, R, [.ref k5], k6, L6, Str.ofString "rule", .ref q, vs6, rfl, s3 _ _ hB4, List.cons_ne_nil _ _, s3 _ _ a6, s3 _ _ b6, nL.2.1, .inr ⟨rfl, q, .str x, .ref b, rv, rfl, s3 _ _ h11, s3 _ _ hR1, ?_, Ne.symm nBR, fun a7 b7 H7 s7 g7 g8 => ?_⟩⟩
            · rw [hP.length]; omega
            have tB : TSame H1 (upd (upd (upd H1 wl _) e _) B (.lst [.ref k5])) := fun c xs hc => TSame.updL (s3 _ _ hB4) c xs (s3 _ _ hc)
            have tS7 : TSame H1 H7 := fun c xs hc => s7 _ _ (tB c xs hc)
            have hR7 : H7 R = some (.lst rv) := s7 _ _ (by rw [upd_ne (Ne.symm nBR)]; exact s3 _ _ hR1)
            have tR := TSame.updL (o := .lst (rv ++ [.ref a7])) hR7
            refine ⟨_, _, rfl, ?_, ?_⟩
            · refine Same.updD (fun c o hc => s7 _ _ ?_) fR
              have : c ≠ B := ne_of_none hc fB
              rw [upd_ne this]; exact s3 _ _ (s1 _ _ hc)
            refine Inn.startA (rls1 := rls1 ++ [(x, ps, t1)]) (rls2 := rls2) (tR _ _ (tS7 _ _ h5)) ?_ h8 h9 h10 ?_ upd_same ?_ (by rw [e1]; simp) hg (by rw [List.length_cons] at hl3; omega)
            · rw [upd_ne h10]; exact s7 _ _ (by rw [upd_ne h9]; exact s3 _ _ h6)
            · rw [upd_ne nBR]; exact s7 _ _ upd_same
            · refine (Paired.mapP hP fun _ _ h => h.ts (fun c xs hc => tR c xs (tS7 c xs hc))).snoc ⟨a7, b, b7, vs6, rfl, tR _ _ g7, tR _ _ (tS7 _ _ h12), tR _ _ g8, (c6.ts tS7).ts tR⟩
    · rintro σ H1 ⟨v3, v4, rfl, s1, pf, b0, d, Ls, ks, t1, t2, rest, rv, rls1, rls2, er, hgo, hl3, st, hLs, hB1, hR1, hP, hM⟩
      have e0 : (flatR rls ++ dts).drop (((flatR rls ++ dts).map Tk.row).map V.str).length = [] := by
        rw [List.length_map, List.length_map, List.drop_length]
      rw [e0] at er
      obtain ⟨rfl, rfl⟩ := List.append_eq_nil_iff.mp er.symm
      have hd8 : d = 8 := hgo
      subst hd8
      rcases hM with ⟨rfl, rfl, e1, ⟨rfl, ett, _⟩ | ⟨hne, _, erest⟩⟩ | ⟨k5, L5, q, b, x, ps, rfl, rfl, e1, erest, _⟩
      · rw [List.append_nil] at ett e1
        subst ett e1
        obtain ⟨k6, L6, vs6, rfl, rfl, a6, b6, c6⟩ := st.one rfl
        · refine ⟨_, rfl, _, _, rfl, .inl ⟨_, SqL.of hB1, rfl⟩, _, _, rfl, rfl, _, rfl, ?_⟩
          refine iteF ?_
          refine ⟨_, rfl, R, rv, rfl, .inl ⟨SqL.of hR1, fun a7 ha7 => ?_⟩⟩
          have s7 := Same.upd (o := .tup rv) ha7
          refine ⟨_, rfl, B, _, 0, _, rfl, rfl, SqL.of (s7 _ _ hB1), rfl, k6, _, 2, _, rfl, rfl, SqT.of (s7 _ _ a6), rfl, L6, vs6, rfl, .inl ⟨SqL.of (s7 _ _ b6), fun a8 ha8 => ⟨sz (show 2 ≤ 1000 by decide), fun p hp => ?_⟩⟩⟩
          have s8 := Same.upd (o := .tup vs6) ha8
          have s9 := Same.upd (o := .tup [.ref a7, .ref a8]) hp
          have sx := s7.trans (s8.trans s9)
          exact k _ _ (s1.trans sx) ⟨p, a7, a8, rv, vs6, rfl, upd_same, s9 _ _ (s8 _ _ upd_same), Paired.mapP hP (fun _ _ h => h.ts sx.ts), s9 _ _ upd_same, c6.ts sx.ts⟩
      · cases rls2 with
        | nil => exact absurd rfl hne
        | cons r rr => obtain ⟨x, ps, tt⟩ := r; cases erest
      · cases erest
end
end T12
namespace T12
open PySem L2 Tc
section
variable {P : Program} {w : World} {K : PySem.W.Frag} {mg : Str → Option Value} {base : Heap}
noncomputable abbrev s_read : Stmt := top 28
theorem sc_read : FnScope ["text", "rows"] ["text"] (defScope s_read) := ⟨rfl, rfl, rfl, by decide +kernel, rfl, by decide +kernel, by decide +kernel⟩
theorem ok_read (D : DefAt K mg "read" s_read) (T : Txt K mg) (G_read_rows : FnAt P w K mg base CX0 6 "read_rows" ["rows"] (spReadRows K)) : FnAt P w K mg base CX0 7 "read" ["text"] (spRead K) := by
  refine D.ok sc_read (fun vs H Q E h => ?_) (fun _ _ _ _ _ _ us hl => match us, hl with | [_], _ => rfl) (fun f cdv A outer s H vs Q E hr h => ?_)
  · obtain ⟨rls, dts, rfl, sok, hg, hl, k⟩ := h; rfl
  · obtain ⟨rls, dts, rfl, sok, hg, hl, k⟩ := h
    have nd := sc_read.nd
    refine ⟨_, (@pss_cons _ _ _ _ _ (ps_if (pt_not (pt_val (pe_callB (call_isi' (K := K) rfl) (by rfl) T.z_isinstance bt_isinstance (@pa_cons _ _ _ _ _ (pv 0) (@pa_cons _ _ _ _ _ (pe_bltn (v := .ty "str") (by rfl) T.z_str bt_str rfl) pa_nil (by rfl)) (by rfl))))) (@pss_one _ _ _ ps_never) pss_nil)
      (@pss_cons _ _ _ _ _ (ps_if (pt_cmpR op_eq (pv 0) pe_str (nomark _)) (@pss_one _ _ _ (ps_ret (@pe_tup _ _ _ _ _ (@pa_cons _ _ _ _ _ (@pe_tup _ _ _ _ _ pa_nil) (@pa_cons _ _ _ _ _ (@pe_tup _ _ _ _ _ pa_nil) pa_nil (by rfl)) (by rfl))))) pss_nil)
      (@pss_cons _ _ _ _ _ (@ps_set _ _ 1 _ _ _ _ nd rfl (Or.inl rfl) (pe_bm' (K := K) rfl PySem.F.plainAttrs_str PySem.F.slot_str_split PySem.F.type_str_split mt_split (pv 0) (@pa_cons _ _ _ _ _ pe_str pa_nil (by rfl))) (by rfl) (Or.inl rfl))
      (@pss_cons _ _ _ _ _ (ps_if (pt_cmpR op_gt (pe_callB (call_len' (K := K) rfl) (by rfl) T.z_len PySem.boot_len (@pa_cons _ _ _ _ _ (pv 1) pa_nil (by rfl))) (pe_gint (by rfl) T.g_MOST_ROWS) (nomark _)) (@pss_one _ _ _ ps_never) pss_nil)
      (@pss_one _ _ _ (ps_ret (pe_fn G_read_rows hr (by rfl) pass0 (@pa_cons _ _ _ _ _ (pv 1) pa_nil (by rfl))))))))), ?_⟩
    have allok : ∀ t ∈ flatR rls ++ dts, t.Ok := fun t ht => by
      rcases List.mem_append.mp ht with h | h
      · exact flatR_ok sok.2 t h
      · exact go_ok hg t h
    refine ⟨_, rfl, _, _, _, _, rfl, tyOf_of (n := "str") rfl, kit_tt (by decide) (by decide), _, rfl, ?_⟩
    refine iteF ?_
    refine ⟨_, rfl, rfl, _, rfl, ?_⟩
    refine ite2 (fun h => ?_) (fun h => ?_)
    · have h := V.str.inj (of_decide_eq_true h)
      have e : flatR rls ++ dts = [] := Classical.byContradiction fun z => rows_ne z allok h
      obtain ⟨e1, rfl⟩ := List.append_eq_nil_iff.mp e
      have e2 : rls = [] := List.length_eq_zero_iff.mp (by have := flatR_len rls; rw [e1] at this; simpa using this)
      subst e2
      refine ⟨sz (by simp), fun a ha => ⟨sz (by simp), fun b hb => ⟨sz (by simp), fun p hp => ?_⟩⟩⟩
      have s1 := Same.upd (o := .tup []) ha
      have s2 := Same.upd (o := .tup []) hb
      have s3 := Same.upd (o := .tup [.ref a, .ref b]) hp
      exact k _ _ (s1.trans (s2.trans s3)) ⟨p, a, b, [], [], rfl, upd_same, s3 _ _ (s2 _ _ upd_same), .nil, s3 _ _ upd_same, .nil⟩
    have hne : flatR rls ++ dts ≠ [] := fun z => by
      refine h (decide_eq_true ?_)
      unfold rowsT
      rw [z]
      exact congrArg V.str (by decide +kernel)
    have e := rows_split hne allok
    refine ⟨_, rfl, rfl, rowsT rls dts, Str.ofString "\n", rfl, rfl, (by decide), (rows_len allok hl).1, fun p hp => ?_⟩
    unfold rowsT
    rw [e]
    have s1 := Same.upd (o := .lst (((flatR rls ++ dts).map Tk.row).map V.str)) hp
    refine ⟨_, rfl, _, _, rfl, .inl ⟨_, SqL.of upd_same, rfl⟩, _, _, rfl, rfl, _, rfl, ?_⟩
    refine ite2 (fun h => ?_) (fun _ => ?_)
    · have h : (300 : Int) < (((((flatR rls ++ dts).map Tk.row).map V.str).length : Nat) : Int) := of_decide_eq_true h
      rw [List.length_map, List.length_map] at h
      omega
    exact ⟨_, rfl, p, rls, dts, rfl, SqL.of upd_same, sok, hg, hl, fun v H' s' hv => k v H' (s1.trans s') hv⟩
end
end T12
namespace T12
open PySem L2 Tc
section
variable {P : Program} {w : World} {K : PySem.W.Frag} {mg : Str → Option Value} {base : Heap}
noncomputable abbrev s_number_shown : Stmt := top 30
theorem sc_number_shown : FnScope ["number", "top", "bottom"] ["number"] (defScope s_number_shown) := ⟨rfl, rfl, rfl, by decide +kernel, rfl, by decide +kernel, by decide +kernel⟩
theorem ok_number_shown (D : DefAt K mg "number_shown" s_number_shown) (T : Txt K mg) : FnAt P w K mg base CX0 1 "number_shown" ["number"] (spShown K) := by
  refine D.ok sc_number_shown (fun vs H Q E h => ?_) (fun _ _ _ _ _ _ us hl => match us, hl with | [_], _ => rfl) (fun f cdv A outer s H vs Q E hr h => ?_)
  · obtain ⟨a, x, y, rfl, hS, hx0, hx, hy0, hy, k⟩ := h; rfl
  · obtain ⟨a, x, y, rfl, hS, hx0, hx, hy0, hy, k⟩ := h
    have nd := sc_number_shown.nd
    refine ⟨_, (@pss_cons _ _ _ _ _ (@ps_set _ _ 1 _ _ _ _ nd rfl (Or.inl rfl) (pe_ix (ix_tup' (K := K) rfl) (pv 0) pe_int (fun _ _ => rfl)) (by rfl) (Or.inl rfl))
      (@pss_cons _ _ _ _ _ (@ps_set _ _ 2 _ _ _ _ nd rfl (Or.inl rfl) (pe_ix (ix_tup' (K := K) rfl) (pv 0) pe_int (fun _ _ => rfl)) (by rfl) (Or.inl rfl))
      (@pss_cons _ _ _ _ _ (ps_if (pt_cmpR op_eq (pv 2) pe_int (nomark _)) (@pss_one _ _ _ (ps_ret (pe_js1 (pe_fmt (pv 1))))) pss_nil)
      (@pss_one _ _ _ (ps_ret (pe_js (.cons (pe_fmt (pv 1)) (.cons pe_str (.cons (pe_fmt (pv 2)) .nil))))))))), ?_⟩
    refine ⟨_, rfl, a, _, 0, _, rfl, rfl, hS, rfl, ?_⟩
    refine ⟨_, rfl, a, _, 1, _, rfl, rfl, hS, rfl, ?_⟩
    refine ⟨_, rfl, rfl, _, rfl, ?_⟩
    refine ite2 (fun h1 => ?_) (fun h1 => ?_)
    · have e : y = 1 := by simpa using h1
      refine ⟨_, rfl, x, rfl, log_small hx0 hx, ?_⟩
      unfold numTxt at k
      rw [if_pos e] at k
      exact k
    · have e : ¬ y = 1 := by simpa using h1
      unfold numTxt at k
      rw [if_neg e] at k
      have l1 := figs_len hx0 hx
      have l2 := figs_len (by omega) hy
      have ld := slash_len
      refine ⟨_, rfl, x, rfl, log_small hx0 hx, _, rfl, ?a, _, rfl, ?b, _, rfl, y, rfl, log_small (by omega) hy, _, rfl, ?c, ?d, ?e⟩
      case e =>
        have e0 : Str.empty ++ Str.ofString (toString x) = figs x := PySem.W.KT.empty_app _
        rw [e0]
        exact k
      all_goals simp only [strLen_append]
      all_goals have lx : (Str.ofString (toString x)).length ≤ 12 := l1
      all_goals have ly : (Str.ofString (toString y)).length ≤ 12 := l2
      all_goals have le : Str.empty.length = 0 := rfl
      all_goals omega
end
end T12
namespace T12
open PySem L2 Tc
section
variable {P : Program} {w : World} {K : PySem.W.Frag} {mg : Str → Option Value} {base : Heap}
noncomputable abbrev s_row_of : Stmt := top 31
theorem sc_row_of : FnScope ["deed", "words"] ["deed"] (defScope s_row_of) := ⟨rfl, rfl, rfl, by decide +kernel, rfl, by decide +kernel, by decide +kernel⟩
theorem ok_row_of (D : DefAt K mg "row_of" s_row_of) (T : Txt K mg) (G_number_shown : FnAt P w K mg base CX0 1 "number_shown" ["number"] (spShown K)) : FnAt P w K mg base CX0 2 "row_of" ["deed"] (spRowOf K) := by
  refine D.ok sc_row_of (fun vs H Q E h => ?_) (fun _ _ _ _ _ _ us hl => match us, hl with | [_], _ => rfl) (fun f cdv A outer s H vs Q E hr h => ?_)
  · obtain ⟨v, d, rfl, hv, ok, k⟩ := h; rfl
  · obtain ⟨v, d, rfl, hv, ok, k⟩ := h
    have nd := sc_row_of.nd
    refine ⟨_, (@pss_cons _ _ _ _ _ (@ps_set _ _ 1 _ _ _ _ nd rfl (Or.inl rfl) (pe_callTy (call_list_of' (K := K) rfl) (by rfl) T.z_list bt_list (@pa_cons _ _ _ _ _ (pv 0) pa_nil (by rfl))) (by rfl) (Or.inl rfl))
      (@pss_cons _ _ _ _ _ (ps_if (pt_cmpR op_eq (pe_ix (ix_tup' (K := K) rfl) (pv 0) pe_int (fun _ _ => rfl)) pe_str (nomark _)) (@pss_one _ _ _ (@ps_set _ _ 1 _ _ _ _ nd rfl (Or.inl rfl) (@pe_op _ _ _ _ _ _ _ _ op_cat (@pe_lst _ _ _ _ (@pa_cons _ _ _ _ _ pe_str (@pa_cons _ _ _ _ _ (pe_ix (ix_tup' (K := K) rfl) (pv 0) pe_int (fun _ _ => rfl)) pa_nil (by rfl)) (by rfl))) (pe_callTy (call_list_of' (K := K) rfl) (by rfl) T.z_list bt_list (@pa_cons _ _ _ _ _ (pe_ix (ix_tup' (K := K) rfl) (pv 0) pe_int (fun _ _ => rfl)) pa_nil (by rfl)))) (by rfl) (Or.inl rfl))) (@pss_one _ _ _ (ps_if (pt_cmpR (op_in_seq' (K := K) rfl) (pe_ix (ix_tup' (K := K) rfl) (pv 0) pe_int (fun _ _ => rfl)) (@pe_tup _ _ _ _ _ (@pa_cons _ _ _ _ _ pe_str (@pa_cons _ _ _ _ _ pe_str (@pa_cons _ _ _ _ _ pe_str pa_nil (by rfl)) (by rfl)) (by rfl))) (by rfl)) (@pss_one _ _ _ (ps_asg (pe_fn G_number_shown hr (by rfl) pass0 (@pa_cons _ _ _ _ _ (pe_ix (ix_tup' (K := K) rfl) (pv 0) pe_int (fun _ _ => rfl)) pa_nil (by rfl))) (pg_sub (pv 1) pe_int set_list))) pss_nil)))
      (@pss_one _ _ _ (ps_ret (pe_bm' (K := K) rfl PySem.F.plainAttrs_str PySem.F.slot_str_join PySem.F.type_str_join (mt_join' (K := K) rfl) pe_str (@pa_cons _ _ _ _ _ (pv 1) pa_nil (by rfl))))))), ?_⟩
    have rm := join_room (Pd.room ok).1 (Pd.room ok).2
    cases d with
    | year =>
      obtain ⟨a, rfl, ha⟩ := hv
      refine ⟨_, rfl, a, _, rfl, .inr (SqT.of ha), fun l hl => ?_⟩
      have h1 := (Same.upd (o := .lst [.str (Str.ofString "year")]) hl) _ _ ha
      refine ⟨_, rfl, a, _, 0, _, rfl, rfl, SqT.of h1, rfl, rfl, _, rfl, ?_⟩
      refine dec_false (by decide +kernel) ?_
      refine ⟨_, rfl, a, _, 0, _, rfl, rfl, SqT.of h1, rfl, sz (show 3 ≤ 1000 by decide), fun q hq => ⟨q, _, rfl, .inr (SqT.of upd_same), rfl, rfl, _, rfl, ?_⟩⟩
      refine ite2 (fun h => absurd h (by decide +kernel)) (fun _ => ?_)
      have s1 : Same H (upd (upd H l (.lst [.str (Str.ofString "year")])) q (.tup [.str (Str.ofString "bring"), .str (Str.ofString "move"), .str (Str.ofString "part")])) := (Same.upd hl).trans (Same.upd hq)
      exact ⟨rfl, _, rfl, _, l, [Str.ofString "year"], rfl, rfl, SqL.of ((Same.upd hq) _ _ upd_same), rm, k _ s1⟩
    | dor x ps =>
      obtain ⟨a, b, rfl, ha, hb⟩ := hv
      have hp8 := ok.2.2.1
      refine ⟨_, rfl, a, _, rfl, .inr (SqT.of ha), fun l hl => ?_⟩
      have s1 := Same.upd (o := .lst [.str (Str.ofString "do"), .str x, .ref b]) hl
      refine ⟨_, rfl, a, _, 0, _, rfl, rfl, SqT.of (s1 _ _ ha), rfl, rfl, _, rfl, ?_⟩
      refine dec_true rfl ?_
      refine ⟨_, rfl, a, _, 1, _, rfl, rfl, SqT.of (s1 _ _ ha), rfl, sz (show 2 ≤ 1000 by decide), fun q hq => ?_⟩
      have s2 := s1.trans (Same.upd (o := .lst [.str (Str.ofString "do"), .str x]) hq)
      refine ⟨_, rfl, a, _, 2, _, rfl, rfl, SqT.of (s2 _ _ ha), rfl, b, _, rfl, .inr (SqT.of (s2 _ _ hb)), fun m hm => ?_⟩
      have s3 := s2.trans (Same.upd (o := .lst (ps.map V.str)) hm)
      refine ⟨q, m, _, _, rfl, rfl, (Same.upd hm) _ _ upd_same, upd_same, ?_, fun r hr2 => ?_⟩
      · rw [List.length_map]; exact sz (show 2 + ps.length ≤ 1000 by omega)
      exact ⟨rfl, _, rfl, _, r, Str.ofString "do" :: x :: ps, rfl, rfl, SqL.of upd_same, rm, k _ (s3.trans (Same.upd hr2))⟩
    | two u x y =>
      obtain ⟨a, rfl, ha⟩ := hv
      have hu := ok.1
      have n1 : ¬ V.str u = V.str (Str.ofString "do") := by rcases hu with rfl | rfl <;> decide +kernel
      have n2 : ¬ inV (V.str u) [.str (Str.ofString "bring"), .str (Str.ofString "move"), .str (Str.ofString "part")] = true := by rcases hu with rfl | rfl <;> decide +kernel
      refine ⟨_, rfl, a, _, rfl, .inr (SqT.of ha), fun l hl => ?_⟩
      have h1 := (Same.upd (o := .lst [.str u, .str x, .str y]) hl) _ _ ha
      refine ⟨_, rfl, a, _, 0, _, rfl, rfl, SqT.of h1, rfl, rfl, _, rfl, ?_⟩
      refine dec_false n1 ?_
      refine ⟨_, rfl, a, _, 0, _, rfl, rfl, SqT.of h1, rfl, sz (show 3 ≤ 1000 by decide), fun q hq => ⟨q, _, rfl, .inr (SqT.of upd_same), rfl, rfl, _, rfl, ?_⟩⟩
      refine ite2 (fun h => absurd h n2) (fun _ => ?_)
      exact ⟨rfl, _, rfl, _, l, [u, x, y], rfl, rfl, SqL.of ((Same.upd hq) _ _ upd_same), rm, k _ ((Same.upd hl).trans (Same.upd hq))⟩
    | mea u x y n e =>
      obtain ⟨a, b, rfl, ha, hb⟩ := hv
      obtain ⟨hu, _, _, hn0, hn, he0, he, _⟩ := ok
      have hu : u = Str.ofString "bring" ∨ u = Str.ofString "move" ∨ u = Str.ofString "part" := by rcases hu with ⟨h | h, _⟩ | ⟨h, _⟩; exact .inl h; exact .inr (.inl h); exact .inr (.inr h)
      have n1 : ¬ V.str u = V.str (Str.ofString "do") := by rcases hu with rfl | rfl | rfl <;> decide +kernel
      have n2 : inV (V.str u) [.str (Str.ofString "bring"), .str (Str.ofString "move"), .str (Str.ofString "part")] = true := by rcases hu with rfl | rfl | rfl <;> decide +kernel
      refine ⟨_, rfl, a, _, rfl, .inr (SqT.of ha), fun l hl => ?_⟩
      have s1 := Same.upd (o := .lst [.str u, .str x, .str y, .ref b]) hl
      refine ⟨_, rfl, a, _, 0, _, rfl, rfl, SqT.of (s1 _ _ ha), rfl, rfl, _, rfl, ?_⟩
      refine dec_false n1 ?_
      refine ⟨_, rfl, a, _, 0, _, rfl, rfl, SqT.of (s1 _ _ ha), rfl, sz (show 3 ≤ 1000 by decide), fun q hq => ⟨q, _, rfl, .inr (SqT.of upd_same), rfl, rfl, _, rfl, ?_⟩⟩
      refine ite2 (fun _ => ?_) (fun h => absurd n2 h)
      have s2 := s1.trans (Same.upd (o := .tup [.str (Str.ofString "bring"), .str (Str.ofString "move"), .str (Str.ofString "part")]) hq)
      refine ⟨_, rfl, a, _, 3, _, rfl, rfl, SqT.of (s2 _ _ ha), rfl, b, n, e, rfl, SqT.of (s2 _ _ hb), hn0, hn, he0, he, ?_⟩
      refine ⟨_, rfl, l, _, 3, 3, rfl, rfl, (Same.upd hq) _ _ upd_same, rfl, ?_⟩
      exact ⟨rfl, _, rfl, _, l, [u, x, y, numTxt n e], rfl, rfl, SqL.of upd_same, rm, k _ (s2.updD hl)⟩
end
end T12
namespace T12
open PySem L2 Tc
section
variable {P : Program} {w : World} {K : PySem.W.Frag} {mg : Str → Option Value} {base : Heap}
noncomputable abbrev s_rows_of : Stmt := top 32
theorem sc_rows_of : FnScope ["deeds", "rows", "deed", "many"] ["deeds"] (defScope s_rows_of) := ⟨rfl, rfl, rfl, by decide +kernel, rfl, by decide +kernel, by decide +kernel⟩
theorem ok_rows_of (D : DefAt K mg "rows_of" s_rows_of) (T : Txt K mg) (G_row_of : FnAt P w K mg base CX0 2 "row_of" ["deed"] (spRowOf K)) : ∀ d, FnAt P w K mg base CX0 (d + 3) "rows_of" ["deeds"] (spRowsOf K d) := by
  intro d
  induction d with
  | zero =>
    refine D.ok sc_rows_of (fun vs H Q E h => ?_) (fun _ _ _ _ _ _ us hl => match us, hl with | [_], _ => rfl) (fun f cdv A outer s H vs Q E hr h => ?_)
    · exact False.elim (by obtain ⟨_, _, _, _, _, _, e, _⟩ := h; omega)
    · exact False.elim (by obtain ⟨_, _, _, _, _, _, e, _⟩ := h; omega)
  | succ d G_rows_of =>
  refine D.ok sc_rows_of (fun vs H Q E h => ?_) (fun _ _ _ _ _ _ us hl => match us, hl with | [_], _ => rfl) (fun f cdv A outer s H vs Q E hr h => ?_)
  · obtain ⟨a, us, ts, e, rfl, ha, ed, hrp, hl, k⟩ := h; rfl
  · obtain ⟨a, us, ts, e, rfl, ha, ed, hrp, hl, k⟩ := h
    have nd := sc_rows_of.nd
    refine ⟨_, (@pss_cons _ _ _ _ _ (@ps_set _ _ 1 _ _ _ _ nd rfl (Or.inl rfl) (@pe_lst _ _ _ _ pa_nil) (by rfl) (Or.inl rfl))
      (@pss_cons _ _ _ _ _ (ps_for PassesOwn.never rfl (pi_tup' (K := K) rfl (pv 0)) (pg_name (i := 2) nd rfl (Or.inl rfl)) (@pss_one _ _ _ (ps_if (pt_cmpR op_eq (pe_ix (ix_tup' (K := K) rfl) (pv 2) pe_int (fun _ _ => rfl)) pe_str (nomark _)) (@pss_cons _ _ _ _ _ (@ps_set _ _ 3 _ _ _ _ nd rfl (Or.inl rfl) (pe_ix (ix_tup' (K := K) rfl) (pv 2) pe_int (fun _ _ => rfl)) (by rfl) (Or.inl rfl))
      (@pss_cons _ _ _ _ _ (ps_expr (pe_bm PySem.F.plainAttrs_list PySem.F.slot_list_append PySem.F.type_list_append mt_append (pv 1) (@pa_cons _ _ _ _ _ (pe_js (.cons pe_str (.cons (pe_fmt (pv 3)) .nil))) pa_nil (by rfl))))
      (@pss_cons _ _ _ _ _ (ps_expr (pe_bm PySem.F.plainAttrs_list PySem.F.slot_list_extend PySem.F.type_list_extend mt_extend (pv 1) (@pa_cons _ _ _ _ _ (pe_fn G_rows_of hr (by rfl) pass0 (@pa_cons _ _ _ _ _ (pe_ix (ix_tup' (K := K) rfl) (pv 2) pe_int (fun _ _ => rfl)) pa_nil (by rfl)) (by omega)) pa_nil (by rfl))))
      (@pss_one _ _ _ (ps_expr (pe_bm PySem.F.plainAttrs_list PySem.F.slot_list_append PySem.F.type_list_append mt_append (pv 1) (@pa_cons _ _ _ _ _ pe_str pa_nil (by rfl)))))))) (@pss_one _ _ _ (ps_expr (pe_bm PySem.F.plainAttrs_list PySem.F.slot_list_append PySem.F.type_list_append mt_append (pv 1) (@pa_cons _ _ _ _ _ (pe_fn G_row_of hr (by rfl) pass0 (@pa_cons _ _ _ _ _ (pv 2) pa_nil (by rfl)) (by omega)) pa_nil (by rfl))))))))
      (@pss_one _ _ _ (ps_ret (pv 1))))), ?_⟩
    refine ⟨sz (by simp), fun l hl0 => ?_⟩
    have i0 := Same.upd (o := .lst []) hl0
    refine ⟨_, rfl, a, rfl, ⟨_, SqT.of (i0 _ _ ha)⟩, ?_⟩
    refine for_tup (xs := us) (fun i σ H1 => ∃ (v2 v3 : Option V) (t1 t2 : List Tk), σ = [some (.ref a), some (.ref l), v2, v3] ∧ Same H H1 ∧ H1 l = some (.lst ((t1.map Tk.row).map V.str)) ∧ ts = t1 ++ t2 ∧ Rp H1 e (us.drop i) t2) ⟨none, none, [], ts, rfl, i0, upd_same, rfl, hrp.ts i0.ts⟩ ?_ ?_ ?_
    · rintro i σ H1 hi ⟨v2, v3, t1, t2, rfl, s1, _⟩
      exact SqT.of (s1 _ _ ha)
    · rintro i x σ H1 hx ⟨v2, v3, t1, t2, rfl, s1, h1, et, hr1⟩
      have edrop : us.drop i = x :: us.drop (i + 1) := by
        obtain ⟨hi, he⟩ := List.getElem?_eq_some_iff.mp hx
        rw [← he]; exact List.drop_eq_getElem_cons hi
      rw [edrop] at hr1
      cases hr1 with
      | @pl _ _ p _ t3 hv ok hr3 =>
        obtain ⟨b, u, r, rfl, hb, hu⟩ := hv.head ok
        refine ⟨_, rfl, b, _, 0, _, rfl, rfl, SqT.of hb, at_0 _ _, rfl, _, rfl, ?_⟩
        refine dec_false hu ?_
        refine ⟨_, rfl, .inl ⟨rfl, _, SqL.of h1⟩, _, rfl, _, p, rfl, hv, ok, fun H2 s2 => ⟨l, _, _, rfl, rfl, s2 _ _ h1, ?_, ?_⟩⟩
        · rw [rows_n]; rw [et, List.length_append] at hl; exact sz (by omega)
        refine ⟨_, _, t1 ++ [.pl p], t3, rfl, (s1.trans s2).updD hl0, ?_, by rw [et]; simp, (hr3.ts s2.ts).ts (TSame.updL (s2 _ _ h1))⟩
        rw [upd_same, rows_app]; rfl
      | @tm e' b c n us1 _ t3 t4 hb hc h0 h60 hr3 hr4 =>
        have hl' : t1.length + (1 + (t3.length + (1 + t4.length))) ≤ 300 := by
          rw [et] at hl
          simp only [List.length_append, List.length_cons] at hl
          omega
        have lg := log_small h0 (show n < 10 ^ 12 by omega)
        have fl := figs_len h0 (show n < 10 ^ 12 by omega)
        refine ⟨_, rfl, b, _, 0, _, rfl, rfl, SqT.of hb, rfl, rfl, _, rfl, ?_⟩
        refine dec_true rfl ?_
        refine ⟨_, rfl, b, _, 1, _, rfl, rfl, SqT.of hb, rfl, ?_⟩
        refine ⟨_, rfl, .inl ⟨rfl, _, SqL.of h1⟩, _, rfl, ?_, _, rfl, n, rfl, lg, _, rfl, ?_, ?_, l, _, _, rfl, rfl, h1, by rw [rows_n]; exact sz (by omega), ?_⟩
        · decide
        · show (Str.empty ++ Str.ofString "times " ++ figs n).length ≤ 16777216
          have e0 : (Str.empty ++ Str.ofString "times ").length = 6 := by decide
          rw [strLen_append, e0]; omega
        · show (Str.empty ++ Str.ofString "times " ++ figs n).length ≤ 16777216
          have e0 : (Str.empty ++ Str.ofString "times ").length = 6 := by decide
          rw [strLen_append, e0]; omega
        have ep : Str.empty ++ Str.ofString "times " ++ figs n = (Tk.op n).row := by
          rw [← op_row]
          exact congrArg (· ++ figs n) (PySem.W.KT.empty_app _)
        have ep : Str.empty ++ Str.ofString "times " ++ Str.ofString (toString n) = (Tk.op n).row := ep
        rw [ep]
        have tA := TSame.updL (o := .lst ((t1.map Tk.row).map V.str ++ [.str (Tk.op n).row])) h1
        have ea : (t1.map Tk.row).map V.str ++ [V.str (Tk.op n).row] = ((t1 ++ [Tk.op n]).map Tk.row).map V.str := by rw [rows_app]; rfl
        rw [ea] at tA ⊢
        let HA : Hp := upd H1 l (.lst (((t1 ++ [Tk.op n]).map Tk.row).map V.str))
        have hA : HA l = some (.lst (((t1 ++ [Tk.op n]).map Tk.row).map V.str)) := upd_same
        refine ⟨_, rfl, .inl ⟨rfl, _, SqL.of hA⟩, _, rfl, b, _, 2, _, rfl, rfl, SqT.of (tA _ _ hb), rfl, c, us1, t3, e', rfl, tA _ _ hc, by omega, hr3.ts tA, by omega, fun l2 H2 s2 h2 => ⟨l, l2, _, _, rfl, rfl, s2 _ _ hA, h2, by rw [rows_n, rows_n]; rw [List.length_append, List.length_singleton]; exact sz (by omega), ?_⟩⟩
        have hB := s2 _ _ hA
        have tB := TSame.updL (o := .lst (((t1 ++ [Tk.op n]).map Tk.row).map V.str ++ (t3.map Tk.row).map V.str)) hB
        rw [← rows_app] at tB ⊢
        let HB : Hp := upd H2 l (.lst (((t1 ++ [Tk.op n] ++ t3).map Tk.row).map V.str))
        have hB2 : HB l = some (.lst (((t1 ++ [Tk.op n] ++ t3).map Tk.row).map V.str)) := upd_same
        refine ⟨_, rfl, .inl ⟨rfl, _, SqL.of hB2⟩, l, _, _, rfl, rfl, hB2, by rw [rows_n, List.length_append, List.length_append, List.length_singleton]; exact sz (by omega), ?_⟩
        have tC := TSame.updL (o := .lst (((t1 ++ [Tk.op n] ++ t3).map Tk.row).map V.str ++ [.str (Str.ofString "end")])) hB2
        have sAll : Same H HA := s1.updD hl0
        have sB : Same H HB := (sAll.trans s2).updD hl0
        refine ⟨_, _, t1 ++ [Tk.op n] ++ t3 ++ [.cl], t4, rfl, sB.updD hl0, ?_, by rw [et]; simp, hr4.ts (fun p xs hp => tC p xs (tB p xs (s2 _ _ (tA p xs hp))))⟩
        rw [upd_same, rows_app (t1 ++ [Tk.op n] ++ t3) [Tk.cl], cl_row]; rfl
    · rintro σ H1 ⟨v2, v3, t1, t2, rfl, s1, h1, et, hr1⟩
      rw [List.drop_length] at hr1
      cases hr1
      rw [List.append_nil] at et
      subst et
      exact ⟨_, rfl, k l H1 s1 h1⟩
end
end T12
namespace T12
open PySem L2 Tc
section
variable {P : Program} {w : World} {K : PySem.W.Frag} {mg : Str → Option Value} {base : Heap}
noncomputable abbrev s_shown : Stmt := top 33
theorem sc_shown : FnScope ["script", "rows", "rule"] ["script"] (defScope s_shown) := ⟨rfl, rfl, rfl, by decide +kernel, rfl, by decide +kernel, by decide +kernel⟩
theorem ok_shown (D : DefAt K mg "shown" s_shown) (T : Txt K mg) (G_rows_of : FnAt P w K mg base CX0 12 "rows_of" ["deeds"] (spRowsOf K 9)) : FnAt P w K mg base CX0 13 "shown" ["script"] (spShow K) := by
  refine D.ok sc_shown (fun vs H Q E h => ?_) (fun _ _ _ _ _ _ us hl => match us, hl with | [_], _ => rfl) (fun f cdv A outer s H vs Q E hr h => ?_)
  · obtain ⟨v, rls, dts, rfl, hv, sok, hg, hlen, k⟩ := h; rfl
  · obtain ⟨v, rls, dts, rfl, hv, sok, hg, hlen, k⟩ := h
    have nd := sc_shown.nd
    refine ⟨_, (@pss_cons _ _ _ _ _ (@ps_set _ _ 1 _ _ _ _ nd rfl (Or.inl rfl) (@pe_lst _ _ _ _ pa_nil) (by rfl) (Or.inl rfl))
      (@pss_cons _ _ _ _ _ (ps_for PassesOwn.never rfl (pi_tup' (K := K) rfl (pe_ix (ix_tup' (K := K) rfl) (pv 0) pe_int (fun _ _ => rfl))) (pg_name (i := 2) nd rfl (Or.inl rfl)) (@pss_cons _ _ _ _ _ (ps_expr (pe_bm PySem.F.plainAttrs_list PySem.F.slot_list_append PySem.F.type_list_append mt_append (pv 1) (@pa_cons _ _ _ _ _ (pe_bm' (K := K) rfl PySem.F.plainAttrs_str PySem.F.slot_str_join PySem.F.type_str_join (mt_join' (K := K) rfl) pe_str (@pa_cons _ _ _ _ _ (@pe_op _ _ _ _ _ _ _ _ op_cat (@pe_lst _ _ _ _ (@pa_cons _ _ _ _ _ pe_str (@pa_cons _ _ _ _ _ (pe_ix (ix_tup' (K := K) rfl) (pv 2) pe_int (fun _ _ => rfl)) pa_nil (by rfl)) (by rfl))) (pe_callTy (call_list_of' (K := K) rfl) (by rfl) T.z_list bt_list (@pa_cons _ _ _ _ _ (pe_ix (ix_tup' (K := K) rfl) (pv 2) pe_int (fun _ _ => rfl)) pa_nil (by rfl)))) pa_nil (by rfl))) pa_nil (by rfl))))
      (@pss_cons _ _ _ _ _ (ps_expr (pe_bm PySem.F.plainAttrs_list PySem.F.slot_list_extend PySem.F.type_list_extend mt_extend (pv 1) (@pa_cons _ _ _ _ _ (pe_fn G_rows_of hr (by rfl) pass0 (@pa_cons _ _ _ _ _ (pe_ix (ix_tup' (K := K) rfl) (pv 2) pe_int (fun _ _ => rfl)) pa_nil (by rfl))) pa_nil (by rfl))))
      (@pss_one _ _ _ (ps_expr (pe_bm PySem.F.plainAttrs_list PySem.F.slot_list_append PySem.F.type_list_append mt_append (pv 1) (@pa_cons _ _ _ _ _ pe_str pa_nil (by rfl))))))))
      (@pss_one _ _ _ (ps_ret (pe_bm' (K := K) rfl PySem.F.plainAttrs_str PySem.F.slot_str_join PySem.F.type_str_join (mt_join' (K := K) rfl) pe_str (@pa_cons _ _ _ _ _ (@pe_op _ _ _ _ _ _ _ _ op_cat (pv 1) (pe_fn G_rows_of hr (by rfl) pass0 (@pa_cons _ _ _ _ _ (pe_ix (ix_tup' (K := K) rfl) (pv 0) pe_int (fun _ _ => rfl)) pa_nil (by rfl)))) pa_nil (by rfl))))))), ?_⟩
    obtain ⟨p, a, b, rv, us, rfl, hp, ha, hP, hb, hrp⟩ := hv
    have allok : ∀ t ∈ flatR rls ++ dts, t.Ok := fun t ht => by
      rcases List.mem_append.mp ht with h | h
      · exact flatR_ok sok.2 t h
      · exact go_ok hg t h
    refine ⟨sz (by simp), fun l hl0 => ?_⟩
    have i0 := Same.upd (o := .lst []) hl0
    refine ⟨_, rfl, p, _, 0, _, rfl, rfl, SqT.of (i0 _ _ hp), rfl, a, rfl, ⟨_, SqT.of (i0 _ _ ha)⟩, ?_⟩
    refine for_tup (xs := rv) (fun i σ H1 => ∃ v2 : Option V, σ = [some (.ref p), some (.ref l), v2] ∧ Same H H1 ∧ H1 l = some (.lst (((flatR (rls.take i)).map Tk.row).map V.str))) ⟨none, rfl, i0, upd_same⟩ ?_ ?_ ?_
    · rintro i σ H1 hi ⟨v2, rfl, s1, _⟩
      exact SqT.of (s1 _ _ ha)
    · rintro i x σ H1 hx ⟨v2, rfl, s1, h1⟩
      obtain ⟨⟨y, ps, t⟩, hr, ra, rb, rc, us1, rfl, hra, hrb, hrc, hrp1⟩ := paired_get hP hx
      have hra : H ra = some (.tup [.str y, .ref rb, .ref rc]) := hra
      have hrb : H rb = some (.tup (ps.map V.str)) := hrb
      have hrp1 : Rp H 8 us1 t := hrp1
      have hmem := List.mem_of_getElem? hr
      obtain ⟨o1, _, o3⟩ := sok.2 _ hmem
      have o1 : (Tk.rl y ps).Ok := o1
      have etake : rls.take (i + 1) = rls.take i ++ [(y, ps, t)] := by rw [List.take_add_one, hr]; rfl
      have hl1 : (flatR (rls.take i)).length + (1 + (t.length + 1)) ≤ 300 := by
        have h1 : (flatR (rls.take (i + 1))).length ≤ (flatR rls).length := by
          have e := flatR_app (rls.take (i + 1)) (rls.drop (i + 1))
          rw [List.take_append_drop] at e
          rw [e, List.length_append]; omega
        rw [etake, flatR_app] at h1
        simp only [flatR, List.length_append, List.length_cons, List.length_nil] at h1
        rw [List.length_append] at hlen
        omega
      refine ⟨_, rfl, .inl ⟨rfl, _, SqL.of h1⟩, rfl, _, rfl, ra, _, 0, _, rfl, rfl, SqT.of (s1 _ _ hra), rfl, sz (show 2 ≤ 1000 by decide), fun q hq => ?_⟩
      have s2 := s1.trans (Same.upd (o := .lst [.str (Str.ofString "rule"), .str y]) hq)
      refine ⟨_, rfl, ra, _, 1, _, rfl, rfl, SqT.of (s2 _ _ hra), rfl, rb, _, rfl, .inr (SqT.of (s2 _ _ hrb)), fun m hm => ?_⟩
      have s3 := s2.trans (Same.upd (o := .lst (ps.map V.str)) hm)
      have o13 := o1.2.2.1
      refine ⟨q, m, _, _, rfl, rfl, (Same.upd hm) _ _ upd_same, upd_same, ?_, fun r hr2 => ?_⟩
      · rw [List.length_map]; exact sz (show 2 + ps.length ≤ 1000 by omega)
      have rm := join_room (Tk.room o1).1 (Tk.room o1).2
      have h1r : upd (upd (upd H1 q _) m _) r (.lst ([V.str (Str.ofString "rule"), .str y] ++ ps.map V.str)) l = some (.lst (((flatR (rls.take i)).map Tk.row).map V.str)) := (Same.upd hr2) _ _ ((Same.upd hm) _ _ ((Same.upd hq) _ _ h1))
      have s4 := s3.trans (Same.upd (o := .lst ([V.str (Str.ofString "rule"), .str y] ++ ps.map V.str)) hr2)
      refine ⟨_, r, Str.ofString "rule" :: y :: ps, rfl, rfl, SqL.of upd_same, rm, l, _, _, rfl, rfl, h1r, by rw [rows_n]; exact sz (by omega), ?_⟩
      have tA := TSame.updL (o := .lst (((flatR (rls.take i)).map Tk.row).map V.str ++ [.str (Tk.rl y ps).row])) h1r
      have sA : Same H (upd (upd (upd (upd H1 q _) m _) r (.lst ([V.str (Str.ofString "rule"), .str y] ++ ps.map V.str))) l (.lst (((flatR (rls.take i)).map Tk.row).map V.str ++ [.str (Tk.rl y ps).row]))) := s4.updD hl0
      refine ⟨_, rfl, .inl ⟨rfl, _, SqL.of upd_same⟩, _, rfl, ra, _, 2, _, rfl, rfl, SqT.of (sA _ _ hra), rfl, rc, us1, t, 8, rfl, sA _ _ hrc, rfl, hrp1.ts sA.ts, by omega, fun l2 H2 s5 h2 => ⟨l, l2, _, _, rfl, rfl, s5 _ _ upd_same, h2, ?_, ?_⟩⟩
      · rw [List.length_append, rows_n, rows_n, List.length_singleton]; exact sz (by omega)
      refine ⟨_, rfl, .inl ⟨rfl, _, SqL.of upd_same⟩, l, _, _, rfl, rfl, upd_same, ?_, ?_⟩
      · rw [List.length_append, List.length_append, rows_n, rows_n, List.length_singleton]; exact sz (by omega)
      refine ⟨_, rfl, ((sA.trans s5).updD hl0).updD hl0, ?_⟩
      rw [upd_same, etake, flatR_app, rows_app]
      have e5 : flatR [(y, ps, t)] = [Tk.rl y ps] ++ t ++ [Tk.cl] := by simp [flatR]
      rw [e5, rows_app, rows_app, cl_row]
      first | (simp; done) | (simp; rfl)
    · rintro σ H1 ⟨v2, rfl, s1, h1⟩
      have el : rls.take rv.length = rls := by rw [hP.length, List.take_length]
      rw [el] at h1
      refine ⟨rfl, _, rfl, _, rfl, p, _, 1, _, rfl, rfl, SqT.of (s1 _ _ hp), rfl, b, us, dts, 8, rfl, s1 _ _ hb, rfl, hrp.ts s1.ts, by rw [List.length_append] at hlen; omega, fun l2 H2 s2 h2 => ⟨l, l2, _, _, rfl, rfl, s2 _ _ h1, h2, ?_, fun r hr2 => ?_⟩⟩
      · rw [rows_n, rows_n]; rw [List.length_append] at hlen; exact sz (by omega)
      refine ⟨_, r, (flatR rls ++ dts).map Tk.row, rfl, rfl, SqL.of (by rw [upd_same, rows_app]), (rows_len allok hlen).2, k _ ((s1.trans s2).trans (Same.upd hr2))⟩
end
end T12
namespace T12
open PySem L2 Tc
section
variable {P : Program} {w : World} {K : PySem.W.Frag} {mg : Str → Option Value} {base : Heap}
noncomputable abbrev s__law_cell_at : Stmt := top 35
theorem sc__law_cell_at : FnScope ["_law_script_here", "_law_k"] ["_law_script_here", "_law_k"] (defScope s__law_cell_at) := ⟨rfl, rfl, rfl, by decide +kernel, rfl, by decide +kernel, by decide +kernel⟩
theorem ok__law_cell_at (D : DefAt K mg "_law_cell_at" s__law_cell_at) (T : Txt K mg) : FnAt P w K mg base CX0 1 "_law_cell_at" ["_law_script_here", "_law_k"] (spCell K) := by
  refine D.ok sc__law_cell_at (fun vs H Q E h => ?_) (fun _ _ _ _ _ _ us hl => match us, hl with | [_, _], _ => rfl) (fun f cdv A outer s H vs Q E hr h => ?_)
  · obtain ⟨a, ns, j, rfl, hS, hj, k⟩ := h; rfl
  · obtain ⟨a, ns, j, rfl, hS, hj, k⟩ := h
    have nd := sc__law_cell_at.nd
    refine ⟨_, (@pss_cons _ _ _ _ _ (ps_if (pt_cmpR op_lt (pv 1) (pe_callB (call_len' (K := K) rfl) (by rfl) T.z_len PySem.boot_len (@pa_cons _ _ _ _ _ (pv 0) pa_nil (by rfl))) (nomark _)) (@pss_one _ _ _ (ps_ret (pe_ix (ix_list' (K := K) rfl) (pv 0) (pv 1) (fun _ _ => rfl)))) pss_nil)
      (@pss_one _ _ _ (ps_ret pe_int))), ?_⟩
    refine ⟨_, rfl, _, rfl, _, _, rfl, .inl ⟨_, hS, rfl⟩, _, _, rfl, rfl, _, rfl, ?_⟩
    refine ite2 (fun h1 => ?_) (fun h1 => ?_)
    · obtain ⟨c, hc⟩ := map_at hj (of_decide_eq_true h1)
      refine ⟨_, rfl, _, rfl, a, _, j, _, rfl, rfl, hS, hc, k c⟩
    · exact k 0
end
end T12
namespace T12
open PySem L2 Tc
section
variable {P : Program} {w : World} {K : PySem.W.Frag} {mg : Str → Option Value} {base : Heap}
noncomputable abbrev s__law_mixed : Stmt := top 36
theorem sc__law_mixed : FnScope ["_law_cell"] ["_law_cell"] (defScope s__law_mixed) := ⟨rfl, rfl, rfl, by decide +kernel, rfl, by decide +kernel, by decide +kernel⟩
theorem ok__law_mixed (D : DefAt K mg "_law_mixed" s__law_mixed) (T : Txt K mg) : FnAt P w K mg base CX0 1 "_law_mixed" ["_law_cell"] (spMix) := by
  refine D.ok sc__law_mixed (fun vs H Q E h => ?_) (fun _ _ _ _ _ _ us hl => match us, hl with | [_], _ => rfl) (fun f cdv A outer s H vs Q E hr h => ?_)
  · obtain ⟨c, rfl, k⟩ := h; rfl
  · obtain ⟨c, rfl, k⟩ := h
    have nd := sc__law_mixed.nd
    refine ⟨_, (@pss_one _ _ _ (ps_ret (@pe_op _ _ _ _ _ _ _ _ op_add (@pe_op _ _ _ _ _ _ _ _ op_modN (@pe_op _ _ _ _ _ _ _ _ op_mulB (pv 0) pe_int) pe_int) (@pe_op _ _ _ _ _ _ _ _ op_mulB pe_int (@pe_op _ _ _ _ _ _ _ _ op_modN (pv 0) (@pe_op _ _ _ _ _ _ _ _ op_pow pe_int pe_int)))))), ?_⟩
    refine ⟨_, rfl, _, _, rfl, rfl, IntMulOk.of_right (by decide), _, _, rfl, rfl, (show (2147483629 : Int) ≠ 0 by decide), _, rfl, _, _, rfl, rfl, ⟨by decide, by decide, by decide⟩, _, _, rfl, rfl, (by rw [pow10_30]; show (_ : Int) ≠ 0; decide), _, _, rfl, rfl, IntMulOk.of_left (by decide), _, _, rfl, rfl, ?_⟩
    rw [pow10_30]
    have q1 := fmod_lt (c := c * 69621) (m := 2147483629) (by decide)
    have q2 := fmod_lt (c := c) (m := 1000000000000000000000000000000) (by decide)
    exact k _ (by omega) (by unfold BG; omega)
end
end T12
namespace T12
open PySem L2 Tc
section
variable {P : Program} {w : World} {K : PySem.W.Frag} {mg : Str → Option Value} {base : Heap}
noncomputable abbrev s__law_digits : Stmt := top 37
theorem sc__law_digits : FnScope ["_law_number", "_law_many", "_law_top", "_law_found", "_law_k"] ["_law_number", "_law_many", "_law_top"] (defScope s__law_digits) := ⟨rfl, rfl, rfl, by decide +kernel, rfl, by decide +kernel, by decide +kernel⟩
theorem ok__law_digits (D : DefAt K mg "_law_digits" s__law_digits) (T : Txt K mg) : FnAt P w K mg base CX0 1 "_law_digits" ["_law_number", "_law_many", "_law_top"] (spDigits) := by
  refine D.ok sc__law_digits (fun vs H Q E h => ?_) (fun _ _ _ _ _ _ us hl => match us, hl with | [_, _, _], _ => rfl) (fun f cdv A outer s H vs Q E hr h => ?_)
  · obtain ⟨n, m, rfl, m0, m10, k⟩ := h; rfl
  · obtain ⟨n, m, rfl, m0, m10, k⟩ := h
    have nd := sc__law_digits.nd
    refine ⟨_, (@pss_cons _ _ _ _ _ (@ps_set _ _ 3 _ _ _ _ nd rfl (Or.inl rfl) (@pe_lst _ _ _ _ pa_nil) (by rfl) (Or.inl rfl))
      (@pss_cons _ _ _ _ _ (ps_for PassesOwn.never rfl (pi_range1 (by rfl) T.z_range (@pa_cons _ _ _ _ _ (pv 1) pa_nil (by rfl))) (pg_name (i := 4) nd rfl (Or.inl rfl)) (@pss_cons _ _ _ _ _ (ps_expr (pe_bm PySem.F.plainAttrs_list PySem.F.slot_list_append PySem.F.type_list_append mt_append (pv 3) (@pa_cons _ _ _ _ _ (@pe_op _ _ _ _ _ _ _ _ op_modN (pv 0) (pv 2)) pa_nil (by rfl))))
      (@pss_one _ _ _ (@ps_set _ _ 0 _ _ _ _ nd rfl (Or.inl rfl) (@pe_op _ _ _ _ _ _ _ _ op_fdivB (pv 0) (pv 2)) (by rfl) (Or.inl rfl)))))
      (@pss_one _ _ _ (ps_ret (pv 3))))), ?_⟩
    refine ⟨sz (by simp), fun p hp => ?_⟩
    refine ⟨_, rfl, _, rfl, by omega, by omega, ?_⟩
    refine for_range (fun i σ H1 => ∃ (v4 : Option V) (x : Int) (ds : List Int), σ = [some (.int x), some (.int m), some (.int 26), some (.ref p), v4] ∧ Same H H1 ∧ H1 p = some (.lst (ds.map V.int)) ∧ ds.length = i ∧ ∀ d ∈ ds, 0 ≤ d ∧ d < 26) ⟨none, n, [], rfl, Same.upd hp, upd_same, rfl, fun _ z => nomatch z⟩ ?_ ?_
    · rintro i σ H1 hi ⟨v4, x, ds, rfl, s1, hp1, hl, hb⟩
      refine ⟨_, rfl, .inl ⟨rfl, _, SqL.of hp1⟩, _, rfl, _, rfl, _, _, rfl, rfl, (show (26 : Int) ≠ 0 by decide), p, _, _, rfl, rfl, hp1, by rw [List.length_map]; exact sz (by omega), ?_⟩
      refine ⟨_, rfl, _, rfl, _, _, rfl, rfl, divB_of (by decide) (by decide), ?_⟩
      refine ⟨_, x.fdiv 26, ds ++ [x.fmod 26], rfl, s1.updD hp, ?_, by rw [List.length_append, hl]; rfl, ?_⟩
      · rw [upd_same, List.map_append]; rfl
      · intro d hd
        rcases List.mem_append.mp hd with z | z
        · exact hb d z
        · have z := List.mem_singleton.mp z
          subst z
          exact fmod_lt (by decide)
    · rintro σ H1 ⟨v4, x, ds, rfl, s1, hp1, hl, hb⟩
      exact ⟨_, rfl, k p H1 ds s1 hp1 (by have : ds.length = m.toNat := hl; omega) hb⟩
end
end T12
namespace T12
open PySem L2 Tc
section
variable {P : Program} {w : World} {K : PySem.W.Frag} {mg : Str → Option Value} {base : Heap}
noncomputable abbrev s__law_names : Stmt := top 38
theorem sc__law_names : FnScope ["_law_number", "_law_many", "_law_words", "_law_letters", "_law_base", "_law_at", "_law_names_here", "_law_j", "_law_signs"] ["_law_number", "_law_many"] (defScope s__law_names) := ⟨rfl, rfl, rfl, by decide +kernel, rfl, by decide +kernel, by decide +kernel⟩
theorem ok__law_names (D : DefAt K mg "_law_names" s__law_names) (T : Txt K mg) (G__law_digits : FnAt P w K mg base CX0 1 "_law_digits" ["_law_number", "_law_many", "_law_top"] (spDigits)) : FnAt P w K mg base CX0 2 "_law_names" ["_law_number", "_law_many"] (spNam) := by
  refine D.ok sc__law_names (fun vs H Q E h => ?_) (fun _ _ _ _ _ _ us hl => match us, hl with | [_, _], _ => rfl) (fun f cdv A outer s H vs Q E hr h => ?_)
  · obtain ⟨c, m, rfl, hm0, hm9, k⟩ := h; rfl
  · obtain ⟨c, m, rfl, hm0, hm9, k⟩ := h
    have nd := sc__law_names.nd
    refine ⟨_, (@pss_cons _ _ _ _ _ (@ps_set _ _ 2 _ _ _ _ nd rfl (Or.inl rfl) (@pe_lst _ _ _ _ (@pa_cons _ _ _ _ _ pe_str (@pa_cons _ _ _ _ _ pe_str (@pa_cons _ _ _ _ _ pe_str (@pa_cons _ _ _ _ _ pe_str (@pa_cons _ _ _ _ _ pe_str (@pa_cons _ _ _ _ _ pe_str (@pa_cons _ _ _ _ _ pe_str (@pa_cons _ _ _ _ _ pe_str (@pa_cons _ _ _ _ _ pe_str (@pa_cons _ _ _ _ _ pe_str pa_nil (by rfl)) (by rfl)) (by rfl)) (by rfl)) (by rfl)) (by rfl)) (by rfl)) (by rfl)) (by rfl)) (by rfl))) (by rfl) (Or.inl rfl))
      (@pss_cons _ _ _ _ _ (ps_if (PW.pt (pw_and (pt_cmpR op_eq (@pe_op _ _ _ _ _ _ _ _ op_modN (pv 0) pe_int) pe_int (nomark _)) (pw_and1 (pt_cmpR op_lt (pv 1) pe_int (nomark _))))) (@pss_one _ _ _ (ps_ret (pe_slice (sl_list' (K := K) rfl) (pv 2) po_none (po_some (pv 1))))) pss_nil)
      (@pss_cons _ _ _ _ _ (@ps_set _ _ 3 _ _ _ _ nd rfl (Or.inr rfl) pe_str (by rfl) (Or.inl rfl))
      (@pss_cons _ _ _ _ _ (@ps_set _ _ 4 _ _ _ _ nd rfl (Or.inr rfl) (pe_fn G__law_digits hr (by rfl) pass0 (@pa_cons _ _ _ _ _ (@pe_op _ _ _ _ _ _ _ _ op_fdivB (pv 0) pe_int) (@pa_cons _ _ _ _ _ (@pe_op _ _ _ _ _ _ _ _ op_add pe_int (@pe_op _ _ _ _ _ _ _ _ op_modN (@pe_op _ _ _ _ _ _ _ _ op_fdivB (pv 0) pe_int) pe_int)) (@pa_cons _ _ _ _ _ pe_int pa_nil (by rfl)) (by rfl)) (by rfl))) (by rfl) (Or.inl rfl))
      (@pss_cons _ _ _ _ _ (@ps_set _ _ 5 _ _ _ _ nd rfl (Or.inr rfl) (@pe_op _ _ _ _ _ _ _ _ op_modN (@pe_op _ _ _ _ _ _ _ _ op_modN (@pe_op _ _ _ _ _ _ _ _ op_fdivB (pv 0) pe_int) pe_int) (pe_callB (call_len' (K := K) rfl) (by rfl) T.z_len PySem.boot_len (@pa_cons _ _ _ _ _ (pv 4) pa_nil (by rfl)))) (by rfl) (Or.inl rfl))
      (@pss_cons _ _ _ _ _ (@ps_set _ _ 6 _ _ _ _ nd rfl (Or.inl rfl) (@pe_lst _ _ _ _ pa_nil) (by rfl) (Or.inl rfl))
      (@pss_cons _ _ _ _ _ (ps_for PassesOwn.never rfl (pi_range1 (by rfl) T.z_range (@pa_cons _ _ _ _ _ (pv 1) pa_nil (by rfl))) (pg_name (i := 7) nd rfl (Or.inr rfl)) (@pss_cons _ _ _ _ _ (ps_setcomp ["_law_k"] ["_law_letters", "_law_base", "_law_j", "_law_at"] [3, 4, 7, 5] (i := 8) nd rfl rfl rfl (by rfl) (pi_range1 (by rfl) T.z_range (@pa_cons _ _ _ _ _ (pe_callB (call_len' (K := K) rfl) (by rfl) T.z_len PySem.boot_len (@pa_cons _ _ _ _ _ (pv 4) pa_nil (by rfl))) pa_nil (by rfl))) (fun _ _ _ _ => (pg_name (i := 0) (show List.Nodup (["_law_k", "_law_letters", "_law_base", "_law_j", "_law_at"] : List Str) from by decide) rfl (Or.inl rfl))) (fun _ _ _ _ => pif_none) (fun _ _ _ _ => (pe_ix ix_str (pv 1) (@pe_op _ _ _ _ _ _ _ _ op_modN (@pe_op _ _ _ _ _ _ _ _ op_add (pe_ix (ix_list' (K := K) rfl) (pv 2) (pv 0) (fun _ _ => rfl)) (@pe_op _ _ _ _ _ _ _ _ op_mulB (pv 3) (pe_callTy call_int1 (by rfl) T.z_int bt_int (@pa_cons _ _ _ _ _ (pe_cmpR op_eq (pv 0) (pv 4) (nomark _)) pa_nil (by rfl))))) pe_int) (fun _ _ => rfl))))
      (@pss_one _ _ _ (ps_expr (pe_bm PySem.F.plainAttrs_list PySem.F.slot_list_append PySem.F.type_list_append mt_append (pv 6) (@pa_cons _ _ _ _ _ (pe_bm' (K := K) rfl PySem.F.plainAttrs_str PySem.F.slot_str_join PySem.F.type_str_join (mt_join' (K := K) rfl) pe_str (@pa_cons _ _ _ _ _ (pv 8) pa_nil (by rfl))) pa_nil (by rfl)))))))
      (@pss_one _ _ _ (ps_ret (pv 6)))))))))), ?_⟩
    refine ⟨sz (show 10 ≤ 1000 by decide), fun pw hpw => ?_⟩
    have sw := Same.upd (o := .lst (WN.map V.str)) hpw
    refine ⟨_, rfl, _, _, rfl, rfl, (show (4 : Int) ≠ 0 by decide), rfl, _, rfl, ?_⟩
    refine ite2 (fun _ => ?_) (fun _ => ?_)
    · refine ⟨_, rfl, _, _, rfl, rfl, _, rfl, ?_⟩
      refine ite2 (fun _ => ?_) (fun h => absurd (decide_eq_true (show m < 11 by omega)) h)
      obtain ⟨mm, rfl⟩ := Int.eq_ofNat_of_zero_le hm0
      have hmm : mm ≤ WN.length := by show mm ≤ 10; omega
      refine ⟨_, rfl, _, rfl, _, rfl, pw, WN.map V.str, rfl, SqL.of upd_same, fun q hq => ?_⟩
      refine k q _ (WN.take mm) (sw.trans (Same.upd hq)) (sw.free hq) (by rw [upd_same, cut_upto WN hmm]) ?_ (wn_nd.sublist (List.take_sublist _ _)) (fun z hz => wn_nm z (List.mem_of_mem_take hz))
      rw [List.length_take]; omega
    refine iteF ?_
    have q7 := fmod_lt (c := c.fdiv 4) (m := 7) (by decide)
    refine ⟨_, rfl, _, _, rfl, rfl, dd (by decide) (by decide), _, rfl, _, _, rfl, rfl, dd (by decide) (by decide), _, _, rfl, rfl, (show (7 : Int) ≠ 0 by decide), _, _, rfl, rfl, c.fdiv 56, 1 + (c.fdiv 4).fmod 7, rfl, by omega, by omega, fun D H1 bs s1 hd hl hb => ?_⟩
    have hlen : (bs.map V.int).length = bs.length := List.length_map ..
    have hne : (((bs.map V.int).length : Nat) : Int) ≠ 0 := by rw [hlen]; omega
    refine ⟨_, rfl, _, _, rfl, rfl, dd (by decide) (by decide), _, _, rfl, rfl, (show (7 : Int) ≠ 0 by decide), _, rfl, _, _, rfl, .inl ⟨_, SqL.of hd, rfl⟩, _, _, rfl, rfl, hne, ?_⟩
    have qa := fmod_lt (c := (c.fdiv 28).fmod 7) (m := (((bs.map V.int).length : Nat) : Int)) (by rw [hlen]; omega)
    let av : Int := ((c.fdiv 28).fmod 7).fmod (((bs.map V.int).length : Nat) : Int)
    obtain ⟨a0, ea⟩ : ∃ a0 : Nat, av = (a0 : Nat) := Int.eq_ofNat_of_zero_le qa.1
    have ha0 : a0 < bs.length := by
      have h2 : av < (((bs.map V.int).length : Nat) : Int) := qa.2
      rw [ea, hlen] at h2; omega
    refine ⟨sz (by simp), fun p hp => ?_⟩
    have sp1 := Same.upd (o := .lst []) hp
    have fp : H p = none := (sw.trans s1).free hp
    refine ⟨_, rfl, _, rfl, by omega, by omega, ?_⟩
    refine for_range (fun i σ H2 => ∃ v7 v8 : Option V, σ = [some (.int c), some (.int m), some (.ref pw), some (.str LT), some (.ref D), some (.int av), some (.ref p), v7, v8] ∧ Same H1 H2 ∧ H2 p = some (.lst (((List.range i).map (nam bs av bs.length)).map V.str))) ⟨none, none, rfl, sp1, upd_same⟩ ?_ ?_
    · rintro i σ H2 hi ⟨v7, v8, rfl, s2, hp2⟩
      have hi : i < m.toNat := hi
      have hd2 := s2 _ _ hd
      refine ⟨_, rfl, _, _, rfl, .inl ⟨_, SqL.of hd2, rfl⟩, _, rfl, by rw [hlen]; omega, by rw [hlen]; omega, fun D2 hD2 => ?_⟩
      refine block_range (fun j σ' H' => ∃ v : Option V, σ' = [v, some (.str LT), some (.ref D), some (.int (0 + (i : Int))), some (.int av)] ∧ Same H2 H' ∧ H' D2 = some (.lst ((((List.range j).map (lr bs av i)).map one1).map V.str))) ⟨none, rfl, Same.upd hD2, upd_same⟩ ?_ ?_
      · rintro j σ' H' hj ⟨v, rfl, s3, hd3⟩
        have hj : j < bs.length := by
          have hj : j < (((bs.map V.int).length : Nat) : Int).toNat := hj
          rw [hlen] at hj; simpa using hj
        have q26 := fmod_lt (c := bs.getD j 0 + (i : Int) * (if decide (V.int (j : Nat) = V.int av) = true then 1 else 0)) (m := 26) (by decide)
        refine ⟨_, rfl, _, rfl, _, rfl, D, _, _, _, rfl, rfl, SqL.of (s3 _ _ hd2), getD_at' hj, _, rfl, _, rfl, _, rfl, rfl, .inr ⟨_, rfl, _, _, rfl, rfl, mulOk_of 64 (Nat.lt_of_le_of_lt (m := 20) (by omega) (by decide)) ?_ (by decide), _, _, rfl, rfl, _, _, rfl, rfl, (show (26 : Int) ≠ 0 by decide), ?_⟩⟩
        · refine Nat.lt_of_le_of_lt (m := 1) ?_ (by decide)
          show (if _ then (1 : Int) else 0).natAbs ≤ 1
          split <;> decide
        refine ⟨_, _, lr bs av i j, rfl, rfl, sz (by decide), ?_, ?_⟩
        · have e1 : (bs.getD j 0 + (0 + (i : Int)) * (if decide (V.int (0 + (j : Int)) = V.int av) = true then 1 else 0)) = bs.getD j 0 + (i : Int) * (if decide (V.int (j : Nat) = V.int av) = true then 1 else 0) := by rw [Int.zero_add, Int.zero_add]
          show atI LT.cps.toList ((bs.getD j 0 + (0 + (i : Int)) * (if decide (V.int (0 + (j : Int)) = V.int av) = true then 1 else 0)).fmod 26) = _
          rw [e1]
          exact lt_at q26
        refine ⟨_, hd3, by rw [List.length_map, List.length_map, List.length_map, List.length_range]; exact sz (by omega), _, rfl, s3.updD hD2, ?_⟩
        rw [upd_same, List.range_succ, List.map_append, List.map_append, List.map_append]; rfl
      · rintro σ' H3 ⟨v, rfl, s3, hd3⟩
        have ej : (((bs.map V.int).length : Nat) : Int).toNat = bs.length := by rw [hlen]; simp
        have hd3 : H3 D2 = some (.lst (((lrs bs av bs.length i).map one1).map V.str)) := by
          have hd3 : H3 D2 = some (.lst ((((List.range (((bs.map V.int).length : Nat) : Int).toNat).map (lr bs av i)).map one1).map V.str)) := hd3
          rw [ej] at hd3; exact hd3
        have hp3 := s3 _ _ hp2
        refine ⟨_, rfl, .inl ⟨rfl, _, SqL.of hp3⟩, rfl, _, rfl, _, D2, (lrs bs av bs.length i).map one1, rfl, rfl, SqL.of hd3, ?_, p, _, _, rfl, rfl, hp3, by rw [List.length_map, List.length_map, List.length_range]; exact sz (by omega), ?_⟩
        · rw [sum_ones, List.length_map]
          unfold lrs
          rw [List.length_map, List.length_range]
          show bs.length + bs.length * 0 ≤ _
          omega
        refine ⟨_, _, rfl, (s2.trans s3).updD hp, ?_⟩
        have ez : Txt.join (Str.ofString "") ((lrs bs av bs.length i).map one1) = nam bs av bs.length i := join_cs _
        rw [upd_same, List.range_succ, List.map_append, List.map_append, ez]; rfl
    rintro σ H2 ⟨v7, v8, rfl, s2, hp2⟩
    have hp2 : H2 p = some (.lst (((List.range m.toNat).map (nam bs av bs.length)).map V.str)) := hp2
    refine ⟨_, rfl, k p H2 _ (sw.trans (s1.trans s2)) fp hp2 (by rw [List.length_map, List.length_range]; omega) ?_ fun z hz => ?_⟩
    · rw [ea]; exact nam_nodup ha0 (by omega)
    · obtain ⟨x, _, rfl⟩ := List.mem_map.mp hz
      exact nam_nm (by omega) (by omega)
end
end T12
namespace T12
open PySem L2 Tc
section
variable {P : Program} {w : World} {K : PySem.W.Frag} {mg : Str → Option Value} {base : Heap}
noncomputable abbrev s__law_lowest : Stmt := top 39
theorem sc__law_lowest : FnScope ["_law_top", "_law_bottom", "_law_one", "_law_other"] ["_law_top", "_law_bottom"] (defScope s__law_lowest) := ⟨rfl, rfl, rfl, by decide +kernel, rfl, by decide +kernel, by decide +kernel⟩
theorem ok__law_lowest (D : DefAt K mg "_law_lowest" s__law_lowest) (T : Txt K mg) : FnAt P w K mg base CX0 1 "_law_lowest" ["_law_top", "_law_bottom"] (spLow) := by
  refine D.ok sc__law_lowest (fun vs H Q E h => ?_) (fun _ _ _ _ _ _ us hl => match us, hl with | [_, _], _ => rfl) (fun f cdv A outer s H vs Q E hr h => ?_)
  · obtain ⟨t, b, rfl, ht, ht2, hb, hb2, k⟩ := h; rfl
  · obtain ⟨t, b, rfl, ht, ht2, hb, hb2, k⟩ := h
    have nd := sc__law_lowest.nd
    refine ⟨_, (@pss_cons _ _ _ _ _ (@ps_set _ _ 2 _ _ _ _ nd rfl (Or.inl rfl) (pv 0) (by rfl) (Or.inl rfl))
      (@pss_cons _ _ _ _ _ (@ps_set _ _ 3 _ _ _ _ nd rfl (Or.inl rfl) (pv 1) (by rfl) (Or.inl rfl))
      (@pss_cons _ _ _ _ _ (ps_while PassesOwn.never (pt_cmpR op_gt (pv 3) pe_int (nomark _)) (@pss_one _ _ _ (ps_par (i := 2) (j := 3) rfl nd rfl rfl (by decide) rfl rfl (@pa_cons _ _ _ _ _ (pv 3) (@pa_cons _ _ _ _ _ (@pe_op _ _ _ _ _ _ _ _ op_modN (pv 2) (pv 3)) pa_nil (by rfl)) (by rfl)) rfl)))
      (@pss_one _ _ _ (ps_ret (@pe_tup _ _ _ _ _ (@pa_cons _ _ _ _ _ (@pe_op _ _ _ _ _ _ _ _ op_fdivB (pv 0) (pv 2)) (@pa_cons _ _ _ _ _ (@pe_op _ _ _ _ _ _ _ _ op_fdivB (pv 1) (pv 2)) pa_nil (by rfl)) (by rfl)))))))), ?_⟩
    refine ⟨_, rfl, ?_⟩
    refine ⟨_, rfl, ?_⟩
    refine while_by (fun σ H1 => ∃ x y : Int, σ = [some (.int t), some (.int b), some (.int x), some (.int y)] ∧ H1 = H ∧ 0 ≤ x ∧ 0 ≤ y ∧ Int.gcd x y = Int.gcd t b)
      (fun σ _ => match σ with | [_, _, _, some (.int y)] => y.natAbs | _ => 0) ⟨t, b, rfl, rfl, ht, by omega, rfl⟩ ?_ ?_
    · rintro σ H1 ⟨x, y, rfl, rfl, hx0, hy0, hgc⟩
      refine ⟨_, rfl, _, _, rfl, rfl, _, rfl, ?_⟩
      refine ite2 (fun h1 => ?_) (fun h1 => ?_)
      · have h1 : 0 < y := of_decide_eq_true h1
        have hy : y ≠ 0 := by omega
        refine ⟨_, rfl, _, rfl, _, rfl, _, _, rfl, rfl, hy, _, _, rfl, ?_⟩
        exact ⟨⟨_, _, rfl, rfl, by omega, (fmod_lt h1).1, (gcd_fmod x y).trans hgc⟩, Dv.less hy⟩
      · have h1 : ¬ 0 < y := fun z => h1 (decide_eq_true z)
        have hy : y = 0 := by omega
        subst hy
        rw [Int.gcd_zero_right] at hgc
        have eg : x = ((Int.gcd t b : Nat) : Int) := by omega
        obtain ⟨g0, f1, f2, f3, f4, f5, f6, f7⟩ := low_facts ht ht2 hb hb2 eg
        have gle : x ≤ 10 ^ 12 := by
          have : Int.gcd t b ≤ b.natAbs := Int.gcd_le_natAbs_right _ (by omega)
          omega
        have hd : ∀ i, CDivB i x := fun i => divB_of (by omega) (Nat.lt_of_le_of_lt (m := 10 ^ 12) (by omega) (by decide))
        refine ⟨_, rfl, _, rfl, _, _, rfl, rfl, hd _, _, rfl, _, rfl, _, _, rfl, rfl, hd _, sz (by simp), fun p hp => ?_⟩
        exact k p _ _ _ (Same.upd hp) upd_same f1 f2 f3 f4 f5 f6 f7
    · intro σ H1 Q1 Q2 hq h1
      obtain ⟨v, e, i, j, e1, e2, c, e3, h3⟩ := h1
      exact ⟨v, e, i, j, e1, e2, c, e3, hq _ _ h3⟩
end
end T12
namespace T12
open PySem L2 Tc
section
variable {P : Program} {w : World} {K : PySem.W.Frag} {mg : Str → Option Value} {base : Heap}
noncomputable abbrev s__law_amount : Stmt := top 40
theorem sc__law_amount : FnScope ["_law_number", "_law_top"] ["_law_number"] (defScope s__law_amount) := ⟨rfl, rfl, rfl, by decide +kernel, rfl, by decide +kernel, by decide +kernel⟩
theorem ok__law_amount (D : DefAt K mg "_law_amount" s__law_amount) (T : Txt K mg) (G__law_lowest : FnAt P w K mg base CX0 1 "_law_lowest" ["_law_top", "_law_bottom"] (spLow)) : FnAt P w K mg base CX0 2 "_law_amount" ["_law_number"] (spAmt) := by
  refine D.ok sc__law_amount (fun vs H Q E h => ?_) (fun _ _ _ _ _ _ us hl => match us, hl with | [_], _ => rfl) (fun f cdv A outer s H vs Q E hr h => ?_)
  · obtain ⟨n, rfl, hn0, hn, k⟩ := h; rfl
  · obtain ⟨n, rfl, hn0, hn, k⟩ := h
    have nd := sc__law_amount.nd
    refine ⟨_, (@pss_cons _ _ _ _ _ (ps_if (pt_cmpR op_eq (@pe_op _ _ _ _ _ _ _ _ op_modN (pv 0) pe_int) pe_int (nomark _)) (@pss_one _ _ _ (ps_ret (@pe_tup _ _ _ _ _ (@pa_cons _ _ _ _ _ (@pe_op _ _ _ _ _ _ _ _ op_add pe_int (@pe_op _ _ _ _ _ _ _ _ op_modN (@pe_op _ _ _ _ _ _ _ _ op_fdivB (pv 0) pe_int) pe_int)) (@pa_cons _ _ _ _ _ pe_int pa_nil (by rfl)) (by rfl))))) pss_nil)
      (@pss_cons _ _ _ _ _ (ps_if (pt_cmpR op_eq (@pe_op _ _ _ _ _ _ _ _ op_modN (pv 0) pe_int) pe_int (nomark _)) (@pss_one _ _ _ (ps_ret (pe_fn G__law_lowest hr (by rfl) pass0 (@pa_cons _ _ _ _ _ (@pe_op _ _ _ _ _ _ _ _ op_add pe_int (@pe_op _ _ _ _ _ _ _ _ op_modN (@pe_op _ _ _ _ _ _ _ _ op_fdivB (pv 0) pe_int) pe_int)) (@pa_cons _ _ _ _ _ (@pe_op _ _ _ _ _ _ _ _ op_add pe_int (@pe_op _ _ _ _ _ _ _ _ op_modN (@pe_op _ _ _ _ _ _ _ _ op_fdivB (pv 0) pe_int) pe_int)) pa_nil (by rfl)) (by rfl))))) pss_nil)
      (@pss_cons _ _ _ _ _ (@ps_set _ _ 1 _ _ _ _ nd rfl (Or.inl rfl) (@pe_op _ _ _ _ _ _ _ _ op_add pe_int (@pe_op _ _ _ _ _ _ _ _ op_modN (@pe_op _ _ _ _ _ _ _ _ op_mulB (pv 0) (pv 0)) pe_int)) (by rfl) (Or.inl rfl))
      (@pss_cons _ _ _ _ _ (ps_if (pt_cmpR op_eq (@pe_op _ _ _ _ _ _ _ _ op_modN (pv 0) pe_int) pe_int (nomark _)) (@pss_one _ _ _ (ps_ret (@pe_tup _ _ _ _ _ (@pa_cons _ _ _ _ _ (pv 1) (@pa_cons _ _ _ _ _ pe_int pa_nil (by rfl)) (by rfl))))) pss_nil)
      (@pss_one _ _ _ (ps_ret (pe_fn G__law_lowest hr (by rfl) pass0 (@pa_cons _ _ _ _ _ (pv 1) (@pa_cons _ _ _ _ _ (@pe_op _ _ _ _ _ _ _ _ op_add pe_int (@pe_op _ _ _ _ _ _ _ _ op_modN (@pe_op _ _ _ _ _ _ _ _ op_mulB (@pe_op _ _ _ _ _ _ _ _ op_fdivB (pv 0) pe_int) pe_int) pe_int)) pa_nil (by rfl)) (by rfl))))))))), ?_⟩
    have m4 : (4 : Int) ≠ 0 := by decide
    have q9 := fmod_lt (c := n.fdiv 4) (m := 9) (by decide)
    have q20 := fmod_lt (c := n.fdiv 4) (m := 20) (by decide)
    have q6 := fmod_lt (c := n.fdiv 80) (m := 6) (by decide)
    have qt := fmod_lt (c := n * n) (m := 999999999999) (by decide)
    have qb := fmod_lt (c := n.fdiv 7 * 48271) (m := 999999999999) (by decide)
    refine ⟨_, rfl, _, _, rfl, rfl, m4, rfl, _, rfl, ?_⟩
    refine ite2 (fun _ => ?_) (fun _ => ?_)
    · refine ⟨_, rfl, _, _, rfl, rfl, dd (by decide) (by decide), _, _, rfl, rfl, (show (9 : Int) ≠ 0 by decide), _, _, rfl, rfl, sz (by simp), fun p hp => ?_⟩
      exact k p _ _ _ (Same.upd hp) upd_same (by omega) (by omega) (by decide) (by decide) (Int.gcd_one_right _)
    refine ⟨_, rfl, _, _, rfl, rfl, m4, rfl, _, rfl, ?_⟩
    refine ite2 (fun _ => ?_) (fun _ => ?_)
    · refine ⟨_, rfl, _, _, rfl, rfl, dd (by decide) (by decide), _, _, rfl, rfl, (show (20 : Int) ≠ 0 by decide), _, _, rfl, rfl, _, rfl, _, _, rfl, rfl, dd (by decide) (by decide), _, _, rfl, rfl, (show (6 : Int) ≠ 0 by decide), _, _, rfl, rfl, ?_⟩
      exact ⟨_, _, rfl, by omega, by omega, by omega, by omega, fun p x y H' s' hp h1 h2 h3 h4 h5 h6 _ => k p x y H' s' hp (h6 (by omega)) h2 h3 h4 h5⟩
    refine ⟨_, rfl, _, rfl, _, _, rfl, rfl, mulOk_of 256 (big_bits hn0 hn) (big_bits hn0 hn) (by decide), _, _, rfl, rfl, (show (999999999999 : Int) ≠ 0 by decide), _, _, rfl, rfl, ?_⟩
    refine ⟨_, rfl, _, _, rfl, rfl, m4, rfl, _, rfl, ?_⟩
    refine ite2 (fun _ => ?_) (fun _ => ?_)
    · refine ⟨_, rfl, sz (by simp), fun p hp => ?_⟩
      exact k p _ _ _ (Same.upd hp) upd_same (by omega) (by omega) (by decide) (by decide) (Int.gcd_one_right _)
    refine ⟨_, rfl, _, rfl, _, _, rfl, rfl, dd (by decide) (by decide), _, _, rfl, rfl, IntMulOk.of_right (by decide), _, _, rfl, rfl, (show (999999999999 : Int) ≠ 0 by decide), _, _, rfl, rfl, ?_⟩
    exact ⟨_, _, rfl, by omega, by omega, by omega, by omega, fun p x y H' s' hp h1 h2 h3 h4 h5 h6 _ => k p x y H' s' hp (h6 (by omega)) h2 h3 h4 h5⟩
end
end T12
namespace T12
open PySem L2 Tc
section
variable {P : Program} {w : World} {K : PySem.W.Frag} {mg : Str → Option Value} {base : Heap}
noncomputable abbrev s__law_share : Stmt := top 41
theorem sc__law_share : FnScope ["_law_number", "_law_bottom"] ["_law_number"] (defScope s__law_share) := ⟨rfl, rfl, rfl, by decide +kernel, rfl, by decide +kernel, by decide +kernel⟩
theorem ok__law_share (D : DefAt K mg "_law_share" s__law_share) (T : Txt K mg) (G__law_lowest : FnAt P w K mg base CX0 1 "_law_lowest" ["_law_top", "_law_bottom"] (spLow)) : FnAt P w K mg base CX0 2 "_law_share" ["_law_number"] (spShr) := by
  refine D.ok sc__law_share (fun vs H Q E h => ?_) (fun _ _ _ _ _ _ us hl => match us, hl with | [_], _ => rfl) (fun f cdv A outer s H vs Q E hr h => ?_)
  · obtain ⟨n, rfl, hn0, hn, k⟩ := h; rfl
  · obtain ⟨n, rfl, hn0, hn, k⟩ := h
    have nd := sc__law_share.nd
    refine ⟨_, (@pss_cons _ _ _ _ _ (@ps_set _ _ 1 _ _ _ _ nd rfl (Or.inl rfl) (pe_ix (ix_list' (K := K) rfl) (@pe_lst _ _ _ _ (@pa_cons _ _ _ _ _ pe_int (@pa_cons _ _ _ _ _ pe_int (@pa_cons _ _ _ _ _ pe_int (@pa_cons _ _ _ _ _ (@pe_op _ _ _ _ _ _ _ _ op_add pe_int (@pe_op _ _ _ _ _ _ _ _ op_modN (@pe_op _ _ _ _ _ _ _ _ op_mulB (@pe_op _ _ _ _ _ _ _ _ op_fdivB (pv 0) pe_int) pe_int) pe_int)) pa_nil (by rfl)) (by rfl)) (by rfl)) (by rfl))) (@pe_op _ _ _ _ _ _ _ _ op_modN (pv 0) pe_int) (fun _ _ => rfl)) (by rfl) (Or.inl rfl))
      (@pss_one _ _ _ (ps_ret (pe_fn G__law_lowest hr (by rfl) pass0 (@pa_cons _ _ _ _ _ (@pe_op _ _ _ _ _ _ _ _ op_modN (@pe_op _ _ _ _ _ _ _ _ op_mulB (@pe_op _ _ _ _ _ _ _ _ op_fdivB (pv 0) pe_int) pe_int) (@pe_op _ _ _ _ _ _ _ _ op_add (pv 1) pe_int)) (@pa_cons _ _ _ _ _ (pv 1) pa_nil (by rfl)) (by rfl)))))), ?_⟩
    have qb := fmod_lt (c := n.fdiv 8 * 48271) (m := 999999999999) (by decide)
    have q4 := fmod_lt (c := n) (m := 4) (by decide)
    refine ⟨_, rfl, _, _, rfl, rfl, dd (by decide) (by decide), _, _, rfl, rfl, IntMulOk.of_right (by decide), _, _, rfl, rfl, (show (999999999999 : Int) ≠ 0 by decide), _, _, rfl, rfl, sz (by simp), fun p hp => ?_⟩
    obtain ⟨b, hb0, hb1, hat⟩ : ∃ b : Int, 0 < b ∧ b < 10 ^ 12 ∧ atI [V.int 1, .int 2, .int 3, .int (1 + (n.fdiv 8 * 48271).fmod 999999999999)] (n.fmod 4) = some (V.int b) := by
      have h : n.fmod 4 = 0 ∨ n.fmod 4 = 1 ∨ n.fmod 4 = 2 ∨ n.fmod 4 = 3 := by omega
      rcases h with h | h | h | h <;> rw [h]
      · exact ⟨1, by decide, by decide, rfl⟩
      · exact ⟨2, by decide, by decide, rfl⟩
      · exact ⟨3, by decide, by decide, rfl⟩
      · exact ⟨_, by omega, by omega, rfl⟩
    refine ⟨_, rfl, _, _, rfl, rfl, (show (4 : Int) ≠ 0 by decide), p, _, _, _, rfl, rfl, SqL.of upd_same, hat, ?_⟩
    have qt := fmod_lt (c := n.fdiv 5 * 69621) (m := b + 1) (by omega)
    refine ⟨_, rfl, _, _, rfl, rfl, dd (by decide) (by decide), _, _, rfl, rfl, IntMulOk.of_right (by decide), _, rfl, _, _, rfl, rfl, _, _, rfl, rfl, (show b + 1 ≠ 0 by omega), _, rfl, ?_⟩
    exact ⟨_, _, rfl, qt.1, by omega, hb0, hb1, fun p2 x y H' s' hp2 h1 h2 h3 h4 h5 _ h7 => k p2 x y H' ((Same.upd hp).trans s') hp2 h1 (h7 (by omega)) h3 h4 h5⟩
end
end T12
namespace T12
open PySem L2 Tc
section
variable {P : Program} {w : World} {K : PySem.W.Frag} {mg : Str → Option Value} {base : Heap}
noncomputable abbrev s__law_number_text : Stmt := top 42
theorem sc__law_number_text : FnScope ["_law_one"] ["_law_one"] (defScope s__law_number_text) := ⟨rfl, rfl, rfl, by decide +kernel, rfl, by decide +kernel, by decide +kernel⟩
theorem ok__law_number_text (D : DefAt K mg "_law_number_text" s__law_number_text) (T : Txt K mg) : FnAt P w K mg base CX0 1 "_law_number_text" ["_law_one"] (spNT K) := by
  refine D.ok sc__law_number_text (fun vs H Q E h => ?_) (fun _ _ _ _ _ _ us hl => match us, hl with | [_], _ => rfl) (fun f cdv A outer s H vs Q E hr h => ?_)
  · obtain ⟨a, x, y, rfl, hS, hx0, hx, hy0, hy, k⟩ := h; rfl
  · obtain ⟨a, x, y, rfl, hS, hx0, hx, hy0, hy, k⟩ := h
    have nd := sc__law_number_text.nd
    refine ⟨_, (@pss_cons _ _ _ _ _ (ps_if (pt_cmpR op_eq (pe_ix (ix_tup' (K := K) rfl) (pv 0) pe_int (fun _ _ => rfl)) pe_int (nomark _)) (@pss_one _ _ _ (ps_ret (pe_callTy call_str_int (by rfl) T.z_str bt_str (@pa_cons _ _ _ _ _ (pe_ix (ix_tup' (K := K) rfl) (pv 0) pe_int (fun _ _ => rfl)) pa_nil (by rfl))))) pss_nil)
      (@pss_one _ _ _ (ps_ret (@pe_op _ _ _ _ _ _ _ _ op_add_str (@pe_op _ _ _ _ _ _ _ _ op_add_str (pe_callTy call_str_int (by rfl) T.z_str bt_str (@pa_cons _ _ _ _ _ (pe_ix (ix_tup' (K := K) rfl) (pv 0) pe_int (fun _ _ => rfl)) pa_nil (by rfl))) pe_str) (pe_callTy call_str_int (by rfl) T.z_str bt_str (@pa_cons _ _ _ _ _ (pe_ix (ix_tup' (K := K) rfl) (pv 0) pe_int (fun _ _ => rfl)) pa_nil (by rfl))))))), ?_⟩
    unfold numTxt at k
    refine ⟨_, rfl, a, _, 1, _, rfl, rfl, hS, rfl, rfl, _, rfl, ?_⟩
    refine ite2 (fun h1 => ?_) (fun h1 => ?_)
    · rw [if_pos (V.int.inj (of_decide_eq_true h1))] at k
      exact ⟨_, rfl, a, _, 0, _, rfl, rfl, hS, rfl, x, rfl, log_small hx0 hx, k⟩
    · rw [if_neg (fun z => h1 (decide_eq_true (congrArg V.int z)))] at k
      have l1 := figs_len hx0 hx
      have l2 := figs_len (by omega) hy
      have ld := slash_len
      refine ⟨_, rfl, a, _, 0, _, rfl, rfl, hS, rfl, x, rfl, log_small hx0 hx, _, _, rfl, rfl, sz (show (figs x).length + (Str.ofString "/").length ≤ 1000 by omega), _, rfl, a, _, 1, _, rfl, rfl, hS, rfl, y, rfl, log_small (by omega) hy, _, _, rfl, rfl, sz ?_, k⟩
      show (figs x ++ Str.ofString "/").length + (figs y).length ≤ 1000
      rw [strLen_append]; omega
end
end T12
namespace T12
open PySem L2 Tc
section
variable {P : Program} {w : World} {K : PySem.W.Frag} {mg : Str → Option Value} {base : Heap}
noncomputable abbrev s__law_word : Stmt := top 43
theorem sc__law_word : FnScope ["_law_number"] ["_law_number"] (defScope s__law_word) := ⟨rfl, rfl, rfl, by decide +kernel, rfl, by decide +kernel, by decide +kernel⟩
theorem ok__law_word (D : DefAt K mg "_law_word" s__law_word) (T : Txt K mg) (G__law_names : FnAt P w K mg base CX0 2 "_law_names" ["_law_number", "_law_many"] (spNam)) : FnAt P w K mg base CX0 3 "_law_word" ["_law_number"] (spWord) := by
  refine D.ok sc__law_word (fun vs H Q E h => ?_) (fun _ _ _ _ _ _ us hl => match us, hl with | [_], _ => rfl) (fun f cdv A outer s H vs Q E hr h => ?_)
  · obtain ⟨n, rfl, k⟩ := h; rfl
  · obtain ⟨n, rfl, k⟩ := h
    have nd := sc__law_word.nd
    refine ⟨_, (@pss_one _ _ _ (ps_ret (pe_ix (ix_list' (K := K) rfl) (pe_fn G__law_names hr (by rfl) pass0 (@pa_cons _ _ _ _ _ (pv 0) (@pa_cons _ _ _ _ _ (@pe_op _ _ _ _ _ _ _ _ op_add pe_int (@pe_op _ _ _ _ _ _ _ _ op_modN (@pe_op _ _ _ _ _ _ _ _ op_fdivB (pv 0) pe_int) pe_int)) pa_nil (by rfl)) (by rfl))) (@pe_op _ _ _ _ _ _ _ _ op_modN (@pe_op _ _ _ _ _ _ _ _ op_fdivB (pv 0) pe_int) (@pe_op _ _ _ _ _ _ _ _ op_add pe_int (@pe_op _ _ _ _ _ _ _ _ op_modN (@pe_op _ _ _ _ _ _ _ _ op_fdivB (pv 0) pe_int) pe_int))) (fun _ _ => rfl)))), ?_⟩
    have q9 := fmod_lt (c := n.fdiv 3) (m := 9) (by decide)
    refine ⟨_, rfl, _, rfl, _, _, rfl, rfl, dd (by decide) (by decide), _, _, rfl, rfl, (show (9 : Int) ≠ 0 by decide), _, _, rfl, rfl, n, 1 + (n.fdiv 3).fmod 9, rfl, by omega, by omega, fun p H1 zs s1 _ hp hl _ hz => ?_⟩
    have qi := fmod_lt (c := n.fdiv 27) (m := 1 + (n.fdiv 3).fmod 9) (by omega)
    refine ⟨_, rfl, _, _, rfl, rfl, dd (by decide) (by decide), _, rfl, _, _, rfl, rfl, dd (by decide) (by decide), _, _, rfl, rfl, (show (9 : Int) ≠ 0 by decide), _, _, rfl, rfl, _, _, rfl, rfl, (show 1 + (n.fdiv 3).fmod 9 ≠ 0 by omega), ?_⟩
    obtain ⟨v, hv, hat⟩ := atI_in (xs := zs.map V.str) qi.1 (by rw [List.length_map, hl]; exact qi.2)
    obtain ⟨z, hz1, rfl⟩ := List.mem_map.mp hv
    exact ⟨p, _, _, _, rfl, rfl, SqL.of hp, hat, k z H1 s1 (hz z hz1)⟩
end
end T12
namespace T12
open PySem L2 Tc
section
variable {P : Program} {w : World} {K : PySem.W.Frag} {mg : Str → Option Value} {base : Heap}
noncomputable abbrev s__law_plain : Stmt := top 44
theorem sc__law_plain : FnScope ["_law_number", "_law_word_here", "_law_x", "_law_y", "_law_places", "_law_value"] ["_law_number"] (defScope s__law_plain) := ⟨rfl, rfl, rfl, by decide +kernel, rfl, by decide +kernel, by decide +kernel⟩
theorem ok__law_plain (D : DefAt K mg "_law_plain" s__law_plain) (T : Txt K mg) (G__law_word : FnAt P w K mg base CX0 3 "_law_word" ["_law_number"] (spWord)) (G__law_amount : FnAt P w K mg base CX0 2 "_law_amount" ["_law_number"] (spAmt)) (G__law_share : FnAt P w K mg base CX0 2 "_law_share" ["_law_number"] (spShr)) (G__law_number_text : FnAt P w K mg base CX0 1 "_law_number_text" ["_law_one"] (spNT K)) : FnAt P w K mg base CX0 4 "_law_plain" ["_law_number"] (spPlain K) := by
  refine D.ok sc__law_plain (fun vs H Q E h => ?_) (fun _ _ _ _ _ _ us hl => match us, hl with | [_], _ => rfl) (fun f cdv A outer s H vs Q E hr h => ?_)
  · obtain ⟨n, rfl, hn0, hn, k⟩ := h; rfl
  · obtain ⟨n, rfl, hn0, hn, k⟩ := h
    have nd := sc__law_plain.nd
    refine ⟨_, (@pss_cons _ _ _ _ _ (@ps_set _ _ 1 _ _ _ _ nd rfl (Or.inl rfl) (pe_ix (ix_list' (K := K) rfl) (@pe_lst _ _ _ _ (@pa_cons _ _ _ _ _ pe_str (@pa_cons _ _ _ _ _ pe_str (@pa_cons _ _ _ _ _ pe_str (@pa_cons _ _ _ _ _ pe_str (@pa_cons _ _ _ _ _ pe_str (@pa_cons _ _ _ _ _ pe_str (@pa_cons _ _ _ _ _ pe_str pa_nil (by rfl)) (by rfl)) (by rfl)) (by rfl)) (by rfl)) (by rfl)) (by rfl))) (@pe_op _ _ _ _ _ _ _ _ op_modN (pv 0) pe_int) (fun _ _ => rfl)) (by rfl) (Or.inl rfl))
      (@pss_cons _ _ _ _ _ (@ps_set _ _ 0 _ _ _ _ nd rfl (Or.inr rfl) (@pe_op _ _ _ _ _ _ _ _ op_fdivB (pv 0) pe_int) (by rfl) (Or.inl rfl))
      (@pss_cons _ _ _ _ _ (ps_if (pt_cmpR op_eq (pv 1) pe_str (nomark _)) (@pss_one _ _ _ (ps_ret (@pe_tup _ _ _ _ _ (@pa_cons _ _ _ _ _ (@pe_tup _ _ _ _ _ (@pa_cons _ _ _ _ _ (pv 1) pa_nil (by rfl))) (@pa_cons _ _ _ _ _ (pv 1) pa_nil (by rfl)) (by rfl))))) pss_nil)
      (@pss_cons _ _ _ _ _ (@ps_set _ _ 2 _ _ _ _ nd rfl (Or.inl rfl) (pe_fn G__law_word hr (by rfl) pass0 (@pa_cons _ _ _ _ _ (pv 0) pa_nil (by rfl))) (by rfl) (Or.inl rfl))
      (@pss_cons _ _ _ _ _ (@ps_set _ _ 3 _ _ _ _ nd rfl (Or.inl rfl) (pe_fn G__law_word hr (by rfl) pass0 (@pa_cons _ _ _ _ _ (@pe_op _ _ _ _ _ _ _ _ op_fdivB (pv 0) pe_int) pa_nil (by rfl))) (by rfl) (Or.inl rfl))
      (@pss_cons _ _ _ _ _ (ps_if (pt_cmpR op_eq (pv 1) pe_str (nomark _)) (@pss_cons _ _ _ _ _ (ps_setcomp ["_law_k"] ["_law_number"] [0] (i := 4) nd rfl rfl rfl (by rfl) (pi_range1 (by rfl) T.z_range (@pa_cons _ _ _ _ _ (@pe_op _ _ _ _ _ _ _ _ op_add pe_int (@pe_op _ _ _ _ _ _ _ _ op_modN (@pe_op _ _ _ _ _ _ _ _ op_fdivB (pv 0) pe_int) pe_int)) pa_nil (by rfl))) (fun _ _ _ _ => (pg_name (i := 0) (show List.Nodup (["_law_k", "_law_number"] : List Str) from by decide) rfl (Or.inl rfl))) (fun _ _ _ _ => pif_none) (fun _ _ _ _ => (pe_fn G__law_word hr (by rfl) pass0 (@pa_cons _ _ _ _ _ (@pe_op _ _ _ _ _ _ _ _ op_fdivB (pv 1) (@pe_op _ _ _ _ _ _ _ _ op_add (pv 0) pe_int)) pa_nil (by rfl)))))
      (@pss_one _ _ _ (ps_ret (@pe_tup _ _ _ _ _ (@pa_cons _ _ _ _ _ (@pe_tup _ _ _ _ _ (@pa_cons _ _ _ _ _ (pv 1) (@pa_cons _ _ _ _ _ (pv 2) (@pa_cons _ _ _ _ _ (pe_callTy (call_tuple_of' (K := K) rfl) (by rfl) T.z_tuple bt_tuple (@pa_cons _ _ _ _ _ (pv 4) pa_nil (by rfl))) pa_nil (by rfl)) (by rfl)) (by rfl))) (@pa_cons _ _ _ _ _ (pe_bm' (K := K) rfl PySem.F.plainAttrs_str PySem.F.slot_str_join PySem.F.type_str_join (mt_join' (K := K) rfl) pe_str (@pa_cons _ _ _ _ _ (@pe_op _ _ _ _ _ _ _ _ op_cat (@pe_lst _ _ _ _ (@pa_cons _ _ _ _ _ (pv 1) (@pa_cons _ _ _ _ _ (pv 2) pa_nil (by rfl)) (by rfl))) (pv 4)) pa_nil (by rfl))) pa_nil (by rfl)) (by rfl)))))) pss_nil)
      (@pss_cons _ _ _ _ _ (ps_if (PW.pt (pw_or (pt_cmpR op_eq (pv 1) pe_str (nomark _)) (pw_or1 (pt_cmpR op_eq (pv 1) pe_str (nomark _))))) (@pss_one _ _ _ (ps_ret (@pe_tup _ _ _ _ _ (@pa_cons _ _ _ _ _ (@pe_tup _ _ _ _ _ (@pa_cons _ _ _ _ _ (pv 1) (@pa_cons _ _ _ _ _ (pv 2) (@pa_cons _ _ _ _ _ (pv 3) pa_nil (by rfl)) (by rfl)) (by rfl))) (@pa_cons _ _ _ _ _ (@pe_op _ _ _ _ _ _ _ _ op_add_str (@pe_op _ _ _ _ _ _ _ _ op_add_str (@pe_op _ _ _ _ _ _ _ _ op_add_str (@pe_op _ _ _ _ _ _ _ _ op_add_str (pv 1) pe_str) (pv 2)) pe_str) (pv 3)) pa_nil (by rfl)) (by rfl))))) pss_nil)
      (@pss_cons _ _ _ _ _ (@ps_set _ _ 5 _ _ _ _ nd rfl (Or.inl rfl) (pe_fn G__law_amount hr (by rfl) pass0 (@pa_cons _ _ _ _ _ (@pe_op _ _ _ _ _ _ _ _ op_fdivB (pv 0) pe_int) pa_nil (by rfl))) (by rfl) (Or.inl rfl))
      (@pss_cons _ _ _ _ _ (ps_if (pt_cmpR op_eq (pv 1) pe_str (nomark _)) (@pss_one _ _ _ (@ps_set _ _ 5 _ _ _ _ nd rfl (Or.inl rfl) (pe_fn G__law_share hr (by rfl) pass0 (@pa_cons _ _ _ _ _ (@pe_op _ _ _ _ _ _ _ _ op_fdivB (pv 0) pe_int) pa_nil (by rfl))) (by rfl) (Or.inl rfl))) pss_nil)
      (@pss_one _ _ _ (ps_ret (@pe_tup _ _ _ _ _ (@pa_cons _ _ _ _ _ (@pe_tup _ _ _ _ _ (@pa_cons _ _ _ _ _ (pv 1) (@pa_cons _ _ _ _ _ (pv 2) (@pa_cons _ _ _ _ _ (pv 3) (@pa_cons _ _ _ _ _ (pv 5) pa_nil (by rfl)) (by rfl)) (by rfl)) (by rfl))) (@pa_cons _ _ _ _ _ (@pe_op _ _ _ _ _ _ _ _ op_add_str (@pe_op _ _ _ _ _ _ _ _ op_add_str (@pe_op _ _ _ _ _ _ _ _ op_add_str (@pe_op _ _ _ _ _ _ _ _ op_add_str (@pe_op _ _ _ _ _ _ _ _ op_add_str (@pe_op _ _ _ _ _ _ _ _ op_add_str (pv 1) pe_str) (pv 2)) pe_str) (pv 3)) pe_str) (pe_fn G__law_number_text hr (by rfl) pass0 (@pa_cons _ _ _ _ _ (pv 5) pa_nil (by rfl)))) pa_nil (by rfl)) (by rfl)))))))))))))), ?_⟩
    have q7 := fmod_lt (c := n) (m := 7) (by decide)
    obtain ⟨u, hat, hul, hu⟩ := w7 q7
    refine ⟨sz (show 7 ≤ 1000 by decide), fun pw hpw => ?_⟩
    refine ⟨_, rfl, _, _, rfl, rfl, (show (7 : Int) ≠ 0 by decide), pw, _, _, _, rfl, rfl, SqL.of upd_same, hat, ?_⟩
    have sw := Same.upd (o := .lst W7) hpw
    refine ⟨_, rfl, _, _, rfl, rfl, dd (by decide) (by decide), ?_⟩
    have g7 := fdv hn0 (show (0 : Int) < 7 by decide)
    let N : Int := n.fdiv 7
    have hN0 : 0 ≤ N := g7.1
    have hN : N < BG := by have : N ≤ n := g7.2; omega
    have g11 := fdv hN0 (show (0 : Int) < 11 by decide)
    refine ⟨_, rfl, rfl, _, rfl, ?_⟩
    refine ite2 (fun h => ?_) (fun h0 => ?_)
    · have h := V.str.inj (of_decide_eq_true h)
      subst h
      refine ⟨_, rfl, sz (show 1 ≤ 1000 by decide), fun d hd => ⟨_, rfl, sz (show 2 ≤ 1000 by decide), fun p hp => ?_⟩⟩
      refine k p (.ref d) .year _ ((sw.trans (Same.upd hd)).trans (Same.upd hp)) (by rw [upd_same, year_row]) ⟨d, rfl, (Same.upd hp) _ _ upd_same⟩ trivial
    refine ⟨_, rfl, N, rfl, fun x H1 s1 hx => ?_⟩
    refine ⟨_, rfl, _, _, rfl, rfl, dd (by decide) (by decide), N.fdiv 5, rfl, fun y H2 s2 hy => ?_⟩
    have s12 := sw.trans (s1.trans s2)
    have lx := nm_short hx
    have ly := nm_short hy
    have ls := sp_len
    refine ⟨_, rfl, rfl, _, rfl, ?_⟩
    refine ite2 (fun h => ?_) (fun h1 => ?_)
    · have h := V.str.inj (of_decide_eq_true h)
      subst h
      have q8 := fmod_lt (c := N.fdiv 3) (m := 8) (by decide)
      have q8b : 0 ≤ ((n.fdiv 7).fdiv 3).fmod 8 ∧ ((n.fdiv 7).fdiv 3).fmod 8 < 8 := q8
      refine ⟨_, rfl, _, _, rfl, rfl, dd (by decide) (by decide), _, _, rfl, rfl, (show (8 : Int) ≠ 0 by decide), _, _, rfl, rfl, _, rfl, by omega, by omega, fun D hD => ?_⟩
      refine block_range (fun j σ' H' => ∃ (v : Option V) (ps : List Str), σ' = [v, some (.int N)] ∧ Same H2 H' ∧ H' D = some (.lst (ps.map V.str)) ∧ ps.length = j ∧ ∀ p ∈ ps, nm p = true) ⟨none, [], rfl, Same.upd hD, upd_same, rfl, fun _ z => nomatch z⟩ ?_ ?_
      · rintro j σ' H' hj ⟨v, ps, rfl, s3, hd3, hl, hnm⟩
        have hj : j < (1 + (N.fdiv 3).fmod 8).toNat := hj
        refine ⟨_, rfl, _, rfl, _, _, rfl, rfl, _, _, rfl, rfl, (show CDivB N (0 + (j : Int) + 2) from dd (by omega) (by omega)), _, rfl, fun z H4 s4 hz => ?_⟩
        refine ⟨_, s4 _ _ hd3, by rw [List.length_map]; exact sz (by omega), _, ps ++ [z], rfl, (s3.trans s4).updD hD, ?_, by rw [List.length_append, hl]; rfl, ?_⟩
        · rw [upd_same, List.map_append]; rfl
        · intro w hw
          rcases List.mem_append.mp hw with hw | hw
          · exact hnm w hw
          · rw [List.mem_singleton.mp hw]; exact hz
      rintro σ' H3 ⟨v, ps, rfl, s3, hd3, hl, hnm⟩
      have hl : ps.length = (1 + (N.fdiv 3).fmod 8).toNat := hl
      have ok : Pd.Ok (.dor x ps) := ⟨hx, by omega, by omega, hnm⟩
      have rm := join_room (Pd.room ok).1 (Pd.room ok).2
      have s3' := s12.trans s3
      refine ⟨_, rfl, _, rfl, _, rfl, D, _, rfl, .inl ⟨SqL.of hd3, fun b hb => ⟨sz (show 3 ≤ 1000 by decide), fun d hd => ?_⟩⟩⟩
      have t1 := Same.upd (o := .tup (ps.map V.str)) hb
      have t2 := Same.upd (o := .tup [.str (Str.ofString "do"), .str x, .ref b]) hd
      refine ⟨rfl, _, rfl, _, rfl, sz (show 2 ≤ 1000 by decide), fun q hq => ?_⟩
      have t3 := Same.upd (o := .lst [.str (Str.ofString "do"), .str x]) hq
      refine ⟨_, rfl, q, D, _, _, rfl, rfl, upd_same, t3 _ _ (t2 _ _ (t1 _ _ hd3)), ?_, fun r hr2 => ?_⟩
      · rw [List.length_map]; exact sz (show 2 + ps.length ≤ 1000 by omega)
      have t4 := Same.upd (o := .lst ([.str (Str.ofString "do"), .str x] ++ ps.map V.str)) hr2
      refine ⟨_, r, Str.ofString "do" :: x :: ps, rfl, rfl, SqL.of upd_same, rm, sz (show 2 ≤ 1000 by decide), fun p hp => ?_⟩
      have t5 := Same.upd (o := .tup [.ref d, .str (Tk.pl (.dor x ps)).row]) hp
      have t35 := t3.trans (t4.trans t5)
      exact k p (.ref d) (.dor x ps) _ (s3'.trans (t1.trans (t2.trans t35))) upd_same ⟨d, b, rfl, t35 _ _ upd_same, t35 _ _ (t2 _ _ upd_same)⟩ ok
    have two : (u = Str.ofString "all" ∨ u = Str.ofString "fill") → ∀ d H3, Same H H3 → H3 d = some (.tup [.str u, .str x, .str y]) → ∀ p, H3 p = none → Q (.ref p) (upd H3 p (.tup [.ref d, .str (u ++ Str.ofString " " ++ x ++ Str.ofString " " ++ y)])) := fun hu d H3 s3 hd p hp =>
      k p (.ref d) (.two u x y) _ (s3.trans (Same.upd hp)) (by rw [upd_same, row3]; rfl) ⟨d, rfl, (Same.upd hp) _ _ hd⟩ ⟨hu, hx, hy⟩
    have a1 : u.length + (Str.ofString " ").length ≤ sizeLine := sz (by omega)
    have a2 : (u ++ Str.ofString " ").length + x.length ≤ sizeLine := sz (by rw [strLen_append]; omega)
    have a3 : (u ++ Str.ofString " " ++ x).length + (Str.ofString " ").length ≤ sizeLine := sz (by rw [strLen_append, strLen_append]; omega)
    have a4 : (u ++ Str.ofString " " ++ x ++ Str.ofString " ").length + y.length ≤ sizeLine := sz (by rw [strLen_append, strLen_append, strLen_append]; omega)
    refine ⟨_, rfl, rfl, _, rfl, ?_⟩
    refine ite2 (fun h => ?_) (fun h2 => ?_)
    · have h := V.str.inj (of_decide_eq_true h)
      refine iteT ?_
      refine ⟨_, rfl, _, rfl, _, rfl, sz (show 3 ≤ 1000 by decide), fun d hd => ⟨_, rfl, _, _, rfl, rfl, a1, _, rfl, _, _, rfl, rfl, a2, _, _, rfl, rfl, a3, _, rfl, _, _, rfl, rfl, a4, sz (show 2 ≤ 1000 by decide), fun p hp => ?_⟩⟩
      exact two (.inl h) d _ (s12.trans (Same.upd hd)) upd_same p hp
    refine ⟨_, rfl, rfl, _, rfl, ?_⟩
    refine ite2 (fun h => ?_) (fun h3 => ?_)
    · have h := V.str.inj (of_decide_eq_true h)
      refine ⟨_, rfl, _, rfl, _, rfl, sz (show 3 ≤ 1000 by decide), fun d hd => ⟨_, rfl, _, _, rfl, rfl, a1, _, rfl, _, _, rfl, rfl, a2, _, _, rfl, rfl, a3, _, rfl, _, _, rfl, rfl, a4, sz (show 2 ≤ 1000 by decide), fun p hp => ?_⟩⟩
      exact two (.inr h) d _ (s12.trans (Same.upd hd)) upd_same p hp
    have no : ∀ z : Str, ¬ decide (V.str u = V.str z) = true → ¬ u = z := fun z h e => h (decide_eq_true (congrArg V.str e))
    have hu3 : (u = Str.ofString "bring" ∨ u = Str.ofString "move") ∨ u = Str.ofString "part" := by
      rcases hu with e | e | (e | e) | e
      · exact absurd e (no _ h0)
      · exact absurd e (no _ h1)
      · exact absurd e (no _ h2)
      · exact absurd e (no _ h3)
      · exact e
    have g11' : N.fdiv 11 < BG := by omega
    have a5 : (u ++ Str.ofString " " ++ x ++ Str.ofString " " ++ y).length + (Str.ofString " ").length ≤ sizeLine := sz (by rw [strLen_append, strLen_append, strLen_append, strLen_append]; omega)
    have a6 : ∀ z : Str, z.length ≤ 25 → (u ++ Str.ofString " " ++ x ++ Str.ofString " " ++ y ++ Str.ofString " ").length + z.length ≤ sizeLine := fun z hz => sz (by rw [strLen_append, strLen_append, strLen_append, strLen_append, strLen_append]; omega)
    have mea : ∀ X Y v d H3, Same H H3 → H3 v = some (.tup [.int X, .int Y]) → H3 d = some (.tup [.str u, .str x, .str y, .ref v]) → Pd.Ok (.mea u x y X Y) → ∀ p, H3 p = none → Q (.ref p) (upd H3 p (.tup [.ref d, .str (u ++ Str.ofString " " ++ x ++ Str.ofString " " ++ y ++ Str.ofString " " ++ numTxt X Y)])) := fun X Y v d H3 s3 hv hd ok p hp =>
      k p (.ref d) (.mea u x y X Y) _ (s3.trans (Same.upd hp)) (by rw [upd_same, row4]; rfl) ⟨d, v, rfl, (Same.upd hp) _ _ hd, (Same.upd hp) _ _ hv⟩ ok
    refine ⟨_, rfl, _, _, rfl, rfl, dd (by decide) (by decide), _, rfl, g11.1, g11', fun v X Y H3 s3 hv x1 x2 x3 x4 x5 => ?_⟩
    refine ⟨_, rfl, rfl, _, rfl, ?_⟩
    refine ite2 (fun h => ?_) (fun h4 => ?_)
    · have h := V.str.inj (of_decide_eq_true h)
      refine ⟨_, rfl, _, _, rfl, rfl, dd (by decide) (by decide), _, rfl, g11.1, g11', fun v2 X2 Y2 H4 s4 hv2 y1 y2 y3 y4 y5 => ?_⟩
      have s5 := s12.trans (s3.trans s4)
      refine ⟨_, rfl, _, rfl, _, rfl, _, rfl, sz (show 4 ≤ 1000 by decide), fun d hd => ?_⟩
      have t1 := Same.upd (o := .tup [.str u, .str x, .str y, .ref v2]) hd
      refine ⟨_, rfl, _, _, rfl, rfl, a1, _, rfl, _, _, rfl, rfl, a2, _, _, rfl, rfl, a3, _, rfl, _, _, rfl, rfl, a4, _, _, rfl, rfl, a5, _, rfl, v2, X2, Y2, rfl, SqT.of (t1 _ _ hv2), y1, by omega, y3, y4, _, _, rfl, rfl, a6 _ (num_len y1 (by omega) y3 y4), sz (show 2 ≤ 1000 by decide), fun p hp => ?_⟩
      exact mea X2 Y2 v2 d _ (s5.trans t1) (t1 _ _ hv2) upd_same ⟨.inr ⟨h, y2⟩, hx, hy, y1, by omega, y3, y4, y5⟩ p hp
    have hu4 : u = Str.ofString "bring" ∨ u = Str.ofString "move" := by
      rcases hu3 with e | e
      · exact e
      · exact absurd e (no _ h4)
    refine ⟨_, rfl, _, rfl, _, rfl, _, rfl, sz (show 4 ≤ 1000 by decide), fun d hd => ?_⟩
    have t1 := Same.upd (o := .tup [.str u, .str x, .str y, .ref v]) hd
    refine ⟨_, rfl, _, _, rfl, rfl, a1, _, rfl, _, _, rfl, rfl, a2, _, _, rfl, rfl, a3, _, rfl, _, _, rfl, rfl, a4, _, _, rfl, rfl, a5, _, rfl, v, X, Y, rfl, SqT.of (t1 _ _ hv), by omega, x2, x3, x4, _, _, rfl, rfl, a6 _ (num_len (by omega) x2 x3 x4), sz (show 2 ≤ 1000 by decide), fun p hp => ?_⟩
    exact mea X Y v d _ ((s12.trans s3).trans t1) (t1 _ _ hv) upd_same ⟨.inl ⟨hu4, x1⟩, hx, hy, by omega, x2, x3, x4, x5⟩ p hp
end
end T12
namespace T12
open PySem L2 Tc
section
variable {P : Program} {w : World} {K : PySem.W.Frag} {mg : Str → Option Value} {base : Heap}
noncomputable abbrev s__law_deeds : Stmt := top 45
theorem sc__law_deeds : FnScope ["_law_cells", "_law_rows", "_law_frames", "_law_k", "_law_cell", "_law_number", "_law_many", "_law_deeds_here", "_law_deed", "_law_row"] ["_law_cells", "_law_rows"] (defScope s__law_deeds) := ⟨rfl, rfl, rfl, by decide +kernel, rfl, by decide +kernel, by decide +kernel⟩
theorem ok__law_deeds (D : DefAt K mg "_law_deeds" s__law_deeds) (T : Txt K mg) (G__law_mixed : FnAt P w K mg base CX0 1 "_law_mixed" ["_law_cell"] (spMix)) (G__law_plain : FnAt P w K mg base CX0 4 "_law_plain" ["_law_number"] (spPlain K)) : FnAt P w K mg base CX0 5 "_law_deeds" ["_law_cells", "_law_rows"] (spDeeds K) := by
  refine D.ok sc__law_deeds (fun vs H Q E h => ?_) (fun _ _ _ _ _ _ us hl => match us, hl with | [_, _], _ => rfl) (fun f cdv A outer s H vs Q E hr h => ?_)
  · obtain ⟨C, R, ns, rs, rfl, hC, hns, hR, hrs, nCR, k⟩ := h; rfl
  · obtain ⟨C, R, ns, rs, rfl, hC, hns, hR, hrs, nCR, k⟩ := h
    have nd := sc__law_deeds.nd
    refine ⟨_, (@pss_cons _ _ _ _ _ (@ps_set _ _ 2 _ _ _ _ nd rfl (Or.inl rfl) (@pe_lst _ _ _ _ (@pa_cons _ _ _ _ _ (@pe_tup _ _ _ _ _ (@pa_cons _ _ _ _ _ pe_int (@pa_cons _ _ _ _ _ (@pe_lst _ _ _ _ pa_nil) pa_nil (by rfl)) (by rfl))) pa_nil (by rfl))) (by rfl) (Or.inl rfl))
      (@pss_cons _ _ _ _ _ (ps_for PassesOwn.never rfl (pi_enum (K := K) rfl (by rfl) T.z_enumerate (@pa_cons _ _ _ _ _ (pv 0) pa_nil (by rfl))) (pg_tup rfl (pgs_cons (pg_name (i := 3) nd rfl (Or.inl rfl)) (pgs_cons (pg_name (i := 4) nd rfl (Or.inl rfl)) pgs_nil))) (@pss_cons _ _ _ _ _ (@ps_set _ _ 5 _ _ _ _ nd rfl (Or.inl rfl) (pe_fn G__law_mixed hr (by rfl) pass0 (@pa_cons _ _ _ _ _ (@pe_op _ _ _ _ _ _ _ _ op_add (@pe_op _ _ _ _ _ _ _ _ op_mulB pe_int (pv 4)) (pv 3)) pa_nil (by rfl))) (by rfl) (Or.inl rfl))
      (@pss_one _ _ _ (ps_if (PW.pt (pw_and (pt_cmpR op_eq (@pe_op _ _ _ _ _ _ _ _ op_modN (pv 4) pe_int) pe_int (nomark _)) (pw_and1 (pt_cmpR op_lt (pe_callB (call_len' (K := K) rfl) (by rfl) T.z_len PySem.boot_len (@pa_cons _ _ _ _ _ (pv 2) pa_nil (by rfl))) pe_int (nomark _))))) (@pss_cons _ _ _ _ _ (ps_expr (pe_bm PySem.F.plainAttrs_list PySem.F.slot_list_append PySem.F.type_list_append mt_append (pv 2) (@pa_cons _ _ _ _ _ (@pe_tup _ _ _ _ _ (@pa_cons _ _ _ _ _ (@pe_op _ _ _ _ _ _ _ _ op_modN (pv 5) pe_int) (@pa_cons _ _ _ _ _ (@pe_lst _ _ _ _ pa_nil) pa_nil (by rfl)) (by rfl))) pa_nil (by rfl))))
      (@pss_one _ _ _ (ps_expr (pe_bm PySem.F.plainAttrs_list PySem.F.slot_list_append PySem.F.type_list_append mt_append (pv 1) (@pa_cons _ _ _ _ _ (@pe_op _ _ _ _ _ _ _ _ op_add_str pe_str (pe_callTy call_str_int (by rfl) T.z_str bt_str (@pa_cons _ _ _ _ _ (@pe_op _ _ _ _ _ _ _ _ op_modN (pv 5) pe_int) pa_nil (by rfl)))) pa_nil (by rfl)))))) (@pss_one _ _ _ (ps_if (PW.pt (pw_and (pt_cmpR op_eq (@pe_op _ _ _ _ _ _ _ _ op_modN (pv 4) pe_int) pe_int (nomark _)) (pw_and1 (pt_cmpR op_gt (pe_callB (call_len' (K := K) rfl) (by rfl) T.z_len PySem.boot_len (@pa_cons _ _ _ _ _ (pv 2) pa_nil (by rfl))) pe_int (nomark _))))) (@pss_cons _ _ _ _ _ (ps_asg (pe_bm0' (K := K) rfl PySem.F.plainAttrs_list PySem.F.slot_list_pop PySem.F.type_list_pop mt_pop (pv 2)) (pg_tup rfl (pgs_cons (pg_name (i := 6) nd rfl (Or.inl rfl)) (pgs_cons (pg_name (i := 7) nd rfl (Or.inl rfl)) pgs_nil))))
      (@pss_cons _ _ _ _ _ (ps_expr (pe_bm PySem.F.plainAttrs_list PySem.F.slot_list_append PySem.F.type_list_append mt_append (pv 1) (@pa_cons _ _ _ _ _ pe_str pa_nil (by rfl))))
      (@pss_one _ _ _ (ps_expr (pe_bm PySem.F.plainAttrs_list PySem.F.slot_list_append PySem.F.type_list_append mt_append (pe_ix (ix_tup' (K := K) rfl) (pe_ix (ix_list' (K := K) rfl) (pv 2) (pe_un un_neg pe_int) (fun _ _ => rfl)) pe_int (fun _ _ => rfl)) (@pa_cons _ _ _ _ _ (@pe_tup _ _ _ _ _ (@pa_cons _ _ _ _ _ pe_str (@pa_cons _ _ _ _ _ (pv 6) (@pa_cons _ _ _ _ _ (pe_callTy (call_tuple_of' (K := K) rfl) (by rfl) T.z_tuple bt_tuple (@pa_cons _ _ _ _ _ (pv 7) pa_nil (by rfl))) pa_nil (by rfl)) (by rfl)) (by rfl))) pa_nil (by rfl))))))) (@pss_cons _ _ _ _ _ (ps_asg (pe_fn G__law_plain hr (by rfl) pass0 (@pa_cons _ _ _ _ _ (pv 5) pa_nil (by rfl))) (pg_tup rfl (pgs_cons (pg_name (i := 8) nd rfl (Or.inl rfl)) (pgs_cons (pg_name (i := 9) nd rfl (Or.inl rfl)) pgs_nil))))
      (@pss_cons _ _ _ _ _ (ps_expr (pe_bm PySem.F.plainAttrs_list PySem.F.slot_list_append PySem.F.type_list_append mt_append (pv 1) (@pa_cons _ _ _ _ _ (pv 9) pa_nil (by rfl))))
      (@pss_one _ _ _ (ps_expr (pe_bm PySem.F.plainAttrs_list PySem.F.slot_list_append PySem.F.type_list_append mt_append (pe_ix (ix_tup' (K := K) rfl) (pe_ix (ix_list' (K := K) rfl) (pv 2) (pe_un un_neg pe_int) (fun _ _ => rfl)) pe_int (fun _ _ => rfl)) (@pa_cons _ _ _ _ _ (pv 8) pa_nil (by rfl)))))))))))))
      (@pss_cons _ _ _ _ _ (ps_while PassesOwn.never (pt_cmpR op_gt (pe_callB (call_len' (K := K) rfl) (by rfl) T.z_len PySem.boot_len (@pa_cons _ _ _ _ _ (pv 2) pa_nil (by rfl))) pe_int (nomark _)) (@pss_cons _ _ _ _ _ (ps_asg (pe_bm0' (K := K) rfl PySem.F.plainAttrs_list PySem.F.slot_list_pop PySem.F.type_list_pop mt_pop (pv 2)) (pg_tup rfl (pgs_cons (pg_name (i := 6) nd rfl (Or.inl rfl)) (pgs_cons (pg_name (i := 7) nd rfl (Or.inl rfl)) pgs_nil))))
      (@pss_cons _ _ _ _ _ (ps_expr (pe_bm PySem.F.plainAttrs_list PySem.F.slot_list_append PySem.F.type_list_append mt_append (pv 1) (@pa_cons _ _ _ _ _ pe_str pa_nil (by rfl))))
      (@pss_one _ _ _ (ps_expr (pe_bm PySem.F.plainAttrs_list PySem.F.slot_list_append PySem.F.type_list_append mt_append (pe_ix (ix_tup' (K := K) rfl) (pe_ix (ix_list' (K := K) rfl) (pv 2) (pe_un un_neg pe_int) (fun _ _ => rfl)) pe_int (fun _ _ => rfl)) (@pa_cons _ _ _ _ _ (@pe_tup _ _ _ _ _ (@pa_cons _ _ _ _ _ pe_str (@pa_cons _ _ _ _ _ (pv 6) (@pa_cons _ _ _ _ _ (pe_callTy (call_tuple_of' (K := K) rfl) (by rfl) T.z_tuple bt_tuple (@pa_cons _ _ _ _ _ (pv 7) pa_nil (by rfl))) pa_nil (by rfl)) (by rfl)) (by rfl))) pa_nil (by rfl))))))))
      (@pss_one _ _ _ (ps_ret (pe_callTy (call_tuple_of' (K := K) rfl) (by rfl) T.z_tuple bt_tuple (@pa_cons _ _ _ _ _ (pe_ix (ix_tup' (K := K) rfl) (pe_ix (ix_list' (K := K) rfl) (pv 2) pe_int (fun _ _ => rfl)) pe_int (fun _ _ => rfl)) pa_nil (by rfl)))))))), ?_⟩
    refine ⟨sz (by simp), fun L0 hL0 => ⟨sz (by simp), fun k0 hk0 => ⟨sz (by simp), fun F hF => ?_⟩⟩⟩
    have i1 := Same.upd (o := .lst []) hL0
    have i2 := Same.upd (o := .tup [.int 1, .ref L0]) hk0
    have i3 := Same.upd (o := .lst [.ref k0]) hF
    have i0 := i1.trans (i2.trans i3)
    have fF : H F = none := (i1.trans i2).free hF
    have nFR : F ≠ R := (ne_of_none hR fF).symm
    have d0 : Dee H (upd (upd (upd H L0 (.lst [])) k0 (.tup [.int 1, .ref L0])) F (.lst [.ref k0])) F R rs 8 [] := by
      refine ⟨[L0], [.ref k0], .base (i3 _ _ upd_same) (i3 _ _ (i2 _ _ upd_same)) .nil, fun L hL => ?_, upd_same, ?_, fun c o _ h => i0 _ _ h⟩
      · rw [List.mem_singleton.mp hL]
        exact ⟨hL0, ne_of_none (i2 _ _ upd_same) hF, (ne_of_none hR hL0).symm⟩
      · rw [i0 _ _ hR]; simp
    refine ⟨_, rfl, C, ns.map V.int, rfl, SqL.of (i0 _ _ hC), ?_⟩
    refine for_enum (xs := ns.map V.int) (fun i σ H1 => ∃ (v3 v4 v5 v6 v7 v8 v9 : Option V) (d : Nat) (ts : List Tk), σ = [some (.ref C), some (.ref R), some (.ref F), v3, v4, v5, v6, v7, v8, v9] ∧ Dee H H1 F R rs d ts ∧ ts.length = i) ⟨none, none, none, none, none, none, none, 8, [], rfl, d0, rfl⟩ ?_ ?_ ?_
    · rintro i σ H1 hi ⟨v3, v4, v5, v6, v7, v8, v9, d, ts, rfl, ⟨Ls, ks, _, _, _, _, kp⟩, _⟩
      exact SqL.of (kp _ _ nCR hC)
    · rintro i x T σ H1 hx ⟨v3, v4, v5, v6, v7, v8, v9, d, ts, rfl, ⟨Ls, ks, st, hLs, hF1, hR1, kp⟩, hts⟩ hT
      rw [List.getElem?_map] at hx
      obtain ⟨c, hc, rfl⟩ := Option.map_eq_some_iff.mp hx
      have hi : i < ns.length := (List.getElem?_eq_some_iff.mp hc).1
      have tT := Same.upd (o := .tup [.int (i : Nat), .int c]) hT
      have deep := st.deep
      refine ⟨T, _, rfl, SqT.of upd_same, rfl, _, _, rfl, _, _, rfl, rfl, ?_⟩
      refine ⟨_, rfl, _, _, rfl, rfl, IntMulOk.of_left (by decide), _, rfl, _, _, rfl, rfl, _, rfl, fun N hN0 hN => ?_⟩
      have lenR : (rs ++ (ts.map Tk.row).map V.str).length < 400 := by rw [List.length_append, rows_n]; omega
      refine ⟨_, rfl, _, _, rfl, rfl, (show (6 : Int) ≠ 0 by decide), rfl, _, rfl, ?_⟩
      have hFT := tT _ _ hF1
      have hRT := tT _ _ hR1
      have m61 : (61 : Int) ≠ 0 := by decide
      have q61 := fmod_lt (c := N) (m := 61) (by decide)
      refine' by_key0 (fun key => ?go) ?body
      case go =>
        refine ite2 (fun _ => ?_) (fun _ => iteF key)
        refine ⟨_, rfl, _, _, rfl, .inl ⟨_, SqL.of hFT, rfl⟩, _, _, rfl, rfl, _, rfl, ?_⟩
        refine ite2 (fun h => ?_) (fun _ => key)
        have h : ((ks.reverse.length : Nat) : Int) < 9 := of_decide_eq_true h
        rw [List.length_reverse] at h
        obtain ⟨d1, rfl⟩ : ∃ d1, d = d1 + 1 := ⟨d - 1, by omega⟩
        refine ⟨_, rfl, .inl ⟨rfl, _, SqL.of hFT⟩, _, rfl, _, _, rfl, rfl, m61, sz (by simp), fun L hL => ⟨sz (by simp), fun kk hk => ?_⟩⟩
        have u1 := Same.upd (o := .lst []) hL
        have u2 := Same.upd (o := .tup [.int (N.fmod 61), .ref L]) hk
        have u0 := tT.trans (u1.trans u2)
        refine ⟨F, _, _, rfl, rfl, u0 _ _ hF1, sz (by rw [List.length_reverse]; omega), ?_⟩
        have fL : H1 L = none := tT.free hL
        have nLF : L ≠ F := (ne_of_none hF1 fL).symm
        have nLR : L ≠ R := (ne_of_none hR1 fL).symm
        have hR5 : upd (upd (upd (upd H1 T (.tup [.int (i : Nat), .int c])) L (.lst [])) kk (.tup [.int (N.fmod 61), .ref L])) F (.lst (ks.reverse ++ [.ref kk])) R = some (.lst (rs ++ (ts.map Tk.row).map V.str)) := by
          rw [upd_ne (Ne.symm nFR)]; exact u0 _ _ hR1
        have lg := log_small q61.1 (show N.fmod 61 < 10 ^ 12 by omega)
        have fl := figs_len q61.1 (show N.fmod 61 < 10 ^ 12 by omega)
        refine ⟨_, rfl, .inl ⟨rfl, _, SqL.of hR5⟩, _, rfl, _, _, rfl, rfl, m61, _, rfl, lg, _, _, rfl, rfl, sz ?_, R, _, _, rfl, rfl, hR5, sz (by omega), ?_⟩
        · show (Str.ofString "times ").length + (figs (N.fmod 61)).length ≤ 1000
          have e0 : (Str.ofString "times ").length = 6 := by decide
          rw [e0]; omega
        have kp6 : ∀ c' o, c' ≠ F → c' ≠ R → H1 c' = some o → ∀ xs, upd (upd (upd (upd (upd H1 T (.tup [.int (i : Nat), .int c])) L (.lst [])) kk (.tup [.int (N.fmod 61), .ref L])) F (.lst (ks.reverse ++ [.ref kk]))) R xs c' = some o := fun c' o h1 h2 h xs => by
          rw [upd_ne h2, upd_ne h1]; exact u0 _ _ h
        refine ⟨_, _, _, _, _, _, _, d1, ts ++ [.op (N.fmod 61)], rfl, ⟨L :: Ls, .ref kk :: ks, .up (st.mono (fun c' xs h' => kp6 c' _ (by rintro rfl; rw [hF1] at h'; cases h') (by rintro rfl; rw [hR1] at h'; cases h') h' _) fun L' h' o ho => kp6 L' o (hLs L' h').2.1 (hLs L' h').2.2 ho _) ?_ q61.1 (by omega) ?_ .nil ?_, ?_, ?_, ?_, fun c' o hc' h' => ?_⟩, by rw [List.length_append, hts]; rfl⟩
        · have e1 : kk ≠ F := (ne_of_none (u1 _ _ hFT) hk).symm
          have e2 : kk ≠ R := (ne_of_none (u1 _ _ hRT) hk).symm
          rw [upd_ne e2, upd_ne e1]; exact upd_same
        · rw [upd_ne nLR, upd_ne nLF]; exact u2 _ _ upd_same
        · intro hm
          obtain ⟨_, e⟩ := st.lists L hm
          rw [fL] at e; cases e
        · intro L' h'
          rcases List.mem_cons.mp h' with rfl | h'
          · refine ⟨?_, nLF, nLR⟩
            cases q : H L' with
            | none => rfl
            | some o => rw [kp _ _ nLR q] at fL; cases fL
          · exact hLs L' h'
        · rw [upd_ne nFR, upd_same, List.reverse_cons]
        · rw [upd_same, rows_app, List.append_assoc]
          have eo := op_row (N.fmod 61)
          show some (HO.lst (rs ++ ((ts.map Tk.row).map V.str ++ [V.str (Str.ofString "times " ++ figs (N.fmod 61))]))) = _
          rw [eo]; rfl
        · exact kp6 c' o (ne_of_none h' fF) hc' (kp c' o hc' h') _
      refine ⟨_, rfl, _, _, rfl, rfl, (show (6 : Int) ≠ 0 by decide), rfl, _, rfl, ?_⟩
      refine' by_key0 (fun key => ?go2) ?body2
      case go2 =>
        refine ite2 (fun _ => ?_) (fun _ => iteF key)
        refine ⟨_, rfl, _, _, rfl, .inl ⟨_, SqL.of hFT, rfl⟩, _, _, rfl, rfl, _, rfl, ?_⟩
        refine ite2 (fun h => ?_) (fun _ => key)
        have h : (1 : Int) < ((ks.reverse.length : Nat) : Int) := of_decide_eq_true h
        rw [List.length_reverse] at h
        obtain ⟨n, k5, L5, us, k2, kr, L2, Lr, vs2, bb, rfl, rfl, hk5, hL5, hk2, hbb, hL2, hv2, fin⟩ := st.close (m := 1) (by omega) rfl rfl
        have hFT2 : upd H1 T (.tup [.int (i : Nat), .int c]) F = some (.lst ((V.ref k2 :: kr).reverse ++ [.ref k5])) := by rw [hFT, List.reverse_cons]
        refine ⟨_, rfl, .inl ⟨rfl, _, SqL.of hFT2⟩, F, _, _, rfl, rfl, hFT2, (by simp : ((V.ref k2 :: kr).reverse ++ [V.ref k5])[((V.ref k2 :: kr).reverse ++ [V.ref k5]).length - 1]? = some (V.ref k5)), ?_⟩
        rw [List.dropLast_concat]
        have tF := TSame.updL (o := .lst (V.ref k2 :: kr).reverse) hFT2
        have n5 := hLs L5 (.head _)
        have n2 := hLs L2 (.tail _ (.head _))
        refine ⟨k5, _, rfl, SqT.of (tF _ _ (tT _ _ hk5)), rfl, _, _, rfl, _, _, rfl, rfl, ?_⟩
        have hRP : upd (upd H1 T (.tup [.int (i : Nat), .int c])) F (.lst (V.ref k2 :: kr).reverse) R = some (.lst (rs ++ (ts.map Tk.row).map V.str)) := by rw [upd_ne (Ne.symm nFR)]; exact hRT
        refine ⟨_, rfl, .inl ⟨rfl, _, SqL.of hRP⟩, R, _, _, rfl, rfl, hRP, sz (by omega), ?_⟩
        have kpQ : ∀ c' o, c' ≠ F → c' ≠ R → H1 c' = some o → upd (upd (upd H1 T (.tup [.int (i : Nat), .int c])) F (.lst (V.ref k2 :: kr).reverse)) R (.lst (rs ++ (ts.map Tk.row).map V.str ++ [.str (Str.ofString "end")])) c' = some o := fun c' o h1 h2 h => by
          rw [upd_ne h2, upd_ne h1]; exact tT _ _ h
        have tk2 : ∀ {c' xs}, H1 c' = some (.tup xs) → upd (upd (upd H1 T (.tup [.int (i : Nat), .int c])) F (.lst (V.ref k2 :: kr).reverse)) R (.lst (rs ++ (ts.map Tk.row).map V.str ++ [.str (Str.ofString "end")])) c' = some (.tup xs) := fun {c' xs} h' => kpQ c' _ (by rintro rfl; rw [hF1] at h'; cases h') (by rintro rfl; rw [hR1] at h'; cases h') h'
        have hFQ : upd (upd (upd H1 T (.tup [.int (i : Nat), .int c])) F (.lst (V.ref k2 :: kr).reverse)) R (.lst (rs ++ (ts.map Tk.row).map V.str ++ [.str (Str.ofString "end")])) F = some (.lst (kr.reverse ++ [.ref k2])) := by rw [upd_ne nFR, upd_same, List.reverse_cons]
        have hL2Q := kpQ _ _ n2.2.1 n2.2.2 hL2
        refine ⟨_, rfl, _, rfl, F, _, _, _, rfl, rfl, SqL.of hFQ, atI_last _ _, k2, _, 1, _, rfl, rfl, SqT.of (tk2 hk2), at1 hbb, .inl ⟨rfl, _, SqL.of hL2Q⟩, _, rfl, _, rfl, L5, us, rfl, .inl ⟨SqL.of (kpQ _ _ n5.2.1 n5.2.2 hL5), fun b hb => ⟨sz (show 3 ≤ 1000 by decide), fun a ha => ?_⟩⟩⟩
        have v1 := Same.upd (o := .tup us) hb
        have v2 := Same.upd (o := .tup [.str (Str.ofString "times"), .int n, .ref b]) ha
        refine ⟨L2, _, _, rfl, rfl, (v1.trans v2) _ _ hL2Q, sz (by omega), ?_⟩
        refine ⟨_, _, _, _, _, _, _, d + 1, ts ++ [.cl], rfl, Dee.end (H := upd H1 T (.tup [.int (i : Nat), .int c])) nFR fF hLs hFT hRT (fun c' o hc' h' => tT _ _ (kp c' o hc' h')) (fun H6 tS hk => fin H6 (fun c' xs h => tS c' xs (tT _ _ h)) (fun L' h' o ho => hk L' h' o (tT _ _ ho))) (tT _ _ hL2) (v1.trans v2) upd_same (v2 _ _ upd_same), by rw [List.length_append, hts]; rfl⟩
      refine ⟨_, rfl, N, rfl, hN0, hN, fun p dv pd H2 s2 hp hv ok => ⟨p, _, rfl, SqT.of hp, rfl, _, _, rfl, _, _, rfl, rfl, ?_⟩⟩
      have s3 := tT.trans s2
      have hR2 := s3 _ _ hR1
      refine ⟨_, rfl, .inl ⟨rfl, _, SqL.of hR2⟩, _, rfl, R, _, _, rfl, rfl, hR2, sz (by omega), ?_⟩
      obtain ⟨kk, kr, L, Lr, vs, bb, rfl, rfl, hkk, hbb, hL, hvl, kst⟩ := st.top (m := 1) rfl rfl
      have nL := hLs L (.head _)
      have kpR : ∀ c' o, c' ≠ R → H1 c' = some o → upd H2 R (.lst (rs ++ (ts.map Tk.row).map V.str ++ [.str (Tk.pl pd).row])) c' = some o := fun c' o h1 h => by rw [upd_ne h1]; exact s3 _ _ h
      have tR := TSame.updL (o := .lst (rs ++ (ts.map Tk.row).map V.str ++ [.str (Tk.pl pd).row])) hR2
      have hF3 : upd H2 R (.lst (rs ++ (ts.map Tk.row).map V.str ++ [.str (Tk.pl pd).row])) F = some (.lst (kr.reverse ++ [.ref kk])) := by rw [kpR _ _ nFR hF1, List.reverse_cons]
      have hL3 := kpR _ _ nL.2.2 hL
      refine ⟨_, rfl, _, rfl, F, _, _, _, rfl, rfl, SqL.of hF3, atI_last _ _, kk, _, 1, _, rfl, rfl, SqT.of (tR _ _ (s3 _ _ hkk)), at1 hbb, .inl ⟨rfl, _, SqL.of hL3⟩, _, rfl, L, _, _, rfl, rfl, hL3, sz (by omega), ?_⟩
      refine ⟨_, _, _, _, _, _, _, d, ts ++ [.pl pd], rfl, ⟨_, _, kst _ (fun c' xs h => tR _ _ (s3 _ _ h)) (fun L' h' o ho => kpR L' o (hLs L' h').2.2 ho) dv [.pl pd] (.pl (hv.ts tR) ok .nil), hLs, ?_, ?_, fun c' o hc' h' => ?_⟩, by rw [List.length_append, hts]; rfl⟩
      · rw [upd_ne (Ne.symm nL.2.1), hF3, List.reverse_cons]
      · rw [upd_ne (Ne.symm nL.2.2), upd_same, rows_app, List.append_assoc]; rfl
      · rw [upd_ne (ne_of_none h' nL.1)]; exact kpR c' o hc' (kp c' o hc' h')
    · rintro σ H1 ⟨v3, v4, v5, v6, v7, v8, v9, d, ts, rfl, hdee, hts⟩
      have hts : ts.length = ns.length := by rw [hts, List.length_map]
      have hd8 : d ≤ 8 := by obtain ⟨_, _, st, _⟩ := hdee; exact st.deep.2
      refine while_by (fun σ H1 => ∃ (v3 v4 v5 v6 v7 v8 v9 : Option V) (d : Nat) (ts : List Tk), σ = [some (.ref C), some (.ref R), some (.ref F), v3, v4, v5, v6, v7, v8, v9] ∧ Dee H H1 F R rs d ts ∧ ts.length + (8 - d) ≤ ns.length + 8) (fun _ H1 => match H1 F with | some (.lst xs) => xs.length | _ => 0) ⟨_, _, _, _, _, _, _, d, ts, rfl, hdee, by omega⟩ ?_ ?_
      · rintro σ H1 ⟨v3, v4, v5, v6, v7, v8, v9, d, ts, rfl, ⟨Ls, ks, st, hLs, hF1, hR1, kp⟩, hts⟩
        have deep := st.deep
        have lenR : (rs ++ (ts.map Tk.row).map V.str).length < 400 := by rw [List.length_append, rows_n]; omega
        refine ⟨_, rfl, _, _, rfl, .inl ⟨_, SqL.of hF1, rfl⟩, _, _, rfl, rfl, _, rfl, ?_⟩
        refine ite2 (fun h => ?_) (fun h => ?_)
        · have h : (1 : Int) < ((ks.reverse.length : Nat) : Int) := of_decide_eq_true h
          rw [List.length_reverse] at h
          obtain ⟨n, k5, L5, us, k2, kr, L2, Lr, vs2, bb, rfl, rfl, hk5, hL5, hk2, hbb, hL2, hv2, fin⟩ := st.close (m := 1) (by omega) rfl rfl
          have hFT2 : H1 F = some (.lst ((V.ref k2 :: kr).reverse ++ [.ref k5])) := by rw [hF1, List.reverse_cons]
          refine ⟨_, rfl, .inl ⟨rfl, _, SqL.of hFT2⟩, F, _, _, rfl, rfl, hFT2, (by simp : ((V.ref k2 :: kr).reverse ++ [V.ref k5])[((V.ref k2 :: kr).reverse ++ [V.ref k5]).length - 1]? = some (V.ref k5)), ?_⟩
          rw [List.dropLast_concat]
          have tF := TSame.updL (o := .lst (V.ref k2 :: kr).reverse) hFT2
          have n5 := hLs L5 (.head _)
          have n2 := hLs L2 (.tail _ (.head _))
          refine ⟨k5, _, rfl, SqT.of (tF _ _ hk5), rfl, _, _, rfl, _, _, rfl, rfl, ?_⟩
          have hRP : upd H1 F (.lst (V.ref k2 :: kr).reverse) R = some (.lst (rs ++ (ts.map Tk.row).map V.str)) := by rw [upd_ne (Ne.symm nFR)]; exact hR1
          refine ⟨_, rfl, .inl ⟨rfl, _, SqL.of hRP⟩, R, _, _, rfl, rfl, hRP, sz (by omega), ?_⟩
          have kpQ : ∀ c' o, c' ≠ F → c' ≠ R → H1 c' = some o → upd (upd H1 F (.lst (V.ref k2 :: kr).reverse)) R (.lst (rs ++ (ts.map Tk.row).map V.str ++ [.str (Str.ofString "end")])) c' = some o := fun c' o h1 h2 h => by
            rw [upd_ne h2, upd_ne h1]; exact h
          have tk2 : ∀ {c' xs}, H1 c' = some (.tup xs) → upd (upd H1 F (.lst (V.ref k2 :: kr).reverse)) R (.lst (rs ++ (ts.map Tk.row).map V.str ++ [.str (Str.ofString "end")])) c' = some (.tup xs) := fun {c' xs} h' => kpQ c' _ (by rintro rfl; rw [hF1] at h'; cases h') (by rintro rfl; rw [hR1] at h'; cases h') h'
          have hFQ : upd (upd H1 F (.lst (V.ref k2 :: kr).reverse)) R (.lst (rs ++ (ts.map Tk.row).map V.str ++ [.str (Str.ofString "end")])) F = some (.lst (kr.reverse ++ [.ref k2])) := by rw [upd_ne nFR, upd_same, List.reverse_cons]
          have hL2Q := kpQ _ _ n2.2.1 n2.2.2 hL2
          refine ⟨_, rfl, _, rfl, F, _, _, _, rfl, rfl, SqL.of hFQ, atI_last _ _, k2, _, 1, _, rfl, rfl, SqT.of (tk2 hk2), at1 hbb, .inl ⟨rfl, _, SqL.of hL2Q⟩, _, rfl, _, rfl, L5, us, rfl, .inl ⟨SqL.of (kpQ _ _ n5.2.1 n5.2.2 hL5), fun b hb => ⟨sz (show 3 ≤ 1000 by decide), fun a ha => ?_⟩⟩⟩
          have v1 := Same.upd (o := .tup us) hb
          have v2 := Same.upd (o := .tup [.str (Str.ofString "times"), .int n, .ref b]) ha
          have hdee := Dee.end nFR fF hLs hF1 hR1 kp fin hL2 (v1.trans v2) upd_same (v2 _ _ upd_same)
          refine ⟨L2, _, _, rfl, rfl, (v1.trans v2) _ _ hL2Q, sz (by omega), ⟨_, _, _, _, _, _, _, d + 1, ts ++ [.cl], rfl, hdee, ?_⟩, ?_⟩
          · rw [List.length_append, List.length_singleton]; omega
          · obtain ⟨Ls', ks', st', _, hF', _⟩ := hdee
            have deep' := st'.deep
            show (match (upd _ L2 _) F with | some (.lst xs) => xs.length | _ => 0) < (match H1 F with | some (.lst xs) => xs.length | _ => 0)
            rw [hF', hF1]
            show ks'.reverse.length < (V.ref k5 :: V.ref k2 :: kr).reverse.length
            rw [List.length_reverse, List.length_reverse]
            omega
        · have h : ¬ (1 : Int) < ((ks.reverse.length : Nat) : Int) := fun z => h (decide_eq_true z)
          rw [List.length_reverse] at h
          obtain ⟨kb, L, vs, rfl, rfl, a, b, c⟩ := st.one (by omega)
          · refine ⟨_, rfl, F, _, 0, _, rfl, rfl, SqL.of hF1, rfl, kb, _, 1, _, rfl, rfl, SqT.of a, rfl, L, vs, rfl, .inl ⟨SqL.of b, fun p hp => ?_⟩⟩
            have v1 := Same.upd (o := .tup vs) hp
            exact k p vs ts _ (fun c' o hc' h' => v1 _ _ (kp c' o hc' h')) (v1 _ _ hR1) upd_same (c.ts v1.ts) (by omega)
      · intro σ H1 Q1 Q2 hq h1
        obtain ⟨v, e, z, w', e1, h2, i', j', e2, e3, c', e4, h3⟩ := h1
        exact ⟨v, e, z, w', e1, h2, i', j', e2, e3, c', e4, hq _ _ h3⟩
end
end T12
namespace T12
open PySem L2 Tc
section
variable {P : Program} {w : World} {K : PySem.W.Frag} {mg : Str → Option Value} {base : Heap}
noncomputable abbrev s__law_script : Stmt := top 46
theorem sc__law_script : FnScope ["_law_cells", "_law_first", "_law_number", "_law_many", "_law_size", "_law_names_here", "_law_rules", "_law_rows", "_law_j", "_law_params", "_law_deeds_here"] ["_law_cells", "_law_first"] (defScope s__law_script) := ⟨rfl, rfl, rfl, by decide +kernel, rfl, by decide +kernel, by decide +kernel⟩
theorem ok__law_script (D : DefAt K mg "_law_script" s__law_script) (T : Txt K mg) (G__law_mixed : FnAt P w K mg base CX0 1 "_law_mixed" ["_law_cell"] (spMix)) (G__law_names : FnAt P w K mg base CX0 2 "_law_names" ["_law_number", "_law_many"] (spNam)) (G__law_deeds : FnAt P w K mg base CX0 5 "_law_deeds" ["_law_cells", "_law_rows"] (spDeeds K)) : FnAt P w K mg base CX0 6 "_law_script" ["_law_cells", "_law_first"] (spScript K) := by
  refine D.ok sc__law_script (fun vs H Q E h => ?_) (fun _ _ _ _ _ _ us hl => match us, hl with | [_, _], _ => rfl) (fun f cdv A outer s H vs Q E hr h => ?_)
  · obtain ⟨C, ns, c, rfl, hC, hns, k⟩ := h; rfl
  · obtain ⟨C, ns, c, rfl, hC, hns, k⟩ := h
    have nd := sc__law_script.nd
    refine ⟨_, (@pss_cons _ _ _ _ _ (@ps_set _ _ 2 _ _ _ _ nd rfl (Or.inl rfl) (pe_fn G__law_mixed hr (by rfl) pass0 (@pa_cons _ _ _ _ _ (pv 1) pa_nil (by rfl))) (by rfl) (Or.inl rfl))
      (@pss_cons _ _ _ _ _ (@ps_set _ _ 3 _ _ _ _ nd rfl (Or.inl rfl) (@pe_op _ _ _ _ _ _ _ _ op_modN (pv 2) pe_int) (by rfl) (Or.inl rfl))
      (@pss_cons _ _ _ _ _ (@ps_set _ _ 4 _ _ _ _ nd rfl (Or.inl rfl) (@pe_op _ _ _ _ _ _ _ _ op_fdivB (pe_callB (call_len' (K := K) rfl) (by rfl) T.z_len PySem.boot_len (@pa_cons _ _ _ _ _ (pv 0) pa_nil (by rfl))) (@pe_op _ _ _ _ _ _ _ _ op_add (pv 3) pe_int)) (by rfl) (Or.inl rfl))
      (@pss_cons _ _ _ _ _ (@ps_set _ _ 5 _ _ _ _ nd rfl (Or.inl rfl) (pe_fn G__law_names hr (by rfl) pass0 (@pa_cons _ _ _ _ _ (@pe_op _ _ _ _ _ _ _ _ op_fdivB (pv 2) pe_int) (@pa_cons _ _ _ _ _ (pv 3) pa_nil (by rfl)) (by rfl))) (by rfl) (Or.inl rfl))
      (@pss_cons _ _ _ _ _ (@ps_set _ _ 6 _ _ _ _ nd rfl (Or.inl rfl) (@pe_lst _ _ _ _ pa_nil) (by rfl) (Or.inl rfl))
      (@pss_cons _ _ _ _ _ (@ps_set _ _ 7 _ _ _ _ nd rfl (Or.inl rfl) (@pe_lst _ _ _ _ pa_nil) (by rfl) (Or.inl rfl))
      (@pss_cons _ _ _ _ _ (ps_for PassesOwn.never rfl (pi_range1 (by rfl) T.z_range (@pa_cons _ _ _ _ _ (pv 3) pa_nil (by rfl))) (pg_name (i := 8) nd rfl (Or.inl rfl)) (@pss_cons _ _ _ _ _ (@ps_set _ _ 9 _ _ _ _ nd rfl (Or.inl rfl) (pe_fn G__law_names hr (by rfl) pass0 (@pa_cons _ _ _ _ _ (@pe_op _ _ _ _ _ _ _ _ op_fdivB (pv 2) (@pe_op _ _ _ _ _ _ _ _ op_add pe_int (pv 8))) (@pa_cons _ _ _ _ _ (@pe_op _ _ _ _ _ _ _ _ op_add pe_int (@pe_op _ _ _ _ _ _ _ _ op_modN (@pe_op _ _ _ _ _ _ _ _ op_fdivB (pv 2) (@pe_op _ _ _ _ _ _ _ _ op_add pe_int (pv 8))) pe_int)) pa_nil (by rfl)) (by rfl))) (by rfl) (Or.inl rfl))
      (@pss_cons _ _ _ _ _ (ps_expr (pe_bm PySem.F.plainAttrs_list PySem.F.slot_list_append PySem.F.type_list_append mt_append (pv 7) (@pa_cons _ _ _ _ _ (pe_bm' (K := K) rfl PySem.F.plainAttrs_str PySem.F.slot_str_join PySem.F.type_str_join (mt_join' (K := K) rfl) pe_str (@pa_cons _ _ _ _ _ (@pe_op _ _ _ _ _ _ _ _ op_cat (@pe_lst _ _ _ _ (@pa_cons _ _ _ _ _ pe_str (@pa_cons _ _ _ _ _ (pe_ix (ix_list' (K := K) rfl) (pv 5) (pv 8) (fun _ _ => rfl)) pa_nil (by rfl)) (by rfl))) (pv 9)) pa_nil (by rfl))) pa_nil (by rfl))))
      (@pss_cons _ _ _ _ _ (@ps_set _ _ 10 _ _ _ _ nd rfl (Or.inl rfl) (pe_fn G__law_deeds hr (by rfl) pass0 (@pa_cons _ _ _ _ _ (pe_slice (sl_list' (K := K) rfl) (pv 0) (po_some (@pe_op _ _ _ _ _ _ _ _ op_mulB (pv 8) (pv 4))) (po_some (@pe_op _ _ _ _ _ _ _ _ op_mulB (@pe_op _ _ _ _ _ _ _ _ op_add (pv 8) pe_int) (pv 4)))) (@pa_cons _ _ _ _ _ (pv 7) pa_nil (by rfl)) (by rfl))) (by rfl) (Or.inl rfl))
      (@pss_cons _ _ _ _ _ (ps_expr (pe_bm PySem.F.plainAttrs_list PySem.F.slot_list_append PySem.F.type_list_append mt_append (pv 7) (@pa_cons _ _ _ _ _ pe_str pa_nil (by rfl))))
      (@pss_one _ _ _ (ps_expr (pe_bm PySem.F.plainAttrs_list PySem.F.slot_list_append PySem.F.type_list_append mt_append (pv 6) (@pa_cons _ _ _ _ _ (@pe_tup _ _ _ _ _ (@pa_cons _ _ _ _ _ (pe_ix (ix_list' (K := K) rfl) (pv 5) (pv 8) (fun _ _ => rfl)) (@pa_cons _ _ _ _ _ (pe_callTy (call_tuple_of' (K := K) rfl) (by rfl) T.z_tuple bt_tuple (@pa_cons _ _ _ _ _ (pv 9) pa_nil (by rfl))) (@pa_cons _ _ _ _ _ (pv 10) pa_nil (by rfl)) (by rfl)) (by rfl))) pa_nil (by rfl))))))))))
      (@pss_one _ _ _ (ps_ret (@pe_tup _ _ _ _ _ (@pa_cons _ _ _ _ _ (@pe_tup _ _ _ _ _ (@pa_cons _ _ _ _ _ (pe_callTy (call_tuple_of' (K := K) rfl) (by rfl) T.z_tuple bt_tuple (@pa_cons _ _ _ _ _ (pv 6) pa_nil (by rfl))) (@pa_cons _ _ _ _ _ (pe_fn G__law_deeds hr (by rfl) pass0 (@pa_cons _ _ _ _ _ (pe_slice (sl_list' (K := K) rfl) (pv 0) (po_some (@pe_op _ _ _ _ _ _ _ _ op_mulB (pv 3) (pv 4))) po_none) (@pa_cons _ _ _ _ _ (pv 7) pa_nil (by rfl)) (by rfl))) pa_nil (by rfl)) (by rfl))) (@pa_cons _ _ _ _ _ (pe_bm' (K := K) rfl PySem.F.plainAttrs_str PySem.F.slot_str_join PySem.F.type_str_join (mt_join' (K := K) rfl) pe_str (@pa_cons _ _ _ _ _ (pv 7) pa_nil (by rfl))) pa_nil (by rfl)) (by rfl)))))))))))), ?_⟩
    refine ⟨_, rfl, c, rfl, fun N hN0 hN => ?_⟩
    have q5 := fmod_lt (c := N) (m := 5) (by decide)
    obtain ⟨m4, hm4⟩ := Int.eq_ofNat_of_zero_le q5.1
    refine ⟨_, rfl, _, _, rfl, rfl, (show (5 : Int) ≠ 0 by decide), ?_⟩
    refine ⟨_, rfl, _, _, rfl, .inl ⟨_, SqL.of hC, rfl⟩, _, rfl, _, _, rfl, rfl, _, _, rfl, rfl, dd (by omega) (by omega), ?_⟩
    let M : Int := N.fmod 5
    let S : Int := (((ns.map V.int).length : Nat) : Int).fdiv (N.fmod 5 + 1)
    have hM : M = (m4 : Int) := hm4
    obtain ⟨sN, hsN, hsm⟩ : ∃ sN : Nat, S = (sN : Int) ∧ (m4 + 1) * sN ≤ ns.length := by
      have e : S = ((ns.length / (m4 + 1) : Nat) : Int) := by
        show (((ns.map V.int).length : Nat) : Int).fdiv (N.fmod 5 + 1) = _
        rw [List.length_map, hm4, Int.fdiv_eq_ediv_of_nonneg _ (by omega)]
        rfl
      exact ⟨_, e, Nat.mul_div_le _ _⟩
    have hm5 : m4 ≤ 4 := by omega
    have hsm' : m4 * sN + sN ≤ ns.length := by rw [Nat.succ_mul] at hsm; exact hsm
    have hs62 : sN ≤ 62 := by omega
    refine ⟨_, rfl, _, _, rfl, rfl, dd (by decide) (by decide), _, rfl, N.fdiv 5, M, rfl, by omega, by omega, fun pn H1 zs s1 fn hn hl nd hz => ?_⟩
    refine ⟨sz (by simp), fun Ru hRu => ?_⟩
    refine ⟨sz (by simp), fun Rw hRw => ?_⟩
    have u1 := Same.upd (o := .lst []) hRu
    have u2 := Same.upd (o := .lst []) hRw
    have nUW : Ru ≠ Rw := ne_of_none upd_same hRw
    have fU : H1 Ru = none := hRu
    have fW : H1 Rw = none := u1.free hRw
    have hC1 := s1 _ _ hC
    refine ⟨_, rfl, _, rfl, by omega, by omega, ?_⟩
    refine for_range (fun i σ H2 => ∃ (v8 v9 v10 : Option V) (rv : List V) (rls : List Rl), σ = [some (.ref C), some (.int c), some (.int N), some (.int M), some (.int S), some (.ref pn), some (.ref Ru), some (.ref Rw), v8, v9, v10] ∧ Same H1 H2 ∧ H2 Ru = some (.lst rv) ∧ Paired (RlV H2) rv rls ∧ H2 Rw = some (.lst (((flatR rls).map Tk.row).map V.str)) ∧ rls.map (·.1) = zs.take i ∧ rls.length = i ∧ (∀ r ∈ rls, (Tk.rl r.1 r.2.1).Ok ∧ r.2.1.Nodup ∧ go r.2.2 8 8) ∧ (flatR rls).length ≤ i * sN + 10 * i) ⟨none, none, none, [], [], rfl, u1.trans u2, u2 _ _ upd_same, .nil, upd_same, rfl, rfl, (fun _ z => nomatch z), Nat.zero_le _⟩ ?_ ?_
    · rintro i σ H2 hi ⟨v8, v9, v10, rv, rls, rfl, s2, hU, hP, hW, hnames, hrl, hok, hfl⟩
      have hi : i < M.toNat := hi
      have hi : i < m4 := by rw [hM] at hi; simpa using hi
      have him : i * sN ≤ m4 * sN := Nat.mul_le_mul_right _ (by omega)
      have hrvl : rv.length = i := by rw [hP.length, hrl]
      have q8 := fmod_lt (c := N.fdiv (4 + (0 + (i : Int)))) (m := 8) (by decide)
      refine ⟨_, rfl, _, rfl, _, _, rfl, rfl, _, _, rfl, rfl, dd (by omega) (by omega), _, rfl, _, rfl, _, _, rfl, rfl, _, _, rfl, rfl, dd (by omega) (by omega), _, _, rfl, rfl, (show (8 : Int) ≠ 0 by decide), _, _, rfl, rfl, _, _, rfl, by omega, by omega, fun pp H3 ps s3 fp hp hlp ndp hzp => ?_⟩
      obtain ⟨x, hx⟩ : ∃ x, zs[i]? = some x := ⟨_, List.getElem?_eq_getElem (by omega)⟩
      have hxm := List.mem_of_getElem? hx
      have hat : atI (zs.map V.str) (0 + (i : Int)) = some (V.str x) := by rw [Int.zero_add]; exact atI_nat (by rw [List.getElem?_map, hx]; rfl)
      have tok : (Tk.rl x ps).Ok := ⟨hz x hxm, by omega, by omega, hzp⟩
      have rm := join_room (Tk.room tok).1 (Tk.room tok).2
      have s23 := s2.trans s3
      have hn3 := s23 _ _ hn
      have hW3 := s3 _ _ hW
      refine ⟨_, rfl, .inl ⟨rfl, _, SqL.of hW3⟩, rfl, _, rfl, _, rfl, pn, _, _, _, rfl, rfl, SqL.of hn3, hat, sz (show 2 ≤ 1000 by decide), fun q hq => ?_⟩
      have t1 := Same.upd (o := .lst [.str (Str.ofString "rule"), .str x]) hq
      refine ⟨_, rfl, q, pp, _, _, rfl, rfl, upd_same, t1 _ _ hp, by rw [List.length_map]; exact sz (show 2 + ps.length ≤ 1000 by omega), fun r hr2 => ?_⟩
      have t2 := Same.upd (o := .lst ([.str (Str.ofString "rule"), .str x] ++ ps.map V.str)) hr2
      have t12 := t1.trans t2
      have hW4 := t12 _ _ hW3
      refine ⟨_, r, Str.ofString "rule" :: x :: ps, rfl, rfl, SqL.of upd_same, rm, Rw, _, _, rfl, rfl, hW4, by rw [rows_n]; exact sz (by omega), ?_⟩
      let HA : Hp := upd (upd (upd H3 q (.lst [.str (Str.ofString "rule"), .str x])) r (.lst ([.str (Str.ofString "rule"), .str x] ++ ps.map V.str))) Rw (.lst (((flatR rls).map Tk.row).map V.str ++ [.str (Tk.rl x ps).row]))
      have kA : ∀ c' o, c' ≠ Rw → H3 c' = some o → HA c' = some o := fun c' o h1 h => by
        show upd _ Rw _ c' = _
        rw [upd_ne h1]; exact t12 _ _ h
      have sA : Same H1 HA := (s23.trans t12).updD fW
      have hWA : HA Rw = some (.lst (((flatR rls ++ [Tk.rl x ps]).map Tk.row).map V.str)) := by
        show upd _ Rw _ Rw = _
        rw [upd_same, rows_app]; rfl
      have nUW' := nUW
      have nPW : pp ≠ Rw := (ne_of_none hW fp).symm
      have elo : (0 + (i : Int)) * S = ((i * sN : Nat) : Int) := by rw [hsN, Int.zero_add]; exact (Int.natCast_mul i sN).symm
      have ehi : ((0 + (i : Int)) + 1) * S = (((i + 1) * sN : Nat) : Int) := by rw [hsN, Int.zero_add, Int.natCast_mul]; rfl
      have mo : ∀ a : Int, a.natAbs ≤ 100 → IntMulOk a S := fun a h => mulOk_of 64 (Nat.lt_of_le_of_lt h (by decide)) (Nat.lt_of_le_of_lt (m := 62) (by omega) (by decide)) (by decide)
      obtain ⟨ms, hms, hml, hml2⟩ := cut_ints ns (some ((0 + (i : Int)) * S)) (some (((0 + (i : Int)) + 1) * S))
      rw [elo, ehi, HT.sIx_nat, HT.sIx_nat] at hml
      have hml3 : ms.length ≤ sN := by
        have : (i + 1) * sN = i * sN + sN := Nat.succ_mul _ _
        omega
      refine ⟨_, rfl, _, rfl, _, rfl, _, _, rfl, rfl, mo _ (by omega), _, rfl, _, rfl, _, _, rfl, rfl, _, rfl, _, _, rfl, rfl, mo _ (by omega), _, rfl, C, _, rfl, SqL.of (sA _ _ hC1), fun Cq hCq => ?_⟩
      rw [hms]
      have v1 := Same.upd (o := .lst (ms.map V.int)) hCq
      have nCW : Cq ≠ Rw := (ne_of_none hWA hCq).symm
      refine ⟨_, rfl, Cq, Rw, ms, _, rfl, upd_same, by omega, v1 _ _ hWA, by rw [rows_n, List.length_append, List.length_singleton]; omega, nCW, fun p us ts H5 k5 hR5 hp5 hrp hts => ?_⟩
      have k35 : ∀ c' o, c' ≠ Rw → H3 c' = some o → H5 c' = some o := fun c' o h1 h => k5 c' o h1 (v1 _ _ (kA c' o h1 h))
      rw [← rows_app] at hR5
      refine ⟨_, rfl, .inl ⟨rfl, _, SqL.of hR5⟩, Rw, _, _, rfl, rfl, hR5, by rw [rows_n, List.length_append, List.length_append, List.length_singleton]; exact sz (by omega), ?_⟩
      let HB : Hp := upd H5 Rw (.lst (((flatR rls ++ [Tk.rl x ps] ++ ts).map Tk.row).map V.str ++ [.str (Str.ofString "end")]))
      have kB : ∀ c' o, c' ≠ Rw → H5 c' = some o → HB c' = some o := fun c' o h1 h => by
        show upd _ Rw _ c' = _
        rw [upd_ne h1]; exact h
      have kB3 : ∀ c' o, c' ≠ Rw → H3 c' = some o → HB c' = some o := fun c' o h1 h => kB c' o h1 (k35 c' o h1 h)
      have nW1 : ∀ {c' o}, H1 c' = some o → c' ≠ Rw := fun h => ne_of_none h fW
      have sB : Same H1 HB := fun c' o h => kB3 c' o (nW1 h) (s23 _ _ h)
      have hUB : HB Ru = some (.lst rv) := kB3 _ _ nUW (s3 _ _ hU)
      have hpB : HB pp = some (.lst (ps.map V.str)) := kB3 _ _ nPW hp
      refine ⟨_, rfl, .inl ⟨rfl, _, SqL.of hUB⟩, _, rfl, _, rfl, pn, _, _, _, rfl, rfl, SqL.of (sB _ _ hn), hat, _, rfl, pp, _, rfl, .inl ⟨SqL.of hpB, fun tb htb => ⟨_, rfl, sz (show 3 ≤ 1000 by decide), fun ra hra => ?_⟩⟩⟩
      have w1 := Same.upd (o := .tup (ps.map V.str)) htb
      have w2 := Same.upd (o := .tup [.str x, .ref tb, .ref p]) hra
      have w12 := w1.trans w2
      refine ⟨Ru, _, _, rfl, rfl, w12 _ _ hUB, sz (by omega), ?_⟩
      have tW : TSame H5 HB := fun c' xs h => kB c' _ (by rintro rfl; rw [hR5] at h; cases h) h
      have tU : TSame HB (upd (upd (upd HB tb (.tup (ps.map V.str))) ra (.tup [.str x, .ref tb, .ref p])) Ru (.lst (rv ++ [.ref ra]))) := fun c' xs h => TSame.updL (w12 _ _ hUB) c' xs (w12 _ _ h)
      have tU2 : TSame (upd (upd HB tb (.tup (ps.map V.str))) ra (.tup [.str x, .ref tb, .ref p])) (upd (upd (upd HB tb (.tup (ps.map V.str))) ra (.tup [.str x, .ref tb, .ref p])) Ru (.lst (rv ++ [.ref ra]))) := TSame.updL (w12 _ _ hUB)
      have t2B : TSame H2 HB := fun c' xs h => kB3 c' _ (by rintro rfl; rw [hW] at h; cases h) (s3 _ _ h)
      refine ⟨_, _, _, rv ++ [.ref ra], rls ++ [(x, ps, ts)], rfl, (sB.trans w12).updD fU, upd_same, ?_, ?_, ?_, ?_, ?_, ?_⟩
      · exact (Paired.mapP hP fun _ _ h => h.ts (fun c' xs h' => tU c' xs (t2B c' xs h'))).snoc ⟨ra, tb, p, us, rfl, tU2 _ _ upd_same, tU2 _ _ (w2 _ _ upd_same), tU _ _ (tW _ _ hp5), (hrp.ts tW).ts tU⟩
      · rw [upd_ne (Ne.symm nUW)]
        refine (w12 _ _ (upd_same (a := Rw))).trans ?_
        rw [flatR_app, rl_one, ← List.append_assoc, ← List.append_assoc, rows_app _ [Tk.cl], cl_row]; rfl
      · rw [List.map_append, hnames, List.take_add_one, hx]; rfl
      · rw [List.length_append, hrl]; rfl
      · intro r hr
        rcases List.mem_append.mp hr with h | h
        · exact hok r h
        · rw [List.mem_singleton.mp h]
          exact ⟨tok, ndp, hrp.go (Nat.le_refl _)⟩
      · rw [flatR_app, rl_one, List.length_append, List.length_append, List.length_append, List.length_singleton, List.length_singleton, Nat.succ_mul]
        omega
    · rintro σ H2 ⟨v8, v9, v10, rv, rls, rfl, s2, hU, hP, hW, hnames, hrl, hok, hfl⟩
      have em : M.toNat = m4 := by rw [hM]; simp
      have hnames : rls.map (·.1) = zs := by
        rw [hnames]
        refine List.take_of_length_le ?_
        show zs.length ≤ M.toNat
        rw [em]; omega
      have hfl : (flatR rls).length ≤ m4 * sN + 10 * m4 := by
        have h : (flatR rls).length ≤ M.toNat * sN + 10 * M.toNat := hfl
        rw [em] at h; exact h
      refine ⟨_, rfl, Ru, rv, rfl, .inl ⟨SqL.of hU, fun ta hta => ?_⟩⟩
      have w1 := Same.upd (o := .tup rv) hta
      have elo : M * S = ((m4 * sN : Nat) : Int) := by rw [hM, hsN]; exact (Int.natCast_mul m4 sN).symm
      obtain ⟨ms, hms, hml, hml2⟩ := cut_ints ns (some (M * S)) none
      rw [elo, HT.sIx_nat, HT.sIx_none] at hml
      refine ⟨_, rfl, _, rfl, _, rfl, _, _, rfl, rfl, mulOk_of 64 (Nat.lt_of_le_of_lt (m := 62) (by omega) (by decide)) (Nat.lt_of_le_of_lt (m := 62) (by omega) (by decide)) (by decide), _, rfl, C, _, rfl, SqL.of (w1 _ _ (s2 _ _ hC1)), fun Cq hCq => ?_⟩
      rw [hms]
      have v1 := Same.upd (o := .lst (ms.map V.int)) hCq
      have wv := w1.trans v1
      have hWv := wv _ _ hW
      have nCW : Cq ≠ Rw := (ne_of_none (w1 _ _ hW) hCq).symm
      refine ⟨_, rfl, Cq, Rw, ms, _, rfl, upd_same, by omega, hWv, by rw [rows_n]; omega, nCW, fun p us ts H5 k5 hR5 hp5 hrp hts => ?_⟩
      rw [← rows_app] at hR5
      have hlt : (flatR rls ++ ts).length ≤ 300 := by rw [List.length_append]; omega
      have gts := hrp.go (Nat.le_refl _)
      have sok : SOk rls := ⟨by rw [hnames]; exact nd, hok⟩
      have allok : ∀ t ∈ flatR rls ++ ts, t.Ok := fun t ht => by
        rcases List.mem_append.mp ht with h | h
        · exact flatR_ok sok.2 t h
        · exact go_ok gts t h
      have t25 : TSame H2 H5 := fun c' xs h => k5 c' _ (by rintro rfl; rw [hW] at h; cases h) (wv _ _ h)
      have hta5 : H5 ta = some (.tup rv) := k5 _ _ (by
        intro e; rw [e] at hta; rw [hW] at hta; cases hta) (v1 _ _ upd_same)
      have s5 : Same H H5 := fun c' o h => k5 c' o (fun e => by rw [e] at h; rw [s1 _ _ h] at fW; cases fW) (wv _ _ (s2 _ _ (s1 _ _ h)))
      refine ⟨sz (show 2 ≤ 1000 by decide), fun sc hsc => ?_⟩
      have x1 := Same.upd (o := .tup [.ref ta, .ref p]) hsc
      refine ⟨rfl, _, rfl, _, Rw, (flatR rls ++ ts).map Tk.row, rfl, rfl, SqL.of (x1 _ _ hR5), (rows_len allok hlt).2, sz (show 2 ≤ 1000 by decide), fun out hout => ?_⟩
      have x2 := Same.upd (o := .tup [.ref sc, .str (rowsT rls ts)]) hout
      have x12 := x1.trans x2
      exact k out (.ref sc) rls ts _ (s5.trans x12) upd_same ⟨sc, ta, p, rv, us, rfl, x2 _ _ upd_same, x12 _ _ hta5, Paired.mapP hP (fun _ _ h => h.ts (fun c' xs h' => x12 _ _ (t25 c' xs h'))), x12 _ _ hp5, hrp.ts x12.ts⟩ sok gts hlt
end
end T12
namespace T12
open PySem L2 Tc
section
variable {P : Program} {w : World} {K : PySem.W.Frag} {mg : Str → Option Value} {base : Heap}
noncomputable abbrev s__law_alike : Stmt := top 47
theorem sc__law_alike : FnScope ["_law_found", "_law_due"] ["_law_found", "_law_due"] (defScope s__law_alike) := ⟨rfl, rfl, rfl, by decide +kernel, rfl, by decide +kernel, by decide +kernel⟩
theorem ok__law_alike (D : DefAt K mg "_law_alike" s__law_alike) (T : Txt K mg) : ∀ d, FnAt P w K mg base CX0 (d + 1) "_law_alike" ["_law_found", "_law_due"] (spAlk K d) := by
  intro d
  induction d with
  | zero =>
    refine D.ok sc__law_alike (fun vs H Q E h => ?_) (fun _ _ _ _ _ _ us hl => match us, hl with | [_, _], _ => rfl) (fun f cdv A outer s H vs Q E hr h => ?_)
    · exact False.elim (by obtain ⟨_, _, _, h, _⟩ := h; exact h)
    · exact False.elim (by obtain ⟨_, _, _, h, _⟩ := h; exact h)
  | succ d G__law_alike =>
  refine D.ok sc__law_alike (fun vs H Q E h => ?_) (fun _ _ _ _ _ _ us hl => match us, hl with | [_, _], _ => rfl) (fun f cdv A outer s H vs Q E hr h => ?_)
  · obtain ⟨v, u, rfl, h, k⟩ := h; rfl
  · obtain ⟨v, u, rfl, h, k⟩ := h
    have nd := sc__law_alike.nd
    refine ⟨_, (@pss_cons _ _ _ _ _ (ps_if (pt_val (pe_callB (call_isi' (K := K) rfl) (by rfl) T.z_isinstance bt_isinstance (@pa_cons _ _ _ _ _ (pv 1) (@pa_cons _ _ _ _ _ (pe_bltn (v := .ty "tuple") (by rfl) T.z_tuple bt_tuple rfl) pa_nil (by rfl)) (by rfl)))) (@pss_cons _ _ _ _ _ (ps_if (PW.pt (pw_or (pt_not (pt_val (pe_callB (call_isi' (K := K) rfl) (by rfl) T.z_isinstance bt_isinstance (@pa_cons _ _ _ _ _ (pv 0) (@pa_cons _ _ _ _ _ (pe_bltn (v := .ty "tuple") (by rfl) T.z_tuple bt_tuple rfl) pa_nil (by rfl)) (by rfl))))) (pw_or1 (pt_cmpR op_ne (pe_callB (call_len' (K := K) rfl) (by rfl) T.z_len PySem.boot_len (@pa_cons _ _ _ _ _ (pv 0) pa_nil (by rfl))) (pe_callB (call_len' (K := K) rfl) (by rfl) T.z_len PySem.boot_len (@pa_cons _ _ _ _ _ (pv 1) pa_nil (by rfl))) (nomark _))))) (@pss_one _ _ _ (ps_ret pe_bl)) pss_nil)
      (@pss_one _ _ _ (ps_ret (pe_callB (call_all' (K := K) rfl rfl) (by rfl) T.z_all bt_all (@pa_cons _ _ _ _ _ (pe_comp ["_law_one", "_law_other"] [] [] rfl (by rfl) (pi_zipT (K := K) rfl (by rfl) T.z_zip (@pa_cons _ _ _ _ _ (pv 0) (@pa_cons _ _ _ _ _ (pv 1) pa_nil (by rfl)) (by rfl))) (fun _ _ _ _ => (pg_tup' (K := K) (n := 2) (by rfl) (by rfl) (pgs_cons (pg_name (i := 0) (show List.Nodup (["_law_one", "_law_other"] : List Str) from by decide) rfl (Or.inl rfl) (hf := Or.inr (by rfl))) (pgs_cons (pg_name (i := 1) (show List.Nodup (["_law_one", "_law_other"] : List Str) from by decide) rfl (Or.inl rfl) (hf := Or.inr (by rfl))) pgs_nil)))) (fun _ _ _ _ => pif_none) (fun _ _ _ _ => (pe_fn G__law_alike hr (by rfl) pass0 (@pa_cons _ _ _ _ _ (pv 0) (@pa_cons _ _ _ _ _ (pv 1) pa_nil (by rfl)) (by rfl)) (by omega)))) pa_nil (by rfl)))))) pss_nil)
      (@pss_cons _ _ _ _ _ (ps_if (pt_val (pe_callB (call_isi' (K := K) rfl) (by rfl) T.z_isinstance bt_isinstance (@pa_cons _ _ _ _ _ (pv 1) (@pa_cons _ _ _ _ _ (pe_bltn (v := .ty "str") (by rfl) T.z_str bt_str rfl) pa_nil (by rfl)) (by rfl)))) (@pss_one _ _ _ (ps_ret (pe_and (pe_callB (call_isi' (K := K) rfl) (by rfl) T.z_isinstance bt_isinstance (@pa_cons _ _ _ _ _ (pv 0) (@pa_cons _ _ _ _ _ (pe_bltn (v := .ty "str") (by rfl) T.z_str bt_str rfl) pa_nil (by rfl)) (by rfl))) (pe_one (pe_cmpR op_eq (pv 0) (pv 1) (nomark _)))))) pss_nil)
      (@pss_one _ _ _ (ps_ret (pe_and (pe_callB (call_isi' (K := K) rfl) (by rfl) T.z_isinstance bt_isinstance (@pa_cons _ _ _ _ _ (pv 0) (@pa_cons _ _ _ _ _ (pe_bltn (v := .ty "int") (by rfl) T.z_int bt_int rfl) pa_nil (by rfl)) (by rfl))) (pe_and (pe_not (pe_callB (call_isi' (K := K) rfl) (by rfl) T.z_isinstance bt_isinstance (@pa_cons _ _ _ _ _ (pv 0) (@pa_cons _ _ _ _ _ (pe_bltn (v := .ty "bool") (by rfl) T.z_bool bt_bool rfl) pa_nil (by rfl)) (by rfl)))) (pe_one (pe_cmpR op_eq (pv 0) (pv 1) (nomark _))))))))), ?_⟩
    rcases h with ⟨z, rfl, rfl⟩ | ⟨n, rfl, rfl⟩ | ⟨a, b, xs, ys, rfl, rfl, ha, hb, hl, hP⟩
    · refine ⟨_, rfl, _, _, _, _, rfl, tyOf_of (n := "str") rfl, kit_tt (by decide) (by decide), _, rfl, ?_⟩
      refine iteF ?_
      refine ⟨_, rfl, _, _, _, _, rfl, tyOf_of (n := "str") rfl, kit_tt (by decide) (by decide), _, rfl, ?_⟩
      refine iteT ?_
      refine ⟨_, rfl, _, _, _, _, rfl, tyOf_of (n := "str") rfl, kit_tt (by decide) (by decide), _, rfl, ?_⟩
      refine iteT ?_
      refine ⟨_, rfl, _, rfl, rfl, ?_⟩
      have e : decide (V.str z = V.str z) = true := decide_eq_true rfl
      have k := k H (Same.refl _)
      rw [← e] at k
      exact k
    · refine ⟨_, rfl, _, _, _, _, rfl, tyOf_of (n := "int") rfl, kit_tt (by decide) (by decide), _, rfl, ?_⟩
      refine iteF ?_
      refine ⟨_, rfl, _, _, _, _, rfl, tyOf_of (n := "int") rfl, kit_tt (by decide) (by decide), _, rfl, ?_⟩
      refine iteF ?_
      refine ⟨_, rfl, _, _, _, _, rfl, tyOf_of (n := "int") rfl, kit_tt (by decide) (by decide), _, rfl, ?_⟩
      refine iteT ?_
      refine ⟨_, rfl, _, _, _, _, rfl, tyOf_of (n := "int") rfl, kit_tt (by decide) (by decide), _, rfl, _, rfl, ?_⟩
      refine iteT ?_
      refine ⟨_, rfl, _, rfl, rfl, ?_⟩
      have e : decide (V.int n = V.int n) = true := decide_eq_true rfl
      have k := k H (Same.refl _)
      rw [← e] at k
      exact k
    have hlen := hP.length
    refine ⟨_, rfl, _, _, _, _, rfl, tyOf_of (n := "tuple") (ty_of hb rfl), kit_tt (by decide) (by decide), _, rfl, ?_⟩
    refine iteT ?_
    refine ⟨_, rfl, _, _, _, _, rfl, tyOf_of (n := "tuple") (ty_of ha rfl), kit_tt (by decide) (by decide), _, rfl, ?_⟩
    refine iteF ?_
    refine ⟨_, rfl, _, _, rfl, .inr ⟨_, SqT.of ha, rfl⟩, _, rfl, _, _, rfl, .inr ⟨_, SqT.of hb, rfl⟩, rfl, _, rfl, ?_⟩
    refine ite2 (fun h => ?_) (fun _ => ?_)
    · have h : (!decide (V.int (xs.length : Nat) = V.int (ys.length : Nat))) = true := h
      rw [hlen] at h
      simp at h
    refine ⟨_, rfl, _, rfl, a, b, xs, ys, rfl, SqT.of ha, SqT.of hb, fun D hD => ?_⟩
    refine block_zipT (xs := xs) (ys := ys) (fun j σ' H' => ∃ v1 v2 : Option V, σ' = [v1, v2] ∧ Same H H' ∧ H' D = some (.lst ((List.replicate j true).map V.bl))) hlen ⟨none, none, rfl, Same.upd hD, upd_same⟩ ?_ ?_ ?_
    · rintro j σ' H' hj ⟨v1, v2, rfl, s1, hd⟩
      exact ⟨SqT.of (s1 _ _ ha), SqT.of (s1 _ _ hb)⟩
    · rintro j x y T σ' H' hx hy ⟨v1, v2, rfl, s1, hd⟩ hT
      have hj : j < xs.length := (List.getElem?_eq_some_iff.mp hx).1
      obtain ⟨y', hy', hal⟩ := paired_get hP hx
      rw [hy] at hy'
      cases hy'
      have tT := Same.upd (o := .tup [x, y]) hT
      refine ⟨T, _, rfl, SqT.of upd_same, rfl, _, _, rfl, _, _, rfl, rfl, ?_⟩
      refine ⟨_, rfl, _, rfl, x, y, rfl, hal.ts (s1.trans tT).ts, fun H3 s3 => ?_⟩
      have s4 := (s1.trans tT).trans s3
      refine ⟨_, s3 _ _ (tT _ _ hd), by rw [List.length_map, List.length_replicate]; exact sz (by omega), _, _, rfl, s4.updD hD, ?_⟩
      rw [upd_same, List.replicate_succ', List.map_append]; rfl
    rintro σ' H' ⟨v1, v2, rfl, s1, hd⟩
    refine ⟨D, _, rfl, SqL.of hd, ?_⟩
    have k := k H' s1
    rw [← all_true xs.length] at k
    exact k
end
end T12
namespace T12
open PySem L2 Tc
section
variable {P : Program} {w : World} {K : PySem.W.Frag} {mg : Str → Option Value} {base : Heap}
noncomputable abbrev s_law : Stmt := top 48
theorem sc_law : FnScope ["_law_script_here", "_law_made", "_law_words", "_law_found"] ["_law_script_here"] (defScope s_law) := ⟨rfl, rfl, rfl, by decide +kernel, rfl, by decide +kernel, by decide +kernel⟩
theorem ok_law {f : Addr} {fd : FuncData} (D : Fun K "law" "law" s_law f fd) (T : Txt K mg) (G__law_script : FnAt P w K mg base CX0 6 "_law_script" ["_law_cells", "_law_first"] (spScript K)) (G__law_cell_at : FnAt P w K mg base CX0 1 "_law_cell_at" ["_law_script_here", "_law_k"] (spCell K)) (G_shown : FnAt P w K mg base CX0 13 "shown" ["script"] (spShow K)) (G__law_alike : FnAt P w K mg base CX0 24 "_law_alike" ["_law_found", "_law_due"] (spAlk K 23)) (G_read : FnAt P w K mg base CX0 7 "read" ["text"] (spRead K)) : FnOk P w K mg base CX0 25 f fd ["_law_script_here"] (spLaw K) := by
  refine D.ok sc_law (fun vs H Q E h => ?_) (fun cdv A outer s H vs Q E hr h => ?_)
  · obtain ⟨a, ns, rfl, hS, hlen, k⟩ := h; rfl
  · obtain ⟨a, ns, rfl, hS, hlen, k⟩ := h
    have nd := sc_law.nd
    refine ⟨_, (@pss_cons _ _ _ _ _ (ps_asg (pe_fn G__law_script hr (by rfl) pass0 (@pa_cons _ _ _ _ _ (pe_slice (sl_list' (K := K) rfl) (pv 0) (po_some pe_int) (po_some pe_int)) (@pa_cons _ _ _ _ _ (pe_fn G__law_cell_at hr (by rfl) pass0 (@pa_cons _ _ _ _ _ (pv 0) (@pa_cons _ _ _ _ _ pe_int pa_nil (by rfl)) (by rfl))) pa_nil (by rfl)) (by rfl))) (pg_tup rfl (pgs_cons (pg_name (i := 1) nd rfl (Or.inl rfl)) (pgs_cons (pg_name (i := 2) nd rfl (Or.inl rfl)) pgs_nil))))
      (@pss_cons _ _ _ _ _ (@ps_set _ _ 3 _ _ _ _ nd rfl (Or.inl rfl) (pe_fn G_shown hr (by rfl) pass0 (@pa_cons _ _ _ _ _ (pv 1) pa_nil (by rfl))) (by rfl) (Or.inl rfl))
      (@pss_cons _ _ _ _ _ (ps_if (PW.pt (pw_or (pt_not (pt_val (pe_callB (call_isi' (K := K) rfl) (by rfl) T.z_isinstance bt_isinstance (@pa_cons _ _ _ _ _ (pv 3) (@pa_cons _ _ _ _ _ (pe_bltn (v := .ty "str") (by rfl) T.z_str bt_str rfl) pa_nil (by rfl)) (by rfl))))) (pw_or1 (pt_cmpR op_ne (pv 3) (pv 2) (nomark _))))) (@pss_one _ _ _ (ps_ret pe_bl)) pss_nil)
      (@pss_cons _ _ _ _ _ (ps_if (PW.pt (pw_or (pt_not (pt_val (pe_fn G__law_alike hr (by rfl) pass0 (@pa_cons _ _ _ _ _ (pe_fn G_read hr (by rfl) pass0 (@pa_cons _ _ _ _ _ (pv 2) pa_nil (by rfl))) (@pa_cons _ _ _ _ _ (pv 1) pa_nil (by rfl)) (by rfl))))) (pw_or1 (pt_cmpR op_ne (pe_fn G_shown hr (by rfl) pass0 (@pa_cons _ _ _ _ _ (pv 1) pa_nil (by rfl))) (pv 2) (nomark _))))) (@pss_one _ _ _ (ps_ret pe_bl)) pss_nil)
      (@pss_one _ _ _ (ps_ret (pe_and (pe_fn G__law_alike hr (by rfl) pass0 (@pa_cons _ _ _ _ _ (pe_fn G_read hr (by rfl) pass0 (@pa_cons _ _ _ _ _ pe_str pa_nil (by rfl))) (@pa_cons _ _ _ _ _ (@pe_tup _ _ _ _ _ (@pa_cons _ _ _ _ _ (@pe_tup _ _ _ _ _ pa_nil) (@pa_cons _ _ _ _ _ (@pe_tup _ _ _ _ _ pa_nil) pa_nil (by rfl)) (by rfl))) pa_nil (by rfl)) (by rfl))) (pe_one (pe_cmpR op_eq (pe_fn G_shown hr (by rfl) pass0 (@pa_cons _ _ _ _ _ (@pe_tup _ _ _ _ _ (@pa_cons _ _ _ _ _ (@pe_tup _ _ _ _ _ pa_nil) (@pa_cons _ _ _ _ _ (@pe_tup _ _ _ _ _ pa_nil) pa_nil (by rfl)) (by rfl))) pa_nil (by rfl))) pe_str (nomark _)))))))))), ?_⟩
    obtain ⟨ms, hms, hml, _⟩ := cut_ints ns (some ((1 : Nat) : Int)) (some ((63 : Nat) : Int))
    rw [HT.sIx_nat, HT.sIx_nat] at hml
    have e0 : Str.ofString "" = rowsT [] [] := by decide +kernel
    have sc0 : ∀ {H1 : Hp} {p q r : Addr}, H1 r = some (.tup [.ref p, .ref q]) → H1 p = some (.tup []) → H1 q = some (.tup []) → ScV H1 (.ref r) [] [] := fun h1 h2 h3 => ⟨_, _, _, [], [], rfl, h1, h2, .nil, h3, .nil⟩
    have sok0 : SOk [] := ⟨List.nodup_nil, fun _ z => nomatch z⟩
    refine ⟨_, rfl, 1, rfl, 63, rfl, a, _, rfl, hS, fun Cq hCq => ?_⟩
    have hms' : cutV (ns.map V.int) (some 1) (some 63) = ms.map V.int := hms
    rw [hms']
    have t0 := Same.upd (o := .lst (ms.map V.int)) hCq
    refine ⟨_, rfl, a, ns, 0, rfl, t0.seq hS, by omega, fun c => ⟨Cq, ms, c, rfl, upd_same, by omega, fun p v rls dts H1 s1 hp hv sok hg hl => ⟨p, _, rfl, SqT.of hp, rfl, _, _, rfl, _, _, rfl, rfl, ?_⟩⟩⟩
    have o8 : ∀ r ∈ rls, r.2.1.length ≤ 8 := fun r hr => (sok.2 r hr).1.2.2.1
    refine ⟨_, rfl, v, rls, dts, rfl, hv, sok, hg, hl, fun H2 s2 => ?_⟩
    refine ⟨_, rfl, _, _, _, _, rfl, tyOf_of (n := "str") rfl, kit_tt (by decide) (by decide), _, rfl, ?_⟩
    refine iteF ?_
    refine ⟨_, rfl, _, rfl, rfl, _, rfl, ?_⟩
    refine ite2 (fun h => absurd h (by simp)) (fun _ => ?_)
    refine ⟨_, rfl, rls, dts, rfl, sok, hg, hl, fun w H3 s3 hw => ?_⟩
    have hv3 := hv.ts (s2.trans s3).ts
    refine ⟨_, rfl, w, v, rfl, alk_sc hw hv3 hl o8, fun H4 s4 => ⟨_, rfl, ?_⟩⟩
    refine iteF ?_
    refine ⟨_, rfl, v, rls, dts, rfl, hv3.ts s4.ts, sok, hg, hl, fun H5 s5 => ⟨_, rfl, rfl, _, rfl, ?_⟩⟩
    refine ite2 (fun h => absurd h (by simp)) (fun _ => ?_)
    refine ⟨[], [], by rw [← e0]; rfl, sok0, rfl, by decide, fun w0 H6 s6 hw0 => ?_⟩
    refine ⟨sz (by simp), fun e1 he1 => ⟨sz (by simp), fun e2 he2 => ⟨sz (by simp), fun e3 he3 => ?_⟩⟩⟩
    have u1 := Same.upd (o := .tup []) he1
    have u2 := Same.upd (o := .tup []) he2
    have u3 := Same.upd (o := .tup [.ref e1, .ref e2]) he3
    refine ⟨w0, .ref e3, rfl, alk_sc (hw0.ts (u1.trans (u2.trans u3)).ts) (sc0 upd_same (u3 _ _ (u2 _ _ upd_same)) (u3 _ _ upd_same)) (by decide) (fun _ z => nomatch z), fun H7 s7 => ⟨_, rfl, ?_⟩⟩
    refine iteT ?_
    refine ⟨sz (by simp), fun f1 hf1 => ⟨sz (by simp), fun f2 hf2 => ⟨sz (by simp), fun f3 hf3 => ?_⟩⟩⟩
    have w1 := Same.upd (o := .tup []) hf1
    have w2 := Same.upd (o := .tup []) hf2
    have w3 := Same.upd (o := .tup [.ref f1, .ref f2]) hf3
    refine ⟨.ref f3, [], [], rfl, sc0 upd_same (w3 _ _ (w2 _ _ upd_same)) (w3 _ _ upd_same), sok0, rfl, by decide, fun H8 s8 => ⟨rfl, ?_⟩⟩
    rw [← e0]
    have k := k H8
    have e : decide (V.str (Str.ofString "") = V.str (Str.ofString "")) = true := decide_eq_true rfl
    rw [← e] at k
    exact k
end
end T12
namespace T12
open PySem L2 Tc
theorem all_mk {l : PySem.W.OpenLaw} {w : World} {K : PySem.W.Frag} {h : Heap} {mg : Str → Option Value} {fa : Addr} (X : K.In h) (G : h.Ns mainGlobals mg) (hfa : mg "law" = some (.ref fa))
    {f0 : Addr} {oc0 kV0 dc0 pm0 cd0 ct0 : Value} {od0 an0 : Option Addr} {sl0 : Array (Option Value)}
    {f1 : Addr} {oc1 kV1 dc1 pm1 cd1 ct1 : Value} {od1 an1 : Option Addr} {sl1 : Array (Option Value)}
    {f2 : Addr} {oc2 kV2 dc2 pm2 cd2 ct2 : Value} {od2 an2 : Option Addr} {sl2 : Array (Option Value)}
    {f3 : Addr} {oc3 kV3 dc3 pm3 cd3 ct3 : Value} {od3 an3 : Option Addr} {sl3 : Array (Option Value)}
    {f4 : Addr} {oc4 kV4 dc4 pm4 cd4 ct4 : Value} {od4 an4 : Option Addr} {sl4 : Array (Option Value)}
    {f5 : Addr} {oc5 kV5 dc5 pm5 cd5 ct5 : Value} {od5 an5 : Option Addr} {sl5 : Array (Option Value)}
    {f6 : Addr} {oc6 kV6 dc6 pm6 cd6 ct6 : Value} {od6 an6 : Option Addr} {sl6 : Array (Option Value)}
    {f7 : Addr} {oc7 kV7 dc7 pm7 cd7 ct7 : Value} {od7 an7 : Option Addr} {sl7 : Array (Option Value)}
    {f8 : Addr} {oc8 kV8 dc8 pm8 cd8 ct8 : Value} {od8 an8 : Option Addr} {sl8 : Array (Option Value)}
    {f9 : Addr} {oc9 kV9 dc9 pm9 cd9 ct9 : Value} {od9 an9 : Option Addr} {sl9 : Array (Option Value)}
    {f10 : Addr} {oc10 kV10 dc10 pm10 cd10 ct10 : Value} {od10 an10 : Option Addr} {sl10 : Array (Option Value)}
    {f11 : Addr} {oc11 kV11 dc11 pm11 cd11 ct11 : Value} {od11 an11 : Option Addr} {sl11 : Array (Option Value)}
    {f12 : Addr} {oc12 kV12 dc12 pm12 cd12 ct12 : Value} {od12 an12 : Option Addr} {sl12 : Array (Option Value)}
    {f13 : Addr} {oc13 kV13 dc13 pm13 cd13 ct13 : Value} {od13 an13 : Option Addr} {sl13 : Array (Option Value)}
    {f14 : Addr} {oc14 kV14 dc14 pm14 cd14 ct14 : Value} {od14 an14 : Option Addr} {sl14 : Array (Option Value)}
    {f15 : Addr} {oc15 kV15 dc15 pm15 cd15 ct15 : Value} {od15 an15 : Option Addr} {sl15 : Array (Option Value)}
    {f16 : Addr} {oc16 kV16 dc16 pm16 cd16 ct16 : Value} {od16 an16 : Option Addr} {sl16 : Array (Option Value)}
    {f17 : Addr} {oc17 kV17 dc17 pm17 cd17 ct17 : Value} {od17 an17 : Option Addr} {sl17 : Array (Option Value)}
    {f18 : Addr} {oc18 kV18 dc18 pm18 cd18 ct18 : Value} {od18 an18 : Option Addr} {sl18 : Array (Option Value)}
    {f19 : Addr} {oc19 kV19 dc19 pm19 cd19 ct19 : Value} {od19 an19 : Option Addr} {sl19 : Array (Option Value)}
    {f20 : Addr} {oc20 kV20 dc20 pm20 cd20 ct20 : Value} {od20 an20 : Option Addr} {sl20 : Array (Option Value)}
    {f21 : Addr} {oc21 kV21 dc21 pm21 cd21 ct21 : Value} {od21 an21 : Option Addr} {sl21 : Array (Option Value)}
    {f22 : Addr} {oc22 kV22 dc22 pm22 cd22 ct22 : Value} {od22 an22 : Option Addr} {sl22 : Array (Option Value)}
    {f23 : Addr} {oc23 kV23 dc23 pm23 cd23 ct23 : Value} {od23 an23 : Option Addr} {sl23 : Array (Option Value)}
    {f24 : Addr} {oc24 kV24 dc24 pm24 cd24 ct24 : Value} {od24 an24 : Option Addr} {sl24 : Array (Option Value)}
    {f25 : Addr} {oc25 kV25 dc25 pm25 cd25 ct25 : Value} {od25 an25 : Option Addr} {sl25 : Array (Option Value)}
    {f26 : Addr} {oc26 kV26 dc26 pm26 cd26 ct26 : Value} {od26 an26 : Option Addr} {sl26 : Array (Option Value)}
    {f27 : Addr} {oc27 kV27 dc27 pm27 cd27 ct27 : Value} {od27 an27 : Option Addr} {sl27 : Array (Option Value)}
    {f28 : Addr} {oc28 kV28 dc28 pm28 cd28 ct28 : Value} {od28 an28 : Option Addr} {sl28 : Array (Option Value)}
    {f29 : Addr} {oc29 kV29 dc29 pm29 cd29 ct29 : Value} {od29 an29 : Option Addr} {sl29 : Array (Option Value)}
    {f30 : Addr} {oc30 kV30 dc30 pm30 cd30 ct30 : Value} {od30 an30 : Option Addr} {sl30 : Array (Option Value)}
    {f31 : Addr} {oc31 kV31 dc31 pm31 cd31 ct31 : Value} {od31 an31 : Option Addr} {sl31 : Array (Option Value)}
    {f32 : Addr} {oc32 kV32 dc32 pm32 cd32 ct32 : Value} {od32 an32 : Option Addr} {sl32 : Array (Option Value)}
    {f33 : Addr} {oc33 kV33 dc33 pm33 cd33 ct33 : Value} {od33 an33 : Option Addr} {sl33 : Array (Option Value)}
    (a0 : PySem.W.nsIn K mainGlobals "is_name" = some (some (.ref f0))) (l0 : K.lookup f0 = some ⟨oc0, od0, .func (PySem.W.fnOf "is_name" "is_name" (defArgs s_is_name) (defBody s_is_name) (defScope s_is_name) .none kV0 dc0 pm0 an0 cd0 ct0), sl0⟩) (c0 : PySem.W.codeIn K cd0 "is_name" = true) (k0 : PySem.W.keepIn K (.ref f0) = true)
    (a1 : PySem.W.nsIn K mainGlobals "is_whole" = some (some (.ref f1))) (l1 : K.lookup f1 = some ⟨oc1, od1, .func (PySem.W.fnOf "is_whole" "is_whole" (defArgs s_is_whole) (defBody s_is_whole) (defScope s_is_whole) .none kV1 dc1 pm1 an1 cd1 ct1), sl1⟩) (c1 : PySem.W.codeIn K cd1 "is_whole" = true) (k1 : PySem.W.keepIn K (.ref f1) = true)
    (a2 : PySem.W.nsIn K mainGlobals "common_divisor" = some (some (.ref f2))) (l2 : K.lookup f2 = some ⟨oc2, od2, .func (PySem.W.fnOf "common_divisor" "common_divisor" (defArgs s_common_divisor) (defBody s_common_divisor) (defScope s_common_divisor) .none kV2 dc2 pm2 an2 cd2 ct2), sl2⟩) (c2 : PySem.W.codeIn K cd2 "common_divisor" = true) (k2 : PySem.W.keepIn K (.ref f2) = true)
    (a3 : PySem.W.nsIn K mainGlobals "is_fraction" = some (some (.ref f3))) (l3 : K.lookup f3 = some ⟨oc3, od3, .func (PySem.W.fnOf "is_fraction" "is_fraction" (defArgs s_is_fraction) (defBody s_is_fraction) (defScope s_is_fraction) .none kV3 dc3 pm3 an3 cd3 ct3), sl3⟩) (c3 : PySem.W.codeIn K cd3 "is_fraction" = true) (k3 : PySem.W.keepIn K (.ref f3) = true)
    (a4 : PySem.W.nsIn K mainGlobals "whole_read" = some (some (.ref f4))) (l4 : K.lookup f4 = some ⟨oc4, od4, .func (PySem.W.fnOf "whole_read" "whole_read" (defArgs s_whole_read) (defBody s_whole_read) (defScope s_whole_read) .none kV4 dc4 pm4 an4 cd4 ct4), sl4⟩) (c4 : PySem.W.codeIn K cd4 "whole_read" = true) (k4 : PySem.W.keepIn K (.ref f4) = true)
    (a5 : PySem.W.nsIn K mainGlobals "number_read" = some (some (.ref f5))) (l5 : K.lookup f5 = some ⟨oc5, od5, .func (PySem.W.fnOf "number_read" "number_read" (defArgs s_number_read) (defBody s_number_read) (defScope s_number_read) .none kV5 dc5 pm5 an5 cd5 ct5), sl5⟩) (c5 : PySem.W.codeIn K cd5 "number_read" = true) (k5 : PySem.W.keepIn K (.ref f5) = true)
    (a6 : PySem.W.nsIn K mainGlobals "amount_read" = some (some (.ref f6))) (l6 : K.lookup f6 = some ⟨oc6, od6, .func (PySem.W.fnOf "amount_read" "amount_read" (defArgs s_amount_read) (defBody s_amount_read) (defScope s_amount_read) .none kV6 dc6 pm6 an6 cd6 ct6), sl6⟩) (c6 : PySem.W.codeIn K cd6 "amount_read" = true) (k6 : PySem.W.keepIn K (.ref f6) = true)
    (a7 : PySem.W.nsIn K mainGlobals "share_read" = some (some (.ref f7))) (l7 : K.lookup f7 = some ⟨oc7, od7, .func (PySem.W.fnOf "share_read" "share_read" (defArgs s_share_read) (defBody s_share_read) (defScope s_share_read) .none kV7 dc7 pm7 an7 cd7 ct7), sl7⟩) (c7 : PySem.W.codeIn K cd7 "share_read" = true) (k7 : PySem.W.keepIn K (.ref f7) = true)
    (a8 : PySem.W.nsIn K mainGlobals "check_names" = some (some (.ref f8))) (l8 : K.lookup f8 = some ⟨oc8, od8, .func (PySem.W.fnOf "check_names" "check_names" (defArgs s_check_names) (defBody s_check_names) (defScope s_check_names) .none kV8 dc8 pm8 an8 cd8 ct8), sl8⟩) (c8 : PySem.W.codeIn K cd8 "check_names" = true) (k8 : PySem.W.keepIn K (.ref f8) = true)
    (a9 : PySem.W.nsIn K mainGlobals "measured" = some (some (.ref f9))) (l9 : K.lookup f9 = some ⟨oc9, od9, .func (PySem.W.fnOf "measured" "measured" (defArgs s_measured) (defBody s_measured) (defScope s_measured) .none kV9 dc9 pm9 an9 cd9 ct9), sl9⟩) (c9 : PySem.W.codeIn K cd9 "measured" = true) (k9 : PySem.W.keepIn K (.ref f9) = true)
    (a10 : PySem.W.nsIn K mainGlobals "deed_read" = some (some (.ref f10))) (l10 : K.lookup f10 = some ⟨oc10, od10, .func (PySem.W.fnOf "deed_read" "deed_read" (defArgs s_deed_read) (defBody s_deed_read) (defScope s_deed_read) .none kV10 dc10 pm10 an10 cd10 ct10), sl10⟩) (c10 : PySem.W.codeIn K cd10 "deed_read" = true) (k10 : PySem.W.keepIn K (.ref f10) = true)
    (a11 : PySem.W.nsIn K mainGlobals "times_head" = some (some (.ref f11))) (l11 : K.lookup f11 = some ⟨oc11, od11, .func (PySem.W.fnOf "times_head" "times_head" (defArgs s_times_head) (defBody s_times_head) (defScope s_times_head) .none kV11 dc11 pm11 an11 cd11 ct11), sl11⟩) (c11 : PySem.W.codeIn K cd11 "times_head" = true) (k11 : PySem.W.keepIn K (.ref f11) = true)
    (a12 : PySem.W.nsIn K mainGlobals "rule_head" = some (some (.ref f12))) (l12 : K.lookup f12 = some ⟨oc12, od12, .func (PySem.W.fnOf "rule_head" "rule_head" (defArgs s_rule_head) (defBody s_rule_head) (defScope s_rule_head) .none kV12 dc12 pm12 an12 cd12 ct12), sl12⟩) (c12 : PySem.W.codeIn K cd12 "rule_head" = true) (k12 : PySem.W.keepIn K (.ref f12) = true)
    (a13 : PySem.W.nsIn K mainGlobals "end_block" = some (some (.ref f13))) (l13 : K.lookup f13 = some ⟨oc13, od13, .func (PySem.W.fnOf "end_block" "end_block" (defArgs s_end_block) (defBody s_end_block) (defScope s_end_block) .none kV13 dc13 pm13 an13 cd13 ct13), sl13⟩) (c13 : PySem.W.codeIn K cd13 "end_block" = true) (k13 : PySem.W.keepIn K (.ref f13) = true)
    (a14 : PySem.W.nsIn K mainGlobals "read_rows" = some (some (.ref f14))) (l14 : K.lookup f14 = some ⟨oc14, od14, .func (PySem.W.fnOf "read_rows" "read_rows" (defArgs s_read_rows) (defBody s_read_rows) (defScope s_read_rows) .none kV14 dc14 pm14 an14 cd14 ct14), sl14⟩) (c14 : PySem.W.codeIn K cd14 "read_rows" = true) (k14 : PySem.W.keepIn K (.ref f14) = true)
    (a15 : PySem.W.nsIn K mainGlobals "read" = some (some (.ref f15))) (l15 : K.lookup f15 = some ⟨oc15, od15, .func (PySem.W.fnOf "read" "read" (defArgs s_read) (defBody s_read) (defScope s_read) .none kV15 dc15 pm15 an15 cd15 ct15), sl15⟩) (c15 : PySem.W.codeIn K cd15 "read" = true) (k15 : PySem.W.keepIn K (.ref f15) = true)
    (a16 : PySem.W.nsIn K mainGlobals "number_shown" = some (some (.ref f16))) (l16 : K.lookup f16 = some ⟨oc16, od16, .func (PySem.W.fnOf "number_shown" "number_shown" (defArgs s_number_shown) (defBody s_number_shown) (defScope s_number_shown) .none kV16 dc16 pm16 an16 cd16 ct16), sl16⟩) (c16 : PySem.W.codeIn K cd16 "number_shown" = true) (k16 : PySem.W.keepIn K (.ref f16) = true)
    (a17 : PySem.W.nsIn K mainGlobals "row_of" = some (some (.ref f17))) (l17 : K.lookup f17 = some ⟨oc17, od17, .func (PySem.W.fnOf "row_of" "row_of" (defArgs s_row_of) (defBody s_row_of) (defScope s_row_of) .none kV17 dc17 pm17 an17 cd17 ct17), sl17⟩) (c17 : PySem.W.codeIn K cd17 "row_of" = true) (k17 : PySem.W.keepIn K (.ref f17) = true)
    (a18 : PySem.W.nsIn K mainGlobals "rows_of" = some (some (.ref f18))) (l18 : K.lookup f18 = some ⟨oc18, od18, .func (PySem.W.fnOf "rows_of" "rows_of" (defArgs s_rows_of) (defBody s_rows_of) (defScope s_rows_of) .none kV18 dc18 pm18 an18 cd18 ct18), sl18⟩) (c18 : PySem.W.codeIn K cd18 "rows_of" = true) (k18 : PySem.W.keepIn K (.ref f18) = true)
    (a19 : PySem.W.nsIn K mainGlobals "shown" = some (some (.ref f19))) (l19 : K.lookup f19 = some ⟨oc19, od19, .func (PySem.W.fnOf "shown" "shown" (defArgs s_shown) (defBody s_shown) (defScope s_shown) .none kV19 dc19 pm19 an19 cd19 ct19), sl19⟩) (c19 : PySem.W.codeIn K cd19 "shown" = true) (k19 : PySem.W.keepIn K (.ref f19) = true)
    (a20 : PySem.W.nsIn K mainGlobals "_law_cell_at" = some (some (.ref f20))) (l20 : K.lookup f20 = some ⟨oc20, od20, .func (PySem.W.fnOf "_law_cell_at" "_law_cell_at" (defArgs s__law_cell_at) (defBody s__law_cell_at) (defScope s__law_cell_at) .none kV20 dc20 pm20 an20 cd20 ct20), sl20⟩) (c20 : PySem.W.codeIn K cd20 "_law_cell_at" = true) (k20 : PySem.W.keepIn K (.ref f20) = true)
    (a21 : PySem.W.nsIn K mainGlobals "_law_mixed" = some (some (.ref f21))) (l21 : K.lookup f21 = some ⟨oc21, od21, .func (PySem.W.fnOf "_law_mixed" "_law_mixed" (defArgs s__law_mixed) (defBody s__law_mixed) (defScope s__law_mixed) .none kV21 dc21 pm21 an21 cd21 ct21), sl21⟩) (c21 : PySem.W.codeIn K cd21 "_law_mixed" = true) (k21 : PySem.W.keepIn K (.ref f21) = true)
    (a22 : PySem.W.nsIn K mainGlobals "_law_digits" = some (some (.ref f22))) (l22 : K.lookup f22 = some ⟨oc22, od22, .func (PySem.W.fnOf "_law_digits" "_law_digits" (defArgs s__law_digits) (defBody s__law_digits) (defScope s__law_digits) .none kV22 dc22 pm22 an22 cd22 ct22), sl22⟩) (c22 : PySem.W.codeIn K cd22 "_law_digits" = true) (k22 : PySem.W.keepIn K (.ref f22) = true)
    (a23 : PySem.W.nsIn K mainGlobals "_law_names" = some (some (.ref f23))) (l23 : K.lookup f23 = some ⟨oc23, od23, .func (PySem.W.fnOf "_law_names" "_law_names" (defArgs s__law_names) (defBody s__law_names) (defScope s__law_names) .none kV23 dc23 pm23 an23 cd23 ct23), sl23⟩) (c23 : PySem.W.codeIn K cd23 "_law_names" = true) (k23 : PySem.W.keepIn K (.ref f23) = true)
    (a24 : PySem.W.nsIn K mainGlobals "_law_lowest" = some (some (.ref f24))) (l24 : K.lookup f24 = some ⟨oc24, od24, .func (PySem.W.fnOf "_law_lowest" "_law_lowest" (defArgs s__law_lowest) (defBody s__law_lowest) (defScope s__law_lowest) .none kV24 dc24 pm24 an24 cd24 ct24), sl24⟩) (c24 : PySem.W.codeIn K cd24 "_law_lowest" = true) (k24 : PySem.W.keepIn K (.ref f24) = true)
    (a25 : PySem.W.nsIn K mainGlobals "_law_amount" = some (some (.ref f25))) (l25 : K.lookup f25 = some ⟨oc25, od25, .func (PySem.W.fnOf "_law_amount" "_law_amount" (defArgs s__law_amount) (defBody s__law_amount) (defScope s__law_amount) .none kV25 dc25 pm25 an25 cd25 ct25), sl25⟩) (c25 : PySem.W.codeIn K cd25 "_law_amount" = true) (k25 : PySem.W.keepIn K (.ref f25) = true)
    (a26 : PySem.W.nsIn K mainGlobals "_law_share" = some (some (.ref f26))) (l26 : K.lookup f26 = some ⟨oc26, od26, .func (PySem.W.fnOf "_law_share" "_law_share" (defArgs s__law_share) (defBody s__law_share) (defScope s__law_share) .none kV26 dc26 pm26 an26 cd26 ct26), sl26⟩) (c26 : PySem.W.codeIn K cd26 "_law_share" = true) (k26 : PySem.W.keepIn K (.ref f26) = true)
    (a27 : PySem.W.nsIn K mainGlobals "_law_number_text" = some (some (.ref f27))) (l27 : K.lookup f27 = some ⟨oc27, od27, .func (PySem.W.fnOf "_law_number_text" "_law_number_text" (defArgs s__law_number_text) (defBody s__law_number_text) (defScope s__law_number_text) .none kV27 dc27 pm27 an27 cd27 ct27), sl27⟩) (c27 : PySem.W.codeIn K cd27 "_law_number_text" = true) (k27 : PySem.W.keepIn K (.ref f27) = true)
    (a28 : PySem.W.nsIn K mainGlobals "_law_word" = some (some (.ref f28))) (l28 : K.lookup f28 = some ⟨oc28, od28, .func (PySem.W.fnOf "_law_word" "_law_word" (defArgs s__law_word) (defBody s__law_word) (defScope s__law_word) .none kV28 dc28 pm28 an28 cd28 ct28), sl28⟩) (c28 : PySem.W.codeIn K cd28 "_law_word" = true) (k28 : PySem.W.keepIn K (.ref f28) = true)
    (a29 : PySem.W.nsIn K mainGlobals "_law_plain" = some (some (.ref f29))) (l29 : K.lookup f29 = some ⟨oc29, od29, .func (PySem.W.fnOf "_law_plain" "_law_plain" (defArgs s__law_plain) (defBody s__law_plain) (defScope s__law_plain) .none kV29 dc29 pm29 an29 cd29 ct29), sl29⟩) (c29 : PySem.W.codeIn K cd29 "_law_plain" = true) (k29 : PySem.W.keepIn K (.ref f29) = true)
    (a30 : PySem.W.nsIn K mainGlobals "_law_deeds" = some (some (.ref f30))) (l30 : K.lookup f30 = some ⟨oc30, od30, .func (PySem.W.fnOf "_law_deeds" "_law_deeds" (defArgs s__law_deeds) (defBody s__law_deeds) (defScope s__law_deeds) .none kV30 dc30 pm30 an30 cd30 ct30), sl30⟩) (c30 : PySem.W.codeIn K cd30 "_law_deeds" = true) (k30 : PySem.W.keepIn K (.ref f30) = true)
    (a31 : PySem.W.nsIn K mainGlobals "_law_script" = some (some (.ref f31))) (l31 : K.lookup f31 = some ⟨oc31, od31, .func (PySem.W.fnOf "_law_script" "_law_script" (defArgs s__law_script) (defBody s__law_script) (defScope s__law_script) .none kV31 dc31 pm31 an31 cd31 ct31), sl31⟩) (c31 : PySem.W.codeIn K cd31 "_law_script" = true) (k31 : PySem.W.keepIn K (.ref f31) = true)
    (a32 : PySem.W.nsIn K mainGlobals "_law_alike" = some (some (.ref f32))) (l32 : K.lookup f32 = some ⟨oc32, od32, .func (PySem.W.fnOf "_law_alike" "_law_alike" (defArgs s__law_alike) (defBody s__law_alike) (defScope s__law_alike) .none kV32 dc32 pm32 an32 cd32 ct32), sl32⟩) (c32 : PySem.W.codeIn K cd32 "_law_alike" = true) (k32 : PySem.W.keepIn K (.ref f32) = true)
    (a33 : PySem.W.nsIn K mainGlobals "law" = some (some (.ref f33))) (l33 : K.lookup f33 = some ⟨oc33, od33, .func (PySem.W.fnOf "law" "law" (defArgs s_law) (defBody s_law) (defScope s_law) .none kV33 dc33 pm33 an33 cd33 ct33), sl33⟩) (c33 : PySem.W.codeIn K cd33 "law" = true) (k33 : PySem.W.keepIn K (.ref f33) = true)
    (z_all : PySem.W.nsIn K mainGlobals "all" = some none)
    (z_bool : PySem.W.nsIn K mainGlobals "bool" = some none)
    (z_enumerate : PySem.W.nsIn K mainGlobals "enumerate" = some none)
    (z_int : PySem.W.nsIn K mainGlobals "int" = some none)
    (z_isinstance : PySem.W.nsIn K mainGlobals "isinstance" = some none)
    (z_len : PySem.W.nsIn K mainGlobals "len" = some none)
    (z_list : PySem.W.nsIn K mainGlobals "list" = some none)
    (z_range : PySem.W.nsIn K mainGlobals "range" = some none)
    (z_set : PySem.W.nsIn K mainGlobals "set" = some none)
    (z_str : PySem.W.nsIn K mainGlobals "str" = some none)
    (z_tuple : PySem.W.nsIn K mainGlobals "tuple" = some none)
    (z_zip : PySem.W.nsIn K mainGlobals "zip" = some none)
    {t_FIGURES : Tok} (w_FIGURES : PySem.W.nsIn K mainGlobals "FIGURES" = some (some (.str "0123456789" t_FIGURES)))
    {t_LETTERS : Tok} (w_LETTERS : PySem.W.nsIn K mainGlobals "LETTERS" = some (some (.str "abcdefghijklmnopqrstuvwxyz" t_LETTERS)))
    {t_MOST_FIGURES : Tok} (w_MOST_FIGURES : PySem.W.nsIn K mainGlobals "MOST_FIGURES" = some (some (.int 12 t_MOST_FIGURES)))
    {t_MOST_PLACES : Tok} (w_MOST_PLACES : PySem.W.nsIn K mainGlobals "MOST_PLACES" = some (some (.int 8 t_MOST_PLACES)))
    {t_MOST_ROWS : Tok} (w_MOST_ROWS : PySem.W.nsIn K mainGlobals "MOST_ROWS" = some (some (.int 300 t_MOST_ROWS)))
    {t_MOST_TIMES : Tok} (w_MOST_TIMES : PySem.W.nsIn K mainGlobals "MOST_TIMES" = some (some (.int 60 t_MOST_TIMES)))
    {t_MOST_WITHIN : Tok} (w_MOST_WITHIN : PySem.W.nsIn K mainGlobals "MOST_WITHIN" = some (some (.int 8 t_MOST_WITHIN)))
    : ∃ fd : FuncData, (∀ (s : Shared) (v : Value), BindsTo s fd ⟨[v], []⟩ [("_law_script_here", v)]) ∧ ∀ base : Heap, K.In base → base.Ns mainGlobals mg → FnOk l.prog w K mg base CX0 25 fa fd ["_law_script_here"] (spLaw K) := by
  have T : Txt K mg := ⟨PySem.W.mg_none_of X G z_all, PySem.W.mg_none_of X G z_bool, PySem.W.mg_none_of X G z_enumerate, PySem.W.mg_none_of X G z_int, PySem.W.mg_none_of X G z_isinstance, PySem.W.mg_none_of X G z_len, PySem.W.mg_none_of X G z_list, PySem.W.mg_none_of X G z_range, PySem.W.mg_none_of X G z_set, PySem.W.mg_none_of X G z_str, PySem.W.mg_none_of X G z_tuple, PySem.W.mg_none_of X G z_zip, ⟨_, PySem.W.mg_of X G w_FIGURES⟩, ⟨_, PySem.W.mg_of X G w_LETTERS⟩, ⟨_, PySem.W.mg_of X G w_MOST_FIGURES⟩, ⟨_, PySem.W.mg_of X G w_MOST_PLACES⟩, ⟨_, PySem.W.mg_of X G w_MOST_ROWS⟩, ⟨_, PySem.W.mg_of X G w_MOST_TIMES⟩, ⟨_, PySem.W.mg_of X G w_MOST_WITHIN⟩⟩
  have D_is_name : DefAt K mg "is_name" s_is_name := DefAt.mk' X G a0 l0 c0 k0
  have D_is_whole : DefAt K mg "is_whole" s_is_whole := DefAt.mk' X G a1 l1 c1 k1
  have D_common_divisor : DefAt K mg "common_divisor" s_common_divisor := DefAt.mk' X G a2 l2 c2 k2
  have D_is_fraction : DefAt K mg "is_fraction" s_is_fraction := DefAt.mk' X G a3 l3 c3 k3
  have D_whole_read : DefAt K mg "whole_read" s_whole_read := DefAt.mk' X G a4 l4 c4 k4
  have D_number_read : DefAt K mg "number_read" s_number_read := DefAt.mk' X G a5 l5 c5 k5
  have D_amount_read : DefAt K mg "amount_read" s_amount_read := DefAt.mk' X G a6 l6 c6 k6
  have D_share_read : DefAt K mg "share_read" s_share_read := DefAt.mk' X G a7 l7 c7 k7
  have D_check_names : DefAt K mg "check_names" s_check_names := DefAt.mk' X G a8 l8 c8 k8
  have D_measured : DefAt K mg "measured" s_measured := DefAt.mk' X G a9 l9 c9 k9
  have D_deed_read : DefAt K mg "deed_read" s_deed_read := DefAt.mk' X G a10 l10 c10 k10
  have D_times_head : DefAt K mg "times_head" s_times_head := DefAt.mk' X G a11 l11 c11 k11
  have D_rule_head : DefAt K mg "rule_head" s_rule_head := DefAt.mk' X G a12 l12 c12 k12
  have D_end_block : DefAt K mg "end_block" s_end_block := DefAt.mk' X G a13 l13 c13 k13
  have D_read_rows : DefAt K mg "read_rows" s_read_rows := DefAt.mk' X G a14 l14 c14 k14
  have D_read : DefAt K mg "read" s_read := DefAt.mk' X G a15 l15 c15 k15
  have D_number_shown : DefAt K mg "number_shown" s_number_shown := DefAt.mk' X G a16 l16 c16 k16
  have D_row_of : DefAt K mg "row_of" s_row_of := DefAt.mk' X G a17 l17 c17 k17
  have D_rows_of : DefAt K mg "rows_of" s_rows_of := DefAt.mk' X G a18 l18 c18 k18
  have D_shown : DefAt K mg "shown" s_shown := DefAt.mk' X G a19 l19 c19 k19
  have D__law_cell_at : DefAt K mg "_law_cell_at" s__law_cell_at := DefAt.mk' X G a20 l20 c20 k20
  have D__law_mixed : DefAt K mg "_law_mixed" s__law_mixed := DefAt.mk' X G a21 l21 c21 k21
  have D__law_digits : DefAt K mg "_law_digits" s__law_digits := DefAt.mk' X G a22 l22 c22 k22
  have D__law_names : DefAt K mg "_law_names" s__law_names := DefAt.mk' X G a23 l23 c23 k23
  have D__law_lowest : DefAt K mg "_law_lowest" s__law_lowest := DefAt.mk' X G a24 l24 c24 k24
  have D__law_amount : DefAt K mg "_law_amount" s__law_amount := DefAt.mk' X G a25 l25 c25 k25
  have D__law_share : DefAt K mg "_law_share" s__law_share := DefAt.mk' X G a26 l26 c26 k26
  have D__law_number_text : DefAt K mg "_law_number_text" s__law_number_text := DefAt.mk' X G a27 l27 c27 k27
  have D__law_word : DefAt K mg "_law_word" s__law_word := DefAt.mk' X G a28 l28 c28 k28
  have D__law_plain : DefAt K mg "_law_plain" s__law_plain := DefAt.mk' X G a29 l29 c29 k29
  have D__law_deeds : DefAt K mg "_law_deeds" s__law_deeds := DefAt.mk' X G a30 l30 c30 k30
  have D__law_script : DefAt K mg "_law_script" s__law_script := DefAt.mk' X G a31 l31 c31 k31
  have D__law_alike : DefAt K mg "_law_alike" s__law_alike := DefAt.mk' X G a32 l32 c32 k32
  have e := hfa.symm.trans (PySem.W.mg_of X G a33)
  cases e
  refine ⟨PySem.W.fnOf "law" "law" (defArgs s_law) (defBody s_law) (defScope s_law) .none kV33 dc33 pm33 an33 cd33 ct33, fun s v => .of_eq rfl, fun base _ _ => ?_⟩
  have G_is_name := ok_is_name (P := l.prog) (w := w) (base := base) D_is_name T 
  have G_is_whole := ok_is_whole (P := l.prog) (w := w) (base := base) D_is_whole T 
  have G_common_divisor := ok_common_divisor (P := l.prog) (w := w) (base := base) D_common_divisor T 
  have G_is_fraction := ok_is_fraction (P := l.prog) (w := w) (base := base) D_is_fraction T G_is_whole G_common_divisor
  have G_whole_read := ok_whole_read (P := l.prog) (w := w) (base := base) D_whole_read T 
  have G_number_read := ok_number_read (P := l.prog) (w := w) (base := base) D_number_read T G_whole_read G_is_fraction
  have G_amount_read := ok_amount_read (P := l.prog) (w := w) (base := base) D_amount_read T G_number_read
  have G_share_read := ok_share_read (P := l.prog) (w := w) (base := base) D_share_read T G_number_read
  have G_check_names := ok_check_names (P := l.prog) (w := w) (base := base) D_check_names T G_is_name
  have G_measured := ok_measured (P := l.prog) (w := w) (base := base) D_measured T G_check_names
  have G_deed_read := ok_deed_read (P := l.prog) (w := w) (base := base) D_deed_read T G_check_names G_measured G_amount_read G_share_read
  have G_times_head := ok_times_head (P := l.prog) (w := w) (base := base) D_times_head T G_whole_read
  have G_rule_head := ok_rule_head (P := l.prog) (w := w) (base := base) D_rule_head T G_check_names
  have G_end_block := ok_end_block (P := l.prog) (w := w) (base := base) D_end_block T 
  have G_read_rows := ok_read_rows (P := l.prog) (w := w) (base := base) D_read_rows T G_rule_head G_times_head G_end_block G_deed_read
  have G_read := ok_read (P := l.prog) (w := w) (base := base) D_read T G_read_rows
  have G_number_shown := ok_number_shown (P := l.prog) (w := w) (base := base) D_number_shown T 
  have G_row_of := ok_row_of (P := l.prog) (w := w) (base := base) D_row_of T G_number_shown
  have G_rows_of := ok_rows_of (P := l.prog) (w := w) (base := base) D_rows_of T G_row_of 9
  have G_shown := ok_shown (P := l.prog) (w := w) (base := base) D_shown T G_rows_of
  have G__law_cell_at := ok__law_cell_at (P := l.prog) (w := w) (base := base) D__law_cell_at T 
  have G__law_mixed := ok__law_mixed (P := l.prog) (w := w) (base := base) D__law_mixed T 
  have G__law_digits := ok__law_digits (P := l.prog) (w := w) (base := base) D__law_digits T 
  have G__law_names := ok__law_names (P := l.prog) (w := w) (base := base) D__law_names T G__law_digits
  have G__law_lowest := ok__law_lowest (P := l.prog) (w := w) (base := base) D__law_lowest T 
  have G__law_amount := ok__law_amount (P := l.prog) (w := w) (base := base) D__law_amount T G__law_lowest
  have G__law_share := ok__law_share (P := l.prog) (w := w) (base := base) D__law_share T G__law_lowest
  have G__law_number_text := ok__law_number_text (P := l.prog) (w := w) (base := base) D__law_number_text T 
  have G__law_word := ok__law_word (P := l.prog) (w := w) (base := base) D__law_word T G__law_names
  have G__law_plain := ok__law_plain (P := l.prog) (w := w) (base := base) D__law_plain T G__law_word G__law_amount G__law_share G__law_number_text
  have G__law_deeds := ok__law_deeds (P := l.prog) (w := w) (base := base) D__law_deeds T G__law_mixed G__law_plain
  have G__law_script := ok__law_script (P := l.prog) (w := w) (base := base) D__law_script T G__law_mixed G__law_names G__law_deeds
  have G__law_alike := ok__law_alike (P := l.prog) (w := w) (base := base) D__law_alike T  23
  exact ok_law (fun_mk (st := s_law) l33 c33 k33) T G__law_script G__law_cell_at G_shown G__law_alike G_read
end T12
open PySem PySem.W PyProof.Rows
set_option maxRecDepth 100000 in
set_option maxHeartbeats 0 in
theorem PySem.Challenge.cw_tiercask_k12_whole_written_and_read_holds : PySem.Challenge.rw_tiercask_k12_whole_written_and_read.Holds := by
  w_on; o_law; k_head; (case hw => w_witness2)
  k_fill
  refine L2.walk_ofK (l := PySem.Challenge.rw_tiercask_k12_whole_written_and_read) (n := 63) (k := 25) (x := "_law_script_here") (CX := L2.CX0) (sp := Tc.spLaw) rfl (by decide) rfl ⟨rfl, by decide, by decide⟩ (fun w h Y => PySem.W.kIn_of Y) ?F ?S ?C
  case F =>
    intro w mg fa h KX G hmg
    refine' T12.all_mk KX G hmg ?a0 ?l0 ?c0 ?k0 ?a1 ?l1 ?c1 ?k1 ?a2 ?l2 ?c2 ?k2 ?a3 ?l3 ?c3 ?k3 ?a4 ?l4 ?c4 ?k4 ?a5 ?l5 ?c5 ?k5 ?a6 ?l6 ?c6 ?k6 ?a7 ?l7 ?c7 ?k7 ?a8 ?l8 ?c8 ?k8 ?a9 ?l9 ?c9 ?k9 ?a10 ?l10 ?c10 ?k10 ?a11 ?l11 ?c11 ?k11 ?a12 ?l12 ?c12 ?k12 ?a13 ?l13 ?c13 ?k13 ?a14 ?l14 ?c14 ?k14 ?a15 ?l15 ?c15 ?k15 ?a16 ?l16 ?c16 ?k16 ?a17 ?l17 ?c17 ?k17 ?a18 ?l18 ?c18 ?k18 ?a19 ?l19 ?c19 ?k19 ?a20 ?l20 ?c20 ?k20 ?a21 ?l21 ?c21 ?k21 ?a22 ?l22 ?c22 ?k22 ?a23 ?l23 ?c23 ?k23 ?a24 ?l24 ?c24 ?k24 ?a25 ?l25 ?c25 ?k25 ?a26 ?l26 ?c26 ?k26 ?a27 ?l27 ?c27 ?k27 ?a28 ?l28 ?c28 ?k28 ?a29 ?l29 ?c29 ?k29 ?a30 ?l30 ?c30 ?k30 ?a31 ?l31 ?c31 ?k31 ?a32 ?l32 ?c32 ?k32 ?a33 ?l33 ?c33 ?k33 ?z_all ?z_bool ?z_enumerate ?z_int ?z_isinstance ?z_len ?z_list ?z_range ?z_set ?z_str ?z_tuple ?z_zip ?w_FIGURES ?w_LETTERS ?w_MOST_FIGURES ?w_MOST_PLACES ?w_MOST_ROWS ?w_MOST_TIMES ?w_MOST_WITHIN
    (case a0 => k_is); (case l0 => k_is); (case c0 => k_is); (case k0 => k_is); (case a1 => k_is); (case l1 => k_is); (case c1 => k_is); (case k1 => k_is)
    (case a2 => k_is); (case l2 => k_is); (case c2 => k_is); (case k2 => k_is); (case a3 => k_is); (case l3 => k_is); (case c3 => k_is); (case k3 => k_is)
    (case a4 => k_is); (case l4 => k_is); (case c4 => k_is); (case k4 => k_is); (case a5 => k_is); (case l5 => k_is); (case c5 => k_is); (case k5 => k_is)
    (case a6 => k_is); (case l6 => k_is); (case c6 => k_is); (case k6 => k_is); (case a7 => k_is); (case l7 => k_is); (case c7 => k_is); (case k7 => k_is)
    (case a8 => k_is); (case l8 => k_is); (case c8 => k_is); (case k8 => k_is); (case a9 => k_is); (case l9 => k_is); (case c9 => k_is); (case k9 => k_is)
    (case a10 => k_is); (case l10 => k_is); (case c10 => k_is); (case k10 => k_is); (case a11 => k_is); (case l11 => k_is); (case c11 => k_is); (case k11 => k_is)
    (case a12 => k_is); (case l12 => k_is); (case c12 => k_is); (case k12 => k_is); (case a13 => k_is); (case l13 => k_is); (case c13 => k_is); (case k13 => k_is)
    (case a14 => k_is); (case l14 => k_is); (case c14 => k_is); (case k14 => k_is); (case a15 => k_is); (case l15 => k_is); (case c15 => k_is); (case k15 => k_is)
    (case a16 => k_is); (case l16 => k_is); (case c16 => k_is); (case k16 => k_is); (case a17 => k_is); (case l17 => k_is); (case c17 => k_is); (case k17 => k_is)
    (case a18 => k_is); (case l18 => k_is); (case c18 => k_is); (case k18 => k_is); (case a19 => k_is); (case l19 => k_is); (case c19 => k_is); (case k19 => k_is)
    (case a20 => k_is); (case l20 => k_is); (case c20 => k_is); (case k20 => k_is); (case a21 => k_is); (case l21 => k_is); (case c21 => k_is); (case k21 => k_is)
    (case a22 => k_is); (case l22 => k_is); (case c22 => k_is); (case k22 => k_is); (case a23 => k_is); (case l23 => k_is); (case c23 => k_is); (case k23 => k_is)
    (case a24 => k_is); (case l24 => k_is); (case c24 => k_is); (case k24 => k_is); (case a25 => k_is); (case l25 => k_is); (case c25 => k_is); (case k25 => k_is)
    (case a26 => k_is); (case l26 => k_is); (case c26 => k_is); (case k26 => k_is); (case a27 => k_is); (case l27 => k_is); (case c27 => k_is); (case k27 => k_is)
    (case a28 => k_is); (case l28 => k_is); (case c28 => k_is); (case k28 => k_is); (case a29 => k_is); (case l29 => k_is); (case c29 => k_is); (case k29 => k_is)
    (case a30 => k_is); (case l30 => k_is); (case c30 => k_is); (case k30 => k_is); (case a31 => k_is); (case l31 => k_is); (case c31 => k_is); (case k31 => k_is)
    (case a32 => k_is); (case l32 => k_is); (case c32 => k_is); (case k32 => k_is); (case a33 => k_is); (case l33 => k_is); (case c33 => k_is); (case k33 => k_is)
    (case z_all => k_is); (case z_bool => k_is); (case z_enumerate => k_is); (case z_int => k_is); (case z_isinstance => k_is); (case z_len => k_is); (case z_list => k_is); (case z_range => k_is)
    (case z_set => k_is); (case z_str => k_is); (case z_tuple => k_is); (case z_zip => k_is); (case w_FIGURES => k_is); (case w_LETTERS => k_is); (case w_MOST_FIGURES => k_is); (case w_MOST_PLACES => k_is)
    (case w_MOST_ROWS => k_is); (case w_MOST_TIMES => k_is); (case w_MOST_WITHIN => k_is)
  case S => exact fun K H a ns hl hO hS => ⟨a, ns, rfl, hS, hl, fun _ => rfl⟩
  case C => exact fun H s e s' z => z

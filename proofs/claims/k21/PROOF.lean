import PyProof.Rows.All
import Wide.All
import OpenK.AllK
import Wide.FinOn
import Lean
import PyProof.EqAt
import PyProof.EqKinds
import PyProof.TupleCall
import PySem.Challenge.RW_tiercask_k21_steps_refused
set_option Elab.async false
set_option linter.all false
set_option maxRecDepth 100000
set_option genSizeOf false
set_option maxHeartbeats 4000000
set_option exponentiation.threshold 100000
namespace L2
open PySem PySem.Spec PyProof.Rows
noncomputable abbrev Key := Sum Int Str
noncomputable def keyIs : Key -> Value -> Bool
 | .inl k, v => Value.isInt k v
 | .inr x, v => Value.isStrOf x v
noncomputable def keyH (w : World) : Key -> Int
 | .inl k => hashInt k
 | .inr x => hashStr w x
theorem keyIs_shape : ∀ {k : Key} {v : Value}, keyIs k v = true -> (∃ i t, k = Sum.inl i /\ v = Value.int i t) \/ (∃ x t, k = Sum.inr x /\ v = Value.str x t)
 | .inl i, v, h => by
  obtain ⟨t, e⟩ := Value.isInt_shape (k := i) (v := v) h
  exact .inl ⟨i, t, rfl, e⟩
 | .inr x, v, h => by
  obtain ⟨t, e⟩ := Value.isStrOf_shape (x := x) (v := v) h
  exact .inr ⟨x, t, rfl, e⟩
theorem keyIs_int (i : Int) (t : Tok) : keyIs (.inl i) (.int i t) = true := by simp [keyIs, Value.isInt]
theorem keyIs_str (x : Str) (t : Tok) : keyIs (.inr x) (.str x t) = true := by simp [keyIs, Value.isStrOf]
theorem key_ll (a b : Int) : decide ((Sum.inl a : Key) = Sum.inl b) = (a == b) := by
 by_cases e : a = b
 ·subst e; simp
 ·have h : ¬ (Sum.inl a : Key) = Sum.inl b := fun q => e (Sum.inl.inj q)
  rw [decide_eq_false h]
  exact (beq_eq_false_iff_ne.mpr e).symm
theorem key_rr (a b : Str) : decide ((Sum.inr a : Key) = Sum.inr b) = decide (a = b) := by
 by_cases e : a = b
 ·subst e; simp
 ·have h : ¬ (Sum.inr a : Key) = Sum.inr b := fun q => e (Sum.inr.inj q)
  rw [decide_eq_false h, decide_eq_false e]
theorem key_lr (a : Int) (b : Str) : decide ((Sum.inl a : Key) = Sum.inr b) = false := decide_eq_false (fun q => nomatch q)
theorem key_rl (a : Str) (b : Int) : decide ((Sum.inr a : Key) = Sum.inl b) = false := decide_eq_false (fun q => nomatch q)
noncomputable def mixKind (prog : Program) (w : World) : PySem.KeyKind prog w Key where
 is := keyIs
 hash := keyH w
 inj := fun v a b ha hb => by
  rcases keyIs_shape ha with ⟨i, t, rfl, rfl⟩ | ⟨x, t, rfl, rfl⟩
  ·rcases keyIs_shape hb with ⟨j, u, rfl, e⟩ | ⟨y, u, rfl, e⟩
   ·injection e with e1 _; rw [e1]
   ·exact nomatch e
  ·rcases keyIs_shape hb with ⟨j, u, rfl, e⟩ | ⟨y, u, rfl, e⟩
   ·exact nomatch e
   ·injection e with e1 _; rw [e1]
 byValue := fun k v h => by
  rcases keyIs_shape h with ⟨i, t, rfl, rfl⟩ | ⟨x, t, rfl, rfl⟩ <;> rfl
 pyHash := fun hv h => by
  rcases keyIs_shape hv with ⟨i, t, rfl, rfl⟩ | ⟨x, t, rfl, rfl⟩
  ·exact wpAny_pyHash_int h
  ·exact wpAny_pyHash_str h
 eqBool := fun hu hv h => by
  rcases keyIs_shape hu with ⟨i, t, rfl, rfl⟩ | ⟨x, t, rfl, rfl⟩
  ·rcases keyIs_shape hv with ⟨j, u, rfl, rfl⟩ | ⟨y, u, rfl, rfl⟩
   ·rw [key_ll] at h; exact wpAny_eqBool_int h
   ·rw [key_lr] at h; exact SeqAt.EqAt.int_str i t y u _ _ _ _ h
  ·rcases keyIs_shape hv with ⟨j, u, rfl, rfl⟩ | ⟨y, u, rfl, rfl⟩
   ·rw [key_rl] at h; exact SeqAt.EqAt.str_int x t j u _ _ _ _ h
   ·rw [key_rr] at h; exact wpAny_eqBool_str h
 «strs» := fun k x t v h => by
  rcases keyIs_shape h with ⟨i, u, rfl, e⟩ | ⟨y, u, rfl, e⟩
  ·exact nomatch e
  ·injection e with e1 _
   subst e1
   cases v <;> rfl
theorem mixKind_int (prog : Program) (w : World) (i : Int) (t : Tok) : (mixKind prog w).is (.inl i) (.int i t) = true := keyIs_int i t
theorem mixKind_str (prog : Program) (w : World) (x : Str) (t : Tok) : (mixKind prog w).is (.inr x) (.str x t) = true := keyIs_str x t
end L2
namespace L2
open PySem PySem.Spec PyProof.Rows
inductive V where
 | non | bl (b : Bool) | int (i : Int) | str (x : Str) | byt (b : Array UInt8) | flt (b : UInt64) | ref (a : Addr) | ty (n : String)
 deriving DecidableEq
noncomputable def RelV : V -> Value -> Prop
 | .non, u => u = Value.none
 | .bl b, u => u = Value.bool b
 | .int i, u => ∃ t, u = Value.int i t
 | .str x, u => ∃ t, u = Value.str x t
 | .byt b, u => ∃ t, u = Value.bytes b t
 | .flt b, u => ∃ t, u = Value.float b t
 | .ref a, u => u = Value.ref a
 | .ty n, u => u = Value.type n
noncomputable abbrev Vals : List V -> List Value -> Prop := Paired RelV
theorem Vals.length {xs : List V} {us : List Value} (r : Vals xs us) : xs.length = us.length := Paired.length r
theorem Vals.get : ∀ {xs : List V} {us : List Value} {i : Nat} {x : V}, Vals xs us -> xs[i]? = some x -> ∃ u, us[i]? = some u /\ RelV x u
 | _, _, _, _, .nil, e => by simp at e
 | _, _, 0, _, .cons r _, e => by simp at e; subst e; exact ⟨_, rfl, r⟩
 | _, _, i + 1, x, .cons _ t, e => by
  obtain ⟨u, h1, h2⟩ := Vals.get (i := i) (x := x) t (by simpa using e)
  exact ⟨u, by simpa using h1, h2⟩
theorem Vals.append : ∀ {xs ys : List V} {us ws : List Value}, Vals xs us -> Vals ys ws -> Vals (xs ++ ys) (us ++ ws)
 | _, _, _, _, .nil, s => s
 | _, _, _, _, .cons r t, s => .cons r (Vals.append t s)
noncomputable def RelO : Option V -> Option Value -> Prop
 | some v, some u => RelV v u
 | none, none => True
 | _, _ => False
noncomputable def KV {κ : Type} : List (κ × V) -> List (κ × Value) -> Prop := Paired fun (p : κ × V) (q : κ × Value) => p.1 = q.1 /\ RelV p.2 q.2
noncomputable def kV : Key -> V
 | .inl i => .int i
 | .inr x => .str x
inductive HO where
 | lst (xs : List V)
 | tup (xs : List V)
 | dK (kvs : List (Key × V)) | dT (kvs : List (List Key × V))
 | set (S : Int -> Bool) (n : Nat)
 | ins (C dx : Addr) (fs : List (Str × V))
 | own (x : Addr)
 | xd (fs : List (Str × V))
 | met (f x : Addr)
 | rng (lo hi : Int)
 | frz (o : Obj) (u : HO)
 | tbl (ps : Array Value)
 | ext (φ : Heap -> Prop)
noncomputable abbrev Hp := Addr -> Option HO
noncomputable def upd (H : Hp) (a : Addr) (o : HO) : Hp := fun b => if b = a then some o else H b
theorem upd_same {H : Hp} {a : Addr} {o : HO} : upd H a o a = some o := by unfold upd; rw [if_pos rfl]
theorem upd_ne {H : Hp} {a b : Addr} {o : HO} (h : b ≠ a) : upd H a o b = H b := by unfold upd; rw [if_neg h]
theorem ne_of {H : Hp} {a b : Addr} {o u : HO} (h : H a = some o) (h' : H b = some u) (d : o ≠ u) : a ≠ b := by
 intro e; subst e; rw [h] at h'; exact d (Option.some.inj h')
theorem ne_of_none {H : Hp} {a b : Addr} {o : HO} (h : H a = some o) (h' : H b = none) : a ≠ b := by
 intro e; subst e; rw [h] at h'; cases h'
section
variable (P : Program) (w : World)
noncomputable def ObjOk (H : Hp) (h : Heap) (a : Addr) : HO -> Prop
 | .lst xs => xs.length <= sizeLine /\ ∃ (its : List Value) (n : Nat), Vals xs its /\ h.get? a = some { cls := .type "list", data := .seq its.toArray n }
 | .tup xs => xs.length <= sizeLine /\ ∃ its : List Value, Vals xs its /\ IsTup h a its.toArray
 | .dK kvs => kvs.length <= sizeLine /\ (a == sysModules) = false /\ ∃ vs, KV kvs vs /\ h.DictOf (mixKind P w) a vs
 | .dT kvs => kvs.length <= sizeLine /\ (a == sysModules) = false /\ ∃ xs : List (List Key × Addr × Value),
   Paired (fun (p : List Key × V) (q : List Key × Addr × Value) => p.1 = q.1 /\ H q.2.1 = some (.tup (p.1.map kV)) /\ RelV p.2 q.2.2) kvs xs /\
   ∃ o es ep, h.get? a = some o /\ o.ExactDict /\ o.data = .dict es ep /\ es.toList = xs.map (entryOfKey (tupleKind (mixKind P w))) /\ (xs.map (·.1)).Nodup
 | .set S n => h.SetOf (intKind P w) a S n
 | .ins C dx fs => H dx = some (.own a) /\ fs.length <= 1000 /\ dx ≠ a /\ h.get? a = some (PySem.W.instObj C dx) /\
   ∃ mA, h.Ns1 dx mA /\ (∀ f, RelO (fs.lookup f) (mA f)) /\ PySem.Within mA (fs.map (·.1))
 | .own _ => ∃ o, h.get? a = some o
 | .xd fs => ∃ mA, h.Ns1 a mA /\ ∀ f, RelO (fs.lookup f) (mA f)
 | .rng lo hi => ∃ t u v, h.get? a = some { cls := .type "range", data := .fields #[.int lo t, .int hi u, .int 1 v] }
 | .frz o u => h.get? a = some o /\ ObjOk H h a u
 | .tbl ps => h.get? a = some { cls := .none, data := .fields ps }
 | .met f x => h.get? a = some (PySem.W.methodObj (.ref f) (.ref x))
 | .ext φ => φ h /\ (∃ o, h.get? a = some o) /\ ∀ h1 h2 : Heap, φ h1 -> (∀ o, h1.get? a = some o -> h2.get? a = some o) -> φ h2
noncomputable def HOk (H : Hp) (h : Heap) : Prop := ∀ a o, H a = some o -> ObjOk P w H h a o
end
section
variable {P : Program} {w : World} {H H' : Hp} {h h' : Heap} {a : Addr} {o : HO}
theorem ObjOk.lt (x : ObjOk P w H h a o) : a < h.objs.size := by
 cases o with
 | lst xs => obtain ⟨_, _, _, _, e⟩ := x; exact Heap.lt_size e
 | tup xs => obtain ⟨_, _, _, p⟩ := x; exact p.lt
 | dK kvs => obtain ⟨_, _, _, _, o, _, _, e, _⟩ := x; exact Heap.lt_size e
 | dT kvs => obtain ⟨_, _, _, _, o, _, _, e, _⟩ := x; exact Heap.lt_size e
 | set S n => obtain ⟨o, _, _, _, e, _⟩ := x; exact Heap.lt_size e
 | ins C dx fs => obtain ⟨_, _, _, e, _⟩ := x; exact Heap.lt_size e
 | own y => obtain ⟨_, e⟩ := x; exact Heap.lt_size e
 | xd fs => obtain ⟨_, ⟨_, _, _, e, _⟩, _⟩ := x; exact Heap.lt_size e
 | rng lo hi => obtain ⟨_, _, _, e⟩ := x; exact Heap.lt_size e
 | frz ob u => obtain ⟨e, _⟩ := x; exact Heap.lt_size e
 | tbl ps => exact Heap.lt_size (show h.get? a = some _ from x)
 | met f y => exact Heap.lt_size (show h.get? a = some _ from x)
 | ext φ => obtain ⟨_, ⟨_, e⟩, _⟩ := x; exact Heap.lt_size e
theorem Paired.mapP {α β : Type} {F G : α -> β -> Prop} : ∀ {l₁ : List α} {l₂ : List β}, Paired F l₁ l₂ -> (∀ a b, F a b -> G a b) -> Paired G l₁ l₂
 | _, _, .nil, _ => .nil
 | _, _, .cons r t, f => .cons (f _ _ r) (Paired.mapP t f)
theorem ObjOk.stay (x : ObjOk P w H h a o) (k : ∀ b u, (b = a \/ H b = some (.own a)) -> h.get? b = some u -> h'.get? b = some u)
  (ho : ∀ b, H b = some (.own a) -> H' b = some (.own a)) (ht : ∀ b xs, H b = some (.tup xs) -> H' b = some (.tup xs)) : ObjOk P w H' h' a o := by
 induction o with
 | lst xs => obtain ⟨z, its, n, r, e⟩ := x; exact ⟨z, its, n, r, k _ _ (.inl rfl) e⟩
 | tup xs => obtain ⟨z, its, r, ob, e, c⟩ := x; exact ⟨z, its, r, ob, k _ _ (.inl rfl) e, c⟩
 | dK kvs => obtain ⟨z, y, vs, r, ob, es, ep, e, c⟩ := x; exact ⟨z, y, vs, r, ob, es, ep, k _ _ (.inl rfl) e, c⟩
 | dT kvs =>
  obtain ⟨z, y, xs, r, ob, es, ep, e, c⟩ := x
  exact ⟨z, y, xs, Paired.mapP r fun p q z => ⟨z.1, ht _ _ z.2.1, z.2.2⟩, ob, es, ep, k _ _ (.inl rfl) e, c⟩
 | set S n => obtain ⟨ob, es, ep, t, e, c⟩ := x; exact ⟨ob, es, ep, t, k _ _ (.inl rfl) e, c⟩
 | ins C dx fs =>
  obtain ⟨d, z, ne, e, mA, ⟨od, es, ep, e2, c⟩, r⟩ := x
  exact ⟨ho _ d, z, ne, k _ _ (.inl rfl) e, mA, ⟨od, es, ep, k _ _ (.inr d) e2, c⟩, r⟩
 | own y => obtain ⟨ob, e⟩ := x; exact ⟨ob, k _ _ (.inl rfl) e⟩
 | xd fs => obtain ⟨mA, ⟨od, es, ep, e, c⟩, r⟩ := x; exact ⟨mA, ⟨od, es, ep, k _ _ (.inl rfl) e, c⟩, r⟩
 | rng lo hi => obtain ⟨t, u, v, e⟩ := x; exact ⟨t, u, v, k _ _ (.inl rfl) e⟩
 | frz ob u ih => obtain ⟨e, q⟩ := x; exact ⟨k _ _ (.inl rfl) e, ih q⟩
 | tbl ps =>
  have e : h.get? a = some { cls := .none, data := .fields ps } := x
  show h'.get? a = some { cls := .none, data := .fields ps }
  exact k a _ (.inl rfl) e
 | met f y =>
  have e : h.get? a = some (PySem.W.methodObj (.ref f) (.ref y)) := x
  show h'.get? a = some (PySem.W.methodObj (.ref f) (.ref y))
  exact k a _ (.inl rfl) e
 | ext φ => obtain ⟨p, ⟨o, e⟩, st⟩ := x; exact ⟨st _ _ p fun o q => k _ _ (.inl rfl) q, ⟨o, k _ _ (.inl rfl) e⟩, st⟩
theorem HOk.lt (x : HOk P w H h) (e : H a = some o) : a < h.objs.size := (x a o e).lt
theorem HOk.fresh (x : HOk P w H h) (e : h.objs.size <= a) : H a = none := by
 cases q : H a with
 | none => rfl
 | some u => exact absurd (Nat.lt_of_lt_of_le (x.lt q) e) (Nat.lt_irrefl _)
theorem HOk.kept (x : HOk P w H h) (k : ∀ b u, h.get? b = some u -> h'.get? b = some u) : HOk P w H h' := fun a o e =>
 (x a o e).stay (fun b u _ q => k b u q) (fun _ q => q) fun _ _ q => q
theorem HOk.laid (x : HOk P w H h) (k : ∀ b u, h.get? b = some u -> h'.get? b = some u) (hp : h.objs.size <= a) (new : ObjOk P w (upd H a o) h' a o) : HOk P w (upd H a o) h' := fun b u e => by
 have hn := x.fresh hp
 by_cases hb : b = a
 ·subst hb; rw [upd_same] at e; cases e; exact new
 ·rw [upd_ne hb] at e
  exact (x b u e).stay (fun c v _ q => k c v q) (fun c q => by rw [upd_ne (ne_of_none q hn)]; exact q) fun c xs q => by rw [upd_ne (ne_of_none q hn)]; exact q
end
noncomputable def Rd (H : Hp) (a : Addr) (u : HO) : Prop := H a = some u \/ ∃ o, H a = some (.frz o u)
theorem Rd.ok {P : Program} {w : World} {H : Hp} {h : Heap} {a : Addr} {u : HO} (r : Rd H a u) (x : HOk P w H h) : ObjOk P w H h a u := by
 rcases r with r | ⟨o, r⟩
 ·exact x a u r
 ·obtain ⟨_, q⟩ := x a _ r
  exact q
noncomputable def Mut : Option HO -> Prop
 | some (.lst _) => True
 | some (.dK _) => True
 | some (.dT _) => True
 | some (.set _ _) => True
 | some (.ins _ _ _) => True
 | some (.ext _) => True
 | _ => False
section
variable {P : Program} {w : World} {H : Hp} {h h' : Heap} {x e : Addr} {o' : HO}
theorem HOk.write (ok : HOk P w H h) (mu : Mut (H x)) (he : e = x \/ H e = some (.own x)) (k : ∀ b u, b ≠ e -> h.get? b = some u -> h'.get? b = some u) (heo : ∃ u, h'.get? e = some u)
  (new : ObjOk P w (upd H x o') h' x o') : HOk P w (upd H x o') h' := fun b u q => by
 have nown : ∀ c y, H c = some (.own y) -> c ≠ x := fun c y r z => by subst z; rw [r] at mu; exact mu
 have ntup : ∀ c xs, H c = some (.tup xs) -> c ≠ x := fun c xs r z => by subst z; rw [r] at mu; exact mu
 by_cases hb : b = x
 ·subst hb; rw [upd_same] at q; cases q; exact new
 ·rw [upd_ne hb] at q
  by_cases hbe : b = e
  ·have q' : H b = some (.own x) := by
    rcases he with z | z
    ·exact absurd (hbe.trans z) hb
    ·rw [hbe]; exact z
   rw [q] at q'; cases q'
   obtain ⟨v, hv⟩ := heo
   exact ⟨v, by rw [hbe]; exact hv⟩
  ·refine (ok b u q).stay (fun c v hc r => k c v ?_ r) (fun c r => by rw [upd_ne (nown c b r)]; exact r) fun c xs r => by rw [upd_ne (ntup c xs r)]; exact r
   rcases hc with rfl | hc
   ·exact hbe
   ·rintro rfl
    rcases he with z | z
    ·exact nown c b hc z
    ·rw [hc] at z; cases z; exact hb rfl
end
structure Un (fs ex : List Addr) (H H' : Hp) (h h' : Heap) : Prop where
 keep : ∀ b o, h.get? b = some o -> H b = none -> b ∉ fs -> b ∉ ex -> h'.get? b = some o
 slot : ∀ b o, h.get? b = some o -> H b = none -> b ∈ fs -> b ∉ ex -> ∃ sl, h'.get? b = some { o with slots := sl }
 free : ∀ b o, h.get? b = some o -> H b = none -> b ∉ ex -> H' b = none
 there : ∀ b o, h.get? b = some o -> b ∉ ex -> ∃ o', h'.get? b = some o'
 tups : ∀ b xs, H b = some (.tup xs) -> H' b = some (.tup xs)
 frzs : ∀ b o u, H b = some (.frz o u) -> H' b = some (.frz o u)
 tbls : ∀ b ps, H b = some (.tbl ps) -> ∃ more, H' b = some (.tbl (ps ++ more))
section
variable {fs fs' ex ex' : List Addr} {H H1 H2 : Hp} {h h1 h2 h' : Heap} {a x e : Addr} {o : HO}
theorem Un.any (u : Un fs ex H H1 h h1) {b : Addr} {ob : Obj} (q : h.get? b = some ob) (n : H b = none) (hx : b ∉ ex) : ∃ sl, h1.get? b = some { ob with slots := sl } := by
 by_cases hb : b ∈ fs
 ·exact u.slot b ob q n hb hx
 ·exact ⟨ob.slots, u.keep b ob q n hb hx⟩
theorem Un.trans (a : Un fs ex H H1 h h1) (b : Un fs ex H1 H2 h1 h2) : Un fs ex H H2 h h2 where
 keep := fun c ob q n hc hx => b.keep c ob (a.keep c ob q n hc hx) (a.free c ob q n hx) hc hx
 slot := fun c ob q n hc hx => by
  obtain ⟨sl, e1⟩ := a.slot c ob q n hc hx
  obtain ⟨sl', e2⟩ := b.slot c _ e1 (a.free c ob q n hx) hc hx
  exact ⟨sl', e2⟩
 free := fun c ob q n hx => by
  obtain ⟨o', e1⟩ := a.there c ob q hx
  exact b.free c o' e1 (a.free c ob q n hx) hx
 there := fun c ob q hx => by
  obtain ⟨o', e1⟩ := a.there c ob q hx
  exact b.there c o' e1 hx
 tups := fun c xs q => b.tups c xs (a.tups c xs q)
 frzs := fun c ob xs q => b.frzs c ob xs (a.frzs c ob xs q)
 tbls := fun c ps q => by
  obtain ⟨m1, e1⟩ := a.tbls c ps q
  obtain ⟨m2, e2⟩ := b.tbls c _ e1
  exact ⟨m1 ++ m2, by rw [e2, Array.append_assoc]⟩
theorem Un.kept (k : ∀ b u, h.get? b = some u -> h'.get? b = some u) : Un fs ex H H h h' :=
 ⟨fun b ob q _ _ _ => k b ob q, fun b ob q _ _ _ => ⟨ob.slots, k b ob q⟩, fun _ _ _ n _ => n, fun b ob q _ => ⟨ob, k b ob q⟩, fun _ _ q => q, fun _ _ _ q => q, fun _ ps q => ⟨#[], by rw [q]; simp⟩⟩
theorem Un.refl : Un fs ex H H h h := Un.kept fun _ _ q => q
theorem Un.laid (k : ∀ b u, h.get? b = some u -> h'.get? b = some u) (hp : h.objs.size <= a) (hn : H a = none) : Un fs ex H (upd H a o) h h' where
 keep := fun b u q _ _ _ => k b u q
 slot := fun b u q _ _ _ => ⟨u.slots, k b u q⟩
 free := fun b u q n _ => by rw [upd_ne (Nat.ne_of_lt (Nat.lt_of_lt_of_le (Heap.lt_size q) hp))]; exact n
 there := fun b u q _ => ⟨u, k b u q⟩
 tups := fun b xs q => by rw [upd_ne (ne_of_none q hn)]; exact q
 frzs := fun b u xs q => by rw [upd_ne (ne_of_none q hn)]; exact q
 tbls := fun b ps q => ⟨#[], by rw [upd_ne (ne_of_none q hn), q]; simp⟩
theorem Un.write (mu : Mut (H x)) (he : e = x \/ H e = some (.own x)) (k : ∀ b u, b ≠ e -> h.get? b = some u -> h'.get? b = some u) (heo : ∃ u, h'.get? e = some u) : Un fs ex H (upd H x o) h h' := by
 have hx : ∀ b, H b = none -> b ≠ x := fun b n z => by subst z; rw [n] at mu; exact mu
 have hb : ∀ b, H b = none -> b ≠ e := fun b n z => by
  subst z
  rcases he with r | r
  ·exact hx b n r
  ·rw [n] at r; cases r
 have hm : ∀ b u, H b = some u -> ¬ Mut (some u) -> b ≠ x := fun b u q nm z => by subst z; rw [q] at mu; exact nm mu
 refine ⟨fun b u q n _ _ => k b u (hb b n) q, fun b u q n _ _ => ⟨u.slots, k b u (hb b n) q⟩, fun b u q n _ => by rw [upd_ne (hx b n)]; exact n, fun b u q _ => ?_,
  fun b xs q => by rw [upd_ne (hm b _ q fun z => z)]; exact q, fun b u xs q => by rw [upd_ne (hm b _ q fun z => z)]; exact q, fun b ps q => ⟨#[], by rw [upd_ne (hm b _ q fun z => z), q]; simp⟩⟩
 by_cases hbe : b = e
 ·subst hbe; exact heo
 ·exact ⟨u, k b u hbe q⟩
end
noncomputable def trk (h : Heap) (H : Hp) : List Addr := (List.range h.objs.size).filter fun a => (H a).isSome
noncomputable def hidT (h : Heap) (H : Hp) : Heap := PySem.W.hideAll h (trk h H)
theorem hidT_size (h : Heap) (H : Hp) : (hidT h H).objs.size = h.objs.size := PySem.W.hideAll_size _ _
theorem hidT_get {h : Heap} {H : Hp} {b : Addr} {o : Obj} (e : h.get? b = some o) (n : H b = none) : (hidT h H).get? b = some o :=
 PySem.W.hideAll_get _ e fun hm => by
  have q : (H b).isSome = true := (List.mem_filter.mp hm).2
  rw [n] at q; simp at q
theorem of_hidT {h : Heap} {H : Hp} {b : Addr} {o : Obj} (e : (hidT h H).get? b = some o) : h.get? b = some o /\ H b = none := by
 have e' : h.get? b = some o := PySem.W.of_hideAll (trk h H) e
 refine ⟨e', ?_⟩
 cases q : H b with
 | none => rfl
 | some x =>
  have hm : b ∈ trk h H := List.mem_filter.mpr ⟨List.mem_range.mpr (Heap.lt_size e'), by simp [q]⟩
  have z : (hidT h H).get? b = none := PySem.W.hideAll_none (trk h H) hm
  rw [z] at e; cases e
end L2
namespace L2
open PySem PySem.Spec PyProof.Rows
structure Mod (K : PySem.W.Frag) (mg : Str -> Option Value) (base : Heap) : Prop where
 kin : K.In base
 glob : base.Ns mainGlobals mg
 blt : ∃ mb, base.Ns builtinsNs mb /\ ∀ x : Str, x ≠ "__name__" -> mb x = bootBuiltins x
 nolimit : base.NoLimit
set_option genInjectivity false in
structure Cx where
 prog : Program
 w : World
 K : PySem.W.Frag
 mg : Str -> Option Value
 base : Heap
 A : Around
 N : List Str
 s₀ : Shared
 H₀ : Hp
 env : Env
 outer : List Env
 stack : List Env
 ex : List Addr
 fn : Str -> Bool
 calm : Bool
 pn : List (Addr × Obj)
 xe : Value -> Shared -> Prop
noncomputable def frs (l : List Env) : List Addr := l.filterMap (·.frame)
noncomputable abbrev Cx.fs (X : Cx) : List Addr := frs X.outer
noncomputable def Vis (sc : Scope) (x : Str) : Prop := sc.names.lookup x = some .local \/ sc.names.lookup x = some .cell \/ sc.names.lookup x = some .free
noncomputable def Loc (sc : Scope) (x : Str) : Prop := sc.names.lookup x = some .local \/ sc.names.lookup x = some .cell
noncomputable def Look (env : Env) (h : Heap) (m : Str -> Option Value) (x : Str) (u : Value) : Prop :=
 (env.kindOf x = some .local /\ m x = some u) \/ ((env.kindOf x = some .cell \/ env.kindOf x = some .free) /\ ∃ c, env.cells.lookup x = some c /\ h.IsCell c (some u))
structure Cx.Ok (X : Cx) : Prop where
 mod : Mod X.K X.mg X.base
 kind : X.env.scope.kind = .function
 glob : X.env.globals = mainGlobals
 blt : X.env.builtins = builtinsNs
 above : X.s₀.heap.objs.size <= X.env.locals
 inj : ∀ x y c, X.env.cells.lookup x = some c -> X.env.cells.lookup y = some c -> x = y
 has : ∀ x, (X.env.kindOf x = some .cell \/ X.env.kindOf x = some .free) -> ∃ c, X.env.cells.lookup x = some c
 cab : ∀ x c, X.fn x = true -> X.env.cells.lookup x = some c -> X.s₀.heap.objs.size <= c
 hd : X.calm = true -> X.A.handled = none
 frames : X.A.frames = some X.stack
 stk : X.stack = X.outer \/ (X.stack = X.env :: X.outer /\ X.env.frame = some X.env.locals)
 exf : ∀ b ∈ X.ex, b ≠ X.env.locals /\ ∀ x c, X.env.cells.lookup x = some c -> c ≠ b
 bs : ∀ b o, X.base.get? b = some o -> X.s₀.heap.get? b = some o /\ X.H₀ b = none
 bsz : X.base.objs.size <= X.s₀.heap.objs.size
 noex : ∀ b o, X.base.get? b = some o -> b ∉ X.ex
 exfs : ∀ b ∈ X.ex, b ∉ X.fs
 funs : X.s₀.heap.FunFrames X.base X.outer
 frf : ∀ b ∈ X.fs, X.H₀ b = none
structure Inv (X : Cx) (pins : List (Addr × Obj)) (σ : List (Option V)) (H : Hp) (s : Shared) : Prop where
 ok : X.Ok
 os : s.os = X.s₀.os
 bare : AllBare s.gens
 base : Un X.fs X.ex X.H₀ H X.s₀.heap s.heap
 loc : ∃ m, s.heap.Ns X.env.locals m /\ ∀ (i : Nat) (x : Str) (v : V), X.N[i]? = some x -> σ[i]? = some (some v) -> Vis X.env.scope x -> ∃ u, RelV v u /\ Look X.env s.heap m x u
 cell : ∀ x c, X.env.cells.lookup x = some c -> ∃ v, s.heap.IsCell c v
 free : H X.env.locals = none
 freeC : ∀ x c, X.env.cells.lookup x = some c -> H c = none
 pin : ∀ p ∈ X.pn ++ pins, s.heap.get? p.1 = some p.2 /\ H p.1 = none /\ p.1 ≠ X.env.locals /\ p.1 ∉ X.fs /\ ∀ v, p.2.data ≠ .cell v
 hok : HOk X.prog X.w H s.heap
 len : σ.length = X.N.length
section
variable {X : Cx} {pins : List (Addr × Obj)} {σ : List (Option V)} {H H' : Hp} {s : Shared} {h' : Heap}
theorem Cx.Ok.nofr (ok : X.Ok) {b : Addr} {o : Obj} (e : X.base.get? b = some o) : b ∉ X.fs := fun hb => by
 have := (ok.funs.mem hb).1
 rw [e] at this; cases this
theorem Inv.bs (I : Inv X pins σ H s) : ∀ b o, X.base.get? b = some o -> s.heap.get? b = some o /\ H b = none := fun b o e =>
 ⟨I.base.keep b o (I.ok.bs b o e).1 (I.ok.bs b o e).2 (I.ok.nofr e) (I.ok.noex b o e), I.base.free b o (I.ok.bs b o e).1 (I.ok.bs b o e).2 (I.ok.noex b o e)⟩
theorem Inv.bk (I : Inv X pins σ H s) : ∀ b o, X.base.get? b = some o -> s.heap.get? b = some o := fun b o e => (I.bs b o e).1
theorem Inv.mod (I : Inv X pins σ H s) : Mod X.K X.mg X.base := I.ok.mod
theorem Inv.kIn (I : Inv X pins σ H s) : X.K.In s.heap := I.ok.mod.kin.keeps I.bk
theorem Inv.lt (I : Inv X pins σ H s) : X.env.locals < s.heap.objs.size := let ⟨_, hn, _⟩ := I.loc; hn.lt
theorem Inv.sz (I : Inv X pins σ H s) : X.s₀.heap.objs.size <= s.heap.objs.size := Nat.le_trans I.ok.above (Nat.le_of_lt I.lt)
theorem Inv.nofs (I : Inv X pins σ H s) {a : Addr} (h : s.heap.objs.size <= a) : a ∉ X.fs := fun hb => by
 obtain ⟨_, o, ho, _⟩ := I.ok.funs.mem hb
 exact absurd (Nat.lt_of_lt_of_le (Heap.lt_size ho) (Nat.le_trans I.sz h)) (Nat.lt_irrefl _)
theorem Inv.cne (I : Inv X pins σ H s) : ∀ x c, X.env.cells.lookup x = some c -> c ≠ X.env.locals := fun x c e z => by
 obtain ⟨v, o, ho, hd⟩ := I.cell x c e
 obtain ⟨m, ⟨o', es, ep, ho', hd', _⟩, _⟩ := I.loc
 rw [z, ho'] at ho; cases ho; rw [hd'] at hd; cases hd
theorem Inv.funs (I : Inv X pins σ H s) : s.heap.FunFrames X.base X.outer := by
 have all : ∀ (l : List Env), (∀ b ∈ frs l, b ∈ X.fs) -> X.s₀.heap.FunFrames X.base l -> s.heap.FunFrames X.base l := by
  intro l
  induction l with
  | nil => intro _ _; trivial
  | cons env r ih =>
   intro hs hl
   obtain ⟨hk, ⟨L, o, hf, hn, ho, hd⟩, hr⟩ := hl
   have hL : L ∈ X.fs := hs L (by unfold frs; rw [List.filterMap_cons, hf]; exact List.mem_cons_self)
   obtain ⟨sl, e⟩ := I.base.slot L o ho (I.ok.frf L hL) hL fun z => I.ok.exfs L z hL
   exact ⟨hk, ⟨L, _, hf, hn, e, hd⟩, ih (fun b hb => hs b (by unfold frs; rw [List.filterMap_cons, hf]; exact List.mem_cons_of_mem _ hb)) hr⟩
 exact all X.outer (fun _ hb => hb) I.ok.funs
theorem Inv.stack (I : Inv X pins σ H s) : s.heap.FunFrames X.base X.stack := by
 rcases I.ok.stk with e | ⟨e, hf⟩
 ·rw [e]; exact I.funs
 ·rw [e]
  obtain ⟨m, hn, _⟩ := I.loc
  refine .cons (by rw [I.ok.kind]; decide) hf hn ?_ I.funs
  exact Heap.get?_none_of_le (Nat.le_trans I.ok.bsz I.ok.above)
theorem Inv.stkSub (I : Inv X pins σ H s) : ∀ b ∈ frs X.stack, b ∈ X.env.locals :: X.fs := fun b hb => by
 rcases I.ok.stk with e | ⟨e, hf⟩
 ·rw [e] at hb; exact List.mem_cons_of_mem _ hb
 ·rw [e] at hb
  unfold frs at hb
  rw [List.filterMap_cons, hf] at hb
  exact hb
theorem Inv.stkFree (I : Inv X pins σ H s) : ∀ b ∈ frs X.stack, H b = none := fun b hb => by
 rcases List.mem_cons.mp (I.stkSub b hb) with e | hb
 ·rw [e]; exact I.free
 ·obtain ⟨_, o, ho, _⟩ := I.ok.funs.mem hb
  exact I.base.free b o ho (I.ok.frf b hb) fun z => I.ok.exfs b z hb
theorem Inv.step {g' : Array GenState} {t' : Nat} {d' : Drawn} {ch : List Addr} (I : Inv X pins σ H s)
  (hch : ∀ b ∈ ch, (b ∈ X.ex \/ X.s₀.heap.objs.size <= b) /\ b ≠ X.env.locals /\ (∀ x c, X.env.cells.lookup x = some c -> c ≠ b) /\ ∀ p ∈ X.pn ++ pins, p.1 ≠ b)
  (keep : ∀ b o, b ≠ X.env.locals -> b ∉ X.fs -> b ∉ ch -> s.heap.get? b = some o -> H b = none -> h'.get? b = some o)
  (slot : ∀ b o, b ≠ X.env.locals -> b ∈ X.fs -> b ∉ ch -> s.heap.get? b = some o -> H b = none -> ∃ sl, h'.get? b = some { o with slots := sl }) (free : ∀ b o, b ∉ ch -> s.heap.get? b = some o -> H b = none -> H' b = none)
  (there : ∀ b o, b ∉ ch -> s.heap.get? b = some o -> ∃ o', h'.get? b = some o')
  (tups : ∀ b xs, H b = some (.tup xs) -> H' b = some (.tup xs)) (frzs : ∀ b o u, H b = some (.frz o u) -> H' b = some (.frz o u)) (tbls : ∀ b ps, H b = some (.tbl ps) -> ∃ more, H' b = some (.tbl (ps ++ more)))
  (ns : ∀ m, s.heap.Ns X.env.locals m -> h'.Ns X.env.locals m) (hok : HOk X.prog X.w H' h') (hg : AllBare g') :
  Inv X pins σ H' { s with heap := h', gens := g', drawn := d', toks := t' } := by
 have neL : ∀ b o, X.s₀.heap.get? b = some o -> b ≠ X.env.locals := fun b o e => Nat.ne_of_lt (Nat.lt_of_lt_of_le (Heap.lt_size e) I.ok.above)
 have neC : ∀ b o, X.s₀.heap.get? b = some o -> b ∉ X.ex -> b ∉ ch := fun b o e hx hb => by
  rcases (hch b hb).1 with z | z
  ·exact hx z
  ·exact absurd (Nat.lt_of_lt_of_le (Heap.lt_size e) z) (Nat.lt_irrefl _)
 have cellK : ∀ x c, X.env.cells.lookup x = some c -> ∀ v, s.heap.IsCell c v -> h'.IsCell c v := fun x c e v ⟨o, ho, hd⟩ => by
  have nch : c ∉ ch := fun z => (hch c z).2.2.1 x c e rfl
  by_cases hc : c ∈ X.fs
  ·obtain ⟨sl, q⟩ := slot c o (I.cne x c e) hc nch ho (I.freeC x c e)
   exact ⟨_, q, hd⟩
  ·exact ⟨o, keep c o (I.cne x c e) hc nch ho (I.freeC x c e), hd⟩
 refine ⟨I.ok, I.os, hg, ⟨fun b o e n hb hx => ?_, fun b o e n hb hx => ?_, fun b o e n hx => ?_, fun b o e hx => ?_, fun b xs e => tups b xs (I.base.tups b xs e), fun b o xs e => frzs b o xs (I.base.frzs b o xs e), fun b ps e => ?_⟩, ?_, fun x c e => ?_, ?_, fun x c e => ?_, fun p hp => ?_, hok, I.len⟩
 ·exact keep b o (neL b o e) hb (neC b o e hx) (I.base.keep b o e n hb hx) (I.base.free b o e n hx)
 ·obtain ⟨sl, e1⟩ := I.base.slot b o e n hb hx
  obtain ⟨sl', e2⟩ := slot b _ (neL b o e) hb (neC b o e hx) e1 (I.base.free b o e n hx)
  exact ⟨sl', e2⟩
 ·obtain ⟨o', e1⟩ := I.base.there b o e hx
  exact free b o' (neC b o e hx) e1 (I.base.free b o e n hx)
 ·obtain ⟨o', e1⟩ := I.base.there b o e hx
  exact there b o' (neC b o e hx) e1
 ·obtain ⟨m1, e1⟩ := I.base.tbls b ps e
  obtain ⟨m2, e2⟩ := tbls b _ e1
  exact ⟨m1 ++ m2, by rw [e2, Array.append_assoc]⟩
 ·obtain ⟨m, hn, hl⟩ := I.loc
  refine ⟨m, ns m hn, fun i x v e1 e2 e3 => ?_⟩
  obtain ⟨u, r, l⟩ := hl i x v e1 e2 e3
  refine ⟨u, r, ?_⟩
  rcases l with l | ⟨k, c, e, z⟩
  ·exact .inl l
  ·exact .inr ⟨k, c, e, cellK x c e _ z⟩
 ·obtain ⟨v, z⟩ := I.cell x c e
  exact ⟨v, cellK x c e v z⟩
 ·obtain ⟨m, ⟨o, _, _, ho, _⟩, _⟩ := I.loc
  exact free _ o (fun z => (hch _ z).2.1 rfl) ho I.free
 ·obtain ⟨v, o, ho, hd⟩ := I.cell x c e
  exact free c o (fun z => (hch c z).2.2.1 x c e rfl) ho (I.freeC x c e)
 ·obtain ⟨e, n, ne, nf, d⟩ := I.pin p hp
  have nch : p.1 ∉ ch := fun z => (hch p.1 z).2.2.2 p hp rfl
  exact ⟨keep p.1 p.2 ne nf nch e n, free p.1 p.2 nch e n, ne, nf, d⟩
theorem Inv.un {t' : Nat} (I : Inv X pins σ H s) (u : Un X.fs [] H H' s.heap h') (hok : HOk X.prog X.w H' h') : Inv X pins σ H' { s with heap := h', toks := t' } := by
 obtain ⟨m, ⟨o, es, ep, ho, r⟩, _⟩ := id I.loc
 obtain ⟨sl, hL⟩ := u.any ho I.free (by simp)
 exact I.step (g' := s.gens) (d' := s.drawn) (ch := []) (fun _ z => nomatch z) (fun b o _ hb _ e n => u.keep b o e n hb (by simp)) (fun b o _ hb _ e n => u.slot b o e n hb (by simp)) (fun b o _ e n => u.free b o e n (by simp)) (fun b o _ e => u.there b o e (by simp)) u.tups u.frzs u.tbls (fun m' hm => by
  obtain ⟨o', es', ep', ho', r'⟩ := hm
  rw [ho] at ho'; cases ho'
  exact ⟨_, es', ep', hL, r'⟩) hok I.bare
theorem Inv.call {g' : Array GenState} {t' : Nat} {d' : Drawn} {ch : List Addr} (I : Inv X pins σ H s) (u : Un (frs X.stack) ch H H' s.heap h') (hok : HOk X.prog X.w H' h') (hg : AllBare g')
  (hch : ∀ b ∈ ch, (b ∈ X.ex \/ X.s₀.heap.objs.size <= b) /\ b ≠ X.env.locals /\ (∀ x c, X.env.cells.lookup x = some c -> c ≠ b) /\ ∀ p ∈ X.pn ++ pins, p.1 ≠ b) :
  Inv X pins σ H' { s with heap := h', gens := g', drawn := d', toks := t' } := by
 obtain ⟨m, ⟨o, es, ep, ho, r⟩, _⟩ := id I.loc
 obtain ⟨sl, hL⟩ := u.any ho I.free fun z => (hch _ z).2.1 rfl
 exact I.step (ch := ch) hch (fun b o hL hb hc e n => u.keep b o e n (fun z => (List.mem_cons.mp (I.stkSub b z)).elim hL hb) hc) (fun b o _ _ hc e n => u.any e n hc) (fun b o hc e n => u.free b o e n hc) (fun b o hc e => u.there b o e hc) u.tups u.frzs u.tbls (fun m' hm => by
  obtain ⟨o', es', ep', ho', r'⟩ := hm
  rw [ho] at ho'; cases ho'
  exact ⟨_, es', ep', hL, r'⟩) hok hg
theorem Inv.turned {t' : Nat} {it : Addr} (I : Inv X pins σ H s) (k : ∀ b o, b ≠ it -> s.heap.get? b = some o -> h'.get? b = some o) (hn : H it = none) (hL : it ≠ X.env.locals)
  (h1 : it ∈ X.ex \/ X.s₀.heap.objs.size <= it) (h2 : ∀ x c, X.env.cells.lookup x = some c -> c ≠ it) (h3 : ∀ p ∈ X.pn ++ pins, p.1 ≠ it) : Inv X pins σ H { s with heap := h', toks := t' } := by
 have nit : ∀ b u, H b = some u -> b ≠ it := fun b u e z => by rw [z, hn] at e; cases e
 refine I.step (g' := s.gens) (d' := s.drawn) (ch := [it]) (fun b hb => ?_) (fun b o _ _ hc e _ => k b o (fun z => hc (by simp [z])) e) (fun b o _ _ hc e _ => ⟨o.slots, k b o (fun z => hc (by simp [z])) e⟩) (fun _ _ _ _ n => n)
  (fun b o hc e => ⟨o, k b o (fun z => hc (by simp [z])) e⟩) (fun _ _ e => e) (fun _ _ _ e => e) (fun b ps e => ⟨#[], by rw [e]; simp⟩) (fun m hm => ?_) (fun b u e => ?_) I.bare
 ·have e : b = it := by simpa using hb
  subst e
  exact ⟨h1, hL, h2, h3⟩
 ·obtain ⟨o, es, ep, ho, r⟩ := hm
  exact ⟨o, es, ep, k _ o (Ne.symm hL) ho, r⟩
 ·refine (I.hok b u e).stay (fun c v hc q => k c v ?_ q) (fun _ q => q) fun _ _ q => q
  rcases hc with z | z
  ·rw [z]; exact nit b u e
  ·exact nit c _ z
theorem Inv.tok (I : Inv X pins σ H s) (t : Nat) : Inv X pins σ H { s with toks := t } := I.un (h' := s.heap) (t' := t) Un.refl I.hok
theorem Inv.kept {t' : Nat} (I : Inv X pins σ H s) (k : ∀ b u, s.heap.get? b = some u -> h'.get? b = some u) : Inv X pins σ H { s with heap := h', toks := t' } := I.un (Un.kept k) (I.hok.kept k)
theorem Inv.laid {a : Addr} {o : HO} {t' : Nat} (I : Inv X pins σ H s) (k : ∀ b u, s.heap.get? b = some u -> h'.get? b = some u) (hp : s.heap.objs.size <= a) (new : ObjOk X.prog X.w (upd H a o) h' a o) :
  Inv X pins σ (upd H a o) { s with heap := h', toks := t' } := I.un (Un.laid k hp (I.hok.fresh hp)) (I.hok.laid k hp new)
theorem Inv.write {x e : Addr} {o : HO} {t' : Nat} (I : Inv X pins σ H s) (mu : Mut (H x)) (he : e = x \/ H e = some (.own x)) (k : ∀ b u, b ≠ e -> s.heap.get? b = some u -> h'.get? b = some u) (heo : ∃ u, h'.get? e = some u)
  (new : ObjOk X.prog X.w (upd H x o) h' x o) : Inv X pins σ (upd H x o) { s with heap := h', toks := t' } := I.un (Un.write mu he k heo) (I.hok.write mu he k heo new)
theorem Inv.pins_of {pins' : List (Addr × Obj)} (I : Inv X pins σ H s) (h : ∀ p ∈ pins', s.heap.get? p.1 = some p.2 /\ H p.1 = none /\ p.1 ≠ X.env.locals /\ p.1 ∉ X.fs /\ ∀ v, p.2.data ≠ .cell v) : Inv X pins' σ H s :=
 ⟨I.ok, I.os, I.bare, I.base, I.loc, I.cell, I.free, I.freeC, fun p hp => (List.mem_append.mp hp).elim (fun z => I.pin p (List.mem_append_left _ z)) (h p), I.hok, I.len⟩
theorem nodup_ix {N : List Str} (hN : N.Nodup) {i j : Nat} {x : Str} (a : N[i]? = some x) (b : N[j]? = some x) : i = j := by
 obtain ⟨h1, e1⟩ := List.getElem?_eq_some_iff.mp a
 obtain ⟨h2, e2⟩ := List.getElem?_eq_some_iff.mp b
 exact (List.getElem_inj hN).mp (e1.trans e2.symm)
theorem store_ok2 {M : Model} {A : Around} {E : Value -> Shared -> Prop} {i : Nat} {x : Str} {v : V} {u : Value} {Q : Unit -> Shared -> Prop} (I : Inv X pins σ H s) (hN : X.N.Nodup) (hi : X.N[i]? = some x) (hx : Loc X.env.scope x) (r : RelV v u)
  (h : ∀ s', Inv X pins (σ.set i (some v)) H s' -> (∃ a, Heap.SameBut a s.heap s'.heap /\ (a = X.env.locals \/ X.env.cells.lookup x = some a)) -> Q () s') (hf : X.fn x = true \/ X.env.scope.names.lookup x = some .local := by first | exact .inl rfl | exact .inr rfl | assumption) : wpAny M A (storeName X.env x u) Q E s := by
 obtain ⟨m, hn, hl⟩ := id I.loc
 have hcls : (X.env.scope.kind == .class || (X.env.scope.kind == .module && X.env.locals != X.env.globals)) = false := by rw [I.ok.kind]; rfl
 have hiσ : i < σ.length := by rw [I.len]; exact (List.getElem?_eq_some_iff.mp hi).1
 have cne := I.cne
 have tracked : ∀ {a : Addr} {h' : Heap}, (∃ o, s.heap.get? a = some o /\ H a = none) -> Heap.SameBut a s.heap h' -> HOk X.prog X.w H h' := fun {a h'} ha hs b ob e => by
  obtain ⟨_, _, hfree⟩ := ha
  refine (I.hok b ob e).stay (fun c w' hc q => (hs.2 c ?_).trans q) (fun _ q => q) fun _ _ q => q
  rintro rfl
  rcases hc with rfl | hc
  ·rw [hfree] at e; cases e
  ·rw [hfree] at hc; cases hc
 rcases hx with hk | hk
 ·refine wpAny_storeName_local hk hn (fun h' hn' hs => ?_) hcls
  obtain ⟨oL, _, _, hoL, _⟩ := id hn
  refine h _ ⟨I.ok, I.os, I.bare, ⟨fun b o e n hb hx => ?_, fun b o e n hb hx => ?_, I.base.free, fun b o e hx => ?_, I.base.tups, I.base.frzs, I.base.tbls⟩, ⟨_, hn', fun j y v' e1 e2 e3 => ?_⟩, fun y c e => ?_, I.free, I.freeC, fun p hp => ?_, tracked ⟨oL, hoL, I.free⟩ hs, by simpa using I.len⟩ ⟨_, hs, .inl rfl⟩
  ·exact (hs.2 b (Nat.ne_of_lt (Nat.lt_of_lt_of_le (Heap.lt_size e) I.ok.above))).trans (I.base.keep b o e n hb hx)
  ·obtain ⟨sl, e1⟩ := I.base.slot b o e n hb hx
   exact ⟨sl, (hs.2 b (Nat.ne_of_lt (Nat.lt_of_lt_of_le (Heap.lt_size e) I.ok.above))).trans e1⟩
  ·obtain ⟨o', e1⟩ := I.base.there b o e hx
   exact ⟨o', (hs.2 b (Nat.ne_of_lt (Nat.lt_of_lt_of_le (Heap.lt_size e) I.ok.above))).trans e1⟩
  ·by_cases hj : j = i
   ·subst hj
    rw [hi] at e1; cases e1
    rw [List.getElem?_set_self hiσ] at e2
    cases e2
    exact ⟨u, r, .inl ⟨hk, by simp⟩⟩
   ·rw [List.getElem?_set_ne (Ne.symm hj)] at e2
    obtain ⟨u', r', q⟩ := hl j y v' e1 e2 e3
    refine ⟨u', r', ?_⟩
    rcases q with ⟨k, e⟩ | ⟨k, c, e, z⟩
    ·refine .inl ⟨k, ?_⟩
     have : y ≠ x := fun e => hj (nodup_ix hN e1 (e ▸ hi))
     simp [this, e]
    ·exact .inr ⟨k, c, e, z.sameBut hs (cne y c e)⟩
  ·obtain ⟨w', z⟩ := I.cell y c e
   exact ⟨w', z.sameBut hs (cne y c e)⟩
  ·obtain ⟨e, n, ne, nf, d⟩ := I.pin p hp
   exact ⟨(hs.2 p.1 ne).trans e, n, ne, nf, d⟩
 ·have hfn : X.fn x = true := by
   rcases hf with z | z
   ·exact z
   ·rw [z] at hk; cases hk
  obtain ⟨c, hc⟩ := I.ok.has x (.inl hk)
  obtain ⟨w', z⟩ := I.cell x c hc
  refine wpAny_storeName_cell I.ok.kind hk hc z (fun h' hc' hs => ?_)
  obtain ⟨oc, hoc, hocd⟩ := id z
  refine h { s with heap := h' } ⟨I.ok, I.os, I.bare, ⟨fun b o e n hb hx => ?_, fun b o e n hb hx => ?_, I.base.free, fun b o e hx => ?_, I.base.tups, I.base.frzs, I.base.tbls⟩, ⟨m, hn.sameBut hs (Ne.symm (cne x c hc)), fun j y v' e1 e2 e3 => ?_⟩, fun y c' e => ?_, I.free, I.freeC, fun p hp => ?_, tracked ⟨oc, hoc, I.freeC x c hc⟩ hs, by simpa using I.len⟩ ⟨c, hs, .inr hc⟩
  ·exact (hs.2 b (Nat.ne_of_lt (Nat.lt_of_lt_of_le (Heap.lt_size e) (I.ok.cab x c hfn hc)))).trans (I.base.keep b o e n hb hx)
  ·obtain ⟨sl, e1⟩ := I.base.slot b o e n hb hx
   exact ⟨sl, (hs.2 b (Nat.ne_of_lt (Nat.lt_of_lt_of_le (Heap.lt_size e) (I.ok.cab x c hfn hc)))).trans e1⟩
  ·obtain ⟨o', e1⟩ := I.base.there b o e hx
   exact ⟨o', (hs.2 b (Nat.ne_of_lt (Nat.lt_of_lt_of_le (Heap.lt_size e) (I.ok.cab x c hfn hc)))).trans e1⟩
  ·by_cases hj : j = i
   ·subst hj
    rw [hi] at e1; cases e1
    rw [List.getElem?_set_self hiσ] at e2
    cases e2
    exact ⟨u, r, .inr ⟨.inl hk, c, hc, hc'⟩⟩
   ·rw [List.getElem?_set_ne (Ne.symm hj)] at e2
    obtain ⟨u', r', q⟩ := hl j y v' e1 e2 e3
    refine ⟨u', r', ?_⟩
    rcases q with q | ⟨k, c', e, z'⟩
    ·exact .inl q
    ·refine .inr ⟨k, c', e, z'.sameBut hs ?_⟩
     rintro rfl
     exact hj (nodup_ix hN e1 (I.ok.inj _ _ _ e hc ▸ hi))
  ·by_cases hcc : c' = c
   ·subst hcc; exact ⟨_, hc'⟩
   ·obtain ⟨w2, z2⟩ := I.cell y c' e
    exact ⟨w2, z2.sameBut hs hcc⟩
  ·obtain ⟨e, n, ne, nf, d⟩ := I.pin p hp
   refine ⟨(hs.2 p.1 ?_).trans e, n, ne, nf, d⟩
   intro q
   rw [q, hoc] at e
   have q' : oc = p.2 := Option.some.inj e
   exact d w' (by rw [<- q']; exact hocd)
theorem store_ok {M : Model} {A : Around} {E : Value -> Shared -> Prop} {i : Nat} {x : Str} {v : V} {u : Value} {Q : Unit -> Shared -> Prop} (I : Inv X pins σ H s) (hN : X.N.Nodup) (hi : X.N[i]? = some x) (hx : Loc X.env.scope x) (r : RelV v u)
  (h : ∀ s', Inv X pins (σ.set i (some v)) H s' -> Q () s') (hf : X.fn x = true \/ X.env.scope.names.lookup x = some .local := by first | exact .inl rfl | exact .inr rfl | assumption) : wpAny M A (storeName X.env x u) Q E s :=
 store_ok2 I hN hi hx r (fun s' I' _ => h s' I') hf
theorem Inv.call' {s' : Shared} {ch : List Addr} (I : Inv X pins σ H s) (ho : s'.os = s.os) (u : Un (frs X.stack) ch H H' s.heap s'.heap) (hok : HOk X.prog X.w H' s'.heap) (hg : AllBare s'.gens)
  (hch : ∀ b ∈ ch, (b ∈ X.ex \/ X.s₀.heap.objs.size <= b) /\ b ≠ X.env.locals /\ (∀ x c, X.env.cells.lookup x = some c -> c ≠ b) /\ ∀ p ∈ X.pn ++ pins, p.1 ≠ b) : Inv X pins σ H' s' := by
 obtain ⟨h', g', d', t', o'⟩ := s'
 have e : o' = s.os := ho
 subst e
 exact I.call (g' := g') (t' := t') (d' := d') u hok hg hch
end
noncomputable abbrev XK := Value -> Option Addr -> Hp -> Prop
noncomputable abbrev St := List (Option V)
noncomputable abbrev VK := V -> Hp -> Prop
noncomputable abbrev TE := St -> Hp -> VK -> Prop
noncomputable abbrev TT := St -> Hp -> (Bool -> Hp -> Prop) -> Prop
noncomputable abbrev TA := St -> Hp -> (List V -> Hp -> Prop) -> Prop
set_option genInjectivity false in
structure Ends where
 nx : St -> Hp -> Prop
 rt : VK
 bk : St -> Hp -> Prop := fun _ _ => False
 ct : St -> Hp -> Prop := fun _ _ => False
noncomputable abbrev TS := Ends -> St -> Hp -> Prop
noncomputable def EP (X : Cx) (pins : List (Addr × Obj)) (σ : St) (Q : VK) (u : Value) (s' : Shared) : Prop := ∃ v H', Inv X pins σ H' s' /\ RelV v u /\ Q v H'
noncomputable def TP (X : Cx) (pins : List (Addr × Obj)) (σ : St) (Q : Bool -> Hp -> Prop) (b : Bool) (s' : Shared) : Prop := ∃ H', Inv X pins σ H' s' /\ Q b H'
noncomputable def AP (X : Cx) (pins : List (Addr × Obj)) (σ : St) (Q : List V -> Hp -> Prop) (us : List Value) (s' : Shared) : Prop := ∃ vs H', Inv X pins σ H' s' /\ Vals vs us /\ Q vs H'
noncomputable def SP (X : Cx) (pins : List (Addr × Obj)) (D : Ends) (f : Flow) (s' : Shared) : Prop :=
 match f with
 | .next => ∃ σ' H', Inv X pins σ' H' s' /\ D.nx σ' H'
 | .brk => ∃ σ' H', Inv X pins σ' H' s' /\ D.bk σ' H'
 | .cont => ∃ σ' H', Inv X pins σ' H' s' /\ D.ct σ' H'
 | .ret u => ∃ v σ' H', Inv X pins σ' H' s' /\ RelV v u /\ D.rt v H'
noncomputable def PE (X : Cx) (e : Expr) (t : TE) : Prop :=
 ∀ (pins : List (Addr × Obj)) (s : Shared) (σ : St) (H : Hp) (Q : VK), Inv X pins σ H s -> t σ H Q -> wpAny (model X.prog X.w) X.A (eval e X.env) (EP X pins σ Q) X.xe s
noncomputable def PT (X : Cx) (e : Expr) (t : TT) : Prop :=
 ∀ (pins : List (Addr × Obj)) (s : Shared) (σ : St) (H : Hp) (Q : Bool -> Hp -> Prop), Inv X pins σ H s -> t σ H Q -> wpAny (model X.prog X.w) X.A (isTrue e X.env (eval e X.env)) (TP X pins σ Q) X.xe s
noncomputable def PW (X : Cx) (e : Expr) (t : TT) : Prop :=
 ∀ (whole : Sem Value) (pins : List (Addr × Obj)) (s : Shared) (σ : St) (H : Hp) (Q : Bool -> Hp -> Prop), Inv X pins σ H s -> t σ H Q -> wpAny (model X.prog X.w) X.A (isTrue e X.env whole) (TP X pins σ Q) X.xe s
theorem PW.pt {X : Cx} {e : Expr} {t : TT} (h : PW X e t) : PT X e t := h _
noncomputable def PA (X : Cx) (es : List Expr) (t : TA) : Prop :=
 ∀ (pos : Pos) (pins : List (Addr × Obj)) (s : Shared) (σ : St) (H : Hp) (Q : List V -> Hp -> Prop), Inv X pins σ H s -> t σ H Q -> wpAny (model X.prog X.w) X.A (spliced (backTo pos (starEach es X.env))) (AP X pins σ Q) X.xe s
noncomputable def PS (X : Cx) (st : Stmt) (t : TS) : Prop :=
 ∀ (pins : List (Addr × Obj)) (s : Shared) (σ : St) (H : Hp) (D : Ends), Inv X pins σ H s -> t D σ H -> wpAny (model X.prog X.w) X.A (exec st X.env) (SP X pins D) X.xe s
noncomputable def PSs (X : Cx) (st : List Stmt) (t : TS) : Prop :=
 ∀ (pins : List (Addr × Obj)) (s : Shared) (σ : St) (H : Hp) (D : Ends), Inv X pins σ H s -> t D σ H -> wpAny (model X.prog X.w) X.A (execs st X.env) (SP X pins D) X.xe s
theorem thn {α : Type} {t : Sem α} {Q Q' : α -> Shared -> Prop} {M : Model} {A : Around} {E : Value -> Shared -> Prop} {s : Shared} (h : wpAny M A t Q E s) (hQ : ∀ a s, Q a s -> Q' a s) : wpAny M A t Q' E s := wpAny_mono h hQ fun _ _ x => x
end L2
namespace L2
open PySem PySem.Spec PyProof.Rows
section
variable {X : Cx}
noncomputable def tVar (i : Nat) : TE := fun σ H Q => ∃ v, σ[i]? = some (some v) /\ Q v H
noncomputable def tC (v : V) : TE := fun _ H Q => Q v H
theorem pe_var {i : Nat} {x : Str} {pos : Pos} (hN : X.N[i]? = some x) (hv : Vis X.env.scope x) (hd : (x == ("__debug__" : Str)) = false := by decide) (hcd : (x == ("__classdict__" : Str)) = false := by decide) : PE X (.Name x pos) (tVar i) := by
 intro pins s σ H Q I h
 obtain ⟨v, e, h⟩ := h
 obtain ⟨m, hn, hl⟩ := I.loc
 obtain ⟨u, r, l⟩ := hl i x v hN e hv
 have fin : EP X pins σ Q u s := ⟨v, H, I, r, h⟩
 rcases l with ⟨hk, hm⟩ | ⟨hk, c, hc, hcell⟩
 ·exact wpAny_Name (wpAny_loadName_local I.ok.kind hk hn hm fin) hd
 ·rcases hk with hk | hk
  ·exact wpAny_Name (wpAny_loadName_cell I.ok.kind hk hc hcell fin) hd
  ·exact wpAny_Name (wpAny_loadName_free I.ok.kind hk hc hcell fin hcd) hd
theorem pe_int {i j pos} : PE X (.Constant (.int i) j pos) (tC (.int i)) := fun _ _ _ H _ I h => wpAny_Constant_int ⟨.int i, H, I.tok _, ⟨_, rfl⟩, h⟩
theorem pe_bl {b j pos} : PE X (.Constant (.bool b) j pos) (tC (.bl b)) := fun _ _ _ H _ I h => Constant_bool ⟨.bl b, H, I, rfl, h⟩
theorem pe_str {x j pos} : PE X (.Constant (.str x) j pos) (tC (.str x)) := fun _ _ _ H _ I h => Calls.Constant_str ⟨.str x, H, I.tok _, ⟨_, rfl⟩, h⟩
noncomputable def Gl (X : Cx) (x : Str) : Prop := X.env.kindOf x = some .globalImplicit
theorem ld_glob {E : Value -> Shared -> Prop} {pins : List (Addr × Obj)} {s : Shared} {σ : St} {H : Hp} {x : Str} {u : Value} {pos : Pos} {Q : Value -> Shared -> Prop} (I : Inv X pins σ H s) (hg : Gl X x) (hm : X.mg x = some u) (h : Q u s)
  (hd : (x == ("__debug__" : Str)) = false := by decide) : wpAny (model X.prog X.w) X.A (eval (.Name x pos) X.env) Q E s :=
 Calls.Name_function_global I.ok.kind hg (Calls.loadGlobal_global (by rw [I.ok.glob]; exact I.mod.glob.keeps I.bk) hm h) hd
theorem ld_blt {E : Value -> Shared -> Prop} {pins : List (Addr × Obj)} {s : Shared} {σ : St} {H : Hp} {x : Str} {u : Value} {pos : Pos} {Q : Value -> Shared -> Prop} (I : Inv X pins σ H s) (hg : Gl X x) (hm : X.mg x = none) (hv : bootBuiltins x = some u) (h : Q u s)
  (hn : x ≠ "__name__" := by decide) (hd : (x == ("__debug__" : Str)) = false := by decide) : wpAny (model X.prog X.w) X.A (eval (.Name x pos) X.env) Q E s := by
 obtain ⟨mb, h1, h2⟩ := I.mod.blt
 exact Calls.Name_function_global I.ok.kind hg (Calls.loadGlobal_builtin (by rw [I.ok.glob]; exact I.mod.glob.keeps I.bk) hm (by rw [I.ok.blt]; exact h1.keeps I.bk) ((h2 x hn).trans hv) h) hd
theorem pe_glob {x : Str} {v : V} {u : Value} {pos : Pos} (hg : Gl X x) (hm : X.mg x = some u) (r : RelV v u) (hd : (x == ("__debug__" : Str)) = false := by decide) : PE X (.Name x pos) (tC v) :=
 fun _ _ _ H _ I h => ld_glob I hg hm ⟨v, H, I, r, h⟩ hd
theorem pe_bltn {x : Str} {v : V} {u : Value} {pos : Pos} (hg : Gl X x) (hm : X.mg x = none) (hv : bootBuiltins x = some u) (r : RelV v u) (hn : x ≠ "__name__" := by decide) (hd : (x == ("__debug__" : Str)) = false := by decide) : PE X (.Name x pos) (tC v) :=
 fun _ _ _ H _ I h => ld_blt I hg hm hv ⟨v, H, I, r, h⟩ hn hd
variable {a b : Expr} {ta tb : TE} {pos : Pos}
noncomputable def PC (X : Cx) (op : CmpOp) (a b : Expr) (t : TE) : Prop :=
 ∀ (pins : List (Addr × Obj)) (s : Shared) (σ : St) (H : Hp) (Q : VK), Inv X pins σ H s -> t σ H Q ->
  wpAny (model X.prog X.w) X.A (eval a X.env) (fun v s₁ => wpAny (model X.prog X.w) X.A (eval b X.env) (fun u s₂ => wpAny (model X.prog X.w) X.A (compareOp op v u) (EP X pins σ Q) X.xe s₂) X.xe s₁) X.xe s
noncomputable def tB (t : TE) : TT := fun σ H Q => t σ H fun x H1 => ∃ c, x = .bl c /\ Q c H1
theorem pt_cmp {op : CmpOp} {t : TE} (h : PC X op a b t) (h1 : behindInMarks op b = false := by first | exact nobehind _ (by decide) (by decide) | rfl) : PT X (.Compare a [op] [b] pos) (tB t) := by
 intro pins s σ H Q I hw
 refine wpAny_isTrue_Compare1 (thn (h pins s σ H _ I hw) fun v s1 h1 => thn h1 fun u s2 h2 => thn h2 fun c s3 ⟨x, H1, I1, r1, q1⟩ => ?_) h1
 obtain ⟨d, rfl, q⟩ := q1
 cases r1
 exact wpAny_truthy_bool ⟨H1, I1, q⟩
theorem pt_val {e : Expr} {t : TE} (h : PE X e t) (he : ∀ whole, isTrue e X.env whole = (do let v <- whole; standAt e.pos; holding [v] (truthy v)) := by intro _; rfl) : PT X e (tB t) := by
 intro pins s σ H Q I hw
 refine isTrue_plain (thn (h pins s σ H _ I hw) fun v s1 ⟨x, H1, I1, r1, q1⟩ => ?_) (he _)
 obtain ⟨d, rfl, q⟩ := q1
 cases r1
 exact wpAny_truthy_bool ⟨H1, I1, q⟩
variable {tA tB' : TT} {rest : List Expr}
noncomputable def tAnd (t u : TT) : TT := fun σ H Q => t σ H fun c H1 => if c = true then u σ H1 Q else Q false H1
noncomputable def tOr (t u : TT) : TT := fun σ H Q => t σ H fun c H1 => if c = true then Q true H1 else u σ H1 Q
noncomputable def tNot (t : TT) : TT := fun σ H Q => t σ H fun c H1 => Q (!c) H1
theorem pw_and1 (ha : PT X a tA) : PW X (.BoolOp .And [a] pos) tA := by
 intro wh pins s σ H Q I h
 refine isTrue_and (thn (ha pins s σ H Q I h) fun c s1 e => ?_)
 cases c with
 | true => exact isTrue_and_nil e
 | false => exact e
theorem pw_or1 (ha : PT X a tA) : PW X (.BoolOp .Or [a] pos) tA := by
 intro wh pins s σ H Q I h
 refine isTrue_or (thn (ha pins s σ H Q I h) fun c s1 e => ?_)
 cases c with
 | false => exact isTrue_or_nil e
 | true => exact e
theorem pw_and (ha : PT X a tA) (hb : PW X (.BoolOp .And (b :: rest) pos) tB') : PW X (.BoolOp .And (a :: b :: rest) pos) (tAnd tA tB') := by
 intro wh pins s σ H Q I h
 refine isTrue_and (thn (ha pins s σ H _ I h) fun c s1 ⟨H1, I1, q1⟩ => ?_)
 cases c with
 | true => exact hb wh pins s1 σ H1 Q I1 q1
 | false => exact ⟨H1, I1, q1⟩
theorem pw_or (ha : PT X a tA) (hb : PW X (.BoolOp .Or (b :: rest) pos) tB') : PW X (.BoolOp .Or (a :: b :: rest) pos) (tOr tA tB') := by
 intro wh pins s σ H Q I h
 refine isTrue_or (thn (ha pins s σ H _ I h) fun c s1 ⟨H1, I1, q1⟩ => ?_)
 cases c with
 | true => exact ⟨H1, I1, q1⟩
 | false => exact hb wh pins s1 σ H1 Q I1 q1
theorem pt_not (ha : PT X a tA) : PT X (.UnaryOp .Not a pos) (tNot tA) := by
 intro pins s σ H Q I h
 exact isTrue_not (ha pins s σ H (fun c H1 => Q (!c) H1) I h)
noncomputable def tAndV (ta tb : TE) : TE := fun σ H Q => ta σ H fun x H1 => ∃ c, x = .bl c /\ if c = true then tb σ H1 Q else Q (.bl false) H1
noncomputable def tNotV (ta : TE) : TE := fun σ H Q => ta σ H fun x H1 => ∃ c, x = .bl c /\ Q (.bl (!c)) H1
theorem pe_one {op} {t : TE} (h : PE X a t) : PE X (.BoolOp op [a] pos) t := fun pins s σ H Q I hw => BoolOp_one (h pins s σ H Q I hw)
theorem pe_and (ha : PE X a ta) (hb : PE X (.BoolOp .And (b :: rest) pos) tb) : PE X (.BoolOp .And (a :: b :: rest) pos) (tAndV ta tb) := by
 intro pins s σ H Q I h
 refine BoolOp_and (thn (ha pins s σ H _ I h) fun v s1 ⟨x, H1, I1, r1, q1⟩ => ?_)
 obtain ⟨c, rfl, q1⟩ := q1
 cases r1
 refine wpAny_truthy_bool ?_
 cases c with
 | true => exact hb pins s1 σ H1 Q I1 q1
 | false => exact ⟨.bl false, H1, I1, rfl, q1⟩
theorem pe_not (ha : PE X a ta) : PE X (.UnaryOp .Not a pos) (tNotV ta) := by
 intro pins s σ H Q I h
 refine UnaryOp_ (thn (ha pins s σ H _ I h) fun v s1 ⟨x, H1, I1, r1, q1⟩ => ?_)
 obtain ⟨c, rfl, q1⟩ := q1
 cases r1
 exact not_of (wpAny_truthy_bool ⟨.bl (!c), H1, I1, rfl, q1⟩)
noncomputable def tIf (t : TT) (ta tb : TE) : TE := fun σ H Q => t σ H fun c H1 => if c = true then ta σ H1 Q else tb σ H1 Q
theorem pe_ifExp {c : Expr} (hc : PT X c tA) (ha : PE X a ta) (hb : PE X b tb) : PE X (.IfExp c a b pos) (tIf tA ta tb) := by
 intro pins s σ H Q I h
 refine wpAny_IfExp (thn (hc pins s σ H _ I h) fun d s1 ⟨H1, I1, q1⟩ => ?_)
 cases d with
 | true => exact ha pins s1 σ H1 Q I1 q1
 | false => exact hb pins s1 σ H1 Q I1 q1
end
end L2
namespace L2
open PySem PySem.Spec PyProof.Rows
noncomputable def SqL (K : PySem.W.Frag) (H : Hp) (a : Addr) (xs : List V) : Prop :=
 Rd H a (.lst xs) \/
  ∃ (o : Obj) (its : Array Value) (n : Nat), K.lookup a = some o /\ o.cls = .type "list" /\ o.dict = none /\ o.data = .seq its n /\ its.size <= sizeLine /\ Vals xs its.toList
noncomputable def SqT (K : PySem.W.Frag) (H : Hp) (a : Addr) (xs : List V) : Prop :=
 Rd H a (.tup xs) \/
  ∃ (o : Obj) (its : Array Value) (n : Nat), K.lookup a = some o /\ o.cls = .type "tuple" /\ o.data = .seq its n /\ its.size <= sizeLine /\ Vals xs its.toList
noncomputable def absV : Value -> Option V
 | .none => some .non
 | .bool b => some (.bl b)
 | .int i _ => some (.int i)
 | .str x _ => some (.str x)
 | .bytes b _ => some (.byt b)
 | .float b _ => some (.flt b)
 | .ref a => some (.ref a)
 | .type n => some (.ty n)
 | _ => none
theorem RelV.abs {x : V} {u : Value} (r : RelV x u) : absV u = some x := by
 cases x with
 | non => cases r; rfl
 | bl _ => cases r; rfl
 | int _ => obtain ⟨t, rfl⟩ := r; rfl
 | str _ => obtain ⟨t, rfl⟩ := r; rfl
 | byt _ => obtain ⟨t, rfl⟩ := r; rfl
 | flt _ => obtain ⟨t, rfl⟩ := r; rfl
 | ref _ => cases r; rfl
 | ty _ => cases r; rfl
theorem RelV.inj {x y : V} {u : Value} (r : RelV x u) (q : RelV y u) : x = y := Option.some.inj (r.abs.symm.trans q.abs)
theorem Vals.inj : ∀ {xs ys : List V} {us : List Value}, Vals xs us -> Vals ys us -> xs = ys
 | _, _, _, .nil, .nil => rfl
 | _, _, _, .cons r t, .cons r' t' => by rw [r.inj r', Vals.inj t t']
section
variable {X : Cx} {pins : List (Addr × Obj)} {σ : St} {H : Hp} {s : Shared} {a : Addr} {xs ys : List V}
theorem SqL.of {K : PySem.W.Frag} (h : H a = some (.lst xs)) : SqL K H a xs := .inl (.inl h)
theorem SqT.of {K : PySem.W.Frag} (h : H a = some (.tup xs)) : SqT K H a xs := .inl (.inl h)
theorem Inv.list (I : Inv X pins σ H s) (h : SqL X.K H a xs) : ∃ its : List Value, Vals xs its /\ PlainL s.heap a its.toArray /\ xs.length <= sizeLine := by
 rcases h with h | ⟨o, its, n, hk, hc, hd, hs, hz, r⟩
 ·obtain ⟨z, its, n, r, e⟩ := h.ok I.hok
  exact ⟨its, r, ⟨_, n, e, rfl, rfl, rfl⟩, z⟩
 ·refine ⟨its.toList, r, ⟨o, n, I.kIn a o hk, hc, hd, by simpa using hs⟩, ?_⟩
  have e := r.length
  simp only [Array.length_toList] at e
  lia
theorem Inv.tuple (I : Inv X pins σ H s) (h : SqT X.K H a xs) : ∃ its : List Value, Vals xs its /\ IsTup s.heap a its.toArray /\ xs.length <= sizeLine := by
 rcases h with h | ⟨o, its, n, hk, hc, hs, hz, r⟩
 ·obtain ⟨z, its, r, p⟩ := h.ok I.hok
  exact ⟨its, r, p, z⟩
 ·refine ⟨its.toList, r, ⟨o, I.kIn a o hk, hc, n, by simpa using hs⟩, ?_⟩
  have e := r.length
  simp only [Array.length_toList] at e
  lia
theorem Inv.list_inj (I : Inv X pins σ H s) (h : SqL X.K H a xs) (h' : SqL X.K H a ys) : xs = ys := by
 obtain ⟨its, r, ⟨o, n, e, _, _, d⟩, _⟩ := I.list h
 obtain ⟨its', r', ⟨o', n', e', _, _, d'⟩, _⟩ := I.list h'
 rw [e] at e'; cases e'
 rw [d] at d'
 injection d' with d1 _
 have : its = its' := by simpa using congrArg Array.toList d1
 subst this
 exact r.inj r'
end
noncomputable abbrev Cx.wish (X : Cx) (E : Value -> Shared -> Prop) : Cx := { X with xe := E }
noncomputable abbrev Cx.nox (X : Cx) : Cx := X.wish fun _ _ => False
theorem Cx.Ok.wish {X : Cx} (ok : X.Ok) (E : Value -> Shared -> Prop) : (X.wish E).Ok :=
 ⟨ok.mod, ok.kind, ok.glob, ok.blt, ok.above, ok.inj, ok.has, ok.cab, ok.hd, ok.frames, ok.stk, ok.exf, ok.bs, ok.bsz, ok.noex, ok.exfs, ok.funs, ok.frf⟩
theorem Cx.Ok.unwish {X : Cx} {E : Value -> Shared -> Prop} (ok : (X.wish E).Ok) : X.Ok :=
 ⟨ok.mod, ok.kind, ok.glob, ok.blt, ok.above, ok.inj, ok.has, ok.cab, ok.hd, ok.frames, ok.stk, ok.exf, ok.bs, ok.bsz, ok.noex, ok.exfs, ok.funs, ok.frf⟩
section
variable {X : Cx} {pins : List (Addr × Obj)} {σ : St} {H : Hp} {s : Shared} {E : Value -> Shared -> Prop}
theorem Inv.wish (I : Inv X pins σ H s) (E : Value -> Shared -> Prop) : Inv (X.wish E) pins σ H s := ⟨I.ok.wish E, I.os, I.bare, I.base, I.loc, I.cell, I.free, I.freeC, I.pin, I.hok, I.len⟩
theorem Inv.unwish (I : Inv (X.wish E) pins σ H s) : Inv X pins σ H s := ⟨I.ok.unwish, I.os, I.bare, I.base, I.loc, I.cell, I.free, I.freeC, I.pin, I.hok, I.len⟩
theorem SP.unwish {D : Ends} {f : Flow} {s' : Shared} (h : SP (X.wish E) pins D f s') : SP X pins D f s' := by
 cases f with
 | next => obtain ⟨σ', H', I, q⟩ := h; exact ⟨σ', H', I.unwish, q⟩
 | brk => obtain ⟨σ', H', I, q⟩ := h; exact ⟨σ', H', I.unwish, q⟩
 | cont => obtain ⟨σ', H', I, q⟩ := h; exact ⟨σ', H', I.unwish, q⟩
 | ret u => obtain ⟨v, σ', H', I, r, q⟩ := h; exact ⟨v, σ', H', I.unwish, r, q⟩
theorem PSs.nox {st : List Stmt} {t : TS} (h : PSs X.nox st t) : PSs X st t := fun pins s σ H D I hw =>
 wpAny_mono (h pins s σ H D (I.wish _) hw) (fun _ _ q => q.unwish) fun _ _ z => False.elim z
end
section
variable {X : Cx} {st : Stmt} {rest : List Stmt} {t u : TS} {e : Expr} {te : TE} {pos : Pos}
noncomputable def tNext : TS := fun D σ H => D.nx σ H
noncomputable def tSeq (t u : TS) : TS := fun D σ H => t { D with nx := u D } σ H
theorem pss_nil : PSs X [] tNext := fun _ _ σ H _ I h => wpAny_execs_nil ⟨σ, H, I, h⟩
theorem pss_cons (h1 : PS X st t) (h2 : PSs X rest u) : PSs X (st :: rest) (tSeq t u) := by
 intro pins s σ H D I h
 refine wpAny_execs_cons (thn (h1 pins s σ H { D with nx := u D } I h) fun f s1 q => ?_)
 cases f with
 | next =>
  obtain ⟨σ', H', I', q⟩ := q
  exact h2 pins s1 σ' H' D I' q
 | ret v => exact q
 | brk => exact q
 | cont => exact q
theorem pss_one (h1 : PS X st t) : PSs X [st] t := by
 intro pins s σ H D I h
 refine wpAny_execs_cons (thn (h1 pins s σ H D I h) fun f s1 q => ?_)
 cases f with
 | next => exact wpAny_execs_nil q
 | ret v => exact q
 | brk => exact q
 | cont => exact q
theorem Inv.quiet {pins : List (Addr × Obj)} {σ : St} {H : Hp} {s : Shared} (I : Inv X pins σ H s) : interactive X.env = false := by simp [interactive, I.ok.kind]
noncomputable def tDrop (te : TE) : TS := fun D σ H => te σ H fun _ H1 => D.nx σ H1
theorem ps_expr (he : PE X e te) (hs : swapsWith e none pos.line X.env = pure false := by rfl) : PS X (.Expr e pos) (tDrop te) := by
 intro pins s σ H D I h
 exact wpAny_Expr_any (thn (he pins s σ H _ I h) fun v s1 ⟨x, H1, I1, r1, q1⟩ => ⟨σ, H1, I1, q1⟩) I.quiet hs
noncomputable def tRet (te : TE) : TS := fun D σ H => te σ H D.rt
theorem ps_ret (he : PE X e te) : PS X (.Return (some e) pos) (tRet te) := by
 intro pins s σ H D I h
 exact wpAny_Return_some (thn (he pins s σ H _ I h) fun v s1 ⟨x, H1, I1, r1, q1⟩ => ⟨x, σ, H1, I1, r1, q1⟩)
noncomputable def tRetN : TS := fun D _ H => D.rt .non H
theorem ps_retN : PS X (.Return none pos) tRetN := fun _ _ σ H _ I h => wpAny_Return_none ⟨.non, σ, H, I, rfl, h⟩
noncomputable def tIfS (c : TT) (t u : TS) : TS := fun D σ H => c σ H fun b H1 => if b = true then t D σ H1 else u D σ H1
theorem ps_if {c : Expr} {a b : List Stmt} {tc : TT} (hc : PT X c tc) (ha : PSs X a t) (hb : PSs X b u) : PS X (.If c a b pos) (tIfS tc t u) := by
 intro pins s σ H D I h
 refine wpAny_If (thn (hc pins s σ H _ I h) fun d s1 ⟨H1, I1, q1⟩ => ?_)
 cases d with
 | true => exact ha pins s1 σ H1 D I1 q1
 | false => exact hb pins s1 σ H1 D I1 q1
noncomputable def tNever : TS := fun _ _ _ => False
theorem ps_never : PS X st tNever := fun _ _ _ _ _ _ h => h.elim
end
noncomputable abbrev TG := V -> St -> Hp -> (St -> Hp -> Prop) -> Prop
noncomputable abbrev TGs := List V -> St -> Hp -> (St -> Hp -> Prop) -> Prop
noncomputable def PG (X : Cx) (target : Expr) (t : TG) : Prop :=
 ∀ (pins : List (Addr × Obj)) (s : Shared) (σ : St) (H : Hp) (v : V) (u : Value) (Q : St -> Hp -> Prop), Inv X pins σ H s -> RelV v u -> t v σ H Q ->
  wpAny (model X.prog X.w) X.A (assign target X.env u) (fun _ s' => ∃ σ' H', Inv X pins σ' H' s' /\ Q σ' H') X.xe s
noncomputable def PGs (X : Cx) (ts : List Expr) (t : TGs) : Prop :=
 ∀ (pins : List (Addr × Obj)) (s : Shared) (σ : St) (H : Hp) (vs : List V) (us : List Value) (Q : St -> Hp -> Prop), Inv X pins σ H s -> Vals vs us -> t vs σ H Q ->
  wpAny (model X.prog X.w) X.A (assignInOrder ((assignEach ts X.env).map (·.2)) us) (fun _ s' => ∃ σ' H', Inv X pins σ' H' s' /\ Q σ' H') X.xe s
noncomputable abbrev TIp := V -> V -> Hp -> VK -> Prop
noncomputable def PIp (X : Cx) (op : Operator) (t : TIp) : Prop :=
 ∀ (pins : List (Addr × Obj)) (s : Shared) (σ : St) (H : Hp) (x y : V) (v u : Value) (Q : VK), Inv X pins σ H s -> RelV x v -> RelV y u -> t x y H Q ->
  wpAny (model X.prog X.w) X.A (inplaceOp op v u) (EP X pins σ Q) X.xe s
section
variable {X : Cx} {pos : Pos}
noncomputable def gName (i : Nat) : TG := fun v σ H Q => Q (σ.set i (some v)) H
theorem pg_name {i : Nat} {x : Str} (hN : X.N.Nodup) (hi : X.N[i]? = some x) (hx : Loc X.env.scope x) (hf : X.fn x = true \/ X.env.scope.names.lookup x = some .local := by first | exact .inl rfl | exact .inr rfl | assumption) : PG X (.Name x pos) (gName i) := by
 intro pins s σ H v u Q I r h
 exact wpAny_assign_Name (store_ok I hN hi hx r (fun s' I' => ⟨_, H, I', h⟩) hf)
noncomputable def gNil : TGs := fun vs σ H Q => vs = [] /\ Q σ H
noncomputable def gCons (t : TG) (u : TGs) : TGs := fun vs σ H Q => ∃ v r, vs = v :: r /\ t v σ H fun σ' H' => u r σ' H' Q
theorem pgs_nil : PGs X [] gNil := by
 intro pins s σ H vs us Q I r h
 obtain ⟨e, h⟩ := h
 subst e
 cases r
 exact assignInOrder_nil ⟨σ, H, I, h⟩
theorem pgs_cons {e : Expr} {es : List Expr} {t : TG} {u : TGs} (h1 : PG X e t) (h2 : PGs X es u)
  (hs : (assignEach (e :: es) X.env).map (·.2) = assign e X.env :: (assignEach es X.env).map (·.2) := by rfl) : PGs X (e :: es) (gCons t u) := by
 intro pins s σ H vs us Q I r h
 obtain ⟨v, vr, e1, h⟩ := h
 subst e1
 cases r with
 | cons r rr =>
  rw [hs]
  refine assignInOrder_cons (thn (h1 pins s σ H _ _ _ I r h) fun _ s1 ⟨σ1, H1, I1, q1⟩ => ?_)
  exact h2 pins s1 σ1 H1 _ _ Q I1 rr q1
noncomputable def gTup (K : PySem.W.Frag) (n : Nat) (t : TGs) : TG := fun v σ H Q => ∃ a xs, v = .ref a /\ SqT K H a xs /\ xs.length = n /\ t xs σ H Q
theorem pg_tup {es : List Expr} {k : Nat} {t : TGs} {n : Nat} (hc : X.calm = true) (h : PGs X es t)
  (hn : (assignEach es X.env).length = n := by rfl) (hst : (assignEach es X.env).findIdx? (·.1) = none := by rfl) : PG X (.Tuple es k pos) (gTup X.K n t) := by
 intro pins s σ H v u Q I r hw
 obtain ⟨a, xs, e1, hq, hl, hw⟩ := hw
 subst e1
 cases r
 obtain ⟨its, rv, ht, hz⟩ := I.tuple hq
 refine assign_Tuple_tuple (I.ok.hd hc) ht (by simp [hn, <- hl, rv.length]) hst fun h' hx => ?_
 have I1 : Inv X pins σ H { s with heap := h' } := I.kept (t' := s.toks) fun b o e => hx b o (Nat.ne_of_lt (Heap.lt_size e)) e
 exact h pins _ σ H xs _ Q I1 (by simpa using rv) hw
noncomputable def tAsg (te : TE) (g : TG) : TS := fun D σ H => te σ H fun x H1 => g x σ H1 D.nx
theorem ps_asg {tg e : Expr} {te : TE} {g : TG} (he : PE X e te) (hg : PG X tg g) (hs : swapsWithSole [tg] e pos.line X.env = pure false := by rfl) (hw : swappedStores [tg] e X.env = pure none := by rfl)
  (h1 : (assignEach [tg] X.env).map (·.2) = [assign tg X.env] := by rfl) : PS X (.Assign [tg] e pos) (tAsg te g) := by
 intro pins s σ H D I h
 refine wpAny_Assign_stores (thn (he pins s σ H _ I h) fun v s1 ⟨x, H1, I1, r1, q1⟩ => ?_) hs hw
 rw [h1]
 exact thn (hg pins s1 σ H1 x v _ I1 r1 q1) fun _ s2 q => q
theorem ps_set {i : Nat} {x : Str} {e : Expr} {te : TE} {pos' : Pos} (hN : X.N.Nodup) (hi : X.N[i]? = some x) (hx : Loc X.env.scope x) (he : PE X e te) (hs : swapsWith e (some (.Name x pos')) pos.line X.env = pure false := by rfl) (hf : X.fn x = true \/ X.env.scope.names.lookup x = some .local := by first | exact .inl rfl | exact .inr rfl | assumption) :
  PS X (.Assign [.Name x pos'] e pos) (tAsg te (gName i)) := by
 intro pins s σ H D I h
 refine wpAny_Assign_Name (thn (he pins s σ H _ I h) fun v s1 ⟨y, H1, I1, r1, q1⟩ => ?_) hs
 exact store_ok I1 hN hi hx r1 (fun s2 I2 => ⟨_, H1, I2, q1⟩) hf
noncomputable def tPar (i j : Nat) (ta : TA) : TS := fun D σ H => ta σ H fun vs H1 => ∃ v w, vs = [v, w] /\ D.nx ((σ.set i (some v)).set j (some w)) H1
theorem ps_par {i j : Nat} {x y : Str} {a b : Expr} {ta : TA} {px py pt : Pos} {kt k2 pt2} (hc : X.calm = true) (hN : X.N.Nodup) (hi : X.N[i]? = some x) (hj : X.N[j]? = some y) (hij : i ≠ j)
  (hx : X.env.scope.names.lookup x = some .local) (hy : X.env.scope.names.lookup y = some .local) (ha : PA X [a, b] ta)
  (hw : swappedStores [.Tuple [.Name x px, .Name y py] kt pt] (.Tuple [a, b] k2 pt2) X.env = pure (some [x, y]))
  (hs : swapsWithSole [.Tuple [.Name x px, .Name y py] kt pt] (.Tuple [a, b] k2 pt2) pos.line X.env = pure false := by rfl) :
  PS X (.Assign [.Tuple [.Name x px, .Name y py] kt pt] (.Tuple [a, b] k2 pt2) pos) (tPar i j ta) := by
 intro pins s σ H D I h
 rw [exec_Assign_arm]
 refine wpAny_bind (wpAny_standAt ?_)
 rw [hs]
 refine wpAny_bind (wpAny_pure ?_)
 rw [if_neg (by decide)]
 refine wpAny_bind (Tuple_ (thn (ha _ pins s σ H _ I h) fun us s1 ⟨vs, H1, I1, r1, q1⟩ => ?_))
 obtain ⟨v, w, e1, q1⟩ := q1
 subst e1
 obtain ⟨u1, u2, rfl, rv, rw'⟩ : ∃ u1 u2, us = [u1, u2] /\ RelV v u1 /\ RelV w u2 := by
  cases r1 with
  | cons p q =>
   cases q with
   | cons p' q' =>
    cases q'
    exact ⟨_, _, rfl, p, p'⟩
 refine wpAny_newObj_type ?_ (by show 2 <= sizeLine; decide)
 have I2 : Inv X pins σ H1 { s1 with heap := s1.heap.push { cls := .type "tuple", data := .seq [u1, u2].toArray } } := I1.kept (t' := s1.toks) fun b o e => Heap.get?_push_of_some _ e
 rw [hw]
 refine wpAny_bind (wpAny_pure ?_)
 show wpAny (model X.prog X.w) X.A (do rule "assign.swapped-stores"; let items <- unpackItems (.ref s1.heap.objs.size) 2 none; assignInOrder [fun v => bindName X.env y v, fun v => bindName X.env x v] items.reverse; pure Flow.next) _ _ _
 refine wpAny_bind (wpAny_rule (wpAny_bind (unpackItems_tuple (items := #[u1, u2]) (I.ok.hd hc) (IsTup.new s1.heap _) fun h' hx' => ?_)))
 have I3 := I2.kept (h' := h') (t' := s1.toks) fun b o e => hx' b o (Nat.ne_of_lt (Heap.lt_size e)) e
 show wpAny _ _ (assignInOrder [fun v => bindName X.env y v, fun v => bindName X.env x v] [u2, u1] >>= fun _ => pure Flow.next) _ _ _
 refine wpAny_bind (assignInOrder_cons (wpAny_bindName (store_ok I3 hN hj (.inl hy) rw' (fun s2 I4 => ?_) (.inr hy))))
 refine assignInOrder_cons (wpAny_bindName (store_ok I4 hN hi (.inl hx) rv (fun s3 I5 => assignInOrder_nil (wpAny_pure ?_)) (.inr hx)))
 rw [List.set_comm _ _ (Ne.symm hij)] at I5
 exact ⟨_, H1, I5, q1⟩
noncomputable def tAug (i : Nat) (te : TE) (ti : TIp) : TS := fun D σ H => ∃ x, σ[i]? = some (some x) /\ te σ H fun y H1 => ti x y H1 fun z H2 => D.nx (σ.set i (some z)) H2
theorem ps_aug {i : Nat} {x : Str} {e : Expr} {te : TE} {op : Operator} {ti : TIp} {pos' : Pos} (hN : X.N.Nodup) (hi : X.N[i]? = some x) (hx : Loc X.env.scope x) (he : PE X e te) (ho : PIp X op ti) (hf : X.fn x = true \/ X.env.scope.names.lookup x = some .local := by first | exact .inl rfl | exact .inr rfl | assumption) :
  PS X (.AugAssign (.Name x pos') op e pos) (tAug i te ti) := by
 intro pins s σ H D I h
 obtain ⟨v, e1, h⟩ := h
 obtain ⟨m, hn, hl⟩ := I.loc
 have vis : Vis X.env.scope x := by rcases hx with k | k; exact .inl k; exact .inr (.inl k)
 obtain ⟨u, r, l⟩ := hl i x v hi e1 vis
 refine wpAny_AugAssign_Name ?_
 have go : wpAny (model X.prog X.w) X.A (eval e X.env) (fun w s₂ => wpAny (model X.prog X.w) X.A (inplaceOp op u w) (fun r s₃ => wpAny (model X.prog X.w) X.A (storeName X.env x r) (fun _ => SP X pins D .next) X.xe s₃) X.xe s₂) X.xe s := by
  refine thn (he pins s σ H _ I h) fun w s1 ⟨y, H1, I1, r1, q1⟩ => ?_
  refine thn (ho pins s1 σ H1 v y u w _ I1 r r1 q1) fun z s2 ⟨zv, H2, I2, r2, q2⟩ => ?_
  exact store_ok I2 hN hi hx r2 (fun s3 I3 => ⟨_, H2, I3, q2⟩) hf
 rcases l with ⟨hk, hm⟩ | ⟨hk, c, hc, hcell⟩
 ·exact wpAny_loadName_local I.ok.kind hk hn hm go
 ·rcases hk with hk | hk
  ·exact wpAny_loadName_cell I.ok.kind hk hc hcell go
  ·rcases hx with k | k
   ·have : X.env.scope.names.lookup x = some .free := hk
    rw [k] at this; cases this
   ·have : X.env.scope.names.lookup x = some .free := hk
    rw [k] at this; cases this
noncomputable def ipI (f : Int -> Int -> Int) : TIp := fun x y H Q => ∃ i j, x = .int i /\ y = .int j /\ Q (.int (f i j)) H
theorem ip_add : PIp X .Add (ipI fun i j => i + j) := by
 intro pins s σ H x y v u Q I r1 r2 h
 obtain ⟨i, j, e1, e2, q⟩ := h
 subst e1; subst e2
 obtain ⟨t, rfl⟩ := r1
 obtain ⟨t', rfl⟩ := r2
 exact iadd_int ⟨.int _, H, I.tok _, ⟨_, rfl⟩, q⟩
end
section
variable {X : Cx} {pos : Pos}
noncomputable def tWhile (c : TT) (tb : TS) : TS := fun D σ H => ∃ W : Nat -> St -> Hp -> Prop, (∃ m, W m σ H) /\ ∀ m σ H, W m σ H ->
 c σ H fun b H1 => if b = true then ∃ N : St -> Hp -> Prop, (∀ σ' H', N σ' H' -> ∃ m', m' < m /\ W m' σ' H') /\ tb { D with nx := N, ct := N, bk := D.nx } σ H1 else D.nx σ H1
theorem ps_while {c : Expr} {body : List Stmt} {tc : TT} {tb : TS} (hp : PassesOwn (model X.prog X.w) X.A X.env X.xe) (hc : PT X c tc) (hb : PSs X body tb) : PS X (.While c body [] pos) (tWhile tc tb) := by
 intro pins s σ H D I h
 obtain ⟨W, ⟨m0, w0⟩, turn⟩ := h
 refine wpAny_While (codeAny_whileLoop (fun n s' => ∃ σ' H', Inv X pins σ' H' s' /\ W n σ' H') ?_ m0 ⟨σ, H, I, w0⟩)
 rintro n s1 ⟨σ1, H1, I1, w1⟩
 refine wpAny_passesOwn hp (thn (hc pins s1 σ1 H1 _ I1 (turn n σ1 H1 w1)) fun b s2 ⟨H2, I2, q2⟩ => ?_)
 cases b with
 | true =>
  obtain ⟨N, hN, q2⟩ := q2
  rw [if_pos rfl]
  refine wpAny_passesOwn hp (thn (hb pins s2 σ1 H2 _ I2 q2) fun f s3 q3 => ?_)
  cases f with
  | next =>
   obtain ⟨σ3, H3, I3, n3⟩ := q3
   obtain ⟨m', hm, w3⟩ := hN σ3 H3 n3
   exact ⟨m', hm, σ3, H3, I3, w3⟩
  | cont =>
   obtain ⟨σ3, H3, I3, n3⟩ := q3
   obtain ⟨m', hm, w3⟩ := hN σ3 H3 n3
   exact ⟨m', hm, σ3, H3, I3, w3⟩
  | brk => exact q3
  | ret v => exact q3
 | false =>
  rw [if_neg Bool.false_ne_true]
  exact wpAny_execs_nil ⟨σ1, H2, I2, q2⟩
end
set_option genInjectivity false in
structure It where
 go : Nat -> Hp -> Prop
 yld : Nat -> Hp -> V -> Hp -> Prop
 stop : Nat -> Hp -> Prop
noncomputable def FpOk (X : Cx) (pins : List (Addr × Obj)) (H : Hp) (b : Addr) : Prop :=
 H b = none /\ b ≠ X.env.locals /\ b ∉ X.fs /\ (b ∈ X.ex \/ X.s₀.heap.objs.size <= b) /\ (∀ x c, X.env.cells.lookup x = some c -> c ≠ b) /\ ∀ p ∈ X.pn ++ pins, p.1 ≠ b
theorem Inv.fpOk {X : Cx} {pins : List (Addr × Obj)} {σ : St} {H H' : Hp} {s : Shared} {b : Addr} (I : Inv X pins σ H s) (hb : s.heap.objs.size <= b) (hn : H' b = none) : FpOk X pins H' b := by
 refine ⟨hn, Nat.ne_of_gt (Nat.lt_of_lt_of_le I.lt hb), I.nofs hb, .inr (Nat.le_trans I.sz hb), fun x c e z => ?_, fun p hp z => ?_⟩
 ·obtain ⟨v, q⟩ := I.cell x c e
  exact absurd (Nat.lt_of_lt_of_le q.lt (by rw [z]; exact hb)) (Nat.lt_irrefl _)
 ·exact absurd (Nat.lt_of_lt_of_le (Heap.lt_size (I.pin p hp).1) (by rw [z]; exact hb)) (Nat.lt_irrefl _)
structure Turn (P : Program) (w : World) (K : PySem.W.Frag) (tg : Expr) (J : It) (fp : List Addr) (it : Addr) (tn : Nat -> Heap -> Prop) : Prop where
 mem : it ∈ fp
 obj : ∀ i h, tn i h -> ∀ b ∈ fp, ∃ o, h.get? b = some o /\ ∀ v, o.data ≠ .cell v
 keep : ∀ i h h', tn i h -> (∀ b ∈ fp, ∀ o, h.get? b = some o -> h'.get? b = some o) -> tn i h'
 item : ∀ (X : Cx), X.prog = P -> X.w = w -> X.K = K -> X.calm = true -> ∀ (i : Nat) (pins : List (Addr × Obj)) (s : Shared) (σ : St) (H : Hp) (E : Value -> Shared -> Prop), Inv X pins σ H s -> (∀ b ∈ fp, FpOk X pins H b) -> tn i s.heap -> J.go i H ->
  wpAny (model P w) X.A (pyNext (.ref it)) (fun r s1 => ∃ u, r = some u /\
   wpAny (model P w) X.A (letOwnedTupleGo tg (.ref it) u) (fun _ s2 => ∃ x H', Inv X pins σ H' s2 /\ RelV x u /\ J.yld i H x H' /\ tn (i + 1) s2.heap /\ ∀ b ∈ fp, H' b = none) E s1) E s
 done : ∀ (X : Cx), X.prog = P -> X.w = w -> X.K = K -> X.calm = true -> ∀ (i : Nat) (pins : List (Addr × Obj)) (s : Shared) (σ : St) (H : Hp) (E : Value -> Shared -> Prop), Inv X pins σ H s -> (∀ b ∈ fp, FpOk X pins H b) -> tn i s.heap -> J.stop i H ->
  wpAny (model P w) X.A (pyNext (.ref it)) (fun r s1 => r = none /\ Inv X pins σ H s1) E s
 self : ∀ (A : Around) (i : Nat) (s : Shared) (Q : Value -> Shared -> Prop) (E : Value -> Shared -> Prop), tn i s.heap -> Q (.ref it) s -> wpAny (model P w) A (pyIter (.ref it)) Q E s
noncomputable abbrev TI := St -> Hp -> (It -> Hp -> Prop) -> Prop
noncomputable def PIE (X : Cx) (pins : List (Addr × Obj)) (σ : St) (tg : Expr) (R : It -> Hp -> Prop) (itv : Value) (s2 : Shared) : Prop :=
 ∃ (it : Addr) (fp : List Addr) (tn : Nat -> Heap -> Prop) (J : It) (H' : Hp), itv = .ref it /\ Inv X pins σ H' s2 /\ Turn X.prog X.w X.K tg J fp it tn /\ tn 0 s2.heap /\ (∀ b ∈ fp, FpOk X pins H' b) /\ R J H'
noncomputable def PI (X : Cx) (tg iter : Expr) (wi : TI) : Prop :=
 ∀ (pins : List (Addr × Obj)) (s : Shared) (σ : St) (H : Hp) (R : It -> Hp -> Prop), Inv X pins σ H s -> wi σ H R ->
  wpAny (model X.prog X.w) X.A (eval iter X.env) (fun v s1 => wpAny (model X.prog X.w) X.A (pyIter v) (PIE X pins σ tg R) X.xe s1) X.xe s
theorem go_of {M : Model} {A : Around} {E : Value -> Shared -> Prop} {s : Shared} {tg : Expr} {it : Addr} {u : Value} {o : Obj} {n : String} {vs : Array Value} {Q : Unit -> Shared -> Prop} (ho : s.heap.get? it = some o) (hc : o.cls = .type n) (hd : o.data = .fields vs)
    (hn : ["enumerate", "zip", "dict_itemiterator", "dict_reverseitemiterator", "odict_iterator", "itertools.zip_longest", "itertools.pairwise"].contains n = false) (hQ : Q () s) : wpAny M A (letOwnedTupleGo tg (.ref it) u) Q E s := by
  unfold letOwnedTupleGo
  cases tg <;> first
    | exact wpAny_pure hQ
    | (cases u <;> first
        | exact wpAny_pure hQ
        | (refine wpAny_bind (wpAny_load ho ?_)
           rw [hc, hd]
           show wpAny M A (if (["enumerate", "zip", "dict_itemiterator", "dict_reverseitemiterator", "odict_iterator", "itertools.zip_longest", "itertools.pairwise"].contains n && vs[0]? == some (rawInt _)) = true then _ else _) Q E s
           rw [if_neg (by intro h; rw [hn, Bool.false_and] at h; cases h)]
           exact wpAny_pure hQ))
noncomputable def Itl (K : PySem.W.Frag) (a : Addr) : It :=
 ⟨fun i H => ∃ xs x, SqL K H a xs /\ xs[i]? = some x, fun i H x H' => H' = H /\ ∀ xs, SqL K H a xs -> xs[i]? = some x, fun i H => ∃ xs, SqL K H a xs /\ xs.length <= i⟩
noncomputable def Itr (lo : Int) (n : Nat) : It := ⟨fun i _ => i < n, fun i H x H' => H' = H /\ x = .int (lo + i), fun i _ => n <= i⟩
theorem turn_list {P : Program} {w : World} {K : PySem.W.Frag} {tg : Expr} (a it : Addr) : Turn P w K tg (Itl K a) [it] it (fun i h => h.IsListIter it a i) where
 mem := by simp
 obj := fun i h st b hb => by
  have e : b = it := by simpa using hb
  subst e
  obtain ⟨o, e, c, d⟩ := st
  exact ⟨o, e, fun v z => by rw [d] at z; cases z⟩
 keep := fun i h h' st k => st.at fun o e => k it (by simp) o e
 item := by
  intro X hP hw hK hc i pins s σ H E I hf st hg
  subst hP hw hK
  obtain ⟨xs, x, hq, hx⟩ := hg
  obtain ⟨its, rv, p, hz⟩ := I.list hq
  obtain ⟨u, hu, ru⟩ := rv.get hx
  obtain ⟨f0, f1, f2, f3, f4, f5⟩ := hf it (by simp)
  refine wpAny_pyNext_list_item st p.isList (x := u) (by simpa using hu) fun h' st' sb => ?_
  have I1 : Inv X pins σ H { s with heap := h' } := I.turned (t' := s.toks) (fun b o hb e => (sb.2 b hb).trans e) f0 f1 f3 f4 f5
  obtain ⟨o, e, c, d⟩ := id st'
  exact ⟨u, rfl, go_of (s := { s with heap := h' }) e c d (by decide) ⟨x, H, I1, ru, ⟨rfl, fun ys hy => by rw [I.list_inj hy hq]; exact hx⟩, st', fun b hb => (hf b hb).1⟩⟩
 done := by
  intro X hP hw hK hc i pins s σ H E I hf st hg
  subst hP hw hK
  obtain ⟨xs, hq, hx⟩ := hg
  obtain ⟨its, rv, p, hz⟩ := I.list hq
  obtain ⟨f0, f1, f2, f3, f4, f5⟩ := hf it (by simp)
  have hl := rv.length
  exact wpAny_pyNext_list_end (I.ok.hd hc) st p.isList (by simp; lia) fun h' eb => ⟨rfl, I.turned (t' := s.toks) (fun b o hb e => eb b o hb e) f0 f1 f3 f4 f5⟩
 self := fun _ _ _ _ _ st h => wpAny_pyIter_listiter st h
theorem turn_range {P : Program} {w : World} {K : PySem.W.Frag} {tg : Expr} (it : Addr) (lo : Int) (n : Nat) : Turn P w K tg (Itr lo n) [it] it (fun i h => IsRangeIter h it (lo + (i : Nat) * 1) ((n : Int) - (i : Nat)) 1) where
 mem := by simp
 obj := fun i h st b hb => by
  have e : b = it := by simpa using hb
  subst e
  exact ⟨_, st, fun v z => by
   have z' : Data.fields _ = Data.cell v := z
   cases z'⟩
 keep := fun i h h' st k => k it (by simp) _ st
 item := by
  intro X hP hw hK hc i pins s σ H E I hf st hg
  subst hP hw hK
  obtain ⟨f0, f1, f2, f3, f4, f5⟩ := hf it (by simp)
  have W := Walks.range (prog := X.prog) (w := X.w) (I.ok.hd hc) it lo 1 n
  refine W.item i s _ _ hg st fun v h' tk hv st' kk => ?_
  obtain ⟨t, rfl⟩ := hv
  have I1 : Inv X pins σ H { s with heap := h', toks := tk } := I.turned (fun b o hb e => kk b o (by simpa using hb) e) f0 f1 f3 f4 f5
  refine ⟨_, rfl, go_of (s := { s with heap := h', toks := tk }) (n := "range_iterator") st' rfl rfl (by decide) ⟨.int (lo + i), H, I1, ⟨t, ?_⟩, ⟨rfl, rfl⟩, st', fun b hb => (hf b hb).1⟩⟩
  rw [Int.mul_one]
 done := by
  intro X hP hw hK hc i pins s σ H E I hf st hg
  subst hP hw hK
  obtain ⟨f0, f1, f2, f3, f4, f5⟩ := hf it (by simp)
  exact wpAny_pyNext_range_end (I.ok.hd hc) st (by have : n <= i := hg; lia) fun h' eb => ⟨rfl, I.turned (t' := s.toks) (fun b o hb e => eb b o hb e) f0 f1 f3 f4 f5⟩
 self := fun _ _ _ _ _ st h => wpAny_pyIter_rangeiter st h
end L2
namespace L2
open PySem PySem.Spec PyProof.Rows
section
variable {X : Cx} {tg : Expr}
noncomputable def iList (K : PySem.W.Frag) (tl : TE) : TI := fun σ H R => tl σ H fun x H1 => ∃ a, x = .ref a /\ (∃ xs, SqL K H1 a xs) /\ R (Itl K a) H1
theorem pi_list {l : Expr} {tl : TE} (hl : PE X l tl) : PI X tg l (iList X.K tl) := by
 intro pins s σ H R I h
 refine thn (hl pins s σ H _ I h) fun v s1 ⟨x, H1, I1, r1, q1⟩ => ?_
 obtain ⟨a, e, ⟨xs, hq⟩, q⟩ := q1
 subst e
 cases r1
 obtain ⟨its, rv, p, hz⟩ := I1.list hq
 refine wpAny_pyIter_list p.isList ?_
 refine ⟨s1.heap.objs.size, [s1.heap.objs.size], _, _, H1, rfl, I1.kept (t' := s1.toks) fun b o e => Heap.get?_push_of_some _ e, turn_list a _, ⟨_, Heap.get?_push_size _ rfl, rfl, rfl⟩, fun b hb => ?_, q⟩
 have e : b = s1.heap.objs.size := by simpa using hb
 subst e
 exact I1.fpOk (Nat.le_refl _) (I1.hok.fresh (Nat.le_refl _))
theorem range_it {pins : List (Addr × Obj)} {σ : St} {H : Hp} {s : Shared} {R : It -> Hp -> Prop} {E : Value -> Shared -> Prop} {lo hi : Int} {t u v : Tok} {tk : Nat} (I : Inv X pins σ H s) (h1 : -(2 ^ 62) <= lo) (h2 : lo < 2 ^ 62) (h3 : -(2 ^ 62) <= hi) (h4 : hi < 2 ^ 62)
  (q : R (Itr lo (hi - lo).toNat) H) : wpAny (model X.prog X.w) X.A (pyIter (.ref s.heap.objs.size)) (PIE X pins σ tg R) E { s with heap := s.heap.push { cls := .type "range", data := .fields #[.int lo t, .int hi u, .int 1 v] }, toks := tk } := by
 refine wpAny_pyIter_range (IsRange.new ..) (small_one h1 h2 h3 h4) ?_
 have I1 : Inv X pins σ H { s with heap := s.heap.push { cls := .type "range", data := .fields #[.int lo t, .int hi u, .int 1 v] }, toks := tk } := I.kept fun b o e => Heap.get?_push_of_some _ e
 refine ⟨(s.heap.push { cls := .type "range", data := .fields #[.int lo t, .int hi u, .int 1 v] }).objs.size, [(s.heap.push { cls := .type "range", data := .fields #[.int lo t, .int hi u, .int 1 v] }).objs.size], _, _, H, rfl,
  I1.kept (t' := tk) fun b o e => Heap.get?_push_of_some _ e, turn_range _ lo (hi - lo).toNat, ?_, fun b hb => ?_, q⟩
 ·have e1 : lo + ((0 : Nat) : Int) * 1 = lo := by simp
  have e2 : (((hi - lo).toNat : Nat) : Int) - ((0 : Nat) : Int) = Builtin.Range.rangeSize lo hi 1 := by rw [rangeSize_one]; split <;> lia
  show IsRangeIter _ _ (lo + ((0 : Nat) : Int) * 1) ((((hi - lo).toNat : Nat) : Int) - ((0 : Nat) : Int)) 1
  rw [e1, e2]
  exact Heap.get?_push_size _ rfl
 ·have e : b = (s.heap.push { cls := .type "range", data := .fields #[.int lo t, .int hi u, .int 1 v] }).objs.size := by simpa using hb
  subst e
  exact I1.fpOk (Nat.le_refl _) (I1.hok.fresh (Nat.le_refl _))
noncomputable def iRng1 (ta : TA) : TI := fun σ H R => ta σ H fun vs H1 => ∃ j : Int, vs = [.int j] /\ -(2 ^ 62) <= j /\ j < 2 ^ 62 /\ R (Itr 0 j.toNat) H1
theorem pi_range1 {a : Expr} {ta : TA} {p pos : Pos} (hg : Gl X "range") (hm : X.mg "range" = none) (ha : PA X [a] ta) (hs : starEach [a] X.env = [(false, eval a X.env)] := by rfl) : PI X tg (.Call (.Name "range" p) [a] [] pos) (iRng1 ta) := by
 intro pins s σ H R I h
 refine Call_ (ld_blt I hg hm boot_range (PyProof.Rows.callWith_type1 (thn (ha pos pins s σ H _ I h) fun us s1 ⟨vs, H1, I1, r1, q1⟩ => ?_) hs rfl))
 obtain ⟨j, e, q1, q2, q⟩ := q1
 subst e
 cases r1 with
 | cons r rr =>
  cases rr
  obtain ⟨t, rfl⟩ := r
  exact call_range_1 (range_it I1 (by lia) (by lia) q1 q2 (by simpa using q))
noncomputable def tFor (wi : TI) (g : TG) (tb : TS) : TS := fun D σ H => wi σ H fun J H1 => ∃ W : Nat -> Nat -> St -> Hp -> Prop, (∃ m, W 0 m σ H1) /\ ∀ i m σ H, W i m σ H ->
 (J.stop i H /\ D.nx σ H) \/ (J.go i H /\ ∃ N : St -> Hp -> Prop, (∀ σ' H', N σ' H' -> ∃ m', m' < m /\ W (i + 1) m' σ' H') /\ ∀ x H', J.yld i H x H' -> g x σ H' fun σ2 H2 => tb { D with nx := N, ct := N, bk := D.nx } σ2 H2)
noncomputable def pinsAt (fp : List Addr) (h : Heap) : List (Addr × Obj) := fp.filterMap fun b => (h.get? b).map fun o => (b, o)
theorem mem_pinsAt {fp : List Addr} {h : Heap} {b : Addr} {o : Obj} (hb : b ∈ fp) (e : h.get? b = some o) : (b, o) ∈ pinsAt fp h := List.mem_filterMap.mpr ⟨b, hb, by rw [e]; rfl⟩
theorem of_pinsAt {fp : List Addr} {h : Heap} {p : Addr × Obj} (hp : p ∈ pinsAt fp h) : p.1 ∈ fp /\ h.get? p.1 = some p.2 := by
 obtain ⟨b, hb, e⟩ := List.mem_filterMap.mp hp
 cases q : h.get? b with
 | none => rw [q] at e; cases e
 | some o =>
  rw [q] at e
  have e' : (b, o) = p := Option.some.inj e
  subst e'
  exact ⟨hb, q⟩
theorem Inv.pinned {pins : List (Addr × Obj)} {σ : St} {H : Hp} {s : Shared} {fp : List Addr} (I : Inv X pins σ H s) (hf : ∀ b ∈ fp, FpOk X pins H b) (ho : ∀ b ∈ fp, ∃ o, s.heap.get? b = some o /\ ∀ v, o.data ≠ .cell v) : Inv X (pins ++ pinsAt fp s.heap) σ H s :=
 I.pins_of fun p hp => (List.mem_append.mp hp).elim (fun z => I.pin p (List.mem_append_right _ z)) fun z => by
  obtain ⟨hb, e⟩ := of_pinsAt z
  obtain ⟨f0, f1, f2, _⟩ := hf p.1 hb
  obtain ⟨o, e', d⟩ := ho p.1 hb
  rw [e] at e'; cases e'
  exact ⟨e, f0, f1, f2, d⟩
theorem Inv.unpinned {pins pl : List (Addr × Obj)} {σ : St} {H : Hp} {s : Shared} (I : Inv X (pins ++ pl) σ H s) : Inv X pins σ H s := I.pins_of fun p hp => I.pin p (List.mem_append_right _ (List.mem_append_left _ hp))
theorem ps_for {iter : Expr} {body : List Stmt} {wi : TI} {g : TG} {tb : TS} {pos : Pos} (hp : PassesOwn (model X.prog X.w) X.A X.env X.xe) (hc : X.calm = true) (hi : PI X tg iter wi) (hg : PG X tg g) (hb : PSs X body tb)
  (hs : ∀ x, foldedSetIterable iter X.env x = pure x := by intro _; rfl) : PS X (.For tg iter body [] pos) (tFor wi g tb) := by
 intro pins s σ H D I h
 refine wpAny_For (thn (hi pins s σ H _ I h) fun v s1 h1 => thn h1 fun itv s2 h2 => ?_) hs
 obtain ⟨it, fp, tn, J, H2, e, I2, T, st2, f2, W, ⟨m0, w0⟩, turn⟩ := h2
 subst e
 have stat : ∀ {H' : Hp}, (∀ b ∈ fp, H' b = none) -> ∀ b ∈ fp, FpOk X pins H' b := fun hn b hb => ⟨hn b hb, (f2 b hb).2⟩
 refine codeAny_forLoop_any (fun n s' => ∃ i σ' H', Inv X pins σ' H' s' /\ tn i s'.heap /\ (∀ b ∈ fp, H' b = none) /\ W i n σ' H') ?_ m0 ⟨0, σ, H2, I2, st2, fun b hb => (f2 b hb).1, w0⟩
 rintro n s3 ⟨i, σ3, H3, I3, st3, fr3, w3⟩
 rcases turn i n σ3 H3 w3 with ⟨stop, qn⟩ | ⟨go, N, hN, step⟩
 ·refine wpAny_passesOwn hp (thn (T.done X rfl rfl rfl hc i pins s3 σ3 H3 X.xe I3 (stat fr3) st3 stop) fun r s4 ⟨hr, I4⟩ => ?_)
  subst hr
  exact wpAny_execs_nil ⟨σ3, H3, I4, qn⟩
 ·refine wpAny_passesOwn hp (thn (T.item X rfl rfl rfl hc i pins s3 σ3 H3 X.xe I3 (stat fr3) st3 go) fun r s4 ⟨u, hr, h4⟩ => ?_)
  subst hr
  refine wpAny_passesOwn hp (thn h4 fun _ s5 ⟨x, H5, I5, r5, y5, st5, fr5⟩ => ?_)
  have I5' := I5.pinned (stat fr5) (T.obj _ _ st5)
  refine wpAny_passesOwn hp (thn (hg _ s5 σ3 H5 x u _ I5' r5 (step x H5 y5)) fun _ s6 ⟨σ6, H6, I6, q6⟩ => ?_)
  refine wpAny_passesOwn hp (thn (hb _ s6 σ6 H6 _ I6 q6) fun f s7 q7 => ?_)
  have again : ∀ {σ7 : St} {H7 : Hp}, Inv X (pins ++ pinsAt fp s5.heap) σ7 H7 s7 -> N σ7 H7 -> ∃ m, m < n /\ ∃ i σ' H', Inv X pins σ' H' s7 /\ tn i s7.heap /\ (∀ b ∈ fp, H' b = none) /\ W i m σ' H' := fun {σ7 H7} I7 n7 => by
   obtain ⟨m', hm, w7⟩ := hN σ7 H7 n7
   refine ⟨m', hm, i + 1, σ7, H7, I7.unpinned, T.keep _ _ _ st5 fun b hb o e => (I7.pin (b, o) (List.mem_append_right _ (List.mem_append_right _ (mem_pinsAt hb e)))).1, fun b hb => ?_, w7⟩
   obtain ⟨o, e, d⟩ := T.obj _ _ st5 b hb
   exact (I7.pin (b, o) (List.mem_append_right _ (List.mem_append_right _ (mem_pinsAt hb e)))).2.1
  cases f with
  | next => obtain ⟨σ7, H7, I7, n7⟩ := q7; exact again I7 n7
  | cont => obtain ⟨σ7, H7, I7, n7⟩ := q7; exact again I7 n7
  | brk => obtain ⟨σ7, H7, I7, q7⟩ := q7; exact ⟨σ7, H7, I7.unpinned, q7⟩
  | ret v => obtain ⟨x7, σ7, H7, I7, r7, q7⟩ := q7; exact ⟨x7, σ7, H7, I7.unpinned, r7, q7⟩
end
theorem for_list {K : PySem.W.Frag} {a : Addr} {xs : List V} {g : TG} {tb : TS} {D : Ends} {σ : St} {H : Hp} (Pv : Nat -> St -> Hp -> Prop) (h0 : Pv 0 σ H) (hl : ∀ i σ H, i <= xs.length -> Pv i σ H -> SqL K H a xs)
  (hs : ∀ i x σ H, xs[i]? = some x -> Pv i σ H -> g x σ H fun σ2 H2 => tb { D with nx := Pv (i + 1), ct := Pv (i + 1), bk := D.nx } σ2 H2) (hd : ∀ σ H, Pv xs.length σ H -> D.nx σ H) :
  ∃ W : Nat -> Nat -> St -> Hp -> Prop, (∃ m, W 0 m σ H) /\ ∀ i m σ H, W i m σ H ->
   ((Itl K a).stop i H /\ D.nx σ H) \/ ((Itl K a).go i H /\ ∃ N : St -> Hp -> Prop, (∀ σ' H', N σ' H' -> ∃ m', m' < m /\ W (i + 1) m' σ' H') /\ ∀ x H', (Itl K a).yld i H x H' -> g x σ H' fun σ2 H2 => tb { D with nx := N, ct := N, bk := D.nx } σ2 H2) := by
 refine ⟨fun i m σ H => m = xs.length - i /\ i <= xs.length /\ Pv i σ H, ⟨xs.length, by simp, Nat.zero_le _, h0⟩, ?_⟩
 rintro i m σ H ⟨rfl, hi, p⟩
 have q := hl i σ H hi p
 by_cases hlt : i < xs.length
 ·refine .inr ⟨⟨xs, xs[i], q, by simp [hlt]⟩, Pv (i + 1), fun σ' H' p' => ⟨xs.length - (i + 1), by lia, rfl, hlt, p'⟩, fun x H' y => ?_⟩
  obtain ⟨e, y⟩ := y
  subst e
  exact hs i x σ _ (y xs q) p
 ·have e : i = xs.length := by lia
  subst e
  exact .inl ⟨⟨xs, q, Nat.le_refl _⟩, hd σ H p⟩
theorem for_range {lo : Int} {n : Nat} {g : TG} {tb : TS} {D : Ends} {σ : St} {H : Hp} (Pv : Nat -> St -> Hp -> Prop) (h0 : Pv 0 σ H)
  (hs : ∀ i σ H, i < n -> Pv i σ H -> g (.int (lo + i)) σ H fun σ2 H2 => tb { D with nx := Pv (i + 1), ct := Pv (i + 1), bk := D.nx } σ2 H2) (hd : ∀ σ H, Pv n σ H -> D.nx σ H) :
  ∃ W : Nat -> Nat -> St -> Hp -> Prop, (∃ m, W 0 m σ H) /\ ∀ i m σ H, W i m σ H ->
   ((Itr lo n).stop i H /\ D.nx σ H) \/ ((Itr lo n).go i H /\ ∃ N : St -> Hp -> Prop, (∀ σ' H', N σ' H' -> ∃ m', m' < m /\ W (i + 1) m' σ' H') /\ ∀ x H', (Itr lo n).yld i H x H' -> g x σ H' fun σ2 H2 => tb { D with nx := N, ct := N, bk := D.nx } σ2 H2) := by
 refine ⟨fun i m σ H => m = n - i /\ i <= n /\ Pv i σ H, ⟨n, by simp, Nat.zero_le _, h0⟩, ?_⟩
 rintro i m σ H ⟨rfl, hi, p⟩
 by_cases hlt : i < n
 ·refine .inr ⟨hlt, Pv (i + 1), fun σ' H' p' => ⟨n - (i + 1), by lia, rfl, hlt, p'⟩, fun x H' y => ?_⟩
  obtain ⟨e, y⟩ := y
  subst e y
  exact hs i σ _ hlt p
 ·have e : i = n := by lia
  subst e
  exact .inl ⟨Nat.le_refl _, hd σ H p⟩
theorem while_by {c : TT} {tb : TS} {D : Ends} {σ : St} {H : Hp} (Pv : St -> Hp -> Prop) (μ : St -> Hp -> Nat) (h0 : Pv σ H)
  (hs : ∀ σ H, Pv σ H -> c σ H fun b H1 => if b = true then tb { D with nx := fun σ' H' => Pv σ' H' /\ μ σ' H' < μ σ H, ct := fun σ' H' => Pv σ' H' /\ μ σ' H' < μ σ H, bk := D.nx } σ H1 else D.nx σ H1)
  (mono : ∀ σ H Q Q', (∀ b H1, Q b H1 -> Q' b H1) -> c σ H Q -> c σ H Q') : tWhile c tb D σ H := by
 refine ⟨fun m σ H => m = μ σ H /\ Pv σ H, ⟨_, rfl, h0⟩, ?_⟩
 rintro m σ H ⟨rfl, p⟩
 refine mono σ H _ _ (fun b H1 q => ?_) (hs σ H p)
 cases b with
 | true => exact ⟨_, fun σ' H' ⟨p', l⟩ => ⟨_, l, rfl, p'⟩, q⟩
 | false => exact q
end L2
namespace L2
open PySem PySem.Spec PyProof.Rows
noncomputable abbrev R2 := V -> V -> Hp -> VK -> Prop
noncomputable def OpR (X : Cx) (f : Value -> Value -> Sem Value) (r : R2) : Prop :=
 ∀ (pins : List (Addr × Obj)) (s : Shared) (σ : St) (H : Hp) (x y : V) (v u : Value) (Q : VK), Inv X pins σ H s -> RelV x v -> RelV y u -> r x y H Q ->
  wpAny (model X.prog X.w) X.A (f v u) (EP X pins σ Q) X.xe s
noncomputable def UnR (X : Cx) (f : Value -> Sem Value) (r : V -> Hp -> VK -> Prop) : Prop :=
 ∀ (pins : List (Addr × Obj)) (s : Shared) (σ : St) (H : Hp) (x : V) (v : Value) (Q : VK), Inv X pins σ H s -> RelV x v -> r x H Q ->
  wpAny (model X.prog X.w) X.A (f v) (EP X pins σ Q) X.xe s
noncomputable def CallR (X : Cx) (f : Value) (r : List V -> Hp -> VK -> Prop) : Prop :=
 ∀ (pins : List (Addr × Obj)) (s : Shared) (σ : St) (H : Hp) (xs : List V) (us : List Value) (Q : VK), Inv X pins σ H s -> Vals xs us -> r xs H Q ->
  wpAny (model X.prog X.w) X.A (call f us) (EP X pins σ Q) X.xe s
noncomputable def tOp (r : R2) (ta tb : TE) : TE := fun σ H Q => ta σ H fun x H1 => tb σ H1 fun y H2 => r x y H2 Q
noncomputable def tUn (r : V -> Hp -> VK -> Prop) (ta : TE) : TE := fun σ H Q => ta σ H fun x H1 => r x H1 Q
noncomputable def rI (C : Int -> Int -> Prop) (g : Int -> Int -> V) : R2 := fun x y H Q => ∃ i j, x = .int i /\ y = .int j /\ C i j /\ Q (g i j) H
noncomputable def rI0 (g : Int -> Int -> V) : R2 := fun x y H Q => ∃ i j, x = .int i /\ y = .int j /\ Q (g i j) H
noncomputable def rU (g : Int -> V) : V -> Hp -> VK -> Prop := fun x H Q => ∃ i, x = .int i /\ Q (g i) H
section
variable {X : Cx} {a b c : Expr} {ta tb tc : TE} {pos : Pos}
theorem binT (ha : PE X a ta) (hb : PE X b tb) {pins : List (Addr × Obj)} {s : Shared} {σ : St} {H : Hp} {R : V -> V -> Hp -> Prop} (I : Inv X pins σ H s)
  (h : ta σ H fun x H1 => tb σ H1 fun y H2 => R x y H2) {Q : Value -> Shared -> Prop} {f : Value -> Value -> Sem Value}
  (hf : ∀ v u s2 x y H2, Inv X pins σ H2 s2 -> RelV x v -> RelV y u -> R x y H2 -> wpAny (model X.prog X.w) X.A (f v u) Q X.xe s2) :
  wpAny (model X.prog X.w) X.A (eval a X.env) (fun v s₁ => wpAny (model X.prog X.w) X.A (eval b X.env) (fun u s₂ => wpAny (model X.prog X.w) X.A (f v u) Q X.xe s₂) X.xe s₁) X.xe s := by
 refine thn (ha pins s σ H _ I h) fun v s1 ⟨x, H1, I1, r1, q1⟩ => ?_
 refine thn (hb pins s1 σ H1 _ I1 q1) fun u s2 ⟨y, H2, I2, r2, q2⟩ => ?_
 exact hf v u s2 x y H2 I2 r1 r2 q2
theorem pe_op {op : Operator} {r : R2} (ho : OpR X (binaryOp op) r) (ha : PE X a ta) (hb : PE X b tb) : PE X (.BinOp a op b pos) (tOp r ta tb) := by
 intro pins s σ H Q I h
 exact wpAny_BinOp (binT ha hb I h fun v u s2 x y H2 I2 rx ry q => ho pins s2 σ H2 x y v u Q I2 rx ry q)
theorem pe_un {op : UnaryOp} {r : V -> Hp -> VK -> Prop} (ho : UnR X (unaryOp op) r) (ha : PE X a ta) : PE X (.UnaryOp op a pos) (tUn r ta) := by
 intro pins s σ H Q I h
 exact UnaryOp_ (thn (ha pins s σ H _ I h) fun v s1 ⟨x, H1, I1, r1, q1⟩ => ho pins s1 σ H1 x v Q I1 r1 q1)
theorem opI {f : Value -> Value -> Sem Value} {C : Int -> Int -> Prop} {g : Int -> Int -> Int}
  (rule : ∀ (i j : Int) (t u : Tok) (s : Shared) (Q : Value -> Shared -> Prop) (E : Value -> Shared -> Prop), C i j -> Q (.int (g i j) s.toks) { s with toks := s.toks + 1 } -> wpAny (model X.prog X.w) X.A (f (.int i t) (.int j u)) Q E s) :
  OpR X f (rI C fun i j => .int (g i j)) := by
 intro pins s σ H x y v u Q I rx ry h
 obtain ⟨i, j, rfl, rfl, hc, q⟩ := h
 obtain ⟨t, rfl⟩ := rx
 obtain ⟨t', rfl⟩ := ry
 exact rule i j t t' s _ _ hc ⟨.int (g i j), H, I.tok _, ⟨_, rfl⟩, q⟩
theorem opI0 {f : Value -> Value -> Sem Value} {g : Int -> Int -> Int}
  (rule : ∀ (i j : Int) (t u : Tok) (s : Shared) (Q : Value -> Shared -> Prop) (E : Value -> Shared -> Prop), Q (.int (g i j) s.toks) { s with toks := s.toks + 1 } -> wpAny (model X.prog X.w) X.A (f (.int i t) (.int j u)) Q E s) :
  OpR X f (rI0 fun i j => .int (g i j)) := by
 intro pins s σ H x y v u Q I rx ry h
 obtain ⟨i, j, rfl, rfl, q⟩ := h
 obtain ⟨t, rfl⟩ := rx
 obtain ⟨t', rfl⟩ := ry
 exact rule i j t t' s _ _ ⟨.int (g i j), H, I.tok _, ⟨_, rfl⟩, q⟩
theorem opB0 {f : Value -> Value -> Sem Value} {g : Int -> Int -> Bool}
  (rule : ∀ (i j : Int) (t u : Tok) (s : Shared) (Q : Value -> Shared -> Prop) (E : Value -> Shared -> Prop), Q (.bool (g i j)) s -> wpAny (model X.prog X.w) X.A (f (.int i t) (.int j u)) Q E s) :
  OpR X f (rI0 fun i j => .bl (g i j)) := by
 intro pins s σ H x y v u Q I rx ry h
 obtain ⟨i, j, rfl, rfl, q⟩ := h
 obtain ⟨t, rfl⟩ := rx
 obtain ⟨t', rfl⟩ := ry
 exact rule i j t t' s _ _ ⟨.bl (g i j), H, I, rfl, q⟩
noncomputable def CPow (i j : Int) : Prop := 0 <= j /\ j <= 1000000 /\ i.natAbs < 2 ^ 64
theorem op_add : OpR X (binaryOp .Add) (rI0 fun i j => .int (i + j)) := opI0 fun _ _ _ _ _ _ _ q => add_int q
theorem op_sub : OpR X (binaryOp .Sub) (rI0 fun i j => .int (i - j)) := opI0 fun _ _ _ _ _ _ _ q => sub_int q
theorem op_modN : OpR X (binaryOp .Mod) (rI (fun _ j => j ≠ 0) fun i j => .int (i.fmod j)) := opI fun _ _ _ _ _ _ _ hc q => mod_int' hc q
theorem op_pow : OpR X (binaryOp .Pow) (rI CPow fun i j => .int (i ^ j.toNat)) := opI fun _ _ _ _ _ _ _ hc q => pow_int_small hc.1 hc.2.1 hc.2.2 q
theorem unI {f : Value -> Sem Value} {g : Int -> Int}
  (rule : ∀ (i : Int) (t : Tok) (s : Shared) (Q : Value -> Shared -> Prop) (E : Value -> Shared -> Prop), Q (.int (g i) s.toks) { s with toks := s.toks + 1 } -> wpAny (model X.prog X.w) X.A (f (.int i t)) Q E s) :
  UnR X f (rU fun i => .int (g i)) := by
 intro pins s σ H x v Q I rx h
 obtain ⟨i, rfl, q⟩ := h
 obtain ⟨t, rfl⟩ := rx
 exact rule i t s _ _ ⟨.int (g i), H, I.tok _, ⟨_, rfl⟩, q⟩
theorem un_neg : UnR X (unaryOp .USub) (rU fun i => .int (-i)) := unI fun _ _ _ _ _ q => neg_int q
end
noncomputable def scal : V -> V -> Bool
 | .non, .non => true | .non, .int _ => true | .int _, .non => true | .non, .bl _ => true | .bl _, .non => true | .non, .str _ => true | .str _, .non => true
 | .int _, .int _ => true | .bl _, .bl _ => true | .str _, .str _ => true | .byt _, .byt _ => true
 | .int _, .str _ => true | .str _, .int _ => true | .bl _, .str _ => true | .str _, .bl _ => true
 | _, _ => false
noncomputable def rEq : R2 := fun x y H Q => scal x y = true /\ Q (.bl (decide (x = y))) H
noncomputable def rNe : R2 := fun x y H Q => scal x y = true /\ Q (.bl (!decide (x = y))) H
theorem dec_int {i j : Int} : decide (V.int i = V.int j) = (i == j) := by
 rw [Bool.eq_iff_iff]
 simp
theorem dec_bl {i j : Bool} : decide (V.bl i = V.bl j) = (i == j) := by
 rw [Bool.eq_iff_iff]
 simp
theorem dec_str {i j : Str} : decide (V.str i = V.str j) = (i == j) := by
 rw [Bool.eq_iff_iff]
 simp
theorem dec_byt {i j : Array UInt8} : decide (V.byt i = V.byt j) = (i.toList == j.toList) := by
 rw [Bool.eq_iff_iff]
 cases i
 cases j
 simp
section
variable {X : Cx} {a b c : Expr} {ta tb tc : TE} {pos : Pos}
theorem fin_bl {pins : List (Addr × Obj)} {σ : St} {H : Hp} {s : Shared} {Q : VK} {k k' : Bool} (I : Inv X pins σ H s) (q : Q (.bl k) H) (e : k = k') : EP X pins σ Q (.bool k') s := by
 subst e
 exact ⟨.bl k, H, I, rfl, q⟩
theorem op_eq : OpR X (compareOp .Eq) rEq := by
 intro pins s σ H x y v u Q I rx ry h
 obtain ⟨hs, q⟩ := h
 cases x with
 | non =>
  cases rx
  cases y with
  | non => cases ry; exact PySem.EqNone.eq_none_none (fin_bl I q (by simp))
  | bl j => cases ry; exact PySem.EqNone.eq_none_bool (fin_bl I q (by simp))
  | int j => obtain ⟨t', rfl⟩ := ry; exact PySem.EqNone.eq_none_int (fin_bl I q (by simp))
  | str j => obtain ⟨t', rfl⟩ := ry; exact PySem.EqNone.eq_none_str (fin_bl I q (by simp))
  | _ => exact absurd (show false = true from hs) Bool.false_ne_true
 | bl i =>
  cases rx
  cases y with
  | non => cases ry; exact PySem.EqNone.eq_bool_none (fin_bl I q (by simp))
  | bl j => cases ry; exact eq_bool (fin_bl I q dec_bl)
  | str j => obtain ⟨t', rfl⟩ := ry; exact PySem.EqMixed.eq_bool_str (fin_bl I q (by simp))
  | _ => exact absurd (show false = true from hs) Bool.false_ne_true
 | int i =>
  obtain ⟨t, rfl⟩ := rx
  cases y with
  | non => cases ry; exact PySem.EqNone.eq_int_none (fin_bl I q (by simp))
  | int j => obtain ⟨t', rfl⟩ := ry; exact eq_int (fin_bl I q dec_int)
  | str j => obtain ⟨t', rfl⟩ := ry; exact PySem.EqMixed.eq_int_str (fin_bl I q (by simp))
  | _ => exact absurd (show false = true from hs) Bool.false_ne_true
 | str i =>
  obtain ⟨t, rfl⟩ := rx
  cases y with
  | non => cases ry; exact PySem.EqNone.eq_str_none (fin_bl I q (by simp))
  | bl j => cases ry; exact PySem.EqMixed.eq_str_bool (fin_bl I q (by simp))
  | int j => obtain ⟨t', rfl⟩ := ry; exact PySem.EqMixed.eq_str_int (fin_bl I q (by simp))
  | str j => obtain ⟨t', rfl⟩ := ry; exact eq_str (fin_bl I q dec_str)
  | _ => exact absurd (show false = true from hs) Bool.false_ne_true
 | byt i =>
  obtain ⟨t, rfl⟩ := rx
  cases y with
  | byt j => obtain ⟨t', rfl⟩ := ry; exact PySem.W.eq_bytes (fin_bl I q dec_byt)
  | _ => exact absurd (show false = true from hs) Bool.false_ne_true
 | _ => cases y <;> exact absurd (show false = true from hs) Bool.false_ne_true
theorem op_ne : OpR X (compareOp .NotEq) rNe := by
 intro pins s σ H x y v u Q I rx ry h
 obtain ⟨hs, q⟩ := h
 cases x with
 | non =>
  cases rx
  cases y with
  | non => cases ry; exact PySem.EqNone.ne_none_none (fin_bl I q (by simp))
  | bl j => cases ry; exact PySem.EqNone.ne_none_bool (fin_bl I q (by simp))
  | int j => obtain ⟨t', rfl⟩ := ry; exact PySem.EqNone.ne_none_int (fin_bl I q (by simp))
  | str j => obtain ⟨t', rfl⟩ := ry; exact PySem.EqNone.ne_none_str (fin_bl I q (by simp))
  | _ => exact absurd (show false = true from hs) Bool.false_ne_true
 | bl i =>
  cases rx
  cases y with
  | non => cases ry; exact PySem.EqNone.ne_bool_none (fin_bl I q (by simp))
  | bl j => cases ry; exact ne_bool (fin_bl I q (congrArg not dec_bl))
  | str j => obtain ⟨t', rfl⟩ := ry; exact PySem.EqMixed.ne_bool_str (fin_bl I q (by simp))
  | _ => exact absurd (show false = true from hs) Bool.false_ne_true
 | int i =>
  obtain ⟨t, rfl⟩ := rx
  cases y with
  | non => cases ry; exact PySem.EqNone.ne_int_none (fin_bl I q (by simp))
  | int j => obtain ⟨t', rfl⟩ := ry; exact ne_int (fin_bl I q (congrArg not dec_int))
  | str j => obtain ⟨t', rfl⟩ := ry; exact PySem.EqMixed.ne_int_str (fin_bl I q (by simp))
  | _ => exact absurd (show false = true from hs) Bool.false_ne_true
 | str i =>
  obtain ⟨t, rfl⟩ := rx
  cases y with
  | non => cases ry; exact PySem.EqNone.ne_str_none (fin_bl I q (by simp))
  | bl j => cases ry; exact PySem.EqMixed.ne_str_bool (fin_bl I q (by simp))
  | int j => obtain ⟨t', rfl⟩ := ry; exact PySem.EqMixed.ne_str_int (fin_bl I q (by simp))
  | str j => obtain ⟨t', rfl⟩ := ry; exact ne_str (fin_bl I q (congrArg not dec_str))
  | _ => exact absurd (show false = true from hs) Bool.false_ne_true
 | byt i =>
  obtain ⟨t, rfl⟩ := rx
  cases y with
  | byt j => obtain ⟨t', rfl⟩ := ry; exact PySem.W.ne_bytes (fin_bl I q (congrArg not dec_byt))
  | _ => exact absurd (show false = true from hs) Bool.false_ne_true
 | _ => cases y <;> exact absurd (show false = true from hs) Bool.false_ne_true
theorem op_lt : OpR X (compareOp .Lt) (rI0 fun i j => .bl (decide (i < j))) := opB0 fun _ _ _ _ _ _ _ q => lt_int q
theorem op_gt : OpR X (compareOp .Gt) (rI0 fun i j => .bl (decide (j < i))) := opB0 fun _ _ _ _ _ _ _ q => gt_int q
theorem nomark (b : Expr) {op : CmpOp} (h : op ≠ .In := by decide) (h2 : op ≠ .NotIn := by decide) : behindInMarks op b = false := by
 have e1 : (op == CmpOp.In) = false := by cases op <;> first | rfl | exact absurd rfl h
 have e2 : (op == CmpOp.NotIn) = false := by cases op <;> first | rfl | exact absurd rfl h2
 cases b <;> simp [behindInMarks, e1, e2]
theorem pe_cmpR {op : CmpOp} {r : R2} (ho : OpR X (compareOp op) r) (ha : PE X a ta) (hb : PE X b tb) (hm : behindInMarks op b = false) : PE X (.Compare a [op] [b] pos) (tOp r ta tb) := by
 intro pins s σ H Q I h
 exact wpAny_Compare1 (binT ha hb I h fun v u s2 x y H2 I2 rx ry q => ho pins s2 σ H2 x y v u Q I2 rx ry q) hm
noncomputable def tTest (t : TE) : TT := fun σ H Q => t σ H fun x H' => ∃ k, x = .bl k /\ Q k H'
theorem pt_cmpR {op : CmpOp} {r : R2} (ho : OpR X (compareOp op) r) (ha : PE X a ta) (hb : PE X b tb) (hm : behindInMarks op b = false) : PT X (.Compare a [op] [b] pos) (tTest (tOp r ta tb)) := by
 intro pins s σ H Q I h
 refine wpAny_isTrue_Compare1 (thn (ha pins s σ H _ I h) fun v s1 ⟨x, H1, I1, r1, q1⟩ => thn (hb pins s1 σ H1 _ I1 q1) fun u s2 ⟨y, H2, I2, r2, q2⟩ =>
  thn (ho pins s2 σ H2 x y v u _ I2 r1 r2 q2) fun c s3 ⟨z, H3, I3, r3, k, e, q3⟩ => ?_) hm
 subst e
 cases r3
 exact wpAny_truthy_bool ⟨H3, I3, q3⟩
noncomputable def tChain (r r' : R2) (ta tb tc : TE) : TE := fun σ H Q => ta σ H fun x H1 => tb σ H1 fun y H2 => r x y H2 fun z H3 => ∃ k, z = .bl k /\
 (if k = true then tc σ H3 fun w' H4 => r' y w' H4 Q else Q (.bl false) H3)
theorem pt_chain {op op' : CmpOp} {r r' : R2} (ho : OpR X (compareOp op) r) (ho' : OpR X (compareOp op') r') (ha : PE X a ta) (hb : PE X b tb) (hc : PE X c tc)
  (hm : lastMarks [op, op'] [b, c] = false := by with_unfolding_all rfl) : PT X (.Compare a [op, op'] [b, c] pos) (tTest (tChain r r' ta tb tc)) := by
 intro pins s σ H Q I h
 refine isTrue_chain (thn (ha pins s σ H _ I h) fun v s1 ⟨x, H1, I1, r1, q1⟩ => test_link (thn (hb pins s1 σ H1 _ I1 q1) fun u s2 ⟨y, H2, I2, r2, q2⟩ =>
  thn (ho pins s2 σ H2 x y v u _ I2 r1 r2 q2) fun d s3 ⟨z, H3, I3, r3, k, e, q3⟩ => ?_)) hm
 subst e
 cases r3
 refine wpAny_truthy_bool ?_
 cases k with
 | false =>
  obtain ⟨k', e', q'⟩ := q3
  cases e'
  exact ite_ff ⟨H3, I3, q'⟩
 | true =>
  refine ite_tt (test_last (thn (hc pins s3 σ H3 _ I3 q3) fun w' s4 ⟨z', H4, I4, r4, q4⟩ => thn (ho' pins s4 σ H4 y z' u w' _ I4 r2 r4 q4) fun d' s5 ⟨z2, H5, I5, r5, k2, e2, q5⟩ => ?_))
  subst e2
  cases r5
  exact wpAny_truthy_bool ⟨H5, I5, q5⟩
theorem line63 : (sizeLine : Nat) < 2 ^ 63 := by rw [sizeLine_eq]; decide
theorem op_add_str : OpR X (binaryOp .Add) (fun x y H Q => ∃ i j, x = .str i /\ y = .str j /\ i.length + j.length <= sizeLine /\ Q (.str (i ++ j)) H) := by
 intro pins s σ H x y v u Q I rx ry h
 obtain ⟨i, j, rfl, rfl, hz, q⟩ := h
 obtain ⟨t, rfl⟩ := rx
 obtain ⟨t', rfl⟩ := ry
 exact add_str (fun t' tk => ⟨.str (i ++ j), H, I.tok _, ⟨_, rfl⟩, q⟩) hz
theorem vals1 {x : V} {us : List Value} (r : Vals [x] us) : ∃ u, us = [u] /\ RelV x u := by
 cases r with
 | cons r1 r2 => cases r2; exact ⟨_, rfl, r1⟩
theorem vals2 {x y : V} {us : List Value} (r : Vals [x, y] us) : ∃ u w', us = [u, w'] /\ RelV x u /\ RelV y w' := by
 cases r with
 | cons r1 r2 =>
  cases r2 with
  | cons r3 r4 => cases r4; exact ⟨_, _, rfl, r1, r3⟩
theorem call_abs : CallR X (.builtin "abs") (fun xs H Q => ∃ i, xs = [.int i] /\ Q (.int (if i < 0 then -i else i)) H) := by
 intro pins s σ H xs us Q I r h
 obtain ⟨i, rfl, q⟩ := h
 obtain ⟨u, rfl, t, rfl⟩ := vals1 r
 exact call_abs_int fun u tk => ⟨.int (if i < 0 then -i else i), H, I.tok _, ⟨_, rfl⟩, q⟩
theorem call_min2 (hc : X.calm = true) : CallR X (.builtin "min") (fun xs H Q => ∃ i j, xs = [.int i, .int j] /\ Q (.int (if j < i then j else i)) H) := by
 intro pins s σ H xs us Q I r h
 obtain ⟨i, j, rfl, q⟩ := h
 obtain ⟨u, w', rfl, ⟨t, rfl⟩, ⟨t', rfl⟩⟩ := vals2 r
 refine min_two_ints (I.ok.hd hc) fun h' tk k => ⟨_, H, I.kept k, ?_, q⟩
 by_cases hj : j < i
 ·rw [if_pos hj, if_pos hj]; exact ⟨_, rfl⟩
 ·rw [if_neg hj, if_neg hj]; exact ⟨_, rfl⟩
theorem call_int1 : CallR X (.type "int") (fun xs H Q => (∃ i, xs = [.int i] /\ Q (.int i) H) \/ ∃ k, xs = [.bl k] /\ Q (.int (if k then 1 else 0)) H) := by
 intro pins s σ H xs us Q I r h
 rcases h with ⟨i, rfl, q⟩ | ⟨k, rfl, q⟩
 ·obtain ⟨u, rfl, t, rfl⟩ := vals1 r
  exact call_int_int ⟨.int i, H, I, ⟨_, rfl⟩, q⟩
 ·obtain ⟨u, rfl, r1⟩ := vals1 r
  cases r1
  exact call_int_bool ⟨.int (if k then 1 else 0), H, I.tok _, ⟨_, rfl⟩, q⟩
noncomputable def LenV (K : PySem.W.Frag) (x : V) (H : Hp) (n : Nat) : Prop :=
 match x with
 | .str y => y.length <= sizeLine /\ n = y.length
 | .byt y => y.size <= sizeLine /\ n = y.size
 | .ref p => (∃ xs, SqL K H p xs /\ n = xs.length) \/ ∃ xs, SqT K H p xs /\ n = xs.length
 | _ => False
theorem call_len : CallR X (.builtin "len") (fun xs H Q => ∃ x n, xs = [x] /\ LenV X.K x H n /\ Q (.int n) H) := by
 intro pins s σ H xs us Q I r h
 obtain ⟨x, n, rfl, e, q⟩ := h
 obtain ⟨u, rfl, rx⟩ := vals1 r
 have hl := line63
 have hs : sizeLine = 16777216 := sizeLine_eq
 cases x with
 | str y =>
  obtain ⟨t, rfl⟩ := rx
  obtain ⟨hy, e'⟩ : y.length <= sizeLine /\ n = y.length := e
  subst e'
  exact len_str (by lia) ⟨.int _, H, I.tok _, ⟨_, rfl⟩, q⟩
 | byt y =>
  obtain ⟨t, rfl⟩ := rx
  obtain ⟨hy, e'⟩ : y.size <= sizeLine /\ n = y.size := e
  subst e'
  exact PySem.W.len_bytes (by lia) ⟨.int _, H, I.tok _, ⟨_, rfl⟩, q⟩
 | ref p =>
  cases rx
  have e' : (∃ xs, SqL X.K H p xs /\ n = xs.length) \/ ∃ xs, SqT X.K H p xs /\ n = xs.length := e
  rcases e' with ⟨xs, hx, e'⟩ | ⟨xs, hx, e'⟩
  ·subst e'
   obtain ⟨its, r', pl, hz⟩ := I.list hx
   have hlen := r'.length
   exact Calls.call_len_list pl.isList (by simp only [List.size_toArray]; lia) ⟨.int xs.length, H, I.tok _, ⟨_, by simp only [List.size_toArray]; rw [hlen]⟩, q⟩
  ·subst e'
   obtain ⟨its, r', pl, hz⟩ := I.tuple hx
   have hlen := r'.length
   exact len_tuple pl (by simp only [List.size_toArray]; lia) ⟨.int xs.length, H, I.tok _, ⟨_, by simp only [List.size_toArray]; rw [hlen]⟩, q⟩
 | _ => exact (show False from e).elim
end
end L2
namespace L2
open PySem PySem.Spec PyProof.Rows
structure ObjM (h : Heap) (x dx C : Addr) (mA : Str -> Option Value) : Prop where
 obj : h.get? x = some (PySem.W.instObj C dx)
 ns : h.Ns1 dx mA
 ne : dx ≠ x
theorem lookIn_ns {h : Heap} {dx : Addr} {mA : Str -> Option Value} (n : h.Ns1 dx mA) : ∃ od, h.get? dx = some od /\ ∀ name, PySem.W.lookIn name od = some (mA name) := by
 obtain ⟨o, es, ep, ho, hd, hk, _, hm⟩ := n
 refine ⟨o, ho, fun name => ?_⟩
 have e := hm name
 unfold nsFind findBy at e
 rw [<- Array.find?_toList] at e
 unfold PySem.W.lookIn
 rw [hd]
 dsimp only
 split
 ·rename_i y q
  rw [q] at e
  exact congrArg some e
 ·rename_i q
  rw [q] at e
  have a : es.toList.any (·.refKey) = false := by
   rw [List.any_eq_false]
   intro y hy
   obtain ⟨z, t, hkey⟩ := hk y (Array.mem_toList_iff.mp hy)
   simp [DictEntry.refKey, hkey]
  have a' : ¬ es.toList.any (·.refKey) = true := by rw [a]; exact Bool.false_ne_true
  rw [if_neg a']
  exact congrArg some e
theorem ObjM.look {h : Heap} {x dx C : Addr} {mA : Str -> Option Value} (I : ObjM h x dx C mA) : ∃ od, PySem.W.InstAt h x (PySem.W.instObj C dx) C (some od) /\ ∀ name, PySem.W.lookIn name od = some (mA name) :=
 let ⟨od, ho, hl⟩ := lookIn_ns I.ns
 ⟨od, ⟨I.obj, rfl, rfl, ho⟩, hl⟩
section
variable {prog : Program} {w : World} {A : Around} {E : Value -> Shared -> Prop} {s : Shared} {K : PySem.W.Frag} {x dx C f : Addr} {mA : Str -> Option Value} {name : Str} {v : Value}
end
theorem RelO.some_of {v : V} {o : Option Value} (r : RelO (some v) o) : ∃ u, o = some u /\ RelV v u := by
 cases o with
 | none => exact (show False from r).elim
 | some u => exact ⟨u, rfl, r⟩
section
variable {P : Program} {w : World} {H H' : Hp} {h h' : Heap} {a C dx : Addr} {fs fs' : List (Str × V)}
theorem ins_get (hok : HOk P w H h) (e : H a = some (.ins C dx fs)) : ∃ mA, ObjM h a dx C mA /\ (∀ f, RelO (fs.lookup f) (mA f)) /\ PySem.Within mA (fs.map (·.1)) /\ fs.length <= 1000 /\ H dx = some (.own a) := by
 obtain ⟨d, z, ne, ob, mA, n, r, q⟩ := (show ObjOk P w H h a (.ins C dx fs) from hok a _ e)
 exact ⟨mA, ⟨ob, n, ne⟩, r, q, z, d⟩
end
structure Cls (K : PySem.W.Frag) (C : Addr) : Prop where
 pg : PySem.W.plainGet K C Str.empty = true
 hd : PySem.W.hasDictIn K C = true
 po : PySem.W.plainOver K C = true
 sa : PySem.W.findIn K (.ref C) "__setattr__" = some (some (.builtin "object.__setattr__"))
theorem Cls.get {K : PySem.W.Frag} {C : Addr} (c : Cls K C) (f : Str) : PySem.W.plainGet K C f = true := c.pg
section
variable {X : Cx} {pins : List (Addr × Obj)} {σ : St} {H : Hp} {s : Shared} {a C dx : Addr} {fs : List (Str × V)} {f : Str} {v : V} {A : Around} {E : Value -> Shared -> Prop}
theorem attr_of {prog : Program} {w : World} {env : Env} {e : Expr} {f : Str} {pos : Pos} {s : Shared} {Q : Value -> Shared -> Prop} (hb : attributeBase e f env (eval e env) = eval e env)
  (h : wpAny (model prog w) A (eval e env) (fun o s₁ => wpAny (model prog w) A (getAttr o f true) Q E s₁) E s) : wpAny (model prog w) A (eval (.Attribute e f pos) env) Q E s :=
 Attribute_any_ h (by rw [arm_eval_Attribute, hb])
end
section
variable {X : Cx} {o e value : Expr} {f : Str} {pos pos' tpos : Pos} {ta tv : TE}
end
section
variable {X : Cx} {pins : List (Addr × Obj)} {σ : St} {H : Hp} {s : Shared} {A : Around} {E : Value -> Shared -> Prop} {Q : Value -> Shared -> Prop} {c : Value} {b : Bool}
inductive TyOf (K : PySem.W.Frag) (H : Hp) : V -> Value -> Prop where
 | non : TyOf K H .non (.type "NoneType")
 | bl (x : Bool) : TyOf K H (.bl x) (.type "bool")
 | int (i : Int) : TyOf K H (.int i) (.type "int")
 | str (x : Str) : TyOf K H (.str x) (.type "str")
 | flt (x : UInt64) : TyOf K H (.flt x) (.type "float")
 | lst {a : Addr} {xs : List V} (e : H a = some (.lst xs)) : TyOf K H (.ref a) (.type "list")
 | frz {a : Addr} {o : Obj} {xs : List V} (e : H a = some (.frz o (.lst xs))) : TyOf K H (.ref a) (.type "list")
 | tup {a : Addr} {xs : List V} (e : H a = some (.tup xs)) : TyOf K H (.ref a) (.type "tuple")
 | dK {a : Addr} {kvs : List (Key × V)} (e : H a = some (.dK kvs)) : TyOf K H (.ref a) (.type "dict")
 | dT {a : Addr} {kvs : List (List Key × V)} (e : H a = some (.dT kvs)) : TyOf K H (.ref a) (.type "dict")
 | ins {a C dx : Addr} {fs : List (Str × V)} (e : H a = some (.ins C dx fs)) (cl : Cls K C) (ha : PySem.W.findIn K (.ref C) "__class__" = some (some (.builtin "object.__class__")))
   (hn : PySem.W.specialIn K (.builtin "object.__class__") "__get__" = some (some (.builtin "getset_descriptor.__get__"))) (htk : PySem.W.takesIn K (.builtin "object.__class__") = some true)
   (hm : PySem.W.mroIn K C (.type "object") = some true) : TyOf K H (.ref a) (.ref C)
theorem isinst_ok {x : V} {u t : Value} (I : Inv X pins σ H s) (rx : RelV x u) (ty : TyOf X.K H x t) (e : PySem.W.kitOne X.K t c = some b) (h : ∀ tk, Q (.bool b) { s with toks := tk }) :
  wpAny (model X.prog X.w) A (call (.builtin "isinstance") [u, c]) Q E s := by
 cases ty with
 | non => cases (show u = Value.none from rx); exact PySem.W.kia_one PySem.W.kitx_none I.kIn True.intro e (fun z => nomatch z) h
 | bl y => cases (show u = Value.bool y from rx); exact PySem.W.kia_one PySem.W.kitx_bool I.kIn True.intro e (fun z => nomatch z) h
 | int i => obtain ⟨t, q⟩ := (show ∃ t, u = Value.int i t from rx); cases q; exact PySem.W.kia_one PySem.W.kitx_int I.kIn True.intro e (fun z => nomatch z) h
 | str y => obtain ⟨t, q⟩ := (show ∃ t, u = Value.str y t from rx); cases q; exact PySem.W.kia_one PySem.W.kitx_str I.kIn True.intro e (fun z => nomatch z) h
 | flt y => obtain ⟨t, q⟩ := (show ∃ t, u = Value.float y t from rx); cases q; exact PySem.W.kia_one PySem.W.kitx_float I.kIn True.intro e (fun z => nomatch z) h
 | @lst a xs ea =>
  cases (show u = Value.ref a from rx)
  obtain ⟨_, _, n, _, h1⟩ := (show ObjOk X.prog X.w H s.heap a (.lst xs) from I.hok a _ ea)
  exact PySem.W.kia_one PySem.W.kitx_list I.kIn ⟨_, h1, rfl⟩ e (fun z => nomatch z) h
 | @frz a ob xs ea =>
  cases (show u = Value.ref a from rx)
  obtain ⟨_, _, _, n, _, h1⟩ := (show ObjOk X.prog X.w H s.heap a (.frz ob (.lst xs)) from I.hok a _ ea)
  exact PySem.W.kia_one PySem.W.kitx_list I.kIn ⟨_, h1, rfl⟩ e (fun z => nomatch z) h
 | @tup a xs ea =>
  cases (show u = Value.ref a from rx)
  obtain ⟨_, _, _, p⟩ := (show ObjOk X.prog X.w H s.heap a (.tup xs) from I.hok a _ ea)
  obtain ⟨o, h1, h2, _⟩ := p
  exact PySem.W.kia_one PySem.W.kitx_tuple I.kIn ⟨o, h1, h2⟩ e (fun z => nomatch z) h
 | @dK a kvs ea =>
  cases (show u = Value.ref a from rx)
  obtain ⟨_, _, vs, _, p⟩ := (show ObjOk X.prog X.w H s.heap a (.dK kvs) from I.hok a _ ea)
  obtain ⟨o, es, ep, h1, h2, _⟩ := p
  exact PySem.W.kia_one PySem.W.kitx_dict I.kIn ⟨o, h1, h2.1⟩ e (fun z => nomatch z) h
 | @dT a kvs ea =>
  cases (show u = Value.ref a from rx)
  obtain ⟨_, _, xs, _, o, es, ep, h1, h2, _⟩ := (show ObjOk X.prog X.w H s.heap a (.dT kvs) from I.hok a _ ea)
  exact PySem.W.kia_one PySem.W.kitx_dict I.kIn ⟨o, h1, h2.1⟩ e (fun z => nomatch z) h
 | @ins a C dx fs ea cl ha hn htk hm =>
  cases (show u = Value.ref a from rx)
  obtain ⟨mA, O, _⟩ := ins_get I.hok ea
  obtain ⟨od, J, _⟩ := O.look
  exact PySem.W.kia_one (PySem.W.kitx_own (cl.get _) cl.hd ha hn htk hm) I.kIn J e (fun z => nomatch z) h
end
end L2
namespace L2
open PySem PySem.Spec PyProof.Rows
structure Room (k : Nat) (A : Around) : Prop where
 hd : A.handled = none
 dp : A.depth + 3 * k + 5 < recursionLimit
 un : A.units + 16 * k + 200 < cLine
theorem Room.mono {j k : Nat} {A : Around} (r : Room k A) (h : j <= k) : Room j A := ⟨r.hd, by have := r.dp; lia, by have := r.un; lia⟩
theorem Room.deeper {k : Nat} {A : Around} (r : Room (k + 1) A) (env : Env) : Room k (A.deeper env) :=
 ⟨r.hd, by have := r.dp; show A.depth + 1 + 3 * k + 5 < _; lia, by have := r.un; show A.units + 3 + 16 * k + 200 < _; lia⟩
theorem make_depth {A : Around} {C : Addr} {us : List Value} {kw : List (Str × Value)} : (A.under (.builtin "type.__call__" ⟨.ref C :: us, kw⟩)).depth = A.depth + 1 := by
 first | rfl | simp [Around.under, Code.weight, Code.isCreation, Code.isGuard, Code.isCaller, Code.frames, Code.isFrame, guardIds]
theorem make_units {A : Around} {C : Addr} {us : List Value} {kw : List (Str × Value)} : (A.under (.builtin "type.__call__" ⟨.ref C :: us, kw⟩)).units = A.units + 1 := by
 first | rfl | simp [Around.under, Code.cUnits, Code.frames, Code.isFrame]
theorem Room.make {k : Nat} {A : Around} (r : Room (k + 1) A) (C : Addr) (us : List Value) (kw : List (Str × Value)) : Room k (A.under (.builtin "type.__call__" ⟨.ref C :: us, kw⟩)) :=
 ⟨r.hd, by have := r.dp; rw [make_depth]; lia, by have := r.un; rw [make_units]; lia⟩
theorem Room.depth {k : Nat} {A : Around} (r : Room k A) : A.depth < recursionLimit := by have := r.dp; lia
theorem Room.units {k : Nat} {A : Around} (r : Room k A) : A.units + 64 < cLine := by have := r.un; lia
noncomputable def tNil : TA := fun _ H Q => Q [] H
noncomputable def tCons (ta : TE) (tr : TA) : TA := fun σ H Q => ta σ H fun x H1 => tr σ H1 fun xs H2 => Q (x :: xs) H2
section
variable {X : Cx} {e : Expr} {es : List Expr} {te : TE} {t : TA} {pos : Pos}
theorem pa_nil : PA X [] tNil := fun _ _ _ _ H Q I h => Calls.spliced_nil ⟨[], H, I, .nil, h⟩
theorem pa_cons (ha : PE X e te) (hr : PA X es t) (hs : starEach (e :: es) X.env = (false, eval e X.env) :: starEach es X.env := by rfl) : PA X (e :: es) (tCons te t) := by
 intro pos pins s σ H Q I h
 rw [hs]
 show wpAny _ _ (spliced ((false, eval e X.env) :: backTo pos (starEach es X.env))) _ _ s
 refine Calls.spliced_cons (thn (ha pins s σ H _ I h) fun u s1 ⟨x, H1, I1, r1, q1⟩ => ?_)
 exact thn (hr pos pins s1 σ H1 _ I1 q1) fun us s2 ⟨xs, H2, I2, r2, q2⟩ => ⟨x :: xs, H2, I2, .cons r1 r2, q2⟩
noncomputable def tTup (t : TA) : TE := fun σ H Q => t σ H fun xs H1 => xs.length <= sizeLine /\ ∀ p, H1 p = none -> Q (.ref p) (upd H1 p (.tup xs))
noncomputable def tLst (t : TA) : TE := fun σ H Q => t σ H fun xs H1 => xs.length <= sizeLine /\ ∀ p, H1 p = none -> Q (.ref p) (upd H1 p (.lst xs))
theorem pe_tup {x1} (h : PA X es t) : PE X (.Tuple es x1 pos) (tTup t) := by
 intro pins s σ H Q I hq
 refine wpAny_Tuple_spliced (thn (h pos pins s σ H _ I hq) fun us s1 ⟨xs, H1, I1, r, z, q⟩ => ⟨by rw [<- r.length]; exact z, ?_⟩)
 have hf : H1 s1.heap.objs.size = none := I1.hok.fresh (Nat.le_refl _)
 refine ⟨.ref s1.heap.objs.size, upd H1 s1.heap.objs.size (.tup xs), I1.laid (t' := s1.toks) (fun b u e => Heap.get?_push_of_some _ e) (Nat.le_refl _) ?_, rfl, q _ hf⟩
 exact ⟨z, us, r, ⟨_, Heap.get?_push_size _ rfl, rfl, _, rfl⟩⟩
theorem pe_lst (h : PA X es t) : PE X (.List es pos) (tLst t) := by
 intro pins s σ H Q I hq
 refine wpAny_List_spliced (thn (h pos pins s σ H _ I hq) fun us s1 ⟨xs, H1, I1, r, z, q⟩ => ⟨by rw [<- r.length]; exact z, ?_⟩)
 have hf : H1 s1.heap.objs.size = none := I1.hok.fresh (Nat.le_refl _)
 refine ⟨.ref s1.heap.objs.size, upd H1 s1.heap.objs.size (.lst xs), I1.laid (t' := s1.toks) (fun b u e => Heap.get?_push_of_some _ e) (Nat.le_refl _) ?_, rfl, q _ hf⟩
 exact ⟨z, us, 0, r, Heap.get?_push_size _ rfl⟩
end
noncomputable abbrev Sp := List V -> Hp -> VK -> XK -> Prop
noncomputable abbrev CXT := List Env -> Hp -> Shared -> XK -> Value -> Shared -> Prop
structure Env0 (P : Program) (w : World) (K : PySem.W.Frag) (mg : Str -> Option Value) (base : Heap) (A : Around) (outer : List Env) (s : Shared) (H : Hp) : Prop where
 frames : A.frames = some outer
 mod : Mod K mg base
 bs : ∀ b o, base.get? b = some o -> s.heap.get? b = some o /\ H b = none
 bsz : base.objs.size <= s.heap.objs.size
 funs : s.heap.FunFrames base outer
 frf : ∀ b ∈ frs outer, H b = none
 hok : HOk P w H s.heap
 bare : AllBare s.gens
noncomputable def CE (outer : List Env) (P : Program) (w : World) (H : Hp) (s : Shared) (Q : VK) (u : Value) (s' : Shared) : Prop :=
 ∃ v H', s'.os = s.os /\ AllBare s'.gens /\ Un (frs outer) [] H H' s.heap s'.heap /\ HOk P w H' s'.heap /\ RelV v u /\ Q v H'
noncomputable def CR (CX : CXT) (outer : List Env) (P : Program) (w : World) (H : Hp) (s : Shared) (Q : VK) (E : XK) (r : Result) (s' : Shared) : Prop :=
 match r with
 | .ok (.ret u) => CE outer P w H s Q u s'
 | .ok _ => False
 | .error e => CX outer H s E e s'
structure FnOk (P : Program) (w : World) (K : PySem.W.Frag) (mg : Str -> Option Value) (base : Heap) (CX : CXT) (k : Nat) (f : Addr) (fd : FuncData) (ps : List Str) (sp : Sp) : Prop where
 len : ∀ vs H Q E, sp vs H Q E -> vs.length = ps.length
 run : ∀ (A : Around) (outer : List Env) (s : Shared) (H : Hp) (args : Args) (us : List Value) (vs : List V) (Q : VK) (E : XK), Room k A -> Env0 P w K mg base A outer s H -> BindsTo s fd args (ps.zip us) -> Vals vs us -> sp vs H Q E ->
  codeAny (model P w) A (.call (.ref f) args) (CR CX outer P w H s Q E) s
theorem Env0.make {P : Program} {w : World} {K : PySem.W.Frag} {mg : Str -> Option Value} {base : Heap} {A : Around} {outer : List Env} {s : Shared} {H : Hp} (e : Env0 P w K mg base A outer s H) (C : Addr) (us : List Value) (kw : List (Str × Value)) :
  Env0 P w K mg base (A.under (.builtin "type.__call__" ⟨.ref C :: us, kw⟩)) outer s H := ⟨by first | exact e.frames | (simpa [Around.under, Code.envs, Code.isFrame, pushEnvs] using e.frames), e.mod, e.bs, e.bsz, e.funs, e.frf, e.hok, e.bare⟩
section
variable {X : Cx} {pins : List (Addr × Obj)} {σ : St} {H : Hp} {s s' : Shared}
theorem Inv.env0 (I : Inv X pins σ H s) : Env0 X.prog X.w X.K X.mg X.base X.A X.stack s H :=
 ⟨I.ok.frames, I.ok.mod, I.bs, Nat.le_trans I.ok.bsz I.sz, I.stack, I.stkFree, I.hok, I.bare⟩
theorem Inv.after {Q : VK} {u : Value} (I : Inv X pins σ H s) (h : CE X.stack X.prog X.w H s Q u s') : EP X pins σ Q u s' := by
 obtain ⟨v, H', os, bare, un, hok, r, q⟩ := h
 obtain ⟨hh, g, d, t, os'⟩ := s'
 obtain rfl : os' = s.os := os
 exact ⟨v, H', I.call (h' := hh) (g' := g) (d' := d) (t' := t) (ch := []) un hok bare (fun b z => absurd z (by simp)), r, q⟩
end
noncomputable def tCall (sp : Sp) (dvs : List V) (E : XK) (t : TA) : TE := fun σ H Q => t σ H fun vs H1 => sp (vs ++ dvs) H1 Q E
noncomputable def Binds (K : PySem.W.Frag) (fd : FuncData) (ps : List Str) (ds : List Value) : Prop :=
 ∀ (s : Shared) (us : List Value), K.In s.heap -> (us ++ ds).length = ps.length -> BindsTo s fd ⟨us, []⟩ (ps.zip (us ++ ds))
theorem Binds.all {K : PySem.W.Frag} {fd : FuncData} {ps : List Str} (h : ∀ us : List Value, us.length = ps.length -> bindArgs fd ⟨us, []⟩ = pure (ps.zip us)) : Binds K fd ps [] := fun s us _ hl => by
 rw [List.append_nil] at hl ⊢
 exact .of_eq (h us hl)
noncomputable def Passes (CX : CXT) (X : Cx) (E : XK) : Prop := ∀ (pins : List (Addr × Obj)) (σ : St) (H : Hp) (s : Shared) (e : Value) (s' : Shared), Inv X pins σ H s -> CX X.stack H s E e s' -> X.xe e s'
section
variable {X : Cx} {CX : CXT} {k : Nat} {f C : Addr} {fd : FuncData} {ps : List Str} {sp : Sp} {dvs : List V} {ds : List Value} {E : XK} {x m : Str} {p pos apos : Pos} {e o : Expr} {es : List Expr} {ta : TE} {t : TA}
theorem run_fn {pins : List (Addr × Obj)} {σ : St} {H : Hp} {s : Shared} {Q : VK} {us : List Value} {vs : List V} (F : FnOk X.prog X.w X.K X.mg X.base CX k f fd ps sp) (hr : Room k X.A) (hb : Binds X.K fd ps ds) (hd : Vals dvs ds) (hx : Passes CX X E)
  (I : Inv X pins σ H s) (r : Vals vs us) (h : sp (vs ++ dvs) H Q E) : wpAny (model X.prog X.w) X.A (call (.ref f) us) (EP X pins σ Q) X.xe s := by
 have r2 : Vals (vs ++ dvs) (us ++ ds) := r.append hd
 have hl : (us ++ ds).length = ps.length := by rw [<- r2.length]; exact F.len _ _ _ _ h
 refine wpAny_call (codeAny_mono (F.run X.A X.stack s H ⟨us, []⟩ (us ++ ds) (vs ++ dvs) Q E hr I.env0 (hb s us I.kIn hl) r2 h) fun r s' hq => ?_)
 cases r with
 | error e => exact hx pins σ H s e s' I hq
 | ok fl =>
  cases fl with
  | ret u => exact I.after hq
  | next => exact False.elim hq
  | brk => exact False.elim hq
  | cont => exact False.elim hq
theorem pe_call (F : FnOk X.prog X.w X.K X.mg X.base CX k f fd ps sp) (hr : Room k X.A) (hg : Gl X x) (hm : X.mg x = some (.ref f)) (hk : PySem.W.keepIn X.K (.ref f) = true) (hb : Binds X.K fd ps ds) (hd : Vals dvs ds) (hx : Passes CX X E)
  (ha : PA X (e :: es) t) (hdb : (x == ("__debug__" : Str)) = false := by decide) (he : starEach (e :: es) X.env = (false, eval e X.env) :: starEach es X.env := by rfl) (hpl : (backTo pos (starEach es X.env)).any (·.1) = false := by rfl) :
  PE X (.Call (.Name x p) (e :: es) [] pos) (tCall sp dvs E t) := by
 intro pins s σ H Q I h
 refine wpAny_Call_Name_kw (ld_glob I hg hm ?_ hdb)
 refine PySem.W.callWith_K (h₀ := X.base) I.ok.mod.kin hk (thn (ha pos pins s σ H _ I h) fun us s1 ⟨vs, H1, I1, r, q⟩ => ⟨I1.kIn, ?_⟩) he hpl
 exact run_fn F hr hb hd hx I1 r q
end
section
variable {X : Cx} {CX : CXT} {k : Nat} {f C : Addr} {fd : FuncData} {ps ks : List Str} {sp : Sp} {E : XK} {x m : Str} {p pos apos kpos : Pos} {e o : Expr} {es : List Expr} {kws : List Keyword} {te ta : TE} {t tk : TA} {nm : Option Str}
variable {g : List Value -> List Value -> List Value} {gV : List V -> List V -> List V}
end
structure FnScope (N P : List Str) (sc : Scope) : Prop where
 kind : sc.kind = .function
 co : sc.isCoroutine = false
 gen : sc.isGenerator = false
 nd : N.Nodup
 pre : N.take P.length = P
 par : ∀ x ∈ P, sc.names.lookup x = some .local \/ sc.names.lookup x = some .cell
 nofree : ∀ y ∈ sc.names, y.2 ≠ .free
theorem bindL_out {kindOf : Str -> Option NameKind} {x : Str} : ∀ {binds : List (Str × Value)} {m : Str -> Option Value}, (∀ v, (x, v) ∉ binds) -> bindL kindOf binds m x = m x
 | [], _, _ => rfl
 | (n, v) :: r, m, h => by
  unfold bindL
  rw [bindL_out fun w hw => h w (List.mem_cons_of_mem _ hw)]
  split
  ·have : x ≠ n := by rintro rfl; exact h v List.mem_cons_self
   simp [this]
  ·rfl
theorem bindC_out {kindOf : Str -> Option NameKind} {x : Str} : ∀ {binds : List (Str × Value)} {m : Str -> Option Value}, (∀ v, (x, v) ∉ binds) -> bindC kindOf binds m x = m x
 | [], _, _ => rfl
 | (n, v) :: r, m, h => by
  unfold bindC
  rw [bindC_out fun w hw => h w (List.mem_cons_of_mem _ hw)]
  split
  ·rfl
  ·have : x ≠ n := by rintro rfl; exact h v List.mem_cons_self
   simp [this]
theorem bindL_get {kindOf : Str -> Option NameKind} {x : Str} {v : Value} : ∀ {P : List Str} {vs : List Value} {i : Nat} {m : Str -> Option Value}, P.Nodup -> P[i]? = some x -> vs[i]? = some v -> kindOf x = some .local ->
  bindL kindOf (P.zip vs) m x = some v
 | [], _, _, _, _, h, _, _ => by simp at h
 | _ :: _, [], _, _, _, _, h, _ => by simp at h
 | p :: P, w :: vs, 0, m, nd, h1, h2, hk => by
  simp at h1 h2; subst h1; subst h2
  show bindL kindOf ((p, w) :: P.zip vs) m p = _
  unfold bindL
  rw [bindL_out fun v hv => (List.nodup_cons.mp nd).1 (List.of_mem_zip hv).1, if_pos hk]
  simp
 | p :: P, w :: vs, i + 1, m, nd, h1, h2, hk => by
  show bindL kindOf ((p, w) :: P.zip vs) m x = _
  unfold bindL
  exact bindL_get (i := i) (List.nodup_cons.mp nd).2 (by simpa using h1) (by simpa using h2) hk
theorem bindC_get {kindOf : Str -> Option NameKind} {x : Str} {v : Value} : ∀ {P : List Str} {vs : List Value} {i : Nat} {m : Str -> Option Value}, P.Nodup -> P[i]? = some x -> vs[i]? = some v -> kindOf x ≠ some .local ->
  bindC kindOf (P.zip vs) m x = some v
 | [], _, _, _, _, h, _, _ => by simp at h
 | _ :: _, [], _, _, _, _, h, _ => by simp at h
 | p :: P, w :: vs, 0, m, nd, h1, h2, hk => by
  simp at h1 h2; subst h1; subst h2
  show bindC kindOf ((p, w) :: P.zip vs) m p = _
  unfold bindC
  rw [bindC_out fun v hv => (List.nodup_cons.mp nd).1 (List.of_mem_zip hv).1, if_neg hk]
  simp
 | p :: P, w :: vs, i + 1, m, nd, h1, h2, hk => by
  show bindC kindOf ((p, w) :: P.zip vs) m x = _
  unfold bindC
  exact bindC_get (i := i) (List.nodup_cons.mp nd).2 (by simpa using h1) (by simpa using h2) hk
noncomputable def start (N : List Str) (vs : List V) : St := vs.map some ++ List.replicate (N.length - vs.length) none
noncomputable def cxOf (CX : CXT) (P : Program) (w : World) (K : PySem.W.Frag) (mg : Str -> Option Value) (base : Heap) (N : List Str) (qual : Str) (scope : Scope) (f : Addr) (cd : Value) (A : Around) (outer : List Env) (s : Shared) (H : Hp) (E : XK) : Cx where
 prog := P
 w := w
 K := K
 mg := mg
 base := base
 A := A.deeper (envOfC qual scope s.heap.objs.size f cd)
 N := N
 s₀ := s
 H₀ := H
 env := envOfC qual scope s.heap.objs.size f cd
 outer := outer
 stack := envOfC qual scope s.heap.objs.size f cd :: outer
 ex := []
 calm := true
 fn := fun _ => true
 pn := []
 xe := fun e s' => wpAny (model P w) (A.deeper (envOfC qual scope s.heap.objs.size f cd)) (leaving (envOfC qual scope s.heap.objs.size f cd) e) (fun _ s'' => CX outer H s E e s'') (fun e' s'' => CX outer H s E e' s'') s'
theorem cell_has {sc : Scope} {n : Nat} {x : Str} (h : sc.names.lookup x = some .cell) : ∃ c, (cellsFrom n sc.names []).lookup x = some c := by
 have q := PySem.W.cellsFrom_some sc.names n [] (.inl h)
 exact Option.isSome_iff_exists.mp q
theorem inv_start {CX : CXT} {P : Program} {w : World} {K : PySem.W.Frag} {mg : Str -> Option Value} {base : Heap} {N ps : List Str} {qual : Str} {scope : Scope} {f : Addr} {cd : Value} {A : Around} {outer : List Env} {s s1 : Shared} {H : Hp} {E : XK} {us : List Value} {vs : List V}
  (S : FnScope N ps scope) (hd : A.handled = none) (e0 : Env0 P w K mg base A outer s H) (hl : vs.length = ps.length) (r : Vals vs us)
  (x : InCallC s s.heap.objs.size (bindL (envOfC qual scope s.heap.objs.size f cd).kindOf (ps.zip us) fun _ => none) (cellsFrom (s.heap.objs.size + 1) scope.names []) (bindC (envOfC qual scope s.heap.objs.size f cd).kindOf (ps.zip us) fun _ => none) s1) :
  Inv (cxOf CX P w K mg base N qual scope f cd A outer s H E) [] (start N vs) H s1 := by
 have hpl : ps.length <= N.length := by have := congrArg List.length S.pre; rw [List.length_take] at this; lia
 obtain ⟨h1, tk, rfl, hk⟩ := x.done
 have noA : ∀ b : Addr, b ∉ (cxOf CX P w K mg base N qual scope f cd A outer s H E).ex := fun b z => absurd (show b ∈ ([] : List Addr) from z) (by simp)
 refine ⟨⟨e0.mod, S.kind, rfl, rfl, Nat.le_refl _, fun y z c h1 h2 => ?_, fun y hy => ?_, fun y c _ h => ?_, fun _ => hd, Around.frames_deeper e0.frames, .inr ⟨rfl, rfl⟩, fun b z => absurd z (noA b), e0.bs, e0.bsz, fun b _ _ => noA b, fun b z => absurd z (noA b), e0.funs, e0.frf⟩,
  rfl, e0.bare, Un.kept hk, ⟨_, x.toInCall.ns, fun i y v h1 h2 h3 => ?_⟩, fun y c h => ⟨_, x.cell y c h⟩, e0.hok.fresh (Nat.le_refl _), fun y c h => ?_, fun p hp => absurd (show p ∈ ([] : List (Addr × Obj)) from hp) (by simp), e0.hok.kept hk, ?_⟩
 ·exact name_of_addr x.apart (PySem.mem_of_lookup h1) (PySem.mem_of_lookup h2)
 ·have hy : scope.names.lookup y = some .cell \/ scope.names.lookup y = some .free := hy
  rcases hy with hy | hy
  ·exact cell_has hy
  ·exact absurd rfl (S.nofree _ (PySem.mem_of_lookup hy))
 ·exact Nat.le_of_lt (x.above y c (PySem.mem_of_lookup h))
 ·have hi : i < vs.length := by
   unfold start at h2
   by_cases hi : i < vs.length
   ·exact hi
   ·rw [List.getElem?_append_right (by simpa using hi)] at h2
    rw [List.getElem?_replicate] at h2
    split at h2 <;> cases h2
  have ha : vs[i]? = some v := by
   unfold start at h2
   rw [List.getElem?_append_left (by simpa using hi), List.getElem?_map] at h2
   cases e : vs[i]? with
   | none => rw [e] at h2; cases h2
   | some a => rw [e] at h2; cases h2; rfl
  obtain ⟨u, hu, rv⟩ := r.get ha
  have hp : ps[i]? = some y := by
   rw [<- S.pre, List.getElem?_take_of_lt (by lia)]; exact h1
  have ndP : ps.Nodup := by rw [<- S.pre]; exact S.nd.sublist (List.take_sublist _ _)
  refine ⟨u, rv, ?_⟩
  rcases S.par y (List.mem_of_getElem? hp) with k | k
  ·exact .inl ⟨k, bindL_get ndP hp hu k⟩
  ·obtain ⟨c, e⟩ := cell_has (n := s.heap.objs.size + 1) k
   refine .inr ⟨.inl k, c, e, ?_⟩
   have q := x.cell y c e
   rw [bindC_get ndP hp hu (by show scope.names.lookup y ≠ _; rw [k]; decide)] at q
   exact q
 ·exact e0.hok.fresh (Nat.le_of_lt (x.above y c (PySem.mem_of_lookup h)))
 ·unfold start
  show _ = N.length
  rw [List.length_append, List.length_map, List.length_replicate]
  lia
theorem fn_of {CX : CXT} {P : Program} {w : World} {K : PySem.W.Frag} {mg : Str -> Option Value} {base : Heap} {k : Nat} {f : Addr} {name qual : Str} {params : Arguments} {body : List Stmt} {scope : Scope} {dV kV doc pm cdv ct oc : Value} {an od : Option Addr}
  {osl : Array (Option Value)} {N ps : List Str} {sp : Sp} (lk : K.lookup f = some ⟨oc, od, .func (PySem.W.fnOf name qual params body scope dV kV doc pm an cdv ct), osl⟩) (hcd : PySem.W.codeIn K cdv qual = true) (S : FnScope N ps scope)
  (len : ∀ vs H Q E, sp vs H Q E -> vs.length = ps.length)
  (hbody : ∀ (A : Around) (outer : List Env) (s : Shared) (H : Hp) (vs : List V) (Q : VK) (E : XK), Room k (A.deeper (envOfC qual scope s.heap.objs.size f cdv)) -> sp vs H Q E ->
   ∃ t, PSs (cxOf CX P w K mg base N qual scope f cdv A outer s H E) body t /\ t { nx := fun _ H' => Q .non H', rt := Q } (start N vs) H) :
  FnOk P w K mg base CX (k + 1) f (PySem.W.fnOf name qual params body scope dV kV doc pm an cdv ct) ps sp := by
 refine ⟨len, fun A outer s H args us vs Q E hr e0 hb r hsp => ?_⟩
 have hl := len _ _ _ _ hsp
 have KX : K.In s.heap := e0.mod.kin.keeps fun b o e => (e0.bs b o e).1
 have lim : s.heap.NoLimit := e0.mod.nolimit.keeps fun b o e => (e0.bs b o e).1
 have hkind : ∀ y ∈ ps.zip us, scope.names.lookup y.1 = some .local \/ (scope.names.lookup y.1 = some .cell /\ ((cellsFrom (s.heap.objs.size + 1) scope.names []).lookup y.1).isSome = true) := fun ⟨n, v⟩ hy => by
  rcases S.par n (List.of_mem_zip hy).1 with q | q
  ·exact .inl q
  ·exact .inr ⟨q, PySem.W.cellsFrom_some _ _ _ (.inl q)⟩
 refine codeAny_call_function hr.depth (KX _ _ lk) rfl S.co S.gen rfl (PySem.W.codeRec_of KX hcd) (hb _ _ _ _ ?_)
 refine wpAny_newFunctionEnv_cells S.kind hkind fun env he s1 x => ?_
 subst he
 refine ⟨lim.keeps x.toInCall.keep, codeAny_func ?_⟩
 obtain ⟨t, ht, hq⟩ := hbody A outer s H vs Q E (hr.deeper _) hsp
 have I : Inv (cxOf CX P w K mg base N qual scope f cdv A outer s H E) [] (start N vs) H s1 := inv_start S hr.hd e0 hl r x
 refine wpAny_mono (ht [] s1 (start N vs) H _ I hq) (fun fl s' hs => ?_) fun e s' hs => hs
 have fin : ∀ {σ' : St} {H' : Hp} {v : V} {u : Value}, Inv (cxOf CX P w K mg base N qual scope f cdv A outer s H E) [] σ' H' s' -> RelV v u -> Q v H' -> CE outer P w H s Q u s' :=
  fun {σ' H' v u} J rv q => ⟨v, H', J.os, J.bare, J.base, J.hok, rv, q⟩
 cases fl with
 | ret u =>
  obtain ⟨v, σ', H', J, rv, q⟩ := hs
  exact fin J rv q
 | next =>
  obtain ⟨σ', H', J, q⟩ := hs
  exact fin (v := V.non) (u := Value.none) J rfl q
 | brk =>
  obtain ⟨_, _, _, q⟩ := hs
  exact False.elim q
 | cont =>
  obtain ⟨_, _, _, q⟩ := hs
  exact False.elim q
end L2
namespace L2
open PySem PySem.Spec PyProof.Rows
section
variable {X : Cx} {x : Str} {p pos : Pos} {e : Expr} {es : List Expr} {t : TA} {id T : String} {r : List V -> Hp -> VK -> Prop}
noncomputable def tCB (r : List V -> Hp -> VK -> Prop) (t : TA) : TE := fun σ H Q => t σ H fun vs H1 => r vs H1 Q
theorem pe_callB (hc : CallR X (.builtin id) r) (hg : Gl X x) (hm : X.mg x = none) (hv : bootBuiltins x = some (.builtin id)) (ha : PA X (e :: es) t) (hn : x ≠ "__name__" := by decide) (hdb : (x == ("__debug__" : Str)) = false := by decide)
  (he : starEach (e :: es) X.env = (false, eval e X.env) :: starEach es X.env := by rfl) (hpl : (backTo pos (starEach es X.env)).any (·.1) = false := by rfl) : PE X (.Call (.Name x p) (e :: es) [] pos) (tCB r t) := by
 intro pins s σ H Q I h
 refine wpAny_Call_Name_kw (ld_blt I hg hm hv ?_ hn hdb)
 exact PyProof.Rows.callWith_builtin1 (thn (ha pos pins s σ H _ I h) fun us s1 ⟨vs, H1, I1, r1, q1⟩ => hc pins s1 σ H1 vs us Q I1 r1 q1) he hpl
theorem pe_callTy (hc : CallR X (.type T) r) (hg : Gl X x) (hm : X.mg x = none) (hv : bootBuiltins x = some (.type T)) (ha : PA X (e :: es) t) (hn : x ≠ "__name__" := by decide) (hdb : (x == ("__debug__" : Str)) = false := by decide)
  (he : starEach (e :: es) X.env = (false, eval e X.env) :: starEach es X.env := by rfl) (hpl : (backTo pos (starEach es X.env)).any (·.1) = false := by rfl) : PE X (.Call (.Name x p) (e :: es) [] pos) (tCB r t) := by
 intro pins s σ H Q I h
 refine wpAny_Call_Name_kw (ld_blt I hg hm hv ?_ hn hdb)
 exact PyProof.Rows.callWith_type1 (thn (ha pos pins s σ H _ I h) fun us s1 ⟨vs, H1, I1, r1, q1⟩ => hc pins s1 σ H1 vs us Q I1 r1 q1) he hpl
end
end L2
namespace L2
open PySem PySem.Spec PyProof.Rows
section
variable {κ : Type} [DecidableEq κ]
noncomputable def valV (kvs : List (κ × V)) (k : κ) : Option V := (kvs.find? fun kv => decide (kv.1 = k)).map (·.2)
noncomputable def putK (kvs : List (κ × V)) (k : κ) (v : V) : List (κ × V) :=
 if (kvs.any fun kv => decide (kv.1 = k)) = true then kvs.map (fun kv => if kv.1 = k then (kv.1, v) else kv) else kvs ++ [(k, v)]
theorem valV_pos {p : κ × V} {r : List (κ × V)} {k : κ} (e : p.1 = k) : valV (p :: r) k = some p.2 := by simp [valV, List.find?_cons, e]
theorem valV_neg {p : κ × V} {r : List (κ × V)} {k : κ} (e : ¬ p.1 = k) : valV (p :: r) k = valV r k := by simp [valV, List.find?_cons, e]
theorem valV_any (k : κ) : ∀ kvs : List (κ × V), (kvs.any fun kv => decide (kv.1 = k)) = (valV kvs k).isSome
 | [] => rfl
 | p :: r => by
  rw [List.any_cons]
  by_cases e : p.1 = k
  ·simp only [valV_pos e, decide_eq_true e, Bool.true_or, Option.isSome_some]
  ·rw [valV_neg e, decide_eq_false e, Bool.false_or]; exact valV_any k r
theorem valV_map (k j : κ) (y : V) : ∀ kvs : List (κ × V), valV (kvs.map fun kv => if kv.1 = k then (kv.1, y) else kv) j = (valV kvs j).map fun x => if j = k then y else x
 | [] => rfl
 | p :: r => by
  have ih := valV_map k j y r
  rw [List.map_cons]
  by_cases h : p.1 = k
  ·rw [if_pos h]
   by_cases e : p.1 = j
   ·rw [valV_pos (p := (p.1, y)) e, valV_pos e, Option.map_some, if_pos (e.symm.trans h)]
   ·rw [valV_neg (p := (p.1, y)) e, valV_neg e, ih]
  ·rw [if_neg h]
   by_cases e : p.1 = j
   ·rw [valV_pos (p := p) e, valV_pos e, Option.map_some, if_neg (fun z => h (e.trans z))]
   ·rw [valV_neg (p := p) e, valV_neg e, ih]
theorem valV_snoc (k j : κ) (y : V) : ∀ kvs : List (κ × V), valV kvs k = none -> valV (kvs ++ [(k, y)]) j = if j = k then some y else valV kvs j
 | [], _ => by
  by_cases e : k = j
  ·rw [if_pos e.symm]; exact valV_pos (p := (k, y)) e
  ·rw [if_neg (fun z => e z.symm)]; exact valV_neg (p := (k, y)) e
 | p :: r, hn => by
  rw [List.cons_append]
  have hk : ¬ p.1 = k := fun z => by rw [valV_pos z] at hn; cases hn
  rw [valV_neg hk] at hn
  have ih := valV_snoc k j y r hn
  by_cases e : p.1 = j
  ·rw [valV_pos e, valV_pos e, if_neg (fun z => hk (e.trans z))]
  ·rw [valV_neg e, valV_neg e, ih]
theorem valV_put (kvs : List (κ × V)) (k j : κ) (y : V) : valV (putK kvs k y) j = if j = k then some y else valV kvs j := by
 unfold putK
 by_cases a : (kvs.any fun kv => decide (kv.1 = k)) = true
 ·rw [if_pos a, valV_map]
  rw [valV_any] at a
  by_cases e : j = k
  ·obtain ⟨x, hx⟩ := Option.isSome_iff_exists.mp a
   rw [if_pos e, e, hx, Option.map_some, if_pos rfl]
  ·rw [if_neg e]
   cases valV kvs j with
   | none => rfl
   | some x => rw [Option.map_some, if_neg e]
 ·rw [if_neg a]
  refine valV_snoc k j y kvs ?_
  rw [valV_any] at a
  cases q : valV kvs k with
  | none => rfl
  | some x => rw [q] at a; exact (a rfl).elim
theorem length_putK (kvs : List (κ × V)) (k : κ) (v : V) : (putK kvs k v).length <= kvs.length + 1 := by
 unfold putK
 split
 ·rw [List.length_map]; lia
 ·rw [List.length_append, List.length_cons, List.length_nil]; lia
theorem RelO.isSome_eq {o : Option V} {u : Option Value} (r : RelO o u) : o.isSome = u.isSome := by
 cases o with
 | none => cases u with
  | none => rfl
  | some _ => exact (show False from r).elim
 | some _ => cases u with
  | none => exact (show False from r).elim
  | some _ => rfl
theorem KV.val {kvs : List (κ × V)} {vs : List (κ × Value)} (r : KV kvs vs) (k : κ) : RelO (valV kvs k) (valueAt vs k) := by
 unfold KV at r
 induction r with
 | nil => exact True.intro
 | @cons p q ps qs h t ih =>
  obtain ⟨h1, h2⟩ := h
  by_cases e : p.1 = k
  ·have e' : q.1 = k := h1.symm.trans e
   have b : valueAt (q :: qs) k = some q.2 := by simp [valueAt, List.find?_cons, e']
   rw [valV_pos e, b]; exact h2
  ·have e' : ¬ q.1 = k := fun z => e (h1.trans z)
   have b : valueAt (q :: qs) k = valueAt qs k := by simp [valueAt, List.find?_cons, e']
   rw [valV_neg e, b]; exact ih
theorem KV.any {kvs : List (κ × V)} {vs : List (κ × Value)} (r : KV kvs vs) (k : κ) : (kvs.any fun kv => decide (kv.1 = k)) = vs.any fun kv => decide (kv.1 = k) := by
 unfold KV at r
 induction r with
 | nil => rfl
 | cons h t ih => rw [List.any_cons, List.any_cons, ih, h.1]
theorem KV.repl {kvs : List (κ × V)} {vs : List (κ × Value)} (r : KV kvs vs) (k : κ) {y : V} {u : Value} (ry : RelV y u) :
  KV (kvs.map fun kv => if kv.1 = k then (kv.1, y) else kv) (vs.map fun kv => if kv.1 = k then (kv.1, u) else kv) := by
 unfold KV at r ⊢
 induction r with
 | nil => exact .nil
 | @cons p q ps qs h t ih =>
  rw [List.map_cons, List.map_cons]
  refine .cons ?_ ih
  obtain ⟨h1, h2⟩ := h
  by_cases e : p.1 = k
  ·rw [if_pos e, if_pos (h1.symm.trans e)]; exact ⟨h1, ry⟩
  ·rw [if_neg e, if_neg (fun z => e (h1.trans z))]; exact ⟨h1, h2⟩
theorem KV.put {kvs : List (κ × V)} {vs : List (κ × Value)} (r : KV kvs vs) (k : κ) {y : V} {u : Value} (ry : RelV y u) : KV (putK kvs k y) (stored vs k u) := by
 unfold putK stored
 rw [r.any k]
 by_cases e : (vs.any fun kv => decide (kv.1 = k)) = true
 ·rw [if_pos e, if_pos e]; exact r.repl k ry
 ·rw [if_neg e, if_neg e]; exact Paired.snoc r ⟨rfl, ry⟩
theorem KV.length {kvs : List (κ × V)} {vs : List (κ × Value)} (r : KV kvs vs) : kvs.length = vs.length := Paired.length r
end
theorem kV_is {P : Program} {w : World} {k : Key} {u : Value} (r : RelV (kV k) u) : (mixKind P w).is k u = true := by
 cases k with
 | inl i => obtain ⟨t, e⟩ := (show ∃ t, u = Value.int i t from r); subst e; exact mixKind_int P w i t
 | inr x => obtain ⟨t, e⟩ := (show ∃ t, u = Value.str x t from r); subst e; exact mixKind_str P w x t
theorem items_are {P : Program} {w : World} : ∀ {ks : List Key} {us : List Value}, Vals (ks.map kV) us -> ItemsAre (mixKind P w) ks us
 | [], _, r => by rw [List.map_nil] at r; cases r; exact .nil
 | k :: ks, _, r => by
  rw [List.map_cons] at r
  cases r with
  | cons h t => exact .cons (kV_is h) (items_are t)
noncomputable abbrev KT (H : Hp) : List (List Key × V) -> List (List Key × Addr × Value) -> Prop := Paired fun p q => p.1 = q.1 /\ H q.2.1 = some (.tup (p.1.map kV)) /\ RelV p.2 q.2.2
theorem KT.val {H : Hp} {kvs : List (List Key × V)} {xs : List (List Key × Addr × Value)} (r : KT H kvs xs) (k : List Key) : RelO (valV kvs k) ((atKey xs k).map (·.2)) := by
 induction r with
 | nil => exact True.intro
 | @cons p q ps qs h t ih =>
  obtain ⟨h1, _, h2⟩ := h
  by_cases e : p.1 = k
  ·have e' : q.1 = k := h1.symm.trans e
   have b : atKey (q :: qs) k = some q.2 := by simp [atKey, List.find?_cons, e']
   rw [valV_pos e, b]; exact h2
  ·have e' : ¬ q.1 = k := fun z => e (h1.trans z)
   have b : atKey (q :: qs) k = atKey qs k := by simp [atKey, List.find?_cons, e']
   rw [valV_neg e, b]; exact ih
theorem KT.repl {H : Hp} {kvs : List (List Key × V)} {xs : List (List Key × Addr × Value)} (r : KT H kvs xs) (k : List Key) {y : V} {u : Value} (ry : RelV y u) :
  KT H (kvs.map fun kv => if kv.1 = k then (kv.1, y) else kv) (xs.map (putAt k u)) := by
 induction r with
 | nil => exact .nil
 | @cons p q ps qs h t ih =>
  rw [List.map_cons, List.map_cons]
  refine .cons ?_ ih
  obtain ⟨h1, h2, h3⟩ := h
  unfold putAt
  by_cases e : p.1 = k
  ·rw [if_pos e, if_pos (h1.symm.trans e)]; exact ⟨h1, h2, ry⟩
  ·rw [if_neg e, if_neg (fun z => e (h1.trans z))]; exact ⟨h1, h2, h3⟩
theorem KT.put {H : Hp} {kvs : List (List Key × V)} {xs : List (List Key × Addr × Value)} (r : KT H kvs xs) (k : List Key) {b : Addr} {y : V} {u : Value} (hb : H b = some (.tup (k.map kV))) (ry : RelV y u) :
  KT H (putK kvs k y) (storedH xs k b u) := by
 have e : (kvs.any fun kv => decide (kv.1 = k)) = (atKey xs k).isSome := by
  rw [valV_any, (r.val k).isSome_eq, Option.isSome_map]
 unfold putK storedH
 rw [e]
 by_cases q : (atKey xs k).isSome = true
 ·rw [if_pos q, if_pos q]; exact r.repl k ry
 ·rw [if_neg q, if_neg q]; exact Paired.snoc r ⟨rfl, hb, ry⟩
theorem KT.keeps {H H' : Hp} {kvs : List (List Key × V)} {xs : List (List Key × Addr × Value)} (r : KT H kvs xs) (ht : ∀ b ys, H b = some (.tup ys) -> H' b = some (.tup ys)) : KT H' kvs xs :=
 Paired.mapP r fun _ _ z => ⟨z.1, ht _ _ z.2.1, z.2.2⟩
section
variable {P : Program} {w : World} {H : Hp} {h : Heap} {a : Addr}
theorem rd_of {u : HO} (ok : HOk P w H h) (e : Rd H a u) : ObjOk P w H h a u := e.ok ok
theorem dk_rd {kvs : List (Key × V)} (ok : HOk P w H h) (e : Rd H a (.dK kvs)) : kvs.length <= sizeLine /\ (a == sysModules) = false /\ ∃ vs, KV kvs vs /\ h.DictOf (mixKind P w) a vs :=
 show ObjOk P w H h a (.dK kvs) from rd_of ok e
theorem dk_of {kvs : List (Key × V)} (ok : HOk P w H h) (e : H a = some (.dK kvs)) : kvs.length <= sizeLine /\ (a == sysModules) = false /\ ∃ vs, KV kvs vs /\ h.DictOf (mixKind P w) a vs := dk_rd ok (.inl e)
theorem key_of {ks : List Key} (ok : HOk P w H h) (e : H a = some (.tup (ks.map kV))) : (tupleKind (mixKind P w)).is h ks a := by
 obtain ⟨_, its, r, o, h1, h2, n, h3⟩ := (show ObjOk P w H h a (.tup (ks.map kV)) from ok a _ e)
 exact ⟨o, its.toArray, n, h1, h2, h3, by simpa using items_are r⟩
theorem dt_rd {kvs : List (List Key × V)} (ok : HOk P w H h) (e : Rd H a (.dT kvs)) : kvs.length <= sizeLine /\ (a == sysModules) = false /\
  ∃ xs, KT H kvs xs /\ h.DictOfH (tupleKind (mixKind P w)) a xs := by
 obtain ⟨z, y, xs, r, o, es, ep, h1, h2, h3, h4, h5⟩ := (show ObjOk P w H h a (.dT kvs) from rd_of ok e)
 refine ⟨z, y, xs, r, o, es, ep, h1, h2, h3, h4, fun x hx => ?_, h5⟩
 have all : ∀ {l : List (List Key × V)} {m : List (List Key × Addr × Value)}, KT H l m -> ∀ x ∈ m, (tupleKind (mixKind P w)).is h x.1 x.2.1 := by
  intro l m q
  induction q with
  | nil => intro x hx; exact nomatch hx
  | @cons p q ps qs hq t ih =>
   intro x hx
   rcases List.mem_cons.mp hx with e | hx
   ·subst e
    exact key_of ok (by rw [<- hq.1]; exact hq.2.1)
   ·exact ih x hx
 exact all r x hx
theorem dt_of {kvs : List (List Key × V)} (ok : HOk P w H h) (e : H a = some (.dT kvs)) : kvs.length <= sizeLine /\ (a == sysModules) = false /\
  ∃ xs, KT H kvs xs /\ h.DictOfH (tupleKind (mixKind P w)) a xs := dt_rd ok (.inl e)
end
noncomputable def DGet (H : Hp) (a : Addr) (y : V) (r : Option V) : Prop :=
 (∃ kvs k, Rd H a (.dK kvs) /\ y = kV k /\ r = valV kvs k) \/ ∃ kvs k b, Rd H a (.dT kvs) /\ y = .ref b /\ H b = some (.tup (k.map kV)) /\ r = valV kvs k
noncomputable def DPut (H : Hp) (a : Addr) (y v : V) (H' : Hp) : Prop :=
 (∃ kvs k, H a = some (.dK kvs) /\ y = kV k /\ kvs.length < sizeLine /\ H' = upd H a (.dK (putK kvs k v))) \/
 ∃ kvs k b, H a = some (.dT kvs) /\ y = .ref b /\ H b = some (.tup (k.map kV)) /\ kvs.length < sizeLine /\ H' = upd H a (.dT (putK kvs k v))
theorem DGet.k {H : Hp} {a : Addr} {kvs : List (Key × V)} {k : Key} (e : H a = some (.dK kvs)) : DGet H a (kV k) (valV kvs k) := .inl ⟨kvs, k, .inl e, rfl, rfl⟩
theorem DPut.k {H : Hp} {a : Addr} {kvs : List (Key × V)} {k : Key} {v : V} (e : H a = some (.dK kvs)) (hl : kvs.length < sizeLine) : DPut H a (kV k) v (upd H a (.dK (putK kvs k v))) := .inl ⟨kvs, k, e, rfl, hl, rfl⟩
section
variable {X : Cx} {pins : List (Addr × Obj)} {σ : St} {H : Hp} {s : Shared} {a : Addr} {y v : V} {u r : Value} {o : Option V} {A : Around} {E : Value -> Shared -> Prop}
theorem Inv.big (I : Inv X pins σ H s) : sysModules < s.heap.objs.size := by
 have h : mainGlobals < s.heap.objs.size := (I.mod.glob.keeps I.bk).lt
 exact Nat.lt_trans (by decide) h
theorem d_getItem {Q : Value -> Shared -> Prop} (hu : A.units + 1 < cLine) (I : Inv X pins σ H s) (g : DGet H a y (some v)) (ry : RelV y u) (h : ∀ w' s', Inv X pins σ H s' -> RelV v w' -> Q w' s') :
  wpAny (model X.prog X.w) A (getItem (.ref a) u) Q E s := by
 rcases g with ⟨kvs, k, e, ey, l⟩ | ⟨kvs, k, b, e, ey, eb, l⟩
 ·subst ey
  obtain ⟨z, hd, vs, rel, dd⟩ := dk_rd I.hok e
  obtain ⟨w', hw, rw'⟩ := RelO.some_of (v := v) (o := valueAt vs k) (by rw [l]; exact rel.val k)
  exact wpAny_getItem_of (kV_is ry) dd.mapOf hw (h w' _ (I.tok _) rw')
 ·subst ey
  cases (show u = Value.ref b from ry)
  obtain ⟨z, hd, xs, rel, dd⟩ := dt_rd I.hok e
  obtain ⟨w', hw, rw'⟩ := RelO.some_of (v := v) (o := (atKey xs k).map (·.2)) (by rw [l]; exact rel.val k)
  obtain ⟨p, hp, hp2⟩ := Option.map_eq_some_iff.mp hw
  refine wpAny_getItem_heap (tupleKind_room_in1 hu) (key_of I.hok eb) dd hp ?_
  rw [hp2]
  exact h w' _ (I.tok _) rw'
theorem d_in {Q : Value -> Shared -> Prop} (hu : A.units + 1 < cLine) (I : Inv X pins σ H s) (g : DGet H a y o) (ry : RelV y u) (h : ∀ s', Inv X pins σ H s' -> Q (.bool o.isSome) s') :
  wpAny (model X.prog X.w) A (compareOp .In u (.ref a)) Q E s := by
 rcases g with ⟨kvs, k, e, ey, l⟩ | ⟨kvs, k, b, e, ey, eb, l⟩
 ·subst ey
  obtain ⟨z, hd, vs, rel, dd⟩ := dk_rd I.hok e
  refine wpAny_in_of (kV_is ry) hd dd.mapOf ?_
  rw [<- (rel.val k).isSome_eq, <- l]
  exact h _ (I.tok _)
 ·subst ey
  cases (show u = Value.ref b from ry)
  obtain ⟨z, hd, xs, rel, dd⟩ := dt_rd I.hok e
  refine wpAny_in_heap (tupleKind_room_in1 hu) (key_of I.hok eb) hd dd ?_
  have q := (rel.val k).isSome_eq
  rw [Option.isSome_map] at q
  rw [<- q, <- l]
  exact h _ (I.tok _)
theorem d_write {h' : Heap} {t' : Nat} {ob : HO} (I : Inv X pins σ H s) (mu : Mut (H a)) (hs : Heap.SameBut a s.heap h') (he : ∃ q, h'.get? a = some q) (new : ObjOk X.prog X.w (upd H a ob) h' a ob) :
  Inv X pins σ (upd H a ob) { s with heap := h', toks := t' } :=
 I.write (x := a) (e := a) mu (.inl rfl) (fun b q hb z => (hs.2 b hb).trans z) he new
theorem dk_new {P : Program} {w : World} {H' : Hp} {h' : Heap} {kvs : List (Key × V)} {vs : List (Key × Value)} (z : kvs.length <= sizeLine) (hd : (a == sysModules) = false) (rel : KV kvs vs) (dd : h'.DictOf (mixKind P w) a vs) :
  ObjOk P w H' h' a (.dK kvs) := ⟨z, hd, vs, rel, dd⟩
theorem d_setItem {H' : Hp} {Q : Unit -> Shared -> Prop} (hu : A.units + 1 < cLine) (I : Inv X pins σ H s) (g : DPut H a y v H') (ry : RelV y u) (rv : RelV v r) (h : ∀ s', Inv X pins σ H' s' -> Q () s') :
  wpAny (model X.prog X.w) A (setItem (.ref a) u r) Q E s := by
 rcases g with ⟨kvs, k, e, ey, l, eH⟩ | ⟨kvs, k, b, e, ey, eb, l, eH⟩
 ·subst ey eH
  obtain ⟨z, hd, vs, rel, dd⟩ := dk_of I.hok e
  have hz : vs.length <= sizeLine := by rw [<- rel.length]; exact z
  have hl : (putK kvs k v).length <= sizeLine := by have := length_putK kvs k v; lia
  refine wpAny_setItem_pairs (hsz := hz) (kV_is ry) dd fun h' dd' hs => h _ ?_
  have he : ∃ q, h'.get? a = some q := let ⟨q, _, _, hq, _⟩ := dd'; ⟨q, hq⟩
  exact d_write I (by rw [e]; exact True.intro) hs he (dk_new hl hd (rel.put k rv) dd')
 ·subst ey eH
  cases (show u = Value.ref b from ry)
  obtain ⟨z, hd, xs, rel, dd⟩ := dt_of I.hok e
  have hz : xs.length <= sizeLine := by rw [<- Paired.length rel]; exact z
  have hl : (putK kvs k v).length <= sizeLine := by have := length_putK kvs k v; lia
  refine wpAny_setItem_heap (hsz := hz) (tupleKind_room_in1 hu) (key_of I.hok eb) dd fun h' dd' hs => h _ ?_
  obtain ⟨q, es, ep, hq, h2, h3, h4, _, h5⟩ := dd'
  refine d_write I (by rw [e]; exact True.intro) hs ⟨q, hq⟩ ⟨hl, hd, _, (rel.put k eb rv).keeps fun c ys ec => ?_, q, es, ep, hq, h2, h3, h4, h5⟩
  rw [upd_ne (ne_of ec e (fun z => nomatch z))]
  exact ec
end
section
variable {X : Cx} {pins : List (Addr × Obj)} {σ : St} {H : Hp} {s : Shared} {a : Addr} {kvs : List (Key × V)} {k : Key} {u : Value} {A : Around} {E : Value -> Shared -> Prop}
end
noncomputable def NoSl (i : Expr) : Prop := ∀ ov iv, subscripted i false ov iv = operate [ov, iv] (getItem ov iv)
theorem subD_of {prog : Program} {w : World} {A : Around} {E : Value -> Shared -> Prop} {s : Shared} {env : Env} {value slice : Expr} {pos : Pos} {T id : String} {Q : Value -> Shared -> Prop}
  (hl : typeLookup (.type T) "__getitem__" = pure (some (.builtin id))) (hs : NoSl slice)
  (h : wpAny (model prog w) A (eval value env) (fun o s₁ => wpAny (model prog w) A (eval slice env) (fun i s₂ => s₂.TypeIs o T /\ wpAny (model prog w) A (getItem o i) Q E s₂) E s₁) E s) :
  wpAny (model prog w) A (eval (.Subscript value slice pos) env) Q E s := by
 refine Subscript_ (wpAny_mono h (fun o s₁ h₁ => wpAny_mono h₁ (fun i s₂ h₂ => ?_) fun _ _ x => x) fun _ _ x => x)
 obtain ⟨hT, h₂⟩ := h₂
 unfold subscriptTail
 refine wpAny_bind ?_
 rw [getitemInPython_of_ne hT.not_modules]
 refine wpAny_bind (wpAny_specialOf hT hl ?_)
 have fin : wpAny (model prog w) A (subscripted slice false o i) (fun r s₃ => wpAny (model prog w) A (letTemporaryGo value o r >>= fun _ => pure r) Q E s₃) E s₂ := by
  rw [hs o i]
  exact wpAny_operating (wpAny_mono h₂ (fun r s₃ h₃ => wpAny_bind (wpAny_letTemporaryGo (wpAny_pure h₃))) fun _ _ x => x)
 first
  | exact wpAny_pure (wpAny_bind fin)
  | exact wpAny_bind (wpAny_pure (wpAny_bind fin))
  | exact wpAny_bind fin
theorem dict_typeIs {X : Cx} {pins : List (Addr × Obj)} {σ : St} {H : Hp} {s : Shared} {a : Addr} {y : V} {o : Option V} (I : Inv X pins σ H s) (g : DGet H a y o) : s.TypeIs (.ref a) "dict" := by
 rcases g with ⟨kvs, k, e, _, _⟩ | ⟨kvs, k, b, e, _, _, _⟩
 ·obtain ⟨_, _, vs, _, dd⟩ := dk_rd I.hok e
  exact dd.typeIs
 ·obtain ⟨_, _, xs, _, dd⟩ := dt_rd I.hok e
  exact dd.typeIs
noncomputable def tDGet (td ty : TE) : TE := fun σ H Q => td σ H fun x H1 => ty σ H1 fun y H2 => ∃ a v, x = .ref a /\ DGet H2 a y (some v) /\ Q v H2
noncomputable def tDIn (ty td : TE) : TE := fun σ H Q => ty σ H fun y H1 => td σ H1 fun x H2 => ∃ a o, x = .ref a /\ DGet H2 a y o /\ Q (.bl o.isSome) H2
noncomputable def sDPut (td ty tv : TE) : TS := fun D σ H => tv σ H fun v H1 => td σ H1 fun x H2 => ty σ H2 fun y H3 => ∃ a H4, x = .ref a /\ DPut H3 a y v H4 /\ D.nx σ H4
section
variable {X : Cx} {o i e value : Expr} {pos pos' tpos : Pos} {td ty tv : TE}
theorem pe_dget (hu : X.A.units + 1 < cLine) (ho : PE X o td) (hi : PE X i ty) (hs : NoSl i) : PE X (.Subscript o i pos) (tDGet td ty) := by
 intro pins s σ H Q I h
 refine subD_of PySem.F.slot_dict_getitem.lookup hs (thn (ho pins s σ H _ I h) fun u s1 ⟨x, H1, I1, rx, q1⟩ => thn (hi pins s1 σ H1 _ I1 q1) fun iv s2 ⟨y, H2, I2, ry, a, v, ex, g, q2⟩ => ?_)
 subst ex
 obtain rfl : u = Value.ref a := rx
 exact ⟨dict_typeIs I2 g, d_getItem hu I2 g ry fun w' s3 I3 rw' => ⟨v, H2, I3, rw', q2⟩⟩
theorem pc_din (hu : X.A.units + 1 < cLine) (hi : PE X i ty) (ho : PE X o td) : PC X .In i o (tDIn ty td) := by
 intro pins s σ H Q I h
 refine thn (hi pins s σ H _ I h) fun iv s1 ⟨y, H1, I1, ry, q1⟩ => thn (ho pins s1 σ H1 _ I1 q1) fun u s2 ⟨x, H2, I2, rx, a, ov, ex, g, q2⟩ => ?_
 subst ex
 obtain rfl : u = Value.ref a := rx
 exact d_in hu I2 g ry fun s3 I3 => ⟨.bl ov.isSome, H2, I3, rfl, q2⟩
theorem ps_dput (hu : X.A.units + 1 < cLine) (ho : PE X o td) (hi : PE X i ty) (hv : PE X value tv) (hs : swapsWith value (some (.Subscript o i pos')) pos.line X.env = pure false) :
  PS X (.Assign [.Subscript o i pos'] value pos) (sDPut td ty tv) := by
 intro pins s σ H D I h
 refine wpAny_Assign_Subscript (thn (hv pins s σ H _ I h) fun r s1 ⟨v, H1, I1, rv, q1⟩ => thn (ho pins s1 σ H1 _ I1 q1) fun u s2 ⟨x, H2, I2, rx, q2⟩ => thn (hi pins s2 σ H2 _ I2 q2) fun iv s3 ⟨y, H3, I3, ry, a, H4, ex, g, q3⟩ => ?_) hs
 subst ex
 obtain rfl : u = Value.ref a := rx
 exact d_setItem hu I3 g ry rv fun s4 I4 => ⟨σ, H4, I4, q3⟩
end
theorem dk_empty {P : Program} {w : World} {H : Hp} (h : Heap) (hb : sysModules < h.objs.size) : ObjOk P w H (h.push { cls := .type "dict", data := .dict #[] }) h.objs.size (.dK []) :=
 ⟨Nat.zero_le _, beq_eq_false_iff_ne.mpr (Ne.symm (Nat.ne_of_lt hb)), [], .nil, Heap.DictOf.new h⟩
noncomputable def tDNewK : TE := fun _ H Q => ∀ p, H p = none -> Q (.ref p) (upd H p (.dK []))
section
variable {X : Cx} {pos : Pos}
theorem pe_dnewK : PE X (.Dict [] [] pos) tDNewK := fun pins s σ H Q I h =>
 wpAny_Dict_empty ⟨.ref s.heap.objs.size, _, I.laid (a := s.heap.objs.size) (o := .dK []) (t' := s.toks) (fun _ _ q => Heap.get?_push_of_some _ q) (Nat.le_refl _) (dk_empty s.heap I.big), rfl, h _ (I.hok.fresh (Nat.le_refl _))⟩
end
section
variable {X : Cx} {pins : List (Addr × Obj)} {σ : St} {H : Hp} {s : Shared} {a : Addr} {y d : V} {u r : Value} {o : Option V} {A : Around} {E : Value -> Shared -> Prop}
end
section
variable {X : Cx} {o e f : Expr} {apos cpos : Pos} {td ty tx : TE}
end
section
variable {X : Cx} {pins : List (Addr × Obj)} {σ : St} {H : Hp} {s : Shared} {a : Addr} {kvs : List (Key × V)} {A : Around} {E : Value -> Shared -> Prop}
end
section
variable {X : Cx} {pins : List (Addr × Obj)} {σ : St} {H : Hp} {s : Shared} {a : Addr} {y : V} {u : Value} {A : Around} {E : Value -> Shared -> Prop}
end
end L2
namespace HT
open PySem PyProof.Rows
section
open PySem.SeqAt
open PySem.AutoSeq1 (wpAny_loadPart')
open PySem.MeetsSeq PySem.MeetsSeq2 PySem.MeetsSeq3
end
section
variable {prog : Program} {w : World} {A : Around} {E : Value -> Shared -> Prop} {s : Shared}
end
end HT
namespace L2
open PySem PySem.Spec PyProof.Rows
section
variable {X : Cx} {e : Expr} {te : TE} {lo hi : Option Expr} {tl th : TO} {pos p2 : Pos}
end
end L2
namespace L2
open PySem PySem.Spec PyProof.Rows
noncomputable def ixN (n : Nat) (i : Int) : Option Nat := if 0 <= i then (if i < n then some i.toNat else none) else if -(n : Int) <= i then some (i + n).toNat else none
noncomputable def atI {α : Type} (xs : List α) (i : Int) : Option α := (ixN xs.length i).bind fun j => xs[j]?
theorem ixN_seq {n : Nat} {i : Int} {j : Nat} (h : ixN n i = some j) : seqIndex? i n = some j /\ j < n /\ -(n : Int) <= i /\ i < n := by
 unfold ixN at h
 by_cases h0 : 0 <= i
 ·rw [if_pos h0] at h
  by_cases h1 : i < n
  ·rw [if_pos h1] at h
   have e : i.toNat = j := Option.some.inj h
   exact ⟨by rw [seqIndex_of h0 h1, e], by lia, by lia, h1⟩
  ·rw [if_neg h1] at h; cases h
 ·rw [if_neg h0] at h
  by_cases h1 : -(n : Int) <= i
  ·rw [if_pos h1] at h
   have e : (i + n).toNat = j := Option.some.inj h
   exact ⟨by rw [seqIndex_neg (by lia) h1, e], by lia, h1, by lia⟩
  ·rw [if_neg h1] at h; cases h
theorem atI_get {α : Type} {xs : List α} {i : Int} {v : α} (h : atI xs i = some v) : ∃ j, seqIndex? i xs.length = some j /\ xs[j]? = some v /\ j < xs.length /\ -(xs.length : Int) <= i /\ i < xs.length := by
 unfold atI at h
 cases e : ixN xs.length i with
 | none => rw [e] at h; cases h
 | some j =>
  rw [e] at h
  obtain ⟨h1, h2, h3, h4⟩ := ixN_seq e
  exact ⟨j, h1, h, h2, h3, h4⟩
theorem atI_nat {α : Type} {xs : List α} {j : Nat} {v : α} (h : xs[j]? = some v) : atI xs (j : Int) = some v := by
 have hj : j < xs.length := (List.getElem?_eq_some_iff.mp h).1
 have e : ixN xs.length (j : Int) = some j := by
  unfold ixN
  rw [if_pos (by lia), if_pos (by lia)]; simp
 unfold atI; rw [e]; exact h
noncomputable def PlainIx (b : Expr) : Prop := ∀ o i, subscripted b false o i = operate [o, i] (getItem o i)
noncomputable def IxR (X : Cx) (r : R2) : Prop :=
 ∀ (value slice : Expr) (pins : List (Addr × Obj)) (s : Shared) (σ : St) (H : Hp) (x y : V) (v u : Value) (Q : VK), Inv X pins σ H s -> RelV x v -> RelV y u -> r x y H Q ->
  subscripted slice false v u = operate [v, u] (getItem v u) -> wpAny (model X.prog X.w) X.A (subscriptTail value slice v u) (EP X pins σ Q) X.xe s
noncomputable def MtR (X : Cx) (id : String) (r : V -> List V -> Hp -> VK -> Prop) : Prop :=
 ∀ (pins : List (Addr × Obj)) (s : Shared) (σ : St) (H : Hp) (x : V) (xs : List V) (v : Value) (us : List Value) (Q : VK), Inv X pins σ H s -> RelV x v -> Vals xs us -> r x xs H Q ->
  wpAny (model X.prog X.w) X.A (call (.builtin id) (v :: us)) (EP X pins σ Q) X.xe s
section
variable {X : Cx} {a b : Expr} {ta tb : TE} {pos : Pos}
theorem pe_ix {r : R2} (hr : IxR X r) (ha : PE X a ta) (hb : PE X b tb) (hs : PlainIx b) : PE X (.Subscript a b pos) (tOp r ta tb) := by
 intro pins s σ H Q I h
 exact Subscript_ (binT ha hb I h fun v u s2 x y H2 I2 rx ry q => hr a b pins s2 σ H2 x y v u Q I2 rx ry q (hs _ _))
noncomputable def rIxL (K : PySem.W.Frag) : R2 := fun x y H Q => ∃ p xs i v, x = .ref p /\ y = .int i /\ SqL K H p xs /\ atI xs i = some v /\ Q v H
noncomputable def rIxT (K : PySem.W.Frag) : R2 := fun x y H Q => ∃ p xs i v, x = .ref p /\ y = .int i /\ SqT K H p xs /\ atI xs i = some v /\ Q v H
noncomputable def rIxS : R2 := fun x y H Q => ∃ z i c, x = .str z /\ y = .int i /\ z.length <= sizeLine /\ atI z.cps.toList i = some c /\ Q (.str ⟨#[c]⟩) H
theorem ix_list : IxR X (rIxL X.K) := by
 intro value slice pins s σ H x y v u Q I rx ry h hs
 obtain ⟨p, xs, i, z, rfl, rfl, hq, he, q⟩ := h
 cases rx
 obtain ⟨t, rfl⟩ := ry
 obtain ⟨its, r, pl, hz⟩ := I.list hq
 obtain ⟨j, h1, h2, h3, h4, h5⟩ := atI_get he
 obtain ⟨w, ew, rw'⟩ := r.get h2
 have hl := r.length
 have hn := line63
 have fin : EP X pins σ Q w s := ⟨z, H, I, rw', q⟩
 by_cases h0 : 0 <= i
 ·have hj : i.toNat = j := by
   rw [seqIndex_of h0 h5] at h1
   exact Option.some.inj h1
  exact item_listR pl.isList h0 (by lia) (by rw [hj]; simpa using ew) fin hs
 ·have hj : (i + (its.toArray.size : Int)).toNat = j := by
   rw [seqIndex_neg (by lia) h4] at h1
   rw [List.size_toArray, <- hl]
   exact Option.some.inj h1
  exact subscriptTail_builtinR (x := w) pl.isList.typeIs slot_list_getitem.lookup
   (wpAny_getItem_list_neg (Q := fun r s' => r = w /\ EP X pins σ Q r s') pl.isList (by lia) (by rw [List.size_toArray] <;> lia) (by lia) (by rw [hj]; simpa using ew) ⟨rfl, fin⟩) hs
theorem ix_tup : IxR X (rIxT X.K) := by
 intro value slice pins s σ H x y v u Q I rx ry h hs
 obtain ⟨p, xs, i, z, rfl, rfl, hq, he, q⟩ := h
 cases rx
 obtain ⟨t, rfl⟩ := ry
 obtain ⟨its, r, pl, hz⟩ := I.tuple hq
 obtain ⟨j, h1, h2, h3, h4, h5⟩ := atI_get he
 obtain ⟨w, ew, rw'⟩ := r.get h2
 have hl := r.length
 have hn := line63
 have fin : EP X pins σ Q w s := ⟨z, H, I, rw', q⟩
 exact subscriptTail_builtinR (x := w) pl.typeIs slot_tuple_getitem.lookup
  (getItem_tuple (j := j) (Q := fun r s' => r = w /\ EP X pins σ Q r s') pl (by lia) (by lia) (by rw [List.size_toArray, <- hl]; exact h1) (by simpa using ew) ⟨rfl, fin⟩) hs
theorem ix_str : IxR X rIxS := by
 intro value slice pins s σ H x y v u Q I rx ry h hs
 obtain ⟨z, i, c, rfl, rfl, hz, he, q⟩ := h
 obtain ⟨t, rfl⟩ := rx
 obtain ⟨t', rfl⟩ := ry
 obtain ⟨j, h1, h2, h3, h4, h5⟩ := atI_get he
 have hl : z.cps.toList.length = z.length := by simp [Str.length]
 rw [hl] at h1 h4 h5
 have hn := line63
 exact tail_any (typeIs_str s z t) slot_str_getitem.lookup (getItem_str (c := c) (by
  have e1 : decide (i < -(2 ^ 63 : Int)) = false := decide_eq_false (by lia)
  have e2 : decide (i ≥ 2 ^ 63) = false := decide_eq_false (by lia)
  rw [e1, e2, Bool.or_false]) (by rw [h1]; simpa using h2) ⟨.str ⟨#[c]⟩, H, I.tok _, ⟨_, rfl⟩, q⟩) hs
noncomputable def flatV : V -> Bool
 | .non => true
 | .bl _ => true
 | .int _ => true
 | .str _ => true
 | _ => false
noncomputable def eqV : V -> V -> Bool
 | .non, .non => true
 | .bl a, .bl b => a == b
 | .bl a, .int b => (if a then 1 else 0) == b
 | .int a, .bl b => a == (if b then 1 else 0)
 | .int a, .int b => a == b
 | .str a, .str b => a == b
 | _, _ => false
theorem eqAt_V {A : Around} {s : Shared} {y x : V} {u v : Value} (ry : RelV y u) (rx : RelV x v) (fy : flatV y = true) (fx : flatV x = true) : SeqAt.EqAt A s u v (eqV y x) := by
 cases y with
 | non =>
  cases ry
  cases x with
  | non => cases rx; exact SeqAt.EqAt.same _
  | bl b => cases rx; exact SeqAt.EqAt.none_bool b
  | int b => obtain ⟨t, rfl⟩ := rx; exact SeqAt.EqAt.none_int b t
  | str b => obtain ⟨t, rfl⟩ := rx; exact SeqAt.EqAt.none_str b t
  | _ => exact absurd (show false = true from fx) Bool.false_ne_true
 | bl a =>
  cases ry
  cases x with
  | non => cases rx; exact SeqAt.EqAt.bool_none a
  | bl b => cases rx; exact SeqAt.EqAt.bool_bool a b
  | int b => obtain ⟨t, rfl⟩ := rx; exact SeqAt.EqAt.bool_int a b t
  | str b => obtain ⟨t, rfl⟩ := rx; exact SeqAt.EqAt.bool_str a b t
  | _ => exact absurd (show false = true from fx) Bool.false_ne_true
 | int a =>
  obtain ⟨t', rfl⟩ := ry
  cases x with
  | non => cases rx; exact SeqAt.EqAt.int_none a t'
  | bl b => cases rx; exact SeqAt.EqAt.int_bool a t' b
  | int b => obtain ⟨t, rfl⟩ := rx; exact SeqAt.EqAt.int_int a t' b t
  | str b => obtain ⟨t, rfl⟩ := rx; exact SeqAt.EqAt.int_str a t' b t
  | _ => exact absurd (show false = true from fx) Bool.false_ne_true
 | str a =>
  obtain ⟨t', rfl⟩ := ry
  cases x with
  | non => cases rx; exact SeqAt.EqAt.str_none a t'
  | bl b => cases rx; exact SeqAt.EqAt.str_bool a t' b
  | int b => obtain ⟨t, rfl⟩ := rx; exact SeqAt.EqAt.str_int a t' b t
  | str b => obtain ⟨t, rfl⟩ := rx; exact SeqAt.EqAt.str_str a t' b t
  | _ => exact absurd (show false = true from fx) Bool.false_ne_true
 | _ => exact absurd (show false = true from fy) Bool.false_ne_true
noncomputable def eqU (x : V) (u : Value) : Bool := match u with
 | .none => eqV .non x
 | .bool b => eqV (.bl b) x
 | .int i _ => eqV (.int i) x
 | .str z _ => eqV (.str z) x
 | _ => false
theorem eqU_of {x y : V} {u : Value} (r : RelV y u) (f : flatV y = true) : eqU x u = eqV y x := by
 cases y with
 | non => cases r; rfl
 | bl b => cases r; rfl
 | int i => obtain ⟨t, rfl⟩ := r; rfl
 | str z => obtain ⟨t, rfl⟩ := r; rfl
 | _ => exact absurd (show false = true from f) Bool.false_ne_true
theorem any_eqU {x : V} : ∀ {xs : List V} {us : List Value}, Vals xs us -> xs.all flatV = true -> us.any (eqU x) = xs.any fun y => eqV y x
 | _, _, .nil, _ => rfl
 | y :: xs, u :: us, .cons r t, f => by
  rw [List.all_cons, Bool.and_eq_true] at f
  rw [List.any_cons, List.any_cons, eqU_of r f.1, any_eqU t f.2]
theorem mem_eqAt {A : Around} {s : Shared} {x : V} {v : Value} (rx : RelV x v) (fx : flatV x = true) : ∀ {xs : List V} {us : List Value}, Vals xs us -> xs.all flatV = true -> ∀ u ∈ us, SeqAt.EqAt A s u v (eqU x u)
 | _, _, .nil, _ => fun u hu => by cases hu
 | y :: xs, u :: us, .cons r t, f => fun u' hu => by
  rw [List.all_cons, Bool.and_eq_true] at f
  rcases List.mem_cons.mp hu with rfl | hu
  ·rw [eqU_of r f.1]; exact eqAt_V r rx f.1 fx
  ·exact mem_eqAt rx fx t f.2 u' hu
noncomputable def inV (x : V) (xs : List V) : Bool := xs.any fun y => eqV y x
noncomputable def rIn (K : PySem.W.Frag) (neg : Bool) : R2 := fun x y H Q => ∃ p xs, y = .ref p /\ (SqL K H p xs \/ SqT K H p xs) /\ flatV x = true /\ xs.all flatV = true /\ Q (.bl (if neg then !inV x xs else inV x xs)) H
theorem op_in_seq : OpR X (compareOp .In) (rIn X.K false) := by
 intro pins s σ H x y v u Q I rx ry h
 obtain ⟨p, xs, rfl, hq, fx, fs, q⟩ := h
 cases ry
 rcases hq with hq | hq
 ·obtain ⟨its, r, pl, hz⟩ := I.list hq
  refine SeqAt.in_listAt (eqU x) pl.isList (fun w hw => mem_eqAt rx fx r fs w (by simpa using hw)) ⟨.bl _, H, I, rfl, ?_⟩
  rw [show its.toArray.any (eqU x) = its.any (eqU x) by simp, any_eqU r fs]
  exact q
 ·obtain ⟨its, r, pl, hz⟩ := I.tuple hq
  refine SeqAt.in_tupleAt (eqU x) pl (fun w hw => mem_eqAt rx fx r fs w (by simpa using hw)) ⟨.bl _, H, I, rfl, ?_⟩
  rw [show its.toArray.any (eqU x) = its.any (eqU x) by simp, any_eqU r fs]
  exact q
theorem op_notIn_seq : OpR X (compareOp .NotIn) (rIn X.K true) := by
 intro pins s σ H x y v u Q I rx ry h
 obtain ⟨p, xs, rfl, hq, fx, fs, q⟩ := h
 cases ry
 rcases hq with hq | hq
 ·obtain ⟨its, r, pl, hz⟩ := I.list hq
  refine SeqAt.notIn_listAt (eqU x) pl.isList (fun w hw => mem_eqAt rx fx r fs w (by simpa using hw)) ⟨.bl _, H, I, rfl, ?_⟩
  rw [show its.toArray.any (eqU x) = its.any (eqU x) by simp, any_eqU r fs]
  exact q
 ·obtain ⟨its, r, pl, hz⟩ := I.tuple hq
  refine SeqAt.notIn_tupleAt (eqU x) pl (fun w hw => mem_eqAt rx fx r fs w (by simpa using hw)) ⟨.bl _, H, I, rfl, ?_⟩
  rw [show its.toArray.any (eqU x) = its.any (eqU x) by simp, any_eqU r fs]
  exact q
theorem call_list_of : CallR X (.type "list") (fun xs H Q => ∃ p ys, xs = [.ref p] /\ (SqL X.K H p ys \/ SqT X.K H p ys) /\ ∀ l, H l = none -> Q (.ref l) (upd H l (.lst ys))) := by
 intro pins s σ H xs us Q I r h
 obtain ⟨p, ys, rfl, hq, q⟩ := h
 obtain ⟨u, rfl, rx⟩ := vals1 r
 cases rx
 have fin : ∀ (its : List Value), Vals ys its -> ys.length <= sizeLine -> ∀ (h' : Heap) (c' : Nat), (∀ b o', s.heap.get? b = some o' -> h'.get? b = some o') ->
   h'.get? s.heap.objs.size = some { cls := .type "list", dict := none, data := .seq its.toArray c', slots := #[] } -> EP X pins σ Q (.ref s.heap.objs.size) { s with heap := h' } := fun its r' hz h' c' kp e =>
  ⟨.ref s.heap.objs.size, _, I.laid (t' := s.toks) kp (Nat.le_refl _) (show ObjOk X.prog X.w _ h' _ (.lst ys) from ⟨hz, its, c', r', e⟩), rfl, q _ (I.hok.fresh (Nat.le_refl _))⟩
 rcases hq with hq | hq
 ·obtain ⟨its, r', pl, hz⟩ := I.list hq
  have hlen := r'.length
  obtain ⟨o, ho, hc, n, hd⟩ := pl.isList
  exact call_list_seq p (.inl rfl) ho hc hd (fun h' c' kp e => fin its r' hz h' c' kp e) (by simp only [List.size_toArray] <;> lia)
 ·obtain ⟨its, r', pl, hz⟩ := I.tuple hq
  have hlen := r'.length
  obtain ⟨o, ho, hc, n, hd⟩ := pl
  exact call_list_seq p (.inr rfl) ho hc hd (fun h' c' kp e => fin its r' hz h' c' kp e) (by simp only [List.size_toArray] <;> lia)
noncomputable def tyV (K : PySem.W.Frag) (T : String) (x : V) (H : Hp) : Prop := match x with
 | .str _ => T = "str"
 | .int _ => T = "int"
 | .ref p => (T = "list" /\ ∃ xs, SqL K H p xs) \/ (T = "tuple" /\ ∃ o, K.lookup p = some o /\ o.cls = .type "tuple" /\ o.dict = none) \/
   (T = "dict" /\ ((∃ kvs, H p = some (.dK kvs)) \/ ∃ kvs, H p = some (.dT kvs))) \/ (T = "set" /\ ∃ S n, H p = some (.set S n))
 | _ => False
theorem tyV_is {pins : List (Addr × Obj)} {σ : St} {H : Hp} {s : Shared} {T : String} {x : V} {v : Value} (I : Inv X pins σ H s) (r : RelV x v) (ty : tyV X.K T x H) :
  s.TypeIs v T /\ ∀ a, v = .ref a -> ∃ ob, s.heap.get? a = some ob /\ ob.dict = none := by
 cases x with
 | str z =>
  obtain ⟨t, rfl⟩ := r
  cases (show T = "str" from ty)
  exact ⟨typeIs_str s z t, fun _ e => nomatch e⟩
 | int i =>
  obtain ⟨t, rfl⟩ := r
  cases (show T = "int" from ty)
  exact ⟨typeIs_int s i t, fun _ e => nomatch e⟩
 | ref p =>
  cases r
  rcases ty with ⟨rfl, xs, hq⟩ | ⟨rfl, o, hk, hc, hd⟩ | ⟨rfl, hk⟩ | ⟨rfl, S, n, hk⟩
  ·obtain ⟨its, _, pl, _⟩ := I.list hq
   refine ⟨pl.isList.typeIs, fun a e => ?_⟩
   cases e
   obtain ⟨o, n, e, c, hd, _⟩ := pl
   exact ⟨o, e, hd⟩
  ·refine ⟨⟨o, I.kIn p o hk, hc⟩, fun a e => ?_⟩
   cases e
   exact ⟨o, I.kIn _ o hk, hd⟩
  ·have z : ∃ o, s.heap.get? p = some o /\ o.ExactDict := by
    rcases hk with ⟨kvs, hk⟩ | ⟨kvs, hk⟩
    ·obtain ⟨_, _, _, _, o, _, _, e, ex, _⟩ := I.hok p _ hk
     exact ⟨o, e, ex⟩
    ·obtain ⟨_, _, _, _, o, _, _, e, ex, _⟩ := I.hok p _ hk
     exact ⟨o, e, ex⟩
   obtain ⟨o, e, ex⟩ := z
   refine ⟨⟨o, e, ex.1⟩, fun a e2 => ?_⟩
   cases e2
   exact ⟨o, e, ex.2.1⟩
  ·obtain ⟨o, _, _, _, e, ex, _⟩ := I.hok p _ hk
   refine ⟨⟨o, e, ex.1⟩, fun a e2 => ?_⟩
   cases e2
   exact ⟨o, e, ex.2.1⟩
 | _ => exact False.elim ty
noncomputable def tBM (K : PySem.W.Frag) (T : String) (r : V -> List V -> Hp -> VK -> Prop) (to : TE) (t : TA) : TE := fun σ H Q => to σ H fun x H1 => tyV K T x H1 /\ t σ H1 fun xs H2 => r x xs H2 Q
variable {o e : Expr} {es : List Expr} {to : TE} {t : TA} {name : Str} {apos cpos : Pos} {T id : String} {r : V -> List V -> Hp -> VK -> Prop}
theorem pe_bm (pa : PlainAttrs T) (slot : Slot T name id) (hty : typeOf (.builtin id) = pure (.type "method_descriptor")) (hm : MtR X id r) (ho : PE X o to) (ha : PA X (e :: es) t)
  (hbase : attributeBase o name X.env (eval o X.env) = eval o X.env := by rfl)
  (hfew : ((backTo cpos (starEach (e :: es) X.env)).all (fun x => !x.1) && (backToKw cpos (keywordEach [] X.env)).all (fun x => x.1.isSome)
   && decide ((e :: es).length + ([] : List Keyword).length + (if ([] : List Keyword).isEmpty then 0 else 1) < 30)) = true := by rfl)
  (hline : (apos.endLine == cpos.line) = true := by rfl) (hs : starEach (e :: es) X.env = (false, eval e X.env) :: starEach es X.env := by rfl) (hplain : (backTo cpos (starEach es X.env)).any (·.1) = false := by rfl) :
  PE X (.Call (.Attribute o name apos) (e :: es) [] cpos) (tBM X.K T r to t) := by
 intro pins s σ H Q I h
 refine wpAny_Call_method_late hbase hfew hline rfl (thn (ho pins s σ H _ I h) fun v s1 ⟨x, H1, I1, r1, ty, q1⟩ => ?_)
 obtain ⟨h1, h2⟩ := tyV_is I1 r1 ty
 refine ⟨T, id, pa, slot, hty, h1, h2, ?_⟩
 have hA := ha cpos pins s1 σ H1 _ I1 q1
 rw [hs] at hA ⊢
 refine Calls.callWith_builtin (by show (false || (backTo cpos (starEach es X.env)).any (·.1)) = false; rw [hplain] <;> rfl) (Calls.evalArgs_plain ?_)
 exact thn hA fun us s2 ⟨vs, H2, I2, r2, q2⟩ => hm pins s2 σ H2 x vs v us Q I2 r1 r2 q2
/- xs.append(e), list.index on a module's tuple .. are MtR facts of 06m -/
end
end L2
namespace L2
open PySem PySem.Spec PyProof.Rows
noncomputable def MtM (X : Cx) (id : String) (r : V -> List V -> Hp -> VK -> Prop) : Prop :=
 ∀ (pins : List (Addr × Obj)) (s : Shared) (σ : St) (H : Hp) (x : V) (xs : List V) (v : Value) (us : List Value) (Q : VK), Inv X pins σ H s -> RelV x v -> Vals xs us -> r x xs H Q ->
  wpAny (model X.prog X.w) X.A (call (.builtin id) (v :: us)) (EP X pins σ Q) X.xe s
theorem Vals.one : ∀ {x : V} {us : List Value}, Vals [x] us -> ∃ u, us = [u] /\ RelV x u
 | _, _, .cons r .nil => ⟨_, rfl, r⟩
section
variable {X : Cx} {pins : List (Addr × Obj)} {σ : St} {H : Hp} {s : Shared} {l b : Addr} {xs ys zs : List V}
theorem Inv.lset {its its' : List Value} {n : Nat} {f : Array Value -> Array Value} {t' : Nat} (I : Inv X pins σ H s) (hH : H l = some (.lst xs))
  (e : s.heap.get? l = some { cls := .type "list", data := .seq its.toArray n }) (hf : f its.toArray = its'.toArray) (hv : Vals ys its') (hz : ys.length <= sizeLine) :
  Inv X pins σ (upd H l (.lst ys)) { s with heap := s.heap.update l (Obj.mapSeq f), toks := t' } := by
 have q := PySem.IsL.update e f
 rw [hf] at q
 refine I.write (x := l) (e := l) (by rw [hH]; exact trivial) (.inl rfl) (fun b' u hb hu => (Heap.get?_update_other s.heap (Obj.mapSeq f) (Ne.symm hb)).trans hu) ⟨_, q⟩ ?_
 exact ⟨hz, its', _, hv, q⟩
theorem Inv.lnew {its : List Value} {t' : Nat} (I : Inv X pins σ H s) (hv : Vals ys its) (hz : ys.length <= sizeLine) :
  Inv X pins σ (upd H s.heap.objs.size (.lst ys)) { s with heap := s.heap.push { cls := .type "list", data := .seq its.toArray }, toks := t' } :=
 I.laid (fun _ _ q => Heap.get?_push_of_some _ q) (Nat.le_refl _) ⟨hz, its, 0, hv, Heap.get?_push_size _ rfl⟩
theorem Inv.fresh (I : Inv X pins σ H s) : H s.heap.objs.size = none := I.hok.fresh (Nat.le_refl _)
theorem Inv.lstM (I : Inv X pins σ H s) (hH : H l = some (.lst xs)) : xs.length <= sizeLine /\ ∃ (its : List Value) (n : Nat), Vals xs its /\ xs.length = its.length /\ s.heap.get? l = some { cls := .type "list", data := .seq its.toArray n } := by
 obtain ⟨z, its, n, r, e⟩ := I.hok l _ hH
 exact ⟨z, its, n, r, r.length, e⟩
end
section
variable {X : Cx}
noncomputable def rAppend : V -> List V -> Hp -> VK -> Prop := fun x vs H Q => ∃ l xs y, x = .ref l /\ vs = [y] /\ H l = some (.lst xs) /\ xs.length < sizeLine /\ Q .non (upd H l (.lst (xs ++ [y])))
theorem mt_append : MtM X "list.append" rAppend := by
 intro pins s σ H x vs v us Q I rx rv h
 obtain ⟨l, xs, y, rfl, rfl, hH, hz, q⟩ := h
 cases rx
 obtain ⟨u, rfl, ru⟩ := rv.one
 obtain ⟨z, its, n, r, hl, e⟩ := I.lstM hH
 refine call_meets F.slot_list_append ⟨_, e, rfl⟩ F.entry_list_append (F.args_list_append_2 _ _) (PySem.list_append l its.toArray n u (by rw [List.size_toArray]; lia)) ⟨e, ?_⟩
 refine ⟨.non, _, I.lset (its' := its ++ [u]) hH e (by simp) (r.append (.cons ru .nil)) ?_, rfl, q⟩
 rw [List.length_append, List.length_singleton]
 lia
noncomputable def rCat : R2 := fun x y H Q => ∃ l b xs zs, x = .ref l /\ y = .ref b /\ H l = some (.lst xs) /\ H b = some (.lst zs) /\ xs.length + zs.length <= sizeLine /\ ∀ p, H p = none -> Q (.ref p) (upd H p (.lst (xs ++ zs)))
theorem op_cat : OpR X (binaryOp .Add) rCat := by
 intro pins s σ H x y v u Q I rx ry h
 obtain ⟨l, b, xs, zs, rfl, rfl, hH, hB, hz, q⟩ := h
 cases rx
 cases ry
 obtain ⟨z, its, n, r, hl, e⟩ := I.lstM hH
 obtain ⟨z2, its2, n2, r2, hl2, e2⟩ := I.lstM hB
 refine PySem.P.add_list e e2 ?_ (by rw [List.size_toArray, List.size_toArray]; lia)
 have ea : its.toArray ++ its2.toArray = (its ++ its2).toArray := by simp
 rw [ea]
 exact ⟨.ref _, _, I.lnew (t' := s.toks) (r.append r2) (by rw [List.length_append]; lia), rfl, q _ I.fresh⟩
end
section
variable {prog : Program} {w : World} {A : Around} {E : Value -> Shared -> Prop} {s : Shared}
end
section
variable {X : Cx}
end
end L2
namespace Att
open PySem PySem.W PySem.Calls PyProof.Rows
theorem ints_of_wellAll {P : Params} {h : Heap} : ∀ (ns : List Int) (vs : List Value), WellAll P h vs (ns.map WData.int) -> IntsAre vs ns := by
 intro ns
 induction ns with
 | nil =>
  intro vs w
  rw [List.map_nil] at w
  cases w
  exact .nil
 | cons n ns ih =>
  intro vs w
  rw [List.map_cons] at w
  cases w with
  | cons a b =>
   cases a
   exact .cons _ _ (ih _ b)
theorem script_of {l : OpenLaw} {n : Nat} (hn : l.most = some n) {P : Params} {h : Heap} {args : List WData} {vals : List Value}
  (hpre : l.row.toRowW.claim.pre args = true) (hwl : WellAll P h vals args) :
  ∃ a vs ns, vals = [Value.ref a] /\ args = [WData.list (ns.map WData.int)] /\ h.get? a = some { cls := .type "list", data := .seq vs.toArray } /\ IntsAre vs ns /\ ns.length <= n := by
 have hsh : WShape.hasAll [] args [.list .int] = true := (pre_splitW hpre).1
 have hc : l.pre.holds [] { args := args } = true := (pre_splitW hpre).2
 obtain ⟨d, r, rfl, h1, h2⟩ := hasAllW_cons hsh
 obtain rfl := hasAllW_nil h2
 obtain ⟨xs, rfl, h3⟩ := hasW_list h1
 obtain ⟨ns, rfl⟩ := items_int h3
 have hlen : ns.length <= n := by
  unfold OpenLaw.pre at hc
  have h4 : (WTm.not (.lt (.lit (.int (n : Int))) (.len (.arg 0)))).holds [] { args := [.list (ns.map .int)] } = true := by
   have h4 := (holds_andW hc).1
   rw [hn] at h4
   exact h4
  have h5 := condW_of h4 (w_not (w_lt w_lit (w_len_list (w_arg rfl))))
  rw [List.length_map] at h5
  refine Nat.le_of_not_lt fun q => ?_
  have q' : (n : Int) < ((ns.length : Nat) : Int) := by lia
  first
   | (rw [decide_eq_true q'] at h5; exact absurd h5 (by decide))
   | (simp at h5; lia)
 cases hwl with
 | cons w1 w2 =>
  cases w2
  cases w1 with
  | list ho hall => exact ⟨_, _, ns, rfl, rfl, ho, ints_of_wellAll ns _ hall, hlen⟩
theorem post_true (l : OpenLaw) (args : List WData) : l.row.toRowW.claim.post args (.bool true) args = true :=
 postW_of (r := l.row.toRowW) (X := (true == true))
  (show WShape.has [] (.bool true) .bool = true by first | rfl | decide | simp [WShape.has, WShape.arms, WShape.armsAll])
  (show (WTm.eq .res (.lit (.bool true))).value [] { args := args, res := some (.bool true), after := args } = some (.bool (true == true)) from w_eq_bool (w_res rfl) w_lit) rfl
theorem attach_call {l : OpenLaw} {n : Nat} {q : Program} {loose : List Str} {XP : (Str -> Option Value) -> Heap -> Prop} {YP : World -> Heap -> Prop} {d : DefRec}
  (hn : l.most = some n) (hdf : d.params.defaults = [])
  (call : ∀ (w : World) (s₀ s₁ : Shared) (mg mb : Str -> Option Value) (fa : Addr) (o : Obj) (pm cd doc : Value) (a : Addr) (vs : List Value) (ns : List Int),
   Ground q loose [] XP w s₀ mg mb s₁.heap -> YP w s₁.heap ->
   s₁.heap.get? fa = some o -> o.data = .func (docDef d.name d.params d.body d.scope pm cd doc) -> s₁.heap.CodeRec cd d.name -> mg d.name = some (.ref fa) ->
   s₁.heap.get? a = some { cls := .type "list", data := .seq vs.toArray } -> IntsAre vs ns -> ns.length <= n -> s₁.gens = #[] ->
   codeAny (model l.prog w) callerA (.call (.ref fa) ⟨[.ref a], []⟩) (fun r s' => r = .ok (.ret (.bool true)) /\ OldK s₁.heap s'.heap /\ s'.os = s₁.os /\ AllBare s'.gens) s₁) :
  WalkO q loose XP YP l.row.toRowW d [] (fun f vs => PySem.call f vs) := by
 intro w s₀ s₁ mg mb G Y fa o pm cd doc dV kV ho hd hcd hD hmg hg args vals as hpre hlay hrd hwl hlo
 obtain rfl : dV = .none := Dflts.none hD hdf
 obtain rfl : kV = .none := Dflts.noKw hD
 obtain ⟨a, vs, ns, rfl, rfl, hobj, hints, hlen⟩ := script_of hn hpre hwl
 refine enter_call (codeAny_mono (call w s₀ s₁ mg mb fa o pm cd doc a vs ns G Y ho (fd_plain hd) hcd hmg hobj hints hlen hg) fun r s' hq => ?_)
 obtain ⟨rfl, h2, h3, h4⟩ := hq
 exact ⟨.inl ⟨.bool true, .bool true, [], rfl, fun _ => rfl, .bool true, post_true l _, fun _ => ⟨List.Pairwise.nil, fun _ hm => (nomatch hm)⟩⟩, h2, h3, h4⟩
section
variable {prog : Program} {w : World} {A : Around} {E : Value -> Shared -> Prop} {s : Shared} {K : Frag}
end
end Att
namespace L2
open PySem PySem.Spec PyProof.Rows
theorem vals_ints : ∀ {vs : List Value} {ns : List Int}, IntsAre vs ns -> Vals (ns.map V.int) vs
 | _, _, .nil => .nil
 | _, _, .cons n t h => .cons ⟨t, rfl⟩ (vals_ints h)
noncomputable def Only (H : Hp) : Prop := ∀ b, H b = none \/ ∃ o xs, H b = some (.frz o (.lst xs))
theorem law_call {P : Program} {w : World} {K : PySem.W.Frag} {mg mb : Str -> Option Value} {CX : CXT} {k : Nat} {fa a : Addr} {fd : FuncData} {x : Str} {sp : Sp} {s₁ : Shared} {vs : List Value} {ns : List Int}
  (KX : K.In s₁.heap) (hns : s₁.heap.Ns mainGlobals mg) (hb : s₁.heap.Ns builtinsNs mb) (hbb : ∀ x : Str, x ≠ "__name__" -> mb x = bootBuiltins x) (hlim : s₁.heap.NoLimit) (hg : s₁.gens = #[])
  (ha : s₁.heap.get? a = some { cls := .type "list", data := .seq vs.toArray }) (hi : IntsAre vs ns) (hl : ns.length <= sizeLine) (hr : Room k callerA)
  (F : ∀ base : Heap, K.In base -> base.Ns mainGlobals mg -> FnOk P w K mg base CX k fa fd [x] sp) (hbind : ∀ (s : Shared) (u : Value), BindsTo s fd ⟨[u], []⟩ [(x, u)])
  (hsp : ∀ H : Hp, Only H -> SqL K H a (ns.map V.int) -> sp [.ref a] H (fun v _ => v = .bl true) fun _ _ _ => False)
  (hCX : ∀ H e s', CX [] H s₁ (fun _ _ _ => False) e s' -> False) :
  codeAny (model P w) callerA (.call (.ref fa) ⟨[.ref a], []⟩) (fun r s' => r = .ok (.ret (.bool true)) /\ OldK s₁.heap s'.heap /\ s'.os = s₁.os /\ AllBare s'.gens) s₁ := by
 have rv := vals_ints hi
 have lenV := hi.length
 have core : ∀ H : Hp, Only H -> SqL K H a (ns.map V.int) -> HOk P w H s₁.heap -> (∀ b, H b ≠ none -> b = a) -> (H a ≠ none -> K.lookup a = none) ->
   codeAny (model P w) callerA (.call (.ref fa) ⟨[.ref a], []⟩) (fun r s' => r = .ok (.ret (.bool true)) /\ OldK s₁.heap s'.heap /\ s'.os = s₁.os /\ AllBare s'.gens) s₁ := by
  intro H hO hS hok hA hK
  have base_of : ∀ {b : Addr} {o : Obj}, s₁.heap.get? b = some o -> H b = none -> (hidT s₁.heap H).get? b = some o := fun e n => hidT_get e n
  have noA : ∀ {b : Addr} {o : Obj} {es : Array DictEntry} {ep : Nat}, s₁.heap.get? b = some o -> o.data = .dict es ep -> H b = none := fun {b o es ep} e d => by
   cases q : H b with
   | none => rfl
   | some u =>
    have e' : b = a := hA b (by rw [q]; simp)
    subst e'
    rw [ha] at e; cases e
    have d' : Data.seq vs.toArray _ = Data.dict es ep := d
    cases d'
  have nsK : ∀ {b : Addr} {m : Str -> Option Value}, s₁.heap.Ns b m -> (hidT s₁.heap H).Ns b m := fun {b m} ⟨o, es, ep, e, d, r⟩ => ⟨o, es, ep, base_of e (noA e d), d, r⟩
  have hKb : K.In (hidT s₁.heap H) := fun b o e => base_of (KX b o e) (by
   cases q : H b with
   | none => rfl
   | some u =>
    have e' : b = a := hA b (by rw [q]; simp)
    subst e'
    rw [hK (by rw [q]; simp)] at e; cases e)
  have hM : Mod K mg (hidT s₁.heap H) := ⟨hKb, nsK hns, ⟨mb, nsK hb, hbb⟩, let ⟨mc, h1, h2⟩ := hlim; ⟨mc, nsK h1, h2⟩⟩
  have e0 : Env0 P w K mg (hidT s₁.heap H) callerA [] s₁ H := ⟨rfl, hM, fun b o e => of_hidT e, Nat.le_of_eq (hidT_size _ _), trivial, fun b hb => absurd (show b ∈ ([] : List Addr) from hb) (by simp), hok, .of_eq hg⟩
  refine codeAny_mono ((F _ hKb (nsK hns)).run callerA [] s₁ H ⟨[.ref a], []⟩ [.ref a] [.ref a] _ _ hr e0 (hbind s₁ (.ref a)) (.cons rfl .nil) (hsp H hO hS)) fun r s' h => ?_
  cases r with
  | error e => exact (hCX H e s' h).elim
  | ok fl =>
   cases fl with
   | next => exact False.elim h
   | brk => exact False.elim h
   | cont => exact False.elim h
   | ret u =>
    obtain ⟨v, H', os, bare, un, hok', r', q⟩ := h
    have q' : v = .bl true := q
    subst q'
    obtain rfl : u = Value.bool true := r'
    refine ⟨rfl, OldK.of_keep fun b o e => ?_, os, bare⟩
    cases q : H b with
    | none => exact un.keep b o e q (by intro z; exact absurd (show b ∈ ([] : List Addr) from z) (by simp)) (by simp)
    | some u =>
     rcases hO b with z | ⟨ob, xs, z⟩
     ·rw [q] at z; cases z
     ·have z2 := un.frzs b ob _ z
      obtain ⟨e1, _⟩ := hok b _ z
      obtain ⟨e2, _⟩ := hok' b _ z2
      rw [e] at e1; cases e1
      exact e2
 cases hk : K.lookup a with
 | some o =>
  have e := KX a o hk
  rw [ha] at e
  cases e
  refine core (fun _ => none) (fun _ => .inl rfl) (.inr ⟨_, vs.toArray, _, hk, rfl, rfl, rfl, by rw [List.size_toArray, lenV]; exact hl, by simpa using rv⟩) (fun b u z => by have z' : (none : Option HO) = some u := z; cases z') (fun b z => absurd rfl z) fun z => absurd rfl z
 | none =>
  refine core (fun b => if b = a then some (.frz { cls := .type "list", data := .seq vs.toArray } (.lst (ns.map V.int))) else none) (fun b => ?_) (.inl (.inr ⟨{ cls := .type "list", data := .seq vs.toArray }, if_pos rfl⟩)) (fun b u z => ?_) (fun b z => ?_) fun _ => hk
  ·by_cases hb : b = a
   ·exact .inr ⟨_, _, if_pos hb⟩
   ·exact .inl (if_neg hb)
  ·by_cases hb : b = a
   ·have z' := (if_pos hb).symm.trans z
    cases z'
    subst hb
    exact ⟨ha, by rw [List.length_map]; exact hl, vs, _, rv, ha⟩
   ·have z' := (if_neg hb).symm.trans z
    cases z'
  ·by_cases hb : b = a
   ·exact hb
   ·exact absurd (if_neg hb) z
end L2
namespace L2
open PySem PySem.Spec PyProof.Rows
theorem walk_of {l : PySem.W.OpenLaw} {n k : Nat} {q : Program} {loose : List Str} {XP : (Str -> Option Value) -> Heap -> Prop} {YP : World -> Heap -> Prop} {d : DefRec} {K : Params -> PySem.W.Frag} {CX : World -> CXT} {sp : World -> Sp} {x : Str}
  (hn : l.most = some n) (hn2 : n <= sizeLine) (hdf : d.params.defaults = []) (hr : Room k callerA)
  (hY : ∀ (w : World) (h : Heap), YP w h -> (K w.params).In h)
  (F : ∀ (w : World) (mg : Str -> Option Value) (fa : Addr) (h : Heap), (K w.params).In h -> h.Ns mainGlobals mg -> mg d.name = some (.ref fa) ->
   ∃ fd : FuncData, (∀ (s : Shared) (u : Value), BindsTo s fd ⟨[u], []⟩ [(x, u)]) /\
    ∀ base : Heap, (K w.params).In base -> base.Ns mainGlobals mg -> FnOk l.prog w (K w.params) mg base (CX w) k fa fd [x] (sp w))
  (hsp : ∀ (w : World) (H : Hp) (a : Addr) (ns : List Int), ns.length <= n -> Only H -> SqL (K w.params) H a (ns.map V.int) -> sp w [.ref a] H (fun v _ => v = .bl true) fun _ _ _ => False)
  (hCX : ∀ (w : World) (H : Hp) (s : Shared) (e : Value) (s' : Shared), CX w [] H s (fun _ _ _ => False) e s' -> False) :
  PySem.W.WalkO q loose XP YP l.row.toRowW d [] (fun f vs => PySem.call f vs) := by
 refine Att.attach_call hn hdf fun w s₀ s₁ mg mb fa o pm cd doc a vs ns G Y ho hd hcd hmg hobj hints hlen hg => ?_
 have KX := hY w _ Y
 obtain ⟨fd, hb, hF⟩ := F w mg fa _ KX G.T.g hmg
 exact law_call KX G.T.g G.T.b G.T.builtins G.T.nolimit hg hobj hints (Nat.le_trans hlen hn2) hr hF hb (fun H hO hS => hsp w H a ns hlen hO hS) fun H e s' => hCX w H s₁ e s'
theorem walk_ofK {l : PySem.W.OpenLaw} {n k : Nat} {q : Program} {loose : List Str} {XP : (Str -> Option Value) -> Heap -> Prop} {YP : World -> Heap -> Prop} {d : DefRec} {K : Params -> PySem.W.Frag} {CX : CXT} {sp : PySem.W.Frag -> Sp} {x : Str}
  (hn : l.most = some n) (hn2 : n <= sizeLine) (hdf : d.params.defaults = []) (hr : Room k callerA)
  (hY : ∀ (w : World) (h : Heap), YP w h -> (K w.params).In h)
  (F : ∀ (w : World) (mg : Str -> Option Value) (fa : Addr) (h : Heap), (K w.params).In h -> h.Ns mainGlobals mg -> mg d.name = some (.ref fa) ->
   ∃ fd : FuncData, (∀ (s : Shared) (u : Value), BindsTo s fd ⟨[u], []⟩ [(x, u)]) /\
    ∀ base : Heap, (K w.params).In base -> base.Ns mainGlobals mg -> FnOk l.prog w (K w.params) mg base CX k fa fd [x] (sp (K w.params)))
  (hsp : ∀ (K : PySem.W.Frag) (H : Hp) (a : Addr) (ns : List Int), ns.length <= n -> Only H -> SqL K H a (ns.map V.int) -> sp K [.ref a] H (fun v _ => v = .bl true) fun _ _ _ => False)
  (hCX : ∀ (H : Hp) (s : Shared) (e : Value) (s' : Shared), CX [] H s (fun _ _ _ => False) e s' -> False) :
  PySem.W.WalkO q loose XP YP l.row.toRowW d [] (fun f vs => PySem.call f vs) :=
 walk_of (K := K) (CX := fun _ => CX) (sp := fun w => sp (K w.params)) hn hn2 hdf hr hY F (fun w H a ns h1 h2 h3 => hsp (K w.params) H a ns h1 h2 h3) fun _ H s e s' => hCX H s e s'
end L2
/- THE LAST THEOREM (shape; LID, My.* are yours):
   My.Adr: a structure of the addresses that your layer names (classes, functions); My.Txt K t: a structure (Prop) of the equations over K;
   My.txt_mk : {K} {implicit addresses ..} (e1 : nsIn K mainGlobals "law" = some (some (.ref f))) (e2 : K.lookup f = some ⟨oc, od, .func (fnOf "law" "law" params body scope dV kV doc pm an cdv ct), sl⟩) (e3 : codeIn K cdv "law" = true) .. : ∃ t, My.Txt K t
set_option maxRecDepth 100000 in
set_option maxHeartbeats 0 in
theorem PySem.Challenge.cw_LID_holds : PySem.Challenge.rw_LID.Holds := by
 w_on; o_law; k_head; (case hw => w_witness2)
 k_fill
 refine L2.walk_of (l := PySem.Challenge.rw_LID) (n := 63) (k := 40) (x := "script") (CX := fun w => ..) (sp := fun _ => My.sp_law) rfl (by decide) rfl ⟨rfl, by decide, by decide⟩ (fun w h Y => PySem.W.kIn_of Y) ?F ?S ?C
 case F =>
  intro w mg fa h KX G hmg
  have T : ∃ t, My.Txt (L2.KOf KX) t := by
   dsimp only [L2.KOf]                          -- K must stand as «<heap const> w.params» for k_is
   refine' My.txt_mk ?e1 ?e2 ?e3 ..
   (case e1 => PySem.W.k_is)                    -- in the order: a name -> its address -> its object -> its parts
   (case e2 => PySem.W.k_is)
   ..
  obtain ⟨t, T⟩ := T
  have e0 := hmg.symm.trans (PySem.W.mg_of KX G T.law)
  cases e0                                       -- fa is the law's own address
  exact ⟨_, fun s u => .of_eq rfl, fun base kb nb => My.law_fn T kb nb⟩     -- if «.of_eq rfl» comes too early: refine' ⟨_, ?b, fun base kb nb => My.law_fn T kb nb⟩; exact fun s u => .of_eq rfl
 case S => exact fun w H a ns hl hO hS => ..
 case C => exact ..
(the tactic k_is has no namespace: write k_is) -/
namespace L2
open PySem PySem.Spec PyProof.Rows
noncomputable def defArgs (s : Stmt) : Arguments := match s with
 | .FunctionDef _ a _ _ _ _ _ _ _ _ => a
 | _ => { posonlyargs := [], args := [], vararg := none, kwonlyargs := [], kw_defaults := [], kwarg := none, defaults := [] }
noncomputable def defBody (s : Stmt) : List Stmt := match s with
 | .FunctionDef _ _ b _ _ _ _ _ _ _ => b
 | _ => []
noncomputable def defScope (s : Stmt) : Scope := match s with
 | .FunctionDef _ _ _ _ _ _ sc _ _ _ => sc
 | _ => { kind := .function, names := [], isGenerator := false, isCoroutine := false }
noncomputable abbrev CX0 : CXT := fun _ _ _ _ _ _ => False
noncomputable abbrev E0 : XK := fun _ _ _ => False
theorem pass0 {X : Cx} : Passes CX0 X E0 := fun _ _ _ _ _ _ _ h => h.elim
structure Fun (K : PySem.W.Frag) (x qual : Str) (st : Stmt) (f : Addr) (fd : FuncData) : Prop where
 ex : ∃ (oc : Value) (od : Option Addr) (kV doc pm : Value) (an : Option Addr) (cdv ct : Value) (osl : Array (Option Value)),
  fd = PySem.W.fnOf x qual (defArgs st) (defBody st) (defScope st) .none kV doc pm an cdv ct /\ K.lookup f = some ⟨oc, od, .func fd, osl⟩ /\ PySem.W.codeIn K cdv qual = true
 kp : PySem.W.keepIn K (.ref f) = true
section
variable {P : Program} {w : World} {K : PySem.W.Frag} {mg : Str -> Option Value} {base : Heap}
theorem Fun.ok {x qual : Str} {st : Stmt} {f : Addr} {fd : FuncData} {N ps : List Str} {k : Nat} {sp : Sp} (F : Fun K x qual st f fd) (S : FnScope N ps (defScope st)) (len : ∀ vs H Q E, sp vs H Q E -> vs.length = ps.length)
  (hbody : ∀ (cdv : Value) (A : Around) (outer : List Env) (s : Shared) (H : Hp) (vs : List V) (Q : VK) (E : XK), Room k (A.deeper (envOfC qual (defScope st) s.heap.objs.size f cdv)) -> sp vs H Q E ->
   ∃ t, PSs (cxOf CX0 P w K mg base N qual (defScope st) f cdv A outer s H E).nox (defBody st) t /\ t { nx := fun _ H' => Q .non H', rt := Q } (start N vs) H) : FnOk P w K mg base CX0 (k + 1) f fd ps sp := by
 obtain ⟨oc, od, kV, doc, pm, an, cdv, ct, osl, rfl, lk, hcd⟩ := F.ex
 refine fn_of lk hcd S len fun A outer s H vs Q E hr hsp => ?_
 obtain ⟨t, h, q⟩ := hbody cdv A outer s H vs Q E hr hsp
 exact ⟨t, h.nox, q⟩
theorem Fun.binds {x qual : Str} {st : Stmt} {f : Addr} {fd : FuncData} {ps : List Str} (F : Fun K x qual st f fd)
  (h : ∀ (kV doc pm : Value) (an : Option Addr) (cdv ct : Value) (us : List Value), us.length = ps.length -> bindArgs (PySem.W.fnOf x qual (defArgs st) (defBody st) (defScope st) .none kV doc pm an cdv ct) ⟨us, []⟩ = pure (ps.zip us)) : Binds K fd ps [] := by
 obtain ⟨oc, od, kV, doc, pm, an, cdv, ct, osl, rfl, lk, hcd⟩ := F.ex
 exact .all (h kV doc pm an cdv ct)
theorem fun_mk {x qual : Str} {st : Stmt} {f : Addr} {oc : Value} {od an : Option Addr} {osl : Array (Option Value)} {kV doc pm cdv ct : Value} (l : K.lookup f = some ⟨oc, od, .func (PySem.W.fnOf x qual (defArgs st) (defBody st) (defScope st) .none kV doc pm an cdv ct), osl⟩)
  (c : PySem.W.codeIn K cdv qual = true) (k : PySem.W.keepIn K (.ref f) = true) : Fun K x qual st f (PySem.W.fnOf x qual (defArgs st) (defBody st) (defScope st) .none kV doc pm an cdv ct) := ⟨⟨oc, od, kV, doc, pm, an, cdv, ct, osl, rfl, l, c⟩, k⟩
end
theorem hu_of {A : Around} {k : Nat} (hr : Room k A) : A.units + 1 < cLine := Nat.lt_of_le_of_lt (Nat.add_le_add_left (by decide : 1 <= 64) _) hr.units
theorem small1000 {n : Nat} (h : n <= 1000) : n < sizeLine := Nat.lt_of_le_of_lt h (by decide)
section
variable {X : Cx}
theorem pv (i : Nat) {x : Str} {pos : Pos} (hN : X.N[i]? = some x := by rfl) (hv : Vis X.env.scope x := by first | exact Or.inl rfl | exact Or.inr (Or.inl rfl) | exact Or.inr (Or.inr rfl)) (hd : (x == ("__debug__" : Str)) = false := by decide)
  (hcd : (x == ("__classdict__" : Str)) = false := by decide) : PE X (.Name x pos) (tVar i) := pe_var hN hv hd hcd
end
theorem iteF {A B : Prop} (h : B) : if false = true then A else B := by
 rw [if_neg Bool.false_ne_true]
 exact h
theorem iteT {A B : Prop} (h : A) : if true = true then A else B := by
 rw [if_pos rfl]
 exact h
theorem ite2 {c A B : Prop} [Decidable c] (h1 : c -> A) (h2 : ¬ c -> B) : if c then A else B := by
 by_cases h : c
 ·rw [if_pos h]
  exact h1 h
 ·rw [if_neg h]
  exact h2 h
noncomputable def Same (H H' : Hp) : Prop := ∀ b o, H b = some o -> H' b = some o
theorem Same.refl (H : Hp) : Same H H := fun _ _ h => h
theorem Same.trans {H H1 H2 : Hp} (a : Same H H1) (b : Same H1 H2) : Same H H2 := fun c o h => b c o (a c o h)
theorem Same.free {H H' : Hp} (e : Same H H') {l : Addr} (h : H' l = Option.none) : H l = Option.none := by
 cases q : H l with
 | none => rfl
 | some o =>
  rw [e l o q] at h
  cases h
theorem Same.seq {K : PySem.W.Frag} {H H' : Hp} {a : Addr} {xs : List V} (e : Same H H') (h : SqL K H a xs) : SqL K H' a xs := by
 rcases h with (h | ⟨o, h⟩) | h
 ·exact .inl (.inl (e _ _ h))
 ·exact .inl (.inr ⟨o, e _ _ h⟩)
 ·exact .inr h
section
variable {κ : Type} [DecidableEq κ]
end
end L2
namespace Tc
noncomputable def dv (t b : Int) : Int := if b < 0 then -(Int.gcd t b : Int) else (Int.gcd t b : Int)
theorem fmod_pos {t b : Int} (h : 0 < b) : 0 <= t.fmod b /\ t.fmod b < b := by
 rw [Int.fmod_eq_emod_of_nonneg _ (Int.le_of_lt h)]
 exact ⟨Int.emod_nonneg _ (by lia), Int.emod_lt_of_pos _ h⟩
theorem fmod_neg {t b : Int} (h : b < 0) : b < t.fmod b /\ t.fmod b <= 0 := by
 have e : t.fmod b = -((-t).fmod (-b)) := by
  have h1 := Int.mul_fdiv_add_fmod t b
  have h2 := Int.mul_fdiv_add_fmod (-t) (-b)
  rw [Int.neg_fdiv_neg] at h2
  have h3 : -b * t.fdiv b = -(b * t.fdiv b) := Int.neg_mul _ _
  rw [h3] at h2
  lia
 have p := fmod_pos (t := -t) (b := -b) (by lia)
 lia
theorem gcd_fmod (t b : Int) : Int.gcd b (t.fmod b) = Int.gcd t b := by
 have h1 := Int.mul_fdiv_add_fmod t b
 have e : t.fmod b = t + b * (-(t.fdiv b)) := by
  rw [Int.mul_neg]; lia
 rw [e, Int.gcd_comm, Int.gcd_add_mul_left_left]
structure Dv (t₀ b₀ t b : Int) : Prop where
 g : Int.gcd t b = Int.gcd t₀ b₀
 p : 0 < b₀ -> 0 <= b /\ (b = 0 -> 0 < t)
 n : b₀ < 0 -> b <= 0 /\ (b = 0 -> t < 0)
theorem Dv.start {t b : Int} (h : b ≠ 0) : Dv t b t b := ⟨rfl, fun p => ⟨Int.le_of_lt p, fun e => absurd e h⟩, fun p => ⟨Int.le_of_lt p, fun e => absurd e h⟩⟩
theorem Dv.turn {t₀ b₀ t b : Int} (d : Dv t₀ b₀ t b) (h : b ≠ 0) : Dv t₀ b₀ b (t.fmod b) := by
 refine ⟨(gcd_fmod t b).trans d.g, fun p => ?_, fun p => ?_⟩
 ·have q := d.p p
  have r := fmod_pos (t := t) (b := b) (by lia)
  exact ⟨r.1, fun _ => by lia⟩
 ·have q := d.n p
  have r := fmod_neg (t := t) (b := b) (by lia)
  exact ⟨r.2, fun _ => by lia⟩
theorem Dv.less {t b : Int} (h : b ≠ 0) : (t.fmod b).natAbs < b.natAbs := by
 rcases Int.lt_or_gt_of_ne h with q | q
 ·have r := fmod_neg (t := t) q; lia
 ·have r := fmod_pos (t := t) q; lia
theorem Dv.done {t₀ b₀ t b : Int} (d : Dv t₀ b₀ t b) (h : b = 0) (h0 : b₀ ≠ 0) : t = dv t₀ b₀ := by
 subst h
 have g := d.g
 rw [Int.gcd_zero_right] at g
 unfold dv
 rw [<- g]
 split
 ·rename_i q; have := (d.n q).2 rfl; lia
 ·have := (d.p (by lia)).2 rfl; lia
theorem gcd_pos {t b : Int} (h : b ≠ 0) : 0 < Int.gcd t b := Nat.pos_of_ne_zero fun e => h (Int.gcd_eq_zero_iff.mp e).2
theorem dv_ne {t b : Int} (h : b ≠ 0) : dv t b ≠ 0 := by
 have := gcd_pos (t := t) h
 unfold dv; split <;> lia
theorem dv_dvd_left (t b : Int) : dv t b ∣ t := by
 have := Int.gcd_dvd_left t b
 unfold dv; split
 ·exact Int.neg_dvd.mpr this
 ·exact this
theorem dv_dvd_right (t b : Int) : dv t b ∣ b := by
 have := Int.gcd_dvd_right t b
 unfold dv; split
 ·exact Int.neg_dvd.mpr this
 ·exact this
theorem dv_abs (t b : Int) : (dv t b).natAbs = Int.gcd t b := by
 unfold dv; split <;> lia
theorem dv_le {t b : Int} (h : b ≠ 0) : (dv t b).natAbs <= b.natAbs := by
 rw [dv_abs]
 have := Int.gcd_dvd_right t b
 exact Nat.le_of_dvd (by lia) (Int.natAbs_dvd_natAbs.mpr this |> (by simpa using ·))
theorem dv_num {t b : Int} (h : b ≠ 0) : t.fdiv (dv t b) = (Rat.divInt t b).num := by
 rw [Int.fdiv_eq_ediv_of_dvd (dv_dvd_left t b), Rat.num_divInt, Int.gcd_comm]
 unfold dv
 rcases Int.lt_or_gt_of_ne h with q | q
 ·rw [if_pos q, Int.sign_eq_neg_one_of_neg q, Int.ediv_neg, Int.neg_one_mul, Int.neg_ediv_of_dvd (Int.gcd_dvd_left t b)]
 ·rw [if_neg (by lia), Int.sign_eq_one_of_pos q, Int.one_mul]
theorem dv_den {t b : Int} (h : b ≠ 0) : b.fdiv (dv t b) = ((Rat.divInt t b).den : Int) := by
 rw [Int.fdiv_eq_ediv_of_dvd (dv_dvd_right t b), Rat.den_divInt, if_neg h, Int.gcd_comm]
 unfold dv
 rw [Int.natCast_ediv]
 rcases Int.lt_or_gt_of_ne h with q | q
 ·rw [if_pos q, Int.ediv_neg, <- Int.neg_ediv_of_dvd (Int.gcd_dvd_right t b)]
  congr 1; lia
 ·rw [if_neg (by lia)]
  congr 1; lia
end Tc
namespace Tc
theorem dv_pos {t b : Int} (h : 0 < b) : dv t b = (Int.gcd t b : Int) := by unfold dv; rw [if_neg (by lia)]
theorem low {n d : Int} (hd : 0 < d) (hg : Int.gcd n d = 1) : (Rat.divInt n d).num = n /\ ((Rat.divInt n d).den : Int) = d := by
 have h1 := dv_num (t := n) (b := d) (by lia)
 have h2 := dv_den (t := n) (b := d) (by lia)
 rw [dv_pos hd, hg] at h1 h2
 constructor
 ·rw [<- h1]; simp
 ·rw [<- h2]; simp
theorem rat_den_pos (r : Rat) : (0 : Int) < r.den := by have := r.den_pos; lia
theorem rat_gcd (r : Rat) : Int.gcd r.num r.den = 1 := by
 have := r.reduced
 unfold Nat.Coprime at this
 unfold Int.gcd
 simpa using this
theorem plus_ok (r q : Rat) {s rest top d : Int} (hs : s = dv r.den q.den) (hr : rest = (r.den : Int).fdiv s) (ht : top = r.num * ((q.den : Int).fdiv s) + q.num * rest) (hd : d = dv top s) :
  top.fdiv d = (r + q).num /\ rest * ((q.den : Int).fdiv d) = ((r + q).den : Int) := by
 have p1 := r.den_pos
 have p2 := q.den_pos
 have gp : 0 < Nat.gcd r.den q.den := Nat.gcd_pos_of_pos_left _ p1
 have es : s = ((Nat.gcd r.den q.den : Nat) : Int) := by
  rw [hs, dv_pos (by lia)]; unfold Int.gcd; simp
 have e1 : (r.den : Int).fdiv s = ((r.den / Nat.gcd r.den q.den : Nat) : Int) := by
  rw [es, Int.fdiv_eq_ediv_of_nonneg _ (by lia), Int.natCast_ediv]
 have e2 : (q.den : Int).fdiv s = ((q.den / Nat.gcd r.den q.den : Nat) : Int) := by
  rw [es, Int.fdiv_eq_ediv_of_nonneg _ (by lia), Int.natCast_ediv]
 have er : rest = ((r.den / Nat.gcd r.den q.den : Nat) : Int) := hr.trans e1
 have et : top = r.num * ((q.den / Nat.gcd r.den q.den : Nat) : Int) + q.num * ((r.den / Nat.gcd r.den q.den : Nat) : Int) := by rw [ht, e2, er]
 have key : top.natAbs.gcd (Nat.gcd r.den q.den) = top.natAbs.gcd ((r.den / Nat.gcd r.den q.den) * q.den) := by
  rw [et]
  exact Rat.add.aux r q rfl rfl rfl
 have ed : d = ((top.natAbs.gcd (Nat.gcd r.den q.den) : Nat) : Int) := by
  rw [hd, es, dv_pos (by lia)]; unfold Int.gcd; simp
 have hrd : Nat.gcd r.den q.den ∣ r.den := Nat.gcd_dvd_left _ _
 have hqd : Nat.gcd r.den q.den ∣ q.den := Nat.gcd_dvd_right _ _
 have rp : 0 < r.den / Nat.gcd r.den q.den := Nat.div_pos (Nat.le_of_dvd p1 hrd) gp
 have sum : r + q = Rat.divInt top (((r.den / Nat.gcd r.den q.den) * q.den : Nat) : Int) := by
  have h := Rat.divInt_add_divInt r.num q.num (d₁ := r.den) (d₂ := q.den) (by lia) (by lia)
  rw [Rat.num_divInt_den, Rat.num_divInt_den] at h
  rw [h]
  rw [Rat.divInt_eq_divInt_iff (Int.mul_ne_zero (by lia) (by lia)) (by have := Nat.mul_pos rp p2; lia)]
  rw [et]
  obtain ⟨a, ha⟩ := hrd
  obtain ⟨b, hb⟩ := hqd
  generalize Nat.gcd r.den q.den = g at *
  have a1 : r.den / g = a := by rw [ha]; exact Nat.mul_div_cancel_left _ gp
  have b1 : q.den / g = b := by rw [hb]; exact Nat.mul_div_cancel_left _ gp
  rw [a1, b1]
  rw [ha, hb]
  push_cast
  grind
 have dp : (0 : Int) < (((r.den / Nat.gcd r.den q.den) * q.den : Nat) : Int) := by have := Nat.mul_pos rp p2; lia
 have n1 := dv_num (t := top) (b := (((r.den / Nat.gcd r.den q.den) * q.den : Nat) : Int)) (by lia)
 have n2 := dv_den (t := top) (b := (((r.den / Nat.gcd r.den q.den) * q.den : Nat) : Int)) (by lia)
 have edd : dv top (((r.den / Nat.gcd r.den q.den) * q.den : Nat) : Int) = d := by
  rw [ed, dv_pos dp, key]; unfold Int.gcd; rw [Int.natAbs_natCast]
 rw [<- sum, edd] at n1 n2
 refine ⟨n1, ?_⟩
 rw [<- n2, er]
 have dq : d ∣ (q.den : Int) := by
  rw [ed]
  exact Int.natCast_dvd_natCast.mpr (Nat.dvd_trans (Nat.gcd_dvd_right _ _) hqd)
 have dpos : 0 < d := by
  rw [ed]; have := Nat.gcd_pos_of_pos_right top.natAbs gp; lia
 rw [Int.fdiv_eq_ediv_of_nonneg _ (by lia), Int.fdiv_eq_ediv_of_nonneg _ (by lia)]
 push_cast
 exact (Int.mul_ediv_assoc _ dq).symm
theorem cop_dvd {a d t b : Int} (h : Int.gcd t b = 1) (ha : a ∣ t) (hd : d ∣ b) : Int.gcd a d = 1 :=
 Nat.Coprime.coprime_dvd_left (Int.natAbs_dvd_natAbs.mpr ha) (Nat.Coprime.coprime_dvd_right (Int.natAbs_dvd_natAbs.mpr hd) h)
theorem cop_mul {a b c d : Int} (h1 : Int.gcd a d = 1) (h2 : Int.gcd a b = 1) (h3 : Int.gcd c d = 1) (h4 : Int.gcd c b = 1) : Int.gcd (a * c) (d * b) = 1 := by
 show Nat.Coprime (a * c).natAbs (d * b).natAbs
 rw [Int.natAbs_mul, Int.natAbs_mul]
 exact Nat.coprime_mul_iff_left.mpr ⟨Nat.coprime_mul_iff_right.mpr ⟨h1, h2⟩, Nat.coprime_mul_iff_right.mpr ⟨h3, h4⟩⟩
theorem times_ok {t1 b1 t2 b2 : Int} (h1 : 0 < b1) (h2 : b2 ≠ 0) (c1 : Int.gcd t1 b1 = 1) (c2 : Int.gcd t2 b2 = 1) {l r : Int} (hl : l = dv t1 b2) (hr : r = dv t2 b1) :
  (t1.fdiv l) * (t2.fdiv r) = (Rat.divInt (t1 * t2) (b1 * b2)).num /\ (b1.fdiv r) * (b2.fdiv l) = ((Rat.divInt (t1 * t2) (b1 * b2)).den : Int) := by
 have l0 : l ≠ 0 := by rw [hl]; exact dv_ne h2
 have r0 : 0 < r := by rw [hr, dv_pos h1]; have := gcd_pos (t := t2) (b := b1) (by lia); lia
 obtain ⟨a, ha⟩ : l ∣ t1 := by rw [hl]; exact dv_dvd_left _ _
 obtain ⟨b, hb⟩ : l ∣ b2 := by rw [hl]; exact dv_dvd_right _ _
 obtain ⟨c, hc⟩ : r ∣ t2 := by rw [hr]; exact dv_dvd_left _ _
 obtain ⟨d, hd⟩ : r ∣ b1 := by rw [hr]; exact dv_dvd_right _ _
 have e1 : t1.fdiv l = a := by rw [ha, Int.mul_fdiv_cancel_left _ l0]
 have e2 : b2.fdiv l = b := by rw [hb, Int.mul_fdiv_cancel_left _ l0]
 have e3 : t2.fdiv r = c := by rw [hc, Int.mul_fdiv_cancel_left _ (by lia)]
 have e4 : b1.fdiv r = d := by rw [hd, Int.mul_fdiv_cancel_left _ (by lia)]
 have gl : Int.gcd t1 b2 = l.natAbs := by rw [hl, dv_abs]
 have gr : Int.gcd t2 b1 = r.natAbs := by rw [hr, dv_abs]
 have la : 0 < l.natAbs := by lia
 have ra : 0 < r.natAbs := by lia
 have cab : Int.gcd a b = 1 := by
  rw [ha, hb, Int.gcd_mul_left] at gl
  exact Nat.eq_of_mul_eq_mul_left la (by lia)
 have ccd : Int.gcd c d = 1 := by
  rw [hc, hd, Int.gcd_mul_left] at gr
  exact Nat.eq_of_mul_eq_mul_left ra (by lia)
 have cad : Int.gcd a d = 1 := cop_dvd c1 ⟨l, by rw [ha, Int.mul_comm]⟩ ⟨r, by rw [hd, Int.mul_comm]⟩
 have cbc : Int.gcd c b = 1 := cop_dvd c2 ⟨r, by rw [hc, Int.mul_comm]⟩ ⟨l, by rw [hb, Int.mul_comm]⟩
 have dp : 0 < d := by
  rcases Int.lt_trichotomy d 0 with z | z | z
  ·have := Int.mul_neg_of_pos_of_neg r0 z; lia
  ·subst z; lia
  ·exact z
 have bp : 0 < b := by
  rcases Int.lt_or_gt_of_ne h2 with z | z
  ·have ln : l < 0 := by
    rw [hl]; unfold dv; rw [if_pos z]; have := gcd_pos (t := t1) h2; lia
   rcases Int.lt_trichotomy b 0 with y | y | y
   ·have := Int.mul_pos_of_neg_of_neg ln y; lia
   ·subst y; lia
   ·exact y
  ·have lp : 0 < l := by
    rw [hl, dv_pos z]; have := gcd_pos (t := t1) h2; lia
   rcases Int.lt_trichotomy b 0 with y | y | y
   ·have := Int.mul_neg_of_pos_of_neg lp y; lia
   ·subst y; lia
   ·exact y
 have lw := low (n := a * c) (d := d * b) (Int.mul_pos dp bp) ?_
 ·have ee : Rat.divInt (t1 * t2) (b1 * b2) = Rat.divInt (a * c) (d * b) := by
   rw [Rat.divInt_eq_divInt_iff (Int.mul_ne_zero (by lia) h2) (Int.mul_ne_zero (by lia) (by lia))]
   rw [ha, hb, hc, hd]; grind
  rw [e1, e2, e3, e4, ee]
  exact ⟨lw.1.symm, lw.2.symm⟩
 ·exact cop_mul cad cab ccd cbc
theorem mul_eq (r q : Rat) : Rat.divInt (r.num * q.num) (r.den * q.den) = r * q := by
 rw [<- Rat.divInt_mul_divInt, Rat.num_divInt_den, Rat.num_divInt_den]
theorem div_eq (r q : Rat) (h : q.num ≠ 0) : Rat.divInt (r.num * q.den) (r.den * q.num) = r / q := by
 rw [<- Rat.divInt_mul_divInt, Rat.num_divInt_den, Rat.div_def]
 congr 1
 rw [Rat.inv_def]
theorem gcd_swap (r : Rat) : Int.gcd (r.den : Int) r.num = 1 := by rw [Int.gcd_comm]; exact rat_gcd r
theorem neg_ok (r : Rat) : (0 - r.num) = (-r).num /\ (r.den : Int) = ((-r).den : Int) := by
 constructor
 ·rw [Rat.neg_num]; lia
 ·rw [Rat.neg_den]
theorem sub_eq (r q : Rat) : r + -q = r - q := (Rat.sub_eq_add_neg r q).symm
theorem lt_ok (r q : Rat) : decide (r.num * q.den < q.num * r.den) = decide (r < q) := by
 rw [decide_eq_decide, Rat.lt_iff]
theorem fq_inj {r q : Rat} (h1 : r.num = q.num) (h2 : (r.den : Int) = q.den) : r = q := Rat.ext h1 (by lia)
end Tc
namespace L2
open PySem PySem.Spec PyProof.Rows
theorem bt_abs : bootBuiltins "abs" = some (.builtin "abs") := by decide +kernel
theorem bt_isinstance : bootBuiltins "isinstance" = some (.builtin "isinstance") := by decide +kernel
theorem bt_min : bootBuiltins "min" = some (.builtin "min") := by decide +kernel
theorem bt_int : bootBuiltins "int" = some (.type "int") := by decide +kernel
theorem bt_bool : bootBuiltins "bool" = some (.type "bool") := by decide +kernel
theorem bt_list : bootBuiltins "list" = some (.type "list") := by decide +kernel
theorem bt_dict : bootBuiltins "dict" = some (.type "dict") := by decide +kernel
theorem bt_ValueError : bootBuiltins "ValueError" = some (.type "ValueError") := by decide +kernel
section
variable {X : Cx}
theorem op_mulB : OpR X (binaryOp .Mult) (rI IntMulOk fun i j => .int (i * j)) := opI fun _ _ _ _ _ _ _ hc q => mul_int q hc
noncomputable def CDivB (_ j : Int) : Prop := j ≠ 0 /\ j.natAbs.log2 < 9000
theorem op_fdivB : OpR X (binaryOp .FloorDiv) (rI CDivB fun i j => .int (i.fdiv j)) := opI fun _ _ _ _ _ _ _ hc q => floordiv_int hc.1 q (.inl (PyProof.noPylong_of_log2 hc.2))
theorem log2_lt {n k : Nat} (h : n < 2 ^ k) (hk : 0 < k) : n.log2 < k := by
 rcases Nat.eq_zero_or_pos n with h0 | hp
 ·subst h0
  have : Nat.log2 0 = 0 := by decide
  lia
 ·exact (Nat.log2_lt (Nat.ne_of_gt hp)).mpr h
theorem mulOk_of {a b : Int} (k : Nat) (ha : a.natAbs < 2 ^ k) (hb : b.natAbs < 2 ^ k) (h : k <= 67108864) : IntMulOk a b := by
 have bits : ∀ x : Int, x.natAbs < 2 ^ k -> Builtin.Int.intBits x <= k := fun x hx => by
  unfold Builtin.Int.intBits
  split
  ·exact Nat.zero_le _
  ·rename_i hx0
   rcases Nat.eq_zero_or_pos k with h0 | hp
   ·subst h0
    have : x = 0 := by
     have : x.natAbs < 1 := hx
     lia
    simp [this] at hx0
   ·have := log2_lt hx hp
    lia
 exact IntMulOk.of_le (bits a ha) (bits b hb) (by lia)
theorem divB_of {i j : Int} (h : j ≠ 0) (hb : j.natAbs < 2 ^ 9000) : CDivB i j := ⟨h, log2_lt hb (by decide)⟩
theorem call_isi : CallR X (.builtin "isinstance") (fun xs H Q => ∃ x n t b, xs = [x, .ty n] /\ TyOf X.K H x t /\ PySem.W.kitOne X.K t (.type n) = some b /\ Q (.bl b) H) := by
 intro pins s σ H xs us Q I r h
 obtain ⟨x, n, t, b, rfl, ty, e, q⟩ := h
 obtain ⟨u, u', rfl, ru, ru'⟩ := vals2 r
 cases ru'
 exact isinst_ok I ru ty e fun tk => ⟨.bl b, H, I.tok tk, rfl, q⟩
noncomputable def ItrS (lo c : Int) (n : Nat) : It := ⟨fun i _ => i < n, fun i H x H' => H' = H /\ x = .int (lo + (i : Int) * c), fun i _ => n <= i⟩
theorem turn_rangeS {P : Program} {w : World} {K : PySem.W.Frag} {tg : Expr} (it : Addr) (lo c : Int) (n : Nat) : Turn P w K tg (ItrS lo c n) [it] it (fun i h => IsRangeIter h it (lo + (i : Nat) * c) ((n : Int) - (i : Nat)) c) where
 mem := by simp
 obj := fun i h st b hb => by
  have e : b = it := by simpa using hb
  subst e
  exact ⟨_, st, fun v z => by
   have z' : Data.fields _ = Data.cell v := z
   cases z'⟩
 keep := fun i h h' st k => k it (by simp) _ st
 item := by
  intro X hP hw hK hc i pins s σ H E I hf st hg
  subst hP hw hK
  obtain ⟨f0, f1, f2, f3, f4, f5⟩ := hf it (by simp)
  have W := Walks.range (prog := X.prog) (w := X.w) (I.ok.hd hc) it lo c n
  refine W.item i s _ _ hg st fun v h' tk hv st' kk => ?_
  obtain ⟨t, rfl⟩ := hv
  have I1 : Inv X pins σ H { s with heap := h', toks := tk } := I.turned (fun b o hb e => kk b o (by simpa using hb) e) f0 f1 f3 f4 f5
  exact ⟨_, rfl, go_of (s := { s with heap := h', toks := tk }) (n := "range_iterator") st' rfl rfl (by decide) ⟨.int (lo + (i : Int) * c), H, I1, ⟨t, rfl⟩, ⟨rfl, rfl⟩, st', fun b hb => (hf b hb).1⟩⟩
 done := by
  intro X hP hw hK hc i pins s σ H E I hf st hg
  subst hP hw hK
  obtain ⟨f0, f1, f2, f3, f4, f5⟩ := hf it (by simp)
  exact wpAny_pyNext_range_end (I.ok.hd hc) st (by have : n <= i := hg; lia) fun h' eb => ⟨rfl, I.turned (t' := s.toks) (fun b o hb e => eb b o hb e) f0 f1 f3 f4 f5⟩
 self := fun _ _ _ _ _ st h => wpAny_pyIter_rangeiter st h
noncomputable def rngN (lo hi c : Int) : Nat := if lo < hi then ((hi - lo - 1) / c + 1).toNat else 0
theorem rngN_eq {lo hi c : Int} (h : 0 < c) : ((rngN lo hi c : Nat) : Int) = Builtin.Range.rangeSize lo hi c := by
 unfold rngN Builtin.Range.rangeSize
 rw [if_pos h]
 split
 ·have := Int.ediv_nonneg (a := hi - lo - 1) (b := c) (by lia) (by lia)
  lia
 ·rfl
theorem small_step {a b c : Int} (ha : -(2 ^ 60) <= a) (ha' : a < 2 ^ 60) (hb : -(2 ^ 60) <= b) (hb' : b < 2 ^ 60) (hc : 0 < c) (hc' : c < 2 ^ 60) : Builtin.Range.small a b c = true := by
 have hs : 0 <= Builtin.Range.rangeSize a b c /\ Builtin.Range.rangeSize a b c < 2 ^ 62 := by
  unfold Builtin.Range.rangeSize
  rw [if_pos hc]
  split
  ·have h1 := Int.ediv_nonneg (a := b - a - 1) (b := c) (by lia) (by lia)
   have h2 : (b - a - 1) / c <= b - a - 1 := Int.ediv_le_self _ (by lia)
   lia
  ·lia
 unfold Builtin.Range.small
 simp only [Builtin.Range.rangeFitsLong, Bool.and_eq_true, Bool.or_eq_true, decide_eq_true_eq, beq_iff_eq, if_pos (show c > 0 from hc)]
 lia
theorem range_itS {tg : Expr} {pins : List (Addr × Obj)} {σ : St} {H : Hp} {s : Shared} {R : It -> Hp -> Prop} {E : Value -> Shared -> Prop} {lo hi c : Int} {t u v : Tok} {tk : Nat} (I : Inv X pins σ H s) (h1 : -(2 ^ 60) <= lo) (h2 : lo < 2 ^ 60) (h3 : -(2 ^ 60) <= hi) (h4 : hi < 2 ^ 60) (hc : 0 < c) (hc' : c < 2 ^ 60)
  (q : R (ItrS lo c (rngN lo hi c)) H) : wpAny (model X.prog X.w) X.A (pyIter (.ref s.heap.objs.size)) (PIE X pins σ tg R) E { s with heap := s.heap.push { cls := .type "range", data := .fields #[.int lo t, .int hi u, .int c v] }, toks := tk } := by
 refine wpAny_pyIter_range (IsRange.new ..) (small_step h1 h2 h3 h4 hc hc') ?_
 have I1 : Inv X pins σ H { s with heap := s.heap.push { cls := .type "range", data := .fields #[.int lo t, .int hi u, .int c v] }, toks := tk } := I.kept fun b o e => Heap.get?_push_of_some _ e
 refine ⟨(s.heap.push { cls := .type "range", data := .fields #[.int lo t, .int hi u, .int c v] }).objs.size, [(s.heap.push { cls := .type "range", data := .fields #[.int lo t, .int hi u, .int c v] }).objs.size], _, _, H, rfl,
  I1.kept (t' := tk) fun b o e => Heap.get?_push_of_some _ e, turn_rangeS _ lo c (rngN lo hi c), ?_, fun b hb => ?_, q⟩
 ·have e1 : lo + ((0 : Nat) : Int) * c = lo := by simp
  have e2 : ((rngN lo hi c : Nat) : Int) - ((0 : Nat) : Int) = Builtin.Range.rangeSize lo hi c := by rw [rngN_eq hc]; simp
  show IsRangeIter _ _ (lo + ((0 : Nat) : Int) * c) (((rngN lo hi c : Nat) : Int) - ((0 : Nat) : Int)) c
  rw [e1, e2]
  exact Heap.get?_push_size _ rfl
 ·have e : b = (s.heap.push { cls := .type "range", data := .fields #[.int lo t, .int hi u, .int c v] }).objs.size := by simpa using hb
  subst e
  exact I1.fpOk (Nat.le_refl _) (I1.hok.fresh (Nat.le_refl _))
noncomputable def iRng3 (ta : TA) : TI := fun σ H R => ta σ H fun vs H1 => ∃ i j c : Int, vs = [.int i, .int j, .int c] /\ (-(2 ^ 60) <= i /\ i < 2 ^ 60 /\ -(2 ^ 60) <= j /\ j < 2 ^ 60 /\ 0 < c /\ c < 1073741824) /\ R (ItrS i c (rngN i j c)) H1
theorem pi_range3 {tg a b c : Expr} {ta : TA} {p pos : Pos} (hg : Gl X "range") (hm : X.mg "range" = none) (ha : PA X [a, b, c] ta) (hs : starEach [a, b, c] X.env = [(false, eval a X.env), (false, eval b X.env), (false, eval c X.env)] := by rfl)
  (hs2 : starEach [b, c] X.env = [(false, eval b X.env), (false, eval c X.env)] := by rfl) : PI X tg (.Call (.Name "range" p) [a, b, c] [] pos) (iRng3 ta) := by
 intro pins s σ H R I h
 refine Call_ (ld_blt I hg hm boot_range (PyProof.Rows.callWith_type1 (thn (ha pos pins s σ H _ I h) fun us s1 ⟨vs, H1, I1, r1, q1⟩ => ?_) (by rw [hs, hs2]) (by rw [hs2]; rfl)))
 obtain ⟨i, j, k, e, ⟨q1, q2, q3, q4, q5, q6⟩, q⟩ := q1
 subst e
 cases r1 with
 | cons r rr =>
  cases rr with
  | cons r' rr =>
   cases rr with
   | cons r'' rr =>
    cases rr
    obtain ⟨t, rfl⟩ := r
    obtain ⟨t', rfl⟩ := r'
    obtain ⟨t'', rfl⟩ := r''
    exact call_range_3 (by lia) (range_itS I1 q1 q2 q3 q4 q5 (by lia) q) (.inl (PyProof.noPylong_small (by lia)))
theorem for_rangeS {lo c : Int} {n : Nat} {g : TG} {tb : TS} {D : Ends} {σ : St} {H : Hp} (Pv : Nat -> St -> Hp -> Prop) (h0 : Pv 0 σ H)
  (hs : ∀ i σ H, i < n -> Pv i σ H -> g (.int (lo + (i : Int) * c)) σ H fun σ2 H2 => tb { D with nx := Pv (i + 1), ct := Pv (i + 1), bk := D.nx } σ2 H2) (hd : ∀ σ H, Pv n σ H -> D.nx σ H) :
  ∃ W : Nat -> Nat -> St -> Hp -> Prop, (∃ m, W 0 m σ H) /\ ∀ i m σ H, W i m σ H ->
   ((ItrS lo c n).stop i H /\ D.nx σ H) \/ ((ItrS lo c n).go i H /\ ∃ N : St -> Hp -> Prop, (∀ σ' H', N σ' H' -> ∃ m', m' < m /\ W (i + 1) m' σ' H') /\ ∀ x H', (ItrS lo c n).yld i H x H' -> g x σ H' fun σ2 H2 => tb { D with nx := N, ct := N, bk := D.nx } σ2 H2) := by
 refine ⟨fun i m σ H => m = n - i /\ i <= n /\ Pv i σ H, ⟨n, by simp, Nat.zero_le _, h0⟩, ?_⟩
 rintro i m σ H ⟨rfl, hi, p⟩
 by_cases hlt : i < n
 ·refine .inr ⟨hlt, Pv (i + 1), fun σ' H' p' => ⟨n - (i + 1), by lia, rfl, hlt, p'⟩, fun x H' y => ?_⟩
  obtain ⟨e, y⟩ := y
  subst e y
  exact hs i σ _ hlt p
 ·have e : i = n := by lia
  subst e
  exact .inl ⟨Nat.le_refl _, hd σ H p⟩
end
structure FnAt (P : Program) (w : World) (K : PySem.W.Frag) (mg : Str -> Option Value) (base : Heap) (CX : CXT) (k : Nat) (x : Str) (ps : List Str) (sp : Sp) : Prop where
 ex : ∃ (f : Addr) (fd : FuncData), FnOk P w K mg base CX k f fd ps sp /\ mg x = some (.ref f) /\ PySem.W.keepIn K (.ref f) = true /\ Binds K fd ps []
structure DefAt (K : PySem.W.Frag) (mg : Str -> Option Value) (x : Str) (st : Stmt) : Prop where
 ex : ∃ (f : Addr) (fd : FuncData), Fun K x x st f fd /\ mg x = some (.ref f)
theorem DefAt.mk' {K : PySem.W.Frag} {h : Heap} {mg : Str -> Option Value} {x : Str} {st : Stmt} {f : Addr} {oc : Value} {od an : Option Addr} {osl : Array (Option Value)} {kV doc pm cdv ct : Value} (X : K.In h) (G : h.Ns mainGlobals mg)
  (a : PySem.W.nsIn K mainGlobals x = some (some (.ref f))) (l : K.lookup f = some ⟨oc, od, .func (PySem.W.fnOf x x (defArgs st) (defBody st) (defScope st) .none kV doc pm an cdv ct), osl⟩)
  (c : PySem.W.codeIn K cdv x = true) (k : PySem.W.keepIn K (.ref f) = true) : DefAt K mg x st := ⟨f, _, fun_mk (st := st) l c k, PySem.W.mg_of X G a⟩
section
variable {P : Program} {w : World} {K : PySem.W.Frag} {mg : Str -> Option Value} {base : Heap}
theorem DefAt.ok {x : Str} {st : Stmt} {N ps : List Str} {k : Nat} {sp : Sp} (D : DefAt K mg x st) (S : FnScope N ps (defScope st)) (len : ∀ vs H Q E, sp vs H Q E -> vs.length = ps.length)
  (hb : ∀ (kV doc pm : Value) (an : Option Addr) (cdv ct : Value) (us : List Value), us.length = ps.length -> bindArgs (PySem.W.fnOf x x (defArgs st) (defBody st) (defScope st) .none kV doc pm an cdv ct) ⟨us, []⟩ = pure (ps.zip us))
  (hbody : ∀ (f : Addr) (cdv : Value) (A : Around) (outer : List Env) (s : Shared) (H : Hp) (vs : List V) (Q : VK) (E : XK), Room k (A.deeper (envOfC x (defScope st) s.heap.objs.size f cdv)) -> sp vs H Q E ->
   ∃ t, PSs (cxOf CX0 P w K mg base N x (defScope st) f cdv A outer s H E).nox (defBody st) t /\ t { nx := fun _ H' => Q .non H', rt := Q } (start N vs) H) : FnAt P w K mg base CX0 (k + 1) x ps sp := by
 obtain ⟨f, fd, F, m⟩ := D.ex
 exact ⟨f, fd, F.ok S len fun cdv A outer s H vs Q E hr h => hbody f cdv A outer s H vs Q E hr h, m, F.kp, F.binds hb⟩
end
section
variable {X : Cx} {CX : CXT} {k j : Nat} {ps : List Str} {sp : Sp} {E : XK} {x : Str} {p pos : Pos} {e : Expr} {es : List Expr} {t : TA}
theorem pe_fn (F : FnAt X.prog X.w X.K X.mg X.base CX j x ps sp) (hr : Room k X.A) (hg : Gl X x) (hx : Passes CX X E) (ha : PA X (e :: es) t) (hj : j <= k := by decide)
  (hdb : (x == ("__debug__" : Str)) = false := by decide) (he : starEach (e :: es) X.env = (false, eval e X.env) :: starEach es X.env := by rfl) (hpl : (backTo pos (starEach es X.env)).any (·.1) = false := by rfl) :
  PE X (.Call (.Name x p) (e :: es) [] pos) (tCall sp [] E t) := by
 obtain ⟨f, fd, G, m, kp, b⟩ := F.ex
 exact pe_call G (hr.mono hj) hg m kp b .nil hx ha hdb he hpl
end
end L2
namespace L2
open PySem PySem.Spec PyProof.Rows
noncomputable def tyH : Option HO -> Option String
 | some (.lst _) => some "list"
 | some (.frz _ (.lst _)) => some "list"
 | some (.tup _) => some "tuple"
 | some (.dK _) => some "dict"
 | some (.dT _) => some "dict"
 | _ => none
noncomputable def tyS (H : Hp) : V -> Option String
 | .non => some "NoneType"
 | .bl _ => some "bool"
 | .int _ => some "int"
 | .str _ => some "str"
 | .ref a => tyH (H a)
 | _ => none
theorem tyH_cases {o : Option HO} {n : String} (h : tyH o = some n) :
  (n = "list" /\ ((∃ xs, o = some (.lst xs)) \/ ∃ ob xs, o = some (.frz ob (.lst xs)))) \/ (n = "tuple" /\ ∃ xs, o = some (.tup xs)) \/ (n = "dict" /\ ((∃ kvs, o = some (.dK kvs)) \/ ∃ kvs, o = some (.dT kvs))) := by
 cases o with
 | none => cases h
 | some u =>
  cases u with
  | lst xs => cases h; exact .inl ⟨rfl, .inl ⟨xs, rfl⟩⟩
  | tup xs => cases h; exact .inr (.inl ⟨rfl, xs, rfl⟩)
  | dK kvs => cases h; exact .inr (.inr ⟨rfl, .inl ⟨kvs, rfl⟩⟩)
  | dT kvs => cases h; exact .inr (.inr ⟨rfl, .inr ⟨kvs, rfl⟩⟩)
  | frz ob v =>
   cases v with
   | lst xs => cases h; exact .inl ⟨rfl, .inr ⟨ob, xs, rfl⟩⟩
   | _ => cases h
  | _ => cases h
theorem tyOf_of {K : PySem.W.Frag} {H : Hp} {v : V} {n : String} (h : tyS H v = some n) : TyOf K H v (.type n) := by
 cases v with
 | non => cases h; exact .non
 | bl b => cases h; exact .bl b
 | int i => cases h; exact .int i
 | str x => cases h; exact .str x
 | byt b => cases h
 | flt b => cases h
 | ty b => cases h
 | ref a =>
  rcases tyH_cases (show tyH (H a) = some n from h) with ⟨rfl, ⟨xs, e⟩ | ⟨ob, xs, e⟩⟩ | ⟨rfl, xs, e⟩ | ⟨rfl, ⟨kvs, e⟩ | ⟨kvs, e⟩⟩
  ·exact .lst e
  ·exact .frz e
  ·exact .tup e
  ·exact .dK e
  ·exact .dT e
theorem tyS_mem {H : Hp} {v : V} {n : String} (h : tyS H v = some n) : n ∈ ["NoneType", "bool", "int", "str", "list", "tuple", "dict"] := by
 cases v with
 | ref a => rcases tyH_cases (show tyH (H a) = some n from h) with ⟨rfl, _⟩ | ⟨rfl, _⟩ | ⟨rfl, _⟩ <;> simp
 | _ => first | (cases h; done) | (cases h; simp)
noncomputable def subS (n m : String) : Bool := n == m || (n == "bool" && m == "int")
theorem kit_tt {K : PySem.W.Frag} {n m : String} (hn : n ∈ ["NoneType", "bool", "int", "str", "list", "tuple", "dict"]) (hm : m ∈ ["int", "bool", "str", "list", "tuple", "dict"]) :
  PySem.W.kitOne K (.type n) (.type m) = some (subS n m) := by
 simp only [List.mem_cons, List.not_mem_nil, or_false] at hn hm
 rcases hn with rfl | rfl | rfl | rfl | rfl | rfl | rfl <;> rcases hm with rfl | rfl | rfl | rfl | rfl | rfl <;> first | rfl | (with_unfolding_all rfl) | decide +kernel
theorem Same.upd {H : Hp} {p : Addr} {o : HO} (h : H p = none) : Same H (upd H p o) := fun b u e => by
 rw [upd_ne (ne_of_none e h)]; exact e
end L2
namespace L2
open PySem PySem.Spec PyProof.Rows
section
variable {P : Program} {w : World} {H H' : Hp} {h h' : Heap} {a : Addr} {o : HO}
theorem ObjOk.there (x : ObjOk P w H h a o) : ∃ ob, h.get? a = some ob := by
 cases o with
 | lst xs => obtain ⟨_, _, _, _, e⟩ := x; exact ⟨_, e⟩
 | tup xs => obtain ⟨_, _, _, ob, e, _⟩ := x; exact ⟨ob, e⟩
 | dK kvs => obtain ⟨_, _, _, _, ob, _, _, e, _⟩ := x; exact ⟨ob, e⟩
 | dT kvs => obtain ⟨_, _, _, _, ob, _, _, e, _⟩ := x; exact ⟨ob, e⟩
 | set S n => obtain ⟨ob, _, _, _, e, _⟩ := x; exact ⟨ob, e⟩
 | ins C dx fs => obtain ⟨_, _, _, e, _⟩ := x; exact ⟨_, e⟩
 | own y => obtain ⟨ob, e⟩ := x; exact ⟨ob, e⟩
 | xd fs => obtain ⟨_, ⟨ob, _, _, e, _⟩, _⟩ := x; exact ⟨ob, e⟩
 | rng lo hi => obtain ⟨_, _, _, e⟩ := x; exact ⟨_, e⟩
 | frz ob u => obtain ⟨e, _⟩ := x; exact ⟨_, e⟩
 | tbl ps => exact ⟨_, (show h.get? a = some _ from x)⟩
 | met f y => exact ⟨_, (show h.get? a = some _ from x)⟩
 | ext φ => obtain ⟨_, ⟨ob, e⟩, _⟩ := x; exact ⟨ob, e⟩
theorem HOk.via (x : HOk P w H h) (k : ∀ b u ob, H b = some u -> h.get? b = some ob -> h'.get? b = some ob) : HOk P w H h' := fun b u e =>
 (x b u e).stay (fun c ob hc q => by
  rcases hc with z | z
  ·subst z; exact k c u ob e q
  ·exact k c _ ob z q) (fun _ q => q) fun _ _ q => q
end
theorem frs_cons {env : Env} {L : Addr} {outer : List Env} (hf : env.frame = some L) : frs (env :: outer) = L :: frs outer := by
 unfold frs; rw [List.filterMap_cons, hf]
structure Kp (P : Program) (w : World) (outer : List Env) (H : Hp) (h : Heap) (H' : Hp) (h' : Heap) (B : Heap) : Prop where
 hok : HOk P w H' h'
 un : Un (frs outer) [] H H' h h'
 old : ∀ b o, h.get? b = some o -> H b = none -> b ∉ frs outer -> B.get? b = some o
 has : ∀ b o, h.get? b = some o -> b ∉ frs outer -> ∃ o', B.get? b = some o'
 trk : ∀ b u, H' b = some u -> ∃ o, h'.get? b = some o /\ B.get? b = some o
section
variable {X : Cx} {pins : List (Addr × Obj)} {σ : St} {H1 H2 : Hp} {s1 : Shared} {h2 h3 B : Heap} {a : Addr} {C a0 : Value} {vs : List Value}
theorem Kp.slots (I : Inv X pins σ H1 s1) (K : Kp X.prog X.w X.stack H1 s1.heap H2 h2 B) (st : B.StaysIn h3) (sl : h2.UpToSlots h3) : Kp X.prog X.w X.stack H1 s1.heap H2 h3 B := by
 have trk3 : ∀ b u, H2 b = some u -> ∃ o, h3.get? b = some o /\ B.get? b = some o := fun b u e => by
  obtain ⟨o, _, q⟩ := K.trk b u e
  exact ⟨o, st b o q, q⟩
 have fr : ∀ b o, s1.heap.get? b = some o -> H1 b = none -> b ∈ frs X.stack -> ∃ sl, h3.get? b = some { o with slots := sl } := fun b o e n hb => by
  obtain ⟨sl1, e1⟩ := K.un.slot b o e n hb (by simp)
  obtain ⟨_, o', e', d⟩ := I.stack.mem hb
  rw [e] at e'
  cases e'
  obtain ⟨sl2, e2⟩ := sl b _ e1 d
  exact ⟨sl2, e2⟩
 refine ⟨K.hok.via fun b u ob e q => ?_, ⟨fun b o e n hb _ => st b o (K.old b o e n hb), fun b o e n hb _ => fr b o e n hb, K.un.free, fun b o e hx => ?_, K.un.tups, K.un.frzs, K.un.tbls⟩, K.old, K.has, trk3⟩
 ·obtain ⟨o, q1, q2⟩ := K.trk b u e
  rw [q] at q1
  cases q1
  exact st b ob q2
 ·by_cases hb : b ∈ frs X.stack
  ·obtain ⟨sl1, e1⟩ := fr b o e (I.stkFree b hb) hb
   exact ⟨_, e1⟩
  ·obtain ⟨o', e'⟩ := K.has b o e hb
   exact ⟨o', st b o' e'⟩
theorem Kp.leave (I : Inv X pins σ H1 s1) (hex : X.ex = []) (hst : X.stack = X.env :: X.outer) (hf : X.env.frame = some X.env.locals) (K : Kp X.prog X.w X.stack H1 s1.heap H2 h2 B) (st : B.StaysIn h3) (sl : h2.UpToSlots h3) :
  Kp X.prog X.w X.outer X.H₀ X.s₀.heap H2 h3 B := by
 have K3 := K.slots I st sl
 have fe : frs X.stack = X.env.locals :: X.fs := by rw [hst]; exact frs_cons hf
 have nex : ∀ b : Addr, b ∉ X.ex := fun b z => by rw [hex] at z; cases z
 have nin : ∀ b o, X.s₀.heap.get? b = some o -> b ∉ X.fs -> b ∉ frs X.stack := fun b o e hb z => by
  rw [fe] at z
  rcases List.mem_cons.mp z with z | z
  ·have h1 := Heap.lt_size e
   have h2 := I.ok.above
   rw [z] at h1
   exact absurd (Nat.lt_of_lt_of_le h1 h2) (Nat.lt_irrefl _)
  ·exact hb z
 have old : ∀ b o, X.s₀.heap.get? b = some o -> X.H₀ b = none -> b ∉ frs X.outer -> B.get? b = some o := fun b o e n hb =>
  K.old b o (I.base.keep b o e n hb (nex b)) (I.base.free b o e n (nex b)) (nin b o e hb)
 refine ⟨K3.hok, ⟨fun b o e n hb _ => st b o (old b o e n hb), fun b o e n hb _ => ?_, fun b o e n _ => ?_, fun b o e _ => ?_, fun b xs e => K3.un.tups b xs (I.base.tups b xs e), fun b o u e => K3.un.frzs b o u (I.base.frzs b o u e), fun b ps e => ?_⟩, old, fun b o e hb => ?_, K3.trk⟩
 ·obtain ⟨sl1, e1⟩ := I.base.slot b o e n hb (nex b)
  obtain ⟨sl2, e2⟩ := K3.un.slot b _ e1 (I.base.free b o e n (nex b)) (by rw [fe]; exact List.mem_cons_of_mem _ hb) (by simp)
  exact ⟨sl2, e2⟩
 ·obtain ⟨o1, e1⟩ := I.base.there b o e (nex b)
  exact K3.un.free b o1 e1 (I.base.free b o e n (nex b)) (by simp)
 ·obtain ⟨o1, e1⟩ := I.base.there b o e (nex b)
  exact K3.un.there b o1 e1 (by simp)
 ·obtain ⟨m1, e1⟩ := I.base.tbls b ps e
  obtain ⟨m2, e2⟩ := K3.un.tbls b _ e1
  exact ⟨m1 ++ m2, by rw [e2, Array.append_assoc]⟩
 ·obtain ⟨o1, e1⟩ := I.base.there b o e (nex b)
  exact K.has b o1 e1 (nin b o e hb)
end
section
variable {P : Program} {w : World} {K : PySem.W.Frag} {mg : Str -> Option Value} {base : Heap} {N : List Str} {qual : Str} {scope : Scope} {f : Addr} {cd : Value} {A : Around} {outer : List Env} {s : Shared} {H : Hp} {E : XK}
end
theorem excObj_of {K : PySem.W.Frag} {h : Heap} {C : Addr} {bmB : List Value} {newId : String} (X : K.In h) (q : PySem.W.excIn K C bmB newId = true) :
  ∃ bm N nm qn bs hdct sn sub ab col dd k0 k1 k2 k3 k5 mN, h.get? C = some (excClassObj nm qn C N bs bm hdct sn sub ab col dd k0 k1 k2 k3 k5 newId) /\ h.Ns N mN /\ mN "__init__" = none /\ OwnTail h bmB bm := by
 unfold PySem.W.excIn at q
 split at q
 ·rename_i d1 cd1 sl1 look
  split at q
  ·rename_i C1 bm1 s0 s1 s2 s3 n1 s5 hmro hslots
   simp only [beq_iff_eq, Bool.not_eq_true', Bool.and_eq_true] at q
   obtain ⟨⟨⟨⟨⟨q1, q2⟩, hdel⟩, htl⟩, hns⟩, hini⟩ := q
   subst q1 q2
   obtain ⟨u1, u2, u3, u4, u5, u6, u7, u8, u9, u10, u11⟩ := cd1
   dsimp only at hmro hdel hns hini
   subst hmro hdel
   have es : sl1 = #[s0, s1, s2, s3, some (.builtin n1), s5] := by
    cases sl1 with
    | mk l =>
     have : l = [s0, s1, s2, s3, some (.builtin n1), s5] := hslots
     rw [this]
   subst es
   have at_ := X _ _ look
   refine ⟨bm1, u4, u1, u5, u2, u6, u7, u8, u9, u10, d1, s0, s1, s2, s3, s5, _, at_, .of_isNs (PySem.W.isNs_of_in X hns), ?_, PySem.W.tail_of_in X htl⟩
   exact PySem.W.nsMap_none_of_in X hns hini
  ·cases q
 ·cases q
section
variable {X : Cx} {E : XK} {C : Addr} {B newId initId : String} {bmB : List Value} {x : Str} {np cpos pos : Pos} {e₀ : Expr} {rest : List Expr} {t : TA}
end
end L2
namespace L2
open PySem PySem.Spec PyProof.Rows
section
variable {X : Cx} {pins : List (Addr × Obj)} {σ : St} {H H1 H2 : Hp} {s s1 s2 : Shared} {B : Heap}
theorem Kp.inv (I : Inv X pins σ H1 s1) (K : Kp X.prog X.w X.stack H1 s1.heap H2 s2.heap B) (os : s2.os = s1.os) (bare : AllBare s2.gens) : Inv X pins σ H2 s2 :=
 I.call' os K.un K.hok bare fun b z => absurd z (by simp)
noncomputable abbrev Cx.hand (X : Cx) (a : Addr) : Cx := { X with A := X.A.mark (some (.ref a)), calm := false, xe := fun _ _ => False }
theorem Inv.hand (I : Inv X pins σ H s) (a : Addr) : Inv (X.hand a) pins σ H s :=
 ⟨⟨I.ok.mod, I.ok.kind, I.ok.glob, I.ok.blt, I.ok.above, I.ok.inj, I.ok.has, I.ok.cab, fun z => (Bool.false_ne_true z).elim, I.ok.frames, I.ok.stk, I.ok.exf, I.ok.bs, I.ok.bsz, I.ok.noex, I.ok.exfs, I.ok.funs, I.ok.frf⟩,
  I.os, I.bare, I.base, I.loc, I.cell, I.free, I.freeC, I.pin, I.hok, I.len⟩
theorem Inv.unhand {a : Addr} (ok : X.Ok) (I : Inv (X.hand a) pins σ H s) : Inv X pins σ H s := ⟨ok, I.os, I.bare, I.base, I.loc, I.cell, I.free, I.freeC, I.pin, I.hok, I.len⟩
theorem name_goesI {M : Model} {A : Around} {E : Value -> Shared -> Prop} {i : Nat} {n : Str} {pos : Pos} {Q : Unit -> Shared -> Prop} (I : Inv X pins σ H s) (hN : X.N.Nodup) (hi : X.N[i]? = some n) (hk : X.env.scope.names.lookup n = some .local)
  (h : ∀ s', Inv X pins (σ.set i none) H s' -> Q () s') : wpAny M A (do bindName X.env n .none; unbindBehindTheSuite X.env n pos) Q E s := by
 obtain ⟨m, hn, hl⟩ := id I.loc
 have hcls : (X.env.scope.kind == .class || (X.env.scope.kind == .module && X.env.locals != X.env.globals)) = false := by rw [I.ok.kind]; rfl
 obtain ⟨oL, _, _, hoL, _⟩ := id hn
 refine wpAny_nameGoes_keeps hk hn hcls fun h' v hn' hs => ?_
 have old : ∀ b o, X.s₀.heap.get? b = some o -> b ≠ X.env.locals := fun b o e => Nat.ne_of_lt (Nat.lt_of_lt_of_le (Heap.lt_size e) I.ok.above)
 refine h _ ⟨I.ok, I.os, I.bare, ⟨fun b o e n' hb hx => ?_, fun b o e n' hb hx => ?_, I.base.free, fun b o e hx => ?_, I.base.tups, I.base.frzs, I.base.tbls⟩, ⟨_, hn', fun j y v' e1 e2 e3 => ?_⟩, fun y c e => ?_, I.free, I.freeC, fun p hp => ?_, fun b ob e => ?_, by simpa using I.len⟩
 ·exact (hs.2 b (old b o e)).trans (I.base.keep b o e n' hb hx)
 ·obtain ⟨sl, q⟩ := I.base.slot b o e n' hb hx
  exact ⟨sl, (hs.2 b (old b o e)).trans q⟩
 ·obtain ⟨o', q⟩ := I.base.there b o e hx
  exact ⟨o', (hs.2 b (old b o e)).trans q⟩
 ·have hj : j ≠ i := by
   intro z; subst z
   rw [List.getElem?_set] at e2
   split at e2
   ·split at e2 <;> cases e2
   ·exact absurd rfl (by assumption)
  rw [List.getElem?_set_ne (Ne.symm hj)] at e2
  obtain ⟨u', r', q⟩ := hl j y v' e1 e2 e3
  refine ⟨u', r', ?_⟩
  rcases q with ⟨k, e⟩ | ⟨k, c, e, z⟩
  ·refine .inl ⟨k, ?_⟩
   have hy : y ≠ n := fun e => hj (nodup_ix hN e1 (e ▸ hi))
   simp [hy, e]
  ·exact .inr ⟨k, c, e, z.sameBut hs (I.cne y c e)⟩
 ·obtain ⟨w', z⟩ := I.cell y c e
  exact ⟨w', z.sameBut hs (I.cne y c e)⟩
 ·obtain ⟨e, n', ne, nf, d⟩ := I.pin p hp
  exact ⟨(hs.2 p.1 ne).trans e, n', ne, nf, d⟩
 ·refine (I.hok b ob e).stay (fun c w' hc q => (hs.2 c ?_).trans q) (fun _ q => q) fun _ _ q => q
  rintro rfl
  rcases hc with z | z
  ·rw [<- z, I.free] at e; cases e
  ·rw [I.free] at z; cases z
end
section
variable {X : Cx} {k j : Nat} {ps : List Str} {sp : Sp} {x : Str} {p pos : Pos} {e : Expr} {es : List Expr} {t : TA}
end
section
variable {X : Cx} {pins : List (Addr × Obj)} {σ : St} {H : Hp} {s : Shared} {a : Addr} {o : HO}
theorem Inv.track (I : Inv X pins σ H s) (hn : H a = none) (hnew : X.s₀.heap.get? a = none) (hL : a ≠ X.env.locals) (hC : ∀ x c, X.env.cells.lookup x = some c -> c ≠ a) (hP : ∀ p ∈ X.pn ++ pins, p.1 ≠ a)
  (ho : ObjOk X.prog X.w (upd H a o) s.heap a o) : Inv X pins σ (upd H a o) s := by
 have ne : ∀ b u, H b = some u -> b ≠ a := fun b u e z => by rw [z, hn] at e; cases e
 refine ⟨I.ok, I.os, I.bare, ⟨I.base.keep, I.base.slot, fun b ob e n hx => ?_, I.base.there, fun b xs e => ?_, fun b ob u e => ?_, fun b ps e => ?_⟩, I.loc, I.cell, ?_, fun x c e => ?_, fun p hp => ?_, fun b u e => ?_, I.len⟩
 ·rw [upd_ne (fun z => by rw [z, hnew] at e; cases e)]
  exact I.base.free b ob e n hx
 ·have q := I.base.tups b xs e
  rw [upd_ne (ne b _ q)]; exact q
 ·have q := I.base.frzs b ob u e
  rw [upd_ne (ne b _ q)]; exact q
 ·obtain ⟨m, q⟩ := I.base.tbls b ps e
  exact ⟨m, by rw [upd_ne (ne b _ q)]; exact q⟩
 ·rw [upd_ne (Ne.symm hL)]; exact I.free
 ·rw [upd_ne (hC x c e)]; exact I.freeC x c e
 ·obtain ⟨e1, e2, e3⟩ := I.pin p hp
  exact ⟨e1, by rw [upd_ne (hP p hp)]; exact e2, e3⟩
 ·by_cases z : b = a
  ·subst z; rw [upd_same] at e; cases e; exact ho
  ·rw [upd_ne z] at e
   exact (I.hok b u e).stay (fun _ _ _ q => q) (fun c q => by rw [upd_ne (ne c _ q)]; exact q) fun c xs q => by rw [upd_ne (ne c _ q)]; exact q
end
noncomputable def handEnds (i : Nat) (D : Ends) : Ends where
 nx := fun σ' H' => D.nx (σ'.set i none) H'
 rt := D.rt
 bk := fun σ' H' => D.bk (σ'.set i none) H'
 ct := fun σ' H' => D.ct (σ'.set i none) H'
section
variable {X : Cx} {x n : Str} {C' : Addr} {i : Nat} {np pos : Pos} {b₀ : Stmt} {suite : List Stmt} {rest : List ExceptHandler} {ts : TS} {tr : Value -> TS}
end
end L2
namespace L2
open PySem PySem.Spec PyProof.Rows PySem.W PySem.Builtin PySem.Builtin.ObjectAttr PySem.Builtin.Getset_descriptor
section
variable {prog : Program} {w : World} {A : Around} {E : Value -> Shared -> Prop}
theorem exc_get {a C : Addr} {tp : Value} {R : Result -> Shared -> Prop} {hh : Heap} {g : Array GenState} {dr : Drawn} {t : Nat} {os : OsState} (L0 : Looks (model prog w) hh (typeOf (.ref a)) (.ref C)) (L1 : Looks (model prog w) hh (isSubtype (.ref C) (.type "object")) true)
  (h : R (.ok (.ret (.ref C))) ⟨hh, g, dr, t, os⟩) : codeAny (model prog w) A (.call (.builtin "getset_descriptor.__get__") ⟨[.builtin "object.__class__", .ref a, tp], []⟩) R ⟨hh, g, dr, t, os⟩ := by
 have chk := KF.args_gs (.builtin "object.__class__") (.ref a) tp
 refine codeAny_call_builtin KF.slot_gs.plain KF.entry_gs ?_
 refine KF.slot_gs.check _ _ _ _ _ _ _ _ KF.type_class chk ?_
 unfold Builtin.«getset_descriptor.__get__» descrGet
 rw [dga_obj]
 refine wpAny_bind (wpAny_pure ?_)
 unfold descrGetter
 unfold descrCheckInstance descrNameAndClass isInstance
 simp only [KF.owner_class]
 repeat lk
 refine ⟨Code.quiet_builtin _ (by decide +kernel), ?_⟩
 refine codeAny_builtin KF.entry_class ?_
 unfold Builtin.«object.__class__»
 unfold shownTypeOf
 repeat lk
 exact h
theorem exc_ga {a C : Addr} {tk : Tok} {R : Result -> Shared -> Prop} {hh : Heap} {g : Array GenState} {dr : Drawn} {t : Nat} {os : OsState} {oe : Obj} (he : hh.get? a = some oe) (hc : oe.cls = .ref C) (L0 : Looks (model prog w) hh (typeOf (.ref a)) (.ref C))
  (L3 : Looks (model prog w) hh (typeLookup (.ref C) "__class__") (some (.builtin "object.__class__"))) (LB : Looks (model prog w) hh (isSubtype (.ref C) (.type "BaseException")) true)
  (LO : Looks (model prog w) hh (isSubtype (.ref C) (.type "object")) true) (h : R (.ok (.ret (.ref C))) ⟨hh, g, dr, t, os⟩) :
  codeAny (model prog w) A (.call (.builtin "BaseException.__getattribute__") ⟨[.ref a, .str "__class__" tk], []⟩) R ⟨hh, g, dr, t, os⟩ := by
 refine codeAny_call_builtin PySem.F.attr_ValueError.ga.plain PySem.F.entry_bexc_ga ?_
 have k1 : builtinKind "BaseException.__getattribute__" = some .slot := by decide +kernel
 have k2 : splitId "BaseException.__getattribute__" = some ("BaseException", "__getattribute__") := by decide +kernel
 have ha := PySem.F.args_bexc_ga (.ref a) (.str "__class__" tk)
 have f5 := PySem.F.typeOf_object_class
 have f6 := PySem.F.slot_gs_get.lookup
 have f7 := PySem.F.slot_gs_set.lookup
 simp only [checkBuiltinCall, k1, k2]
 refine wpAny_bind ?_
 unfold isInstance
 repeat (first | (with_reducible refine wpAny_loadPart_at he ?_; rw [hc]) | (with_reducible refine LB.at ?_) | wp_step)
 repeat (any_goals (first | assumption | (with_reducible refine wpAny_loadPart_at he ?_; rw [hc]) | (with_reducible refine L3.at ?_) | wp_step))
 refine exc_get L0 LO ?_
 repeat (any_goals (first | assumption | wp_step))
theorem exc_class {K : Frag} {a C : Addr} {s : Shared} {oe : Obj} {Q : Option Value -> Shared -> Prop} (X : K.In s.heap) (he : s.heap.get? a = some oe) (hc : oe.cls = .ref C)
  (hga : findIn K (.ref C) "__getattribute__" = some (some (.builtin "BaseException.__getattribute__"))) (hg2 : findIn K (.ref C) "__getattr__" = some none)
  (hcl : findIn K (.ref C) "__class__" = some (some (.builtin "object.__class__"))) (hmB : mroIn K C (.type "BaseException") = some true) (hmO : mroIn K C (.type "object") = some true)
  (h : Q (some (.ref C)) { s with toks := s.toks + 1 }) : wpAny (model prog w) A (getAttr? (.ref a) "__class__") Q E s := by
 obtain ⟨hh, g, d, t, os⟩ := s
 have L0 : Looks (model prog w) hh (typeOf (.ref a)) (.ref C) := hc ▸ (Looks.ld he).andThen .now
 have L1 : Looks (model prog w) hh (typeLookup (.ref C) "__getattribute__") (some (.builtin "BaseException.__getattribute__")) := looks_findIn X hga
 have L2 : Looks (model prog w) hh (typeLookup (.ref C) "__getattr__") none := looks_findIn X hg2
 have L3 : Looks (model prog w) hh (typeLookup (.ref C) "__class__") (some (.builtin "object.__class__")) := looks_findIn X hcl
 have LB : Looks (model prog w) hh (isSubtype (.ref C) (.type "BaseException")) true := looks_mroIn X hmB
 have LO : Looks (model prog w) hh (isSubtype (.ref C) (.type "object")) true := looks_mroIn X hmO
 have f3 := PySem.F.attr_ValueError.ga.bind (.ref a)
 unfold getAttr? getAttrBy? getAttrBy
 refine wpAny_bind (wpAny_mkText (wpAny_bind (wpAny_attempt (wpAny_holding (wpAny_bind (L0.at (wpAny_bind (L1.at ?_))))))))
 have hx2 : (Value.builtin "BaseException.__getattribute__" == Value.builtin "object.__getattribute__") = false := by decide +kernel
 dsimp only
 rw [hx2, Bool.and_false, if_neg Bool.false_ne_true]
 unfold getAttrByItsOwn
 repeat (any_goals (first | assumption | wp_step | (with_reducible refine L2.at ?_) | (with_reducible refine L0.at ?_)))
 refine exc_ga he hc L0 L3 LB LO ?_
 repeat (any_goals (first | assumption | wp_step))
structure ExcK (K : Frag) (C : Addr) : Prop where
 ga : findIn K (.ref C) "__getattribute__" = some (some (.builtin "BaseException.__getattribute__"))
 g2 : findIn K (.ref C) "__getattr__" = some none
 cl : findIn K (.ref C) "__class__" = some (some (.builtin "object.__class__"))
 mB : mroIn K C (.type "BaseException") = some true
 mO : mroIn K C (.type "object") = some true
theorem ExcK.cls {K : Frag} {C : Addr} (k : ExcK K C) : ∃ c d cd sl, K.lookup C = some ⟨c, d, .cls cd, sl⟩ := by
 have h := k.mO
 unfold mroIn clsIn at h
 split at h
 ·rename_i c d cd sl e; exact ⟨c, d, cd, sl, e⟩
 ·cases h
theorem kitx_exc {K : Frag} {a C : Addr} (k : ExcK K C) : KitX K (.ref a) (.ref C) (fun h => ∃ oe vs, h.get? a = some oe /\ oe.cls = .ref C /\ oe.data = .fields vs) where
 ty := fun _ _ _ ⟨oe, _, e, c, _⟩ => c ▸ (Looks.ld e).andThen .now
 it := fun _ _ X _ => by
  obtain ⟨c, d, cd, sl, e⟩ := k.cls
  intro A' Q' E' s' kk q
  unfold isType loadHead
  refine wpAny_bind (wpAny_loadPart (kk _ _ (X _ _ e)) ?_)
  exact wpAny_pure q
 ne := fun h tp dd its n sl X htp => by
  obtain ⟨c, d, cd, sl', e⟩ := k.cls
  cases q : (Value.ref C == Value.ref tp) with
  | false => rfl
  | true =>
   have z : C = tp := Value.ref.inj (beq_iff_eq.mp q)
   subst z
   have z2 := (X _ _ e).symm.trans htp
   cases z2
 ca := fun X ⟨oe, vs, e, c, _⟩ q => exc_class X e c k.ga k.g2 k.cl k.mB k.mO q
end
section
variable {X : Cx}
end
end L2
namespace L2
open PySem PySem.Spec PyProof.Rows
noncomputable def closOf (cells : List (Str × Addr)) : List (Str × NameKind) -> List (Str × Addr) -> List (Str × Addr)
 | [], cs => cs
 | x :: r, cs => closOf cells r (if x.2 == .free then (match cells.lookup x.1 with | some a => (x.1, a) :: cs | none => cs) else cs)
theorem closureFor_eq {scope : Scope} {env : Env} (h : ∀ x ∈ scope.names, x.2 = .free -> ∃ a, env.cells.lookup x.1 = some a) : closureFor scope env = pure (closOf env.cells scope.names []) := by
 have aux : ∀ (names : List (Str × NameKind)) (cs : List (Str × Addr)), (∀ x ∈ names, x.2 = .free -> ∃ a, env.cells.lookup x.1 = some a) ->
   (forIn (m := Sem) names cs fun x r => do
    if (x.2 == NameKind.free) = true then do
     let a <- cellOf env x.1
     pure (ForInStep.yield ((x.1, a) :: r))
    else pure (ForInStep.yield r)) = pure (closOf env.cells names cs) := by
  intro names
  induction names with
  | nil => intro cs _; rfl
  | cons x r ih =>
   intro cs hx
   rw [List.forIn_cons]
   cases hk : (x.2 == NameKind.free) with
   | false =>
    simp only [Bool.false_eq_true, if_false, pure_bind]
    rw [ih cs fun y hy => hx y (List.mem_cons_of_mem _ hy)]
    show _ = pure (closOf env.cells r (if x.2 == .free then _ else cs))
    rw [hk]; rfl
   | true =>
    obtain ⟨a, ha⟩ := hx x List.mem_cons_self (by simpa using hk)
    have e : cellOf env x.1 = pure a := by unfold cellOf; rw [ha]
    simp only [if_true, e, pure_bind]
    rw [ih _ fun y hy => hx y (List.mem_cons_of_mem _ hy)]
    show _ = pure (closOf env.cells r (if x.2 == .free then (match env.cells.lookup x.1 with | some a => (x.1, a) :: cs | none => cs) else cs))
    rw [hk, ha]; rfl
 have h1 := aux scope.names [] h
 unfold closureFor
 simp only [bind_pure]
 exact h1
theorem closOf_sub {cells : List (Str × Addr)} : ∀ {names : List (Str × NameKind)} {cs : List (Str × Addr)}, (∀ p ∈ cs, cells.lookup p.1 = some p.2) -> ∀ p ∈ closOf cells names cs, cells.lookup p.1 = some p.2
 | [], _, h => h
 | x :: r, cs, h => closOf_sub (names := r) fun p hp => by
  split at hp
  ·split at hp
   ·rename_i a ha
    rcases List.mem_cons.mp hp with rfl | hp
    ·exact ha
    ·exact h p hp
   ·exact h p hp
  ·exact h p hp
theorem closOf_mono {cells : List (Str × Addr)} : ∀ {names : List (Str × NameKind)} {cs : List (Str × Addr)} {p : Str × Addr}, p ∈ cs -> p ∈ closOf cells names cs
 | [], _, _, h => h
 | x :: r, cs, p, h => closOf_mono (names := r) (by
  split
  ·split
   ·exact List.mem_cons_of_mem _ h
   ·exact h
  ·exact h)
theorem closOf_has {cells : List (Str × Addr)} {x : Str} {a : Addr} (ha : cells.lookup x = some a) : ∀ {names : List (Str × NameKind)} {cs : List (Str × Addr)}, (x, NameKind.free) ∈ names -> (x, a) ∈ closOf cells names cs
 | y :: r, cs, h => by
  rcases List.mem_cons.mp h with rfl | h
  ·refine closOf_mono (names := r) ?_
   simp [ha]
  ·exact closOf_has ha (names := r) h
theorem lookup_mem {α : Type} {x : Str} {v : α} : ∀ {l : List (Str × α)}, l.lookup x = some v -> (x, v) ∈ l
 | [], h => by simp at h
 | (y, u) :: r, h => by
  rw [List.lookup_cons] at h
  cases e : x == y with
  | true => rw [e] at h; cases h; rw [beq_iff_eq.mp e]; exact List.mem_cons_self
  | false => rw [e] at h; exact List.mem_cons_of_mem _ (lookup_mem h)
theorem mem_lookup {α : Type} {x : Str} {v : α} : ∀ {l : List (Str × α)}, (x, v) ∈ l -> ∃ u, l.lookup x = some u
 | (y, u) :: r, h => by
  rw [List.lookup_cons]
  cases e : x == y with
  | true => exact ⟨u, rfl⟩
  | false =>
   rcases List.mem_cons.mp h with z | z
   ·cases z; simp at e
   ·exact mem_lookup z
noncomputable def compOk (osc scope : Scope) (N Tn Fn : List Str) (js : List Nat) : Bool :=
 (scope.kind == .function) && (osc.kind == .function) && (scope.names.all fun y => match y.2 with
  | .cell => false
  | .local => scope.names.lookup y.1 == some .local
  | .free => osc.names.lookup y.1 == some .cell && scope.names.lookup y.1 == some .free
  | _ => true) && (js.map (fun j => N[j]?) == Fn.map some) && (Fn.all fun x => scope.names.lookup x == some .free) && (Tn.all fun x => scope.names.lookup x == some .local) && decide (Tn ++ Fn).Nodup
structure CompScope (osc scope : Scope) (N Tn Fn : List Str) (js : List Nat) : Prop where
 kind : scope.kind = .function
 okind : osc.kind = .function
 nocell : ∀ y ∈ scope.names, y.2 ≠ .cell
 loc : ∀ y ∈ scope.names, y.2 = .local -> scope.names.lookup y.1 = some .local
 fre : ∀ y ∈ scope.names, y.2 = .free -> osc.names.lookup y.1 = some .cell
 idx : js.map (fun j => N[j]?) = Fn.map some
 fn : ∀ x ∈ Fn, scope.names.lookup x = some .free
 tn : ∀ x ∈ Tn, scope.names.lookup x = some .local
 nd : (Tn ++ Fn).Nodup
theorem CompScope.of {osc scope : Scope} {N Tn Fn : List Str} {js : List Nat} (h : compOk osc scope N Tn Fn js = true) : CompScope osc scope N Tn Fn js := by
 unfold compOk at h
 simp only [Bool.and_eq_true, beq_iff_eq, decide_eq_true_eq, List.all_eq_true] at h
 obtain ⟨⟨⟨⟨⟨⟨h1, h1'⟩, h2⟩, h3⟩, h4⟩, h5⟩, h6⟩ := h
 refine ⟨h1, h1', fun y hy e => ?_, fun y hy e => ?_, fun y hy e => ?_, h3, h4, h5, h6⟩
 ·have := h2 y hy; rw [e] at this; cases this
 ·have := h2 y hy; rw [e] at this; simpa using this
 ·have := h2 y hy; rw [e] at this; simp only [Bool.and_eq_true, beq_iff_eq] at this; exact this.1
noncomputable def cxIn (X : Cx) (N : List Str) (scope : Scope) (cl : List (Str × Addr)) (C : Addr) (s : Shared) (H : Hp) (fp : List Addr) : Cx :=
 { X with N := N, s₀ := s, H₀ := H, env := compEnvC scope cl C X.env, outer := X.stack, ex := fp, fn := fun _ => false, pn := [], xe := fun _ _ => False }
noncomputable def innS (k : Nat) (js : List Nat) (σ : St) : St := List.replicate k none ++ js.map fun j => (σ[j]?).join
theorem lookup_relabel {env : Env} (hk : env.scope.kind = .function) : ∀ {names : List (Str × NameKind)} {x : Str} {k : NameKind}, (∀ y ∈ names, y.2 = .free -> env.kindOf y.1 = some .cell) -> names.lookup x = some k ->
  (names.map fun (n, k) => if (k == NameKind.free && env.scope.kind == .function && env.kindOf n == some .cell) then (n, NameKind.cell) else (n, k)).lookup x = some (if k = .free then .cell else k)
 | [], _, _, _, h => by simp at h
 | (n, k') :: r, x, k, hf, h => by
  have ih := @lookup_relabel env hk r x k fun y hy => hf y (List.mem_cons_of_mem _ hy)
  have h0 := hf (n, k') List.mem_cons_self
  rw [List.map_cons]
  show List.lookup x ((if (k' == NameKind.free && env.scope.kind == .function && env.kindOf n == some .cell) = true then (n, NameKind.cell) else (n, k')) :: _) = _
  rw [List.lookup_cons] at h
  by_cases hk' : k' = .free
  ·subst hk'
   have e : (NameKind.free == NameKind.free && env.scope.kind == .function && env.kindOf n == some .cell) = true := by rw [h0 rfl, hk]; decide
   rw [if_pos e, List.lookup_cons]
   cases hx : x == n with
   | true => rw [hx] at h; cases h; rfl
   | false => rw [hx] at h; exact ih h
  ·have e : ¬ (k' == NameKind.free && env.scope.kind == .function && env.kindOf n == some .cell) = true := by
    intro z; simp only [Bool.and_eq_true, beq_iff_eq] at z; exact hk' z.1.1
   rw [if_neg e, List.lookup_cons]
   cases hx : x == n with
   | true => rw [hx] at h; cases h; simp [hk']
   | false => rw [hx] at h; exact ih h
theorem relabel_of {env : Env} : ∀ {names : List (Str × NameKind)} {x : Str} {k : NameKind}, (names.map fun (n, k) => if (k == NameKind.free && env.scope.kind == .function && env.kindOf n == some .cell) then (n, NameKind.cell) else (n, k)).lookup x = some k ->
  ∃ k', (x, k') ∈ names /\ (k' = k \/ (k' = .free /\ k = .cell))
 | [], _, _, h => by simp at h
 | (n, k') :: r, x, k, h => by
  have ih := @relabel_of env r x k
  rw [List.map_cons] at h
  have h : List.lookup x ((if (k' == NameKind.free && env.scope.kind == .function && env.kindOf n == some .cell) = true then (n, NameKind.cell) else (n, k')) :: _) = some k := h
  by_cases e : (k' == NameKind.free && env.scope.kind == .function && env.kindOf n == some .cell) = true
  ·rw [if_pos e, List.lookup_cons] at h
   cases hx : x == n with
   | true =>
    rw [hx] at h; cases h
    simp only [Bool.and_eq_true, beq_iff_eq] at e
    refine ⟨.free, ?_, .inr ⟨rfl, rfl⟩⟩
    rw [beq_iff_eq.mp hx, <- e.1.1]; exact List.mem_cons_self
   | false => rw [hx] at h; obtain ⟨q, m, z⟩ := ih h; exact ⟨q, List.mem_cons_of_mem _ m, z⟩
  ·rw [if_neg e, List.lookup_cons] at h
   cases hx : x == n with
   | true => rw [hx] at h; cases h; refine ⟨k', ?_, .inl rfl⟩; rw [beq_iff_eq.mp hx]; exact List.mem_cons_self
   | false => rw [hx] at h; obtain ⟨q, m, z⟩ := ih h; exact ⟨q, List.mem_cons_of_mem _ m, z⟩
section
variable {X : Cx} {pins : List (Addr × Obj)} {σ : St} {H : Hp} {s : Shared} {scope : Scope} {Tn Fn : List Str} {js : List Nat} {fp : List Addr}
theorem inv_in {C : Addr} {h1 : Heap} {tk : Nat} {mC : Str -> Option Value} (cs : CompScope X.env.scope scope X.N Tn Fn js) (I : Inv X pins σ H s) (hC : C = s.heap.objs.size) (hn : h1.Ns C mC) (k1 : ∀ b o, s.heap.get? b = some o -> h1.get? b = some o)
  (hf : ∀ b ∈ fp, FpOk X pins H b) (ho : ∀ b ∈ fp, ∃ o, s.heap.get? b = some o) :
  Inv (cxIn X (Tn ++ Fn) scope (closOf X.env.cells scope.names []) C s H fp) (X.pn ++ pins) (innS Tn.length js σ) H { s with heap := h1, toks := tk } := by
 have hcl : ∀ x c, (closOf X.env.cells scope.names []).lookup x = some c -> X.env.cells.lookup x = some c := fun x c e => closOf_sub (names := scope.names) (cs := []) (fun _ z => nomatch z) _ (lookup_mem e)
 have hlen : (js.map fun j => X.N[j]?).length = (Fn.map some).length := congrArg List.length cs.idx
 rw [List.length_map, List.length_map] at hlen
 have hfr : ∀ y ∈ scope.names, y.2 = .free -> X.env.kindOf y.1 = some .cell := cs.fre
 subst hC
 refine ⟨⟨I.ok.mod, cs.kind, I.ok.glob, I.ok.blt, Nat.le_refl _, fun x y c e1 e2 => I.ok.inj x y c (hcl x c e1) (hcl y c e2), fun x hx => ?_, fun x c z => absurd z Bool.false_ne_true, I.ok.hd, I.ok.frames, .inl rfl, fun b hb => ⟨?_, fun x c e => (hf b hb).2.2.2.2.1 x c (hcl x c e)⟩, I.bs,
  Nat.le_trans I.ok.bsz I.sz, fun b o e hb => ?_, fun b hb z => ?_, I.stack, I.stkFree⟩, rfl, I.bare, Un.kept k1, ⟨mC, hn, fun i x v e1 e2 e3 => ?_⟩, fun x c e => ?_, I.fresh, fun x c e => I.freeC x c (hcl x c e), fun p hp => ?_, I.hok.kept k1, ?_⟩
 ·-- has
  have hx : (relabel scope X.env).names.lookup x = some .cell \/ (relabel scope X.env).names.lookup x = some .free := hx
  have key : (x, NameKind.free) ∈ scope.names := by
   rcases hx with hx | hx
   ·obtain ⟨k', m, z⟩ := relabel_of hx
    rcases z with z | ⟨z, _⟩
    ·subst z; exact absurd rfl (cs.nocell _ m)
    ·subst z; exact m
   ·obtain ⟨k', m, z⟩ := relabel_of hx
    rcases z with z | ⟨_, z⟩
    ·subst z; exact m
    ·cases z
  obtain ⟨a, ha⟩ := I.ok.has x (.inl (hfr _ key rfl))
  exact mem_lookup (closOf_has ha key)
 ·obtain ⟨o, e⟩ := ho b hb
  exact Nat.ne_of_lt (Heap.lt_size e)
 ·rcases (hf b hb).2.2.2.1 with z | z
  ·exact I.ok.noex b o e z
  ·exact absurd (Nat.lt_of_lt_of_le (Heap.lt_size (I.ok.bs b o e).1) z) (Nat.lt_irrefl _)
 ·rcases List.mem_cons.mp (I.stkSub b z) with q | q
  ·exact (hf b hb).2.1 q
  ·exact (hf b hb).2.2.1 q
 ·-- names
  have e1 : (Tn ++ Fn)[i]? = some x := e1
  have e2 : (List.replicate Tn.length none ++ js.map fun j => (σ[j]?).join)[i]? = some (some v) := e2
  by_cases hi : i < Tn.length
  ·rw [List.getElem?_append_left (by simpa using hi), List.getElem?_replicate] at e2
   split at e2 <;> cases e2
  ·rw [List.getElem?_append_right (by simpa using hi)] at e2
   rw [List.getElem?_append_right (by simpa using hi)] at e1
   rw [List.length_replicate, List.getElem?_map] at e2
   cases ej : js[i - Tn.length]? with
   | none => rw [ej] at e2; cases e2
   | some j =>
    rw [ej] at e2
    have e2 : (σ[j]?).join = some v := by simpa using e2
    have e2' : σ[j]? = some (some v) := by
     cases q : σ[j]? with
     | none => rw [q] at e2; cases e2
     | some o => rw [q] at e2; cases o with
      | none => cases e2
      | some v' => cases e2; rfl
    have ej' : X.N[j]? = some x := by
     have h0 : (js.map fun j => X.N[j]?)[i - Tn.length]? = (Fn.map some)[i - Tn.length]? := by rw [cs.idx]
     rw [List.getElem?_map, ej, List.getElem?_map, e1] at h0
     simpa using h0
    have hx : scope.names.lookup x = some .free := cs.fn x (List.mem_of_getElem? e1)
    have hox : X.env.kindOf x = some .cell := hfr _ (lookup_mem hx) rfl
    obtain ⟨m, hm, hl⟩ := I.loc
    obtain ⟨u, r, l⟩ := hl j x v ej' e2' (.inr (.inl hox))
    refine ⟨u, r, .inr ⟨.inl ?_, ?_⟩⟩
    ·show (relabel scope X.env).names.lookup x = some .cell
     have z := lookup_relabel (env := X.env) cs.okind (names := scope.names) hfr hx
     rw [if_pos rfl] at z
     exact z
    ·rcases l with ⟨k, _⟩ | ⟨_, c, ec, z⟩
     ·rw [hox] at k; cases k
     ·obtain ⟨c', e'⟩ := mem_lookup (closOf_has (cs := []) ec (lookup_mem hx))
      have : c' = c := Option.some.inj ((hcl x c' e').symm.trans ec)
      subst this
      obtain ⟨o, q1, q2⟩ := z
      exact ⟨c', e', o, k1 _ _ q1, q2⟩
 ·obtain ⟨v, o, q1, q2⟩ := I.cell x c (hcl x c e)
  exact ⟨v, o, k1 _ _ q1, q2⟩
 ·have hp : p ∈ ([] : List (Addr × Obj)) ++ (X.pn ++ pins) := hp
  rw [List.nil_append] at hp
  obtain ⟨e, n, ne, nf, d⟩ := I.pin p hp
  refine ⟨k1 _ _ e, n, Nat.ne_of_lt (Heap.lt_size e), fun z => ?_, d⟩
  rcases List.mem_cons.mp (I.stkSub p.1 z) with q | q
  ·exact ne q
  ·exact nf q
 ·show (List.replicate Tn.length none ++ js.map fun j => (σ[j]?).join).length = (Tn ++ Fn).length
  rw [List.length_append, List.length_append, List.length_replicate, List.length_map, hlen]
structure CFree (X : Cx) (pins : List (Addr × Obj)) (C : Addr) : Prop where
 nl : C ≠ X.env.locals
 yg : X.s₀.heap.objs.size <= C
 nc : ∀ x c, X.env.cells.lookup x = some c -> c ≠ C
 np : ∀ p ∈ X.pn ++ pins, p.1 ≠ C
theorem Inv.letgo {C : Addr} {h2 : Heap} (I : Inv X pins σ H s) (hn : H C = none) (c : CFree X pins C) (sb : Heap.SameBut C s.heap h2) : Inv X pins σ H { s with heap := h2 } :=
 I.turned (t' := s.toks) (it := C) (fun b o hb e => (sb.2 b hb).trans e) hn c.nl (.inr c.yg) c.nc c.np
theorem Inv.cfree {C : Addr} (I : Inv X pins σ H s) (hC : C = s.heap.objs.size) : CFree X pins C := by
 refine ⟨by rw [hC]; exact Nat.ne_of_gt I.lt, by rw [hC]; exact I.sz, fun x c e z => ?_, fun p hp z => ?_⟩
 ·obtain ⟨v, q⟩ := I.cell x c e
  have := q.lt
  rw [z, hC] at this; exact absurd this (Nat.lt_irrefl _)
 ·have := Heap.lt_size (I.pin p hp).1
  rw [z, hC] at this; exact absurd this (Nat.lt_irrefl _)
theorem inv_out {C : Addr} {cl : List (Str × Addr)} {N : List Str} {σ' : St} {H' : Hp} {pins' : List (Addr × Obj)} {s' : Shared} (I : Inv X pins σ H s) (hf : ∀ b ∈ fp, FpOk X pins H b) (J : Inv (cxIn X N scope cl C s H fp) pins' σ' H' s') : Inv X pins σ H' s' :=
 I.call' (ch := fp) J.os J.base J.hok J.bare fun b hb => ⟨(hf b hb).2.2.2.1, (hf b hb).2.1, (hf b hb).2.2.2.2.1, (hf b hb).2.2.2.2.2⟩
end
section
variable {prog : Program} {w : World} {A : Around} {s : Shared}
theorem compLoop_go {elt target iter : Expr} {ifs : List Expr} {scope : Scope} {pos : Pos} {it acc : Value} {env : Env} {R : Result -> Shared -> Prop} (I : Nat -> Shared -> Prop)
  (turn : ∀ n s, I n s -> wpAny (model prog w) A (pyNext it) (fun r s₁ => match r with
   | none => R (.ok .next) s₁
   | some v => wpAny (model prog w) A (letOwnedTupleGo target it v) (fun _ s₀ => wpAny (model prog w) A (assign target env v) (fun _ s₂ =>
     wpAny (model prog w) A (forIn ifs true fun c r => if r = true then do let ok <- isTrue c env (eval c env); pure (ForInStep.yield ok) else pure (ForInStep.yield r)) (fun ok s₃ =>
      if ok = true then wpAny (model prog w) A (eval elt env) (fun x s₄ =>
       wpAny (model prog w) A (call (.builtin "list.append") [acc, x]) (fun _ s₅ => ∃ m, m < n /\ I m s₅) (fun _ _ => False) s₄) (fun _ _ => False) s₃
      else ∃ m, m < n /\ I m s₃) (fun _ _ => False) s₂) (fun _ _ => False) s₀) (fun _ _ => False) s₁) (fun _ _ => False) s)
  (n : Nat) (h : I n s) : codeAny (model prog w) A (.compLoop (.ListComp elt [⟨target, iter, ifs, 0⟩] scope pos) 0 it acc env) R s := by
 refine codeAny_loop rfl I (fun n s hI => ?_) n h
 show wpAny _ A ((compTurn (.ListComp elt [⟨target, iter, ifs, 0⟩] scope pos) 0 it acc env).onRaise (fun x => do noteFrame x env; theTreesLotGoes x)) _ _ s
 refine wpAny_noted ?_
 rw [compTurn_list]
 refine wpAny_bind (wpAny_standAt (wpAny_bind (wpAny_mono (turn n s hI) (fun r s₁ h₁ => ?_) fun _ _ h' => h'.elim)))
 cases r with
 | none => exact wpAny_pure h₁
 | some v =>
  refine wpAny_bind (wpAny_mono h₁ (fun _ s₀ h₀' => ?_) fun _ _ h' => h'.elim)
  refine wpAny_bind (wpAny_mono h₀' (fun _ s₂ h₂ => wpAny_bind (wpAny_mono h₂ (fun ok s₃ h₃ => ?_) fun _ _ h' => h'.elim)) fun _ _ h' => h'.elim)
  cases ok with
  | false => exact wpAny_pure ⟨rfl, h₃⟩
  | true =>
   exact wpAny_bind (wpAny_bind (wpAny_mono h₃ (fun x s₄ h₄ => wpAny_bind (wpAny_mono h₄ (fun _ s₅ h₅ => wpAny_pure (wpAny_pure ⟨rfl, h₅⟩)) fun _ _ h' => h'.elim)) fun _ _ h' => h'.elim))
end
noncomputable def PIfs (X : Cx) (ifs : List Expr) (t : TT) : Prop :=
 ∀ (pins : List (Addr × Obj)) (s : Shared) (σ : St) (H : Hp) (Q : Bool -> Hp -> Prop), Inv X pins σ H s -> t σ H Q ->
  wpAny (model X.prog X.w) X.A (forIn ifs true fun c r => if r = true then do let ok <- isTrue c X.env (eval c X.env); pure (ForInStep.yield ok) else pure (ForInStep.yield r)) (TP X pins σ Q) X.xe s
noncomputable abbrev tTrue : TT := fun _ H Q => Q true H
theorem pif_none {X : Cx} : PIfs X [] tTrue := fun _ _ _ H _ I h => wpAny_tests_nil ⟨H, I, h⟩
theorem pif_one {X : Cx} {c : Expr} {t : TT} (h : PT X c t) : PIfs X [c] t := fun pins s σ H Q I hq => wpAny_tests_one (h pins s σ H Q I hq)
noncomputable def tBlock (J : It) (g : TG) (tc : TT) (te : TE) (D : Addr) (Z : Hp -> Prop) (σ : St) (H : Hp) : Prop :=
 ∃ W : Nat -> Nat -> St -> Hp -> Prop, (∃ m, W 0 m σ H) /\ ∀ i m σ H, W i m σ H ->
  (J.stop i H /\ Z H) \/ (J.go i H /\ ∃ N : St -> Hp -> Prop, (∀ σ' H', N σ' H' -> ∃ m', m' < m /\ W (i + 1) m' σ' H') /\
   ∀ x H', J.yld i H x H' -> g x σ H' fun σ2 H2 => tc σ2 H2 fun b H3 => if b = true then te σ2 H3 fun y H4 => ∃ ys, H4 D = some (.lst ys) /\ ys.length < sizeLine /\ N σ2 (upd H4 D (.lst (ys ++ [y]))) else N σ2 H3)
section
variable {X : Cx} {scope : Scope} {Tn Fn : List Str} {js : List Nat} {tg iter elt : Expr} {ifs : List Expr} {wi : TI} {g : TG} {tc : TT} {te : TE} {pos : Pos}
theorem block_run {pins : List (Addr × Obj)} {σ : St} {H2 : Hp} {s2 : Shared} {it : Addr} {fp : List Addr} {tn : Nat -> Heap -> Prop} {J : It} {Z : Addr -> Hp -> Prop} {RR : Value -> Addr -> Result -> Shared -> Prop} {E : Value -> Shared -> Prop} (hc : X.calm = true)
  (cs : CompScope X.env.scope scope X.N Tn Fn js)
  (hg : ∀ C s H fp, PG (cxIn X (Tn ++ Fn) scope (closOf X.env.cells scope.names []) C s H fp) tg g) (ht : ∀ C s H fp, PIfs (cxIn X (Tn ++ Fn) scope (closOf X.env.cells scope.names []) C s H fp) ifs tc)
  (he : ∀ C s H fp, PE (cxIn X (Tn ++ Fn) scope (closOf X.env.cells scope.names []) C s H fp) elt te)
  (I2 : Inv X pins σ H2 s2) (T : Turn X.prog X.w X.K tg J fp it tn) (st2 : tn 0 s2.heap) (f2 : ∀ b ∈ fp, FpOk X pins H2 b)
  (hb : ∀ D, H2 D = none -> tBlock J g tc te D (Z D) (innS Tn.length js σ) (upd H2 D (.lst [])))
  (fin : ∀ D C s' H' m, s'.heap.Ns C m -> Inv X pins σ H' s' -> H' C = none -> CFree X pins C -> Z D H' -> RR (.ref D) C (.ok .next) s') :
  wpAny (model X.prog X.w) X.A (newList []) (fun acc s₃ => wpAny (model X.prog X.w) X.A (newFunctionEnv scope X.env.globals (closOf X.env.cells scope.names []) [] X.env.qual none .none (some X.env)) (fun cenv s₄ =>
   codeAny (model X.prog X.w) X.A (.compStart (.ListComp elt [⟨tg, iter, ifs, 0⟩] scope pos) 0 (.ref it) acc { cenv with scope := relabel scope X.env }) (RR acc cenv.locals) s₄) E s₃) E s2 := by
 refine wpAny_newObj_type (wpAny_newFunctionEnv cs.nocell (by intro y hy; simp at hy) (fun h₁ hns₁ hsb₁ => ?_) cs.kind)
 dsimp only at hns₁ hsb₁ ⊢
 have I3 := I2.lnew (its := []) (ys := []) (t' := s2.toks) .nil (Nat.zero_le _)
 have fD : H2 s2.heap.objs.size = none := I2.fresh
 obtain ⟨W, ⟨m0, w0⟩, turn⟩ := hb _ fD
 generalize hH2 : s2.heap.push { cls := .type "list", dict := none, data := .seq ([] : List Value).toArray } = g2 at hns₁ hsb₁ I3 ⊢
 have up2 : ∀ b o, s2.heap.get? b = some o -> g2.get? b = some o := fun b o e => hH2 ▸ Heap.get?_push_of_some _ e
 generalize hD : s2.heap.objs.size = D at *
 have up3 : ∀ b o, g2.get? b = some o -> h₁.get? b = some o := fun b o e => hsb₁.extBut b o (Nat.ne_of_lt (Heap.lt_size e)) (Heap.get?_push_of_some _ e)
 have hob : ∀ b ∈ fp, ∃ o, s2.heap.get? b = some o := fun b hb => let ⟨o, e, _⟩ := T.obj 0 _ st2 b hb; ⟨o, e⟩
 have neD : ∀ b ∈ fp, b ≠ D := fun b hb => by
  obtain ⟨o, e⟩ := hob b hb
  rw [<- hD]; exact Nat.ne_of_lt (Heap.lt_size e)
 have f3 : ∀ b ∈ fp, FpOk X pins (upd H2 D (.lst [])) b := fun b hb => ⟨by rw [upd_ne (neD b hb)]; exact (f2 b hb).1, (f2 b hb).2⟩
 have J0 := inv_in (fp := fp) (tk := s2.toks + ([] : List (Str × Value)).length) cs I3 rfl hns₁ up3 f3 fun b hb => let ⟨o, e⟩ := hob b hb; ⟨o, up2 b o e⟩
 have tn0 : tn 0 h₁ := T.keep _ _ _ st2 fun b hb o e => up3 b o (up2 b o e)
 have cf : CFree X pins g2.objs.size := I3.cfree rfl
 generalize hX' : cxIn X (Tn ++ Fn) scope (closOf X.env.cells scope.names []) g2.objs.size { s2 with heap := g2, toks := s2.toks } (upd H2 D (.lst [])) fp = X' at J0
 have eP : X'.prog = X.prog := by rw [<- hX']; rfl
 have ew : X'.w = X.w := by rw [<- hX']; rfl
 have eK : X'.K = X.K := by rw [<- hX']; rfl
 have eA : X'.A = X.A := by rw [<- hX']; rfl
 have ec : X'.calm = true := by rw [<- hX']; exact hc
 have ee : X'.env = compEnvC scope (closOf X.env.cells scope.names []) g2.objs.size X.env := by rw [<- hX']; rfl
 have ex : X'.xe = fun _ _ => False := by rw [<- hX']; rfl
 have Hg : PG X' tg g := by rw [<- hX']; exact hg _ _ _ _
 have Ht : PIfs X' ifs tc := by rw [<- hX']; exact ht _ _ _ _
 have He : PE X' elt te := by rw [<- hX']; exact he _ _ _ _
 have out : ∀ {pins' σ' H' s'}, Inv X' pins' σ' H' s' -> Inv X pins σ H' s' := by
  intro pins' σ' H' s' J
  rw [<- hX'] at J
  exact inv_out I3 f3 J
 have fsX : ∀ b ∈ fp, b ∉ X'.fs := by
  intro b hb z
  rw [<- hX'] at z
  rcases List.mem_cons.mp (I3.stkSub b z) with q | q
  ·exact (f3 b hb).2.1 q
  ·exact (f3 b hb).2.2.1 q
 have stat : ∀ {H' : Hp}, (∀ b ∈ fp, H' b = none) -> ∀ b ∈ fp, FpOk X' (X.pn ++ pins) H' b := fun {H'} hn b hb => by
  refine ⟨hn b hb, ?_, fsX b hb, .inl (by rw [<- hX']; exact hb), ?_, ?_⟩
  ·rw [ee]
   obtain ⟨o, e⟩ := hob b hb
   exact Nat.ne_of_lt (Heap.lt_size (up2 b o e))
  ·intro x c e
   rw [ee] at e
   exact (f3 b hb).2.2.2.2.1 x c (closOf_sub (names := scope.names) (cs := []) (fun _ z => nomatch z) _ (lookup_mem e))
  ·intro p hp
   have hp : p ∈ X.pn ++ pins := by rw [<- hX'] at hp; simpa [cxIn] using hp
   exact (f3 b hb).2.2.2.2.2 p hp
 have loop : ∀ s4 : Shared, s4 = { s2 with heap := h₁, toks := s2.toks + ([] : List (Str × Value)).length } ->
   codeAny (model X.prog X.w) X.A (.compLoop (.ListComp elt [⟨tg, iter, ifs, 0⟩] scope pos) 0 (.ref it) (.ref D) (compEnvC scope (closOf X.env.cells scope.names []) g2.objs.size X.env)) (RR (.ref D) g2.objs.size) s4 := by
  rintro s4 rfl
  refine compLoop_go (fun n s' => ∃ i σ' H', Inv X' (X.pn ++ pins) σ' H' s' /\ tn i s'.heap /\ (∀ b ∈ fp, H' b = none) /\ W i n σ' H') ?_ m0 ⟨0, _, _, J0, tn0, fun b hb => (f3 b hb).1, w0⟩
  rintro n s5 ⟨i, σ5, H5, I5, st5, fr5, w5⟩
  rw [<- ee, <- eA, <- eP, <- ew, <- ex]
  rcases turn i n σ5 H5 w5 with ⟨stop, qz⟩ | ⟨go, N, hN, step⟩
  ·have td := T.done X' eP ew eK ec i (X.pn ++ pins) s5 σ5 H5 X'.xe I5 (stat fr5) st5 stop
   rw [<- eP, <- ew] at td
   refine thn td fun r s6 ⟨hr, I6⟩ => ?_
   subst hr
   obtain ⟨m, hm, _⟩ := id I6.loc
   rw [ee] at hm
   have hfr := I6.free
   rw [ee] at hfr
   exact fin D _ s6 H5 m hm (out I6) hfr cf qz
  ·have ti := T.item X' eP ew eK ec i (X.pn ++ pins) s5 σ5 H5 X'.xe I5 (stat fr5) st5 go
   rw [<- eP, <- ew] at ti
   refine thn ti fun r s6 ⟨u, hr, h6⟩ => ?_
   subst hr
   refine thn h6 fun _ s7 ⟨x, H7, I7, r7, y7, st7, fr7⟩ => ?_
   have I7' := I7.pinned (stat fr7) (T.obj _ _ st7)
   refine thn (Hg _ s7 σ5 H7 x u _ I7' r7 (step x H7 y7)) fun _ s8 ⟨σ8, H8, I8, q8⟩ => ?_
   refine thn (Ht _ s8 σ8 H8 _ I8 q8) fun ok s9 ⟨H9, I9, q9⟩ => ?_
   have again : ∀ {σa : St} {Ha : Hp} {sa : Shared}, Inv X' ((X.pn ++ pins) ++ pinsAt fp s7.heap) σa Ha sa -> N σa Ha -> ∃ m, m < n /\ ∃ i σ' H', Inv X' (X.pn ++ pins) σ' H' sa /\ tn i sa.heap /\ (∀ b ∈ fp, H' b = none) /\ W i m σ' H' := fun {σa Ha sa} Ia na => by
    obtain ⟨m', hm, wa⟩ := hN σa Ha na
    refine ⟨m', hm, i + 1, σa, Ha, Ia.unpinned, T.keep _ _ _ st7 fun b hb o e => (Ia.pin (b, o) (List.mem_append_right _ (List.mem_append_right _ (mem_pinsAt hb e)))).1, fun b hb => ?_, wa⟩
    obtain ⟨o, e, d⟩ := T.obj _ _ st7 b hb
    exact (Ia.pin (b, o) (List.mem_append_right _ (List.mem_append_right _ (mem_pinsAt hb e)))).2.1
   cases ok with
   | false => exact again I9 q9
   | true =>
    refine thn (He _ s9 σ8 H9 _ I9 q9) fun y s10 ⟨yv, H10, I10, r10, ys, e10, l10, n10⟩ => ?_
    exact thn (mt_append (X := X') _ s10 σ8 H10 (.ref D) [yv] (.ref D) [y] (fun _ H' => N σ8 H') I10 rfl (.cons r10 .nil) ⟨D, ys, yv, rfl, rfl, e10, l10, n10⟩) fun _ s11 ⟨_, H11, I11, _, n11⟩ => again I11 n11
 exact codeAny_compStart_list (loop _ rfl) (T.self _ 0 _ _ _ tn0 (loop _ rfl))
noncomputable def tComp (wi : TI) (g : TG) (tc : TT) (te : TE) (k : Nat) (js : List Nat) : TE := fun σ H Q => wi σ H fun J H1 => ∀ D, H1 D = none -> tBlock J g tc te D (Q (.ref D)) (innS k js σ) (upd H1 D (.lst []))
theorem ps_setcomp (Tn Fn : List Str) (js : List Nat) {i : Nat} {y : Str} {py spos : Pos} (hN : X.N.Nodup) (hiN : X.N[i]? = some y) (hy : X.env.scope.names.lookup y = some .local) (hc : X.calm = true) (h : compOk X.env.scope scope X.N Tn Fn js = true) (hi : PI X tg iter wi)
  (hg : ∀ C s H fp, PG (cxIn X (Tn ++ Fn) scope (closOf X.env.cells scope.names []) C s H fp) tg g) (ht : ∀ C s H fp, PIfs (cxIn X (Tn ++ Fn) scope (closOf X.env.cells scope.names []) C s H fp) ifs tc)
  (he : ∀ C s H fp, PE (cxIn X (Tn ++ Fn) scope (closOf X.env.cells scope.names []) C s H fp) elt te) (hsw : swapsWith (.ListComp elt [⟨tg, iter, ifs, 0⟩] scope pos) (some (.Name y py)) spos.line X.env = pure true := by rfl)
  (hs : ∀ x, foldedSetIterable iter X.env x = pure x := by intro _; rfl) :
  PS X (.Assign [.Name y py] (.ListComp elt [⟨tg, iter, ifs, 0⟩] scope pos) spos) (tAsg (tComp wi g tc te Tn.length js) (gName i)) := by
 intro pins s σ H D0 I hq
 have cs := CompScope.of h
 rw [exec_Assign_Name_used _ _ _ _ hsw]
 refine wpAny_bind (wpAny_standAt (wpAny_bind ?_))
 show wpAny _ X.A (do let _ <- comprehension (.ListComp elt [⟨tg, iter, ifs, 0⟩] scope pos) scope X.env _ (newList []) false (eval iter X.env) (some (assign (.Name y py) X.env))) _ _ s
 refine wpAny_bind (wpAny_mono (wpAny_comprehension_free (use := some (assign (.Name y py) X.env)) (Q := fun _ s' => SP X pins D0 .next s') rfl hs (closureFor_eq ?_) cs.kind cs.loc
  (thn (hi pins s σ H _ I hq) fun xv s1 h1 => thn h1 fun itv s2 h2 => ?_)) (fun _ s' hq => wpAny_pure (wpAny_pure hq)) fun _ _ e => e)
 ·intro x hx e; exact I.ok.has x.1 (.inl (cs.fre x hx e))
 obtain ⟨it, fp, tn, J, H2, rfl, I2, T, st2, f2, hb⟩ := h2
 refine block_run (Z := fun D H' => D0.nx (σ.set i (some (.ref D))) H') (RR := fun acc C => compPost (model X.prog X.w) X.A X.xe (some (assign (.Name y py) X.env)) (fun _ s' => SP X pins D0 .next s') acc C) hc cs hg ht he I2 T st2 f2 hb ?_
 intro D C s' H' m hm I' hn cf z
 show wpAny _ X.A (assign (.Name y py) X.env (.ref D)) _ _ s'
 refine wpAny_assign_Name (store_ok2 (v := .ref D) I' hN hiN (.inl hy) rfl (fun s'' I'' sb => ?_) (.inr hy))
 obtain ⟨a, sb, ha⟩ := sb
 have hCa : C ≠ a := by
  rcases ha with e | e
  ·rw [e]; exact cf.nl
  ·exact fun z => cf.nc _ _ e z.symm
 exact ⟨m, hm.sameBut sb hCa, fun h' sb' => ⟨_, H', I''.letgo hn cf sb', z⟩⟩
end
theorem block_list {K : PySem.W.Frag} {a : Addr} {xs : List V} {g : TG} {tc : TT} {te : TE} {D : Addr} {Z : Hp -> Prop} {σ : St} {H : Hp} (Pv : Nat -> St -> Hp -> Prop) (h0 : Pv 0 σ H) (hl : ∀ i σ H, i <= xs.length -> Pv i σ H -> SqL K H a xs)
  (hs : ∀ i x σ H, xs[i]? = some x -> Pv i σ H -> g x σ H fun σ2 H2 => tc σ2 H2 fun b H3 => if b = true then te σ2 H3 fun y H4 => ∃ ys, H4 D = some (.lst ys) /\ ys.length < sizeLine /\ Pv (i + 1) σ2 (upd H4 D (.lst (ys ++ [y]))) else Pv (i + 1) σ2 H3)
  (hd : ∀ σ H, Pv xs.length σ H -> Z H) : tBlock (Itl K a) g tc te D Z σ H := by
 refine ⟨fun i m σ H => m = xs.length - i /\ i <= xs.length /\ Pv i σ H, ⟨xs.length, by simp, Nat.zero_le _, h0⟩, ?_⟩
 rintro i m σ H ⟨rfl, hi, p⟩
 have q := hl i σ H hi p
 by_cases hlt : i < xs.length
 ·refine .inr ⟨⟨xs, xs[i], q, by simp [hlt]⟩, Pv (i + 1), fun σ' H' p' => ⟨xs.length - (i + 1), by lia, rfl, hlt, p'⟩, fun x H' y => ?_⟩
  obtain ⟨e, y⟩ := y
  subst e
  exact hs i x σ _ (y xs q) p
 ·have e : i = xs.length := by lia
  subst e
  exact .inl ⟨⟨xs, q, Nat.le_refl _⟩, hd σ H p⟩
theorem block_range {lo : Int} {n : Nat} {g : TG} {tc : TT} {te : TE} {D : Addr} {Z : Hp -> Prop} {σ : St} {H : Hp} (Pv : Nat -> St -> Hp -> Prop) (h0 : Pv 0 σ H)
  (hs : ∀ i σ H, i < n -> Pv i σ H -> g (.int (lo + i)) σ H fun σ2 H2 => tc σ2 H2 fun b H3 => if b = true then te σ2 H3 fun y H4 => ∃ ys, H4 D = some (.lst ys) /\ ys.length < sizeLine /\ Pv (i + 1) σ2 (upd H4 D (.lst (ys ++ [y]))) else Pv (i + 1) σ2 H3)
  (hd : ∀ σ H, Pv n σ H -> Z H) : tBlock (Itr lo n) g tc te D Z σ H := by
 refine ⟨fun i m σ H => m = n - i /\ i <= n /\ Pv i σ H, ⟨n, by simp, Nat.zero_le _, h0⟩, ?_⟩
 rintro i m σ H ⟨rfl, hi, p⟩
 by_cases hlt : i < n
 ·refine .inr ⟨hlt, Pv (i + 1), fun σ' H' p' => ⟨n - (i + 1), by lia, rfl, hlt, p'⟩, fun x H' y => ?_⟩
  obtain ⟨e, y⟩ := y
  subst e y
  exact hs i σ _ hlt p
 ·have e : i = n := by lia
  subst e
  exact .inl ⟨Nat.le_refl _, hd σ H p⟩
end L2
namespace L2
open PySem PySem.Spec PyProof.Rows
mutual
noncomputable def RepD (K : PySem.W.Frag) (H : Hp) : PyData -> V -> Prop
 | .none, v => v = .non
 | .bool b, v => v = .bl b
 | .int i, v => v = .int i
 | .str x, v => v = .str x /\ (PyData.str x).canLay0 = true
 | .tuple xs, v => ∃ a vs, v = .ref a /\ SqT K H a vs /\ RepDs K H xs vs
 | .list xs, v => ∃ a vs, v = .ref a /\ SqL K H a vs /\ RepDs K H xs vs
 | .dict _, _ => False
noncomputable def RepDs (K : PySem.W.Frag) (H : Hp) : List PyData -> List V -> Prop
 | [], vs => vs = []
 | d :: ds, vs => ∃ v r, vs = v :: r /\ RepD K H d v /\ RepDs K H ds r
end
section
variable {X : Cx} {pins : List (Addr × Obj)} {σ : St} {H : Hp} {s : Shared}
mutual
theorem RepD.reads (I : Inv X pins σ H s) : ∀ {d : PyData} {v : V} {u : Value}, RepD X.K H d v -> RelV v u -> ∃ as, Reads s.heap u d as
 | .none, v, u, h, r => by
  have h : v = .non := by simpa [RepD] using h
  subst h; cases r; exact ⟨_, .none⟩
 | .bool b, v, u, h, r => by
  have h : v = .bl b := by simpa [RepD] using h
  subst h; cases r; exact ⟨_, .bool b⟩
 | .int i, v, u, h, r => by
  have h : v = .int i := by simpa [RepD] using h
  subst h; obtain ⟨t, rfl⟩ := r; exact ⟨_, .int i t⟩
 | .str x, v, u, h, r => by
  simp only [RepD] at h
  obtain ⟨rfl, _⟩ := h
  obtain ⟨t, rfl⟩ := r; exact ⟨_, .str x t⟩
 | .tuple xs, v, u, h, r => by
  have h : ∃ a vs, v = .ref a /\ SqT X.K H a vs /\ RepDs X.K H xs vs := by simpa [RepD] using h
  obtain ⟨a, vs, rfl, q, rs⟩ := h
  cases r
  obtain ⟨its, rv, p, _⟩ := I.tuple q
  obtain ⟨o, e, c, n, d⟩ := (show s.heap.IsTuple a its.toArray from p)
  obtain ⟨as, ra⟩ := RepDs.reads I rs rv
  exact ⟨_, .tuple e c d (by simpa using ra)⟩
 | .list xs, v, u, h, r => by
  have h : ∃ a vs, v = .ref a /\ SqL X.K H a vs /\ RepDs X.K H xs vs := by simpa [RepD] using h
  obtain ⟨a, vs, rfl, q, rs⟩ := h
  cases r
  obtain ⟨its, rv, p, _⟩ := I.list q
  obtain ⟨o, e, c, n, d⟩ := p.isList
  obtain ⟨as, ra⟩ := RepDs.reads I rs rv
  exact ⟨_, .list e c d (by simpa using ra)⟩
 | .dict _, v, u, h, r => by
  have h : False := by simpa [RepD] using h
  exact h.elim
theorem RepDs.reads (I : Inv X pins σ H s) : ∀ {ds : List PyData} {vs : List V} {us : List Value}, RepDs X.K H ds vs -> Vals vs us -> ∃ as, ReadsAll s.heap us ds as
 | [], vs, us, h, r => by
  have h : vs = [] := by simpa [RepDs] using h
  subst h; cases r; exact ⟨_, .nil⟩
 | d :: ds, vs, us, h, r => by
  have h : ∃ v r, vs = v :: r /\ RepD X.K H d v /\ RepDs X.K H ds r := by simpa [RepDs] using h
  obtain ⟨v, rs, rfl, h1, h2⟩ := h
  cases r with
  | cons a b =>
   obtain ⟨as, r1⟩ := RepD.reads I h1 a
   obtain ⟨bs, r2⟩ := RepDs.reads I h2 b
   exact ⟨_, .cons r1 r2⟩
end
mutual
theorem RepD.lay {K : PySem.W.Frag} : ∀ {d : PyData} {v : V}, RepD K H d v -> d.canLay0 = true
 | .none, _, _ => rfl
 | .bool _, _, _ => rfl
 | .int _, _, _ => rfl
 | .str x, v, h => by
  simp only [RepD] at h
  exact h.2
 | .tuple xs, v, h => by
  have h : ∃ a vs, v = .ref a /\ SqT K H a vs /\ RepDs K H xs vs := by simpa [RepD] using h
  obtain ⟨a, vs, rfl, q, rs⟩ := h
  have := RepDs.lay rs
  simpa [PyData.canLay0] using this
 | .list xs, v, h => by
  have h : ∃ a vs, v = .ref a /\ SqL K H a vs /\ RepDs K H xs vs := by simpa [RepD] using h
  obtain ⟨a, vs, rfl, q, rs⟩ := h
  have := RepDs.lay rs
  simpa [PyData.canLay0] using this
 | .dict _, v, h => by
  have h : False := by simpa [RepD] using h
  exact h.elim
theorem RepDs.lay {K : PySem.W.Frag} : ∀ {ds : List PyData} {vs : List V}, RepDs K H ds vs -> PyData.canLayAll0 ds = true
 | [], _, _ => rfl
 | d :: ds, vs, h => by
  have h : ∃ v r, vs = v :: r /\ RepD K H d v /\ RepDs K H ds r := by simpa [RepDs] using h
  obtain ⟨v, rs, rfl, h1, h2⟩ := h
  have a := RepD.lay h1
  have b := RepDs.lay h2
  simp [PyData.canLayAll0, a, b]
end
end
section
variable {X : Cx} {k : Nat}
noncomputable def rEqD (K : PySem.W.Frag) : R2 := fun x y H Q => ∃ d d', RepD K H d x /\ RepD K H d' y /\ d.depth <= 64 /\ Q (.bl (PyData.eqv d d')) H
noncomputable def rNeD (K : PySem.W.Frag) : R2 := fun x y H Q => ∃ d d', RepD K H d x /\ RepD K H d' y /\ d.depth <= 64 /\ Q (.bl (!PyData.eqv d d')) H
theorem op_eqD (hr : Room k X.A) : OpR X (compareOp .Eq) (rEqD X.K) := by
 intro pins s σ H x y v u Q I rx ry h
 obtain ⟨d, d', h1, h2, hd, q⟩ := h
 obtain ⟨as, r1⟩ := h1.reads I rx
 obtain ⟨bs, r2⟩ := h2.reads I ry
 exact SeqAt.compareEq_reads r1 r2 h1.lay h2.lay (by have := hr.units; have : min d.depth d'.depth <= d.depth := Nat.min_le_left _ _; lia) ⟨.bl _, H, I, rfl, q⟩
theorem op_neD (hr : Room k X.A) : OpR X (compareOp .NotEq) (rNeD X.K) := by
 intro pins s σ H x y v u Q I rx ry h
 obtain ⟨d, d', h1, h2, hd, q⟩ := h
 obtain ⟨as, r1⟩ := h1.reads I rx
 obtain ⟨bs, r2⟩ := h2.reads I ry
 exact SeqAt.compareNe_reads r1 r2 h1.lay h2.lay (by have := hr.units; have : min d.depth d'.depth <= d.depth := Nat.min_le_left _ _; lia) ⟨.bl _, H, I, rfl, q⟩
end
noncomputable def pq (t b : Int) : PyData := .tuple [.int t, .int b]
theorem rep_pq {K : PySem.W.Frag} {H : Hp} {a : Addr} {t b : Int} (h : SqT K H a [.int t, .int b]) : RepD K H (pq t b) (.ref a) := by
 simp only [pq, RepD, RepDs]
 exact ⟨a, _, rfl, h, _, _, rfl, rfl, _, _, rfl, rfl, rfl⟩
theorem eqv_pq (t b t' b' : Int) : PyData.eqv (pq t b) (pq t' b') = decide (t = t' /\ b = b') := by
 simp [pq, PyData.eqv, PyData.eqvAll, Bool.beq_eq_decide_eq]
theorem pq_depth (t b : Int) : (pq t b).depth <= 64 := by
 simp [pq, PyData.depth, PyData.depthAll]
section
variable {P : Program} {w : World} {K : PySem.W.Frag} {mg : Str -> Option Value} {base : Heap}
end
end L2
namespace Tc
open PySem L2
noncomputable abbrev fq (r : Rat) : List V := [.int r.num, .int (r.den : Nat)]
noncomputable def FrV (H : Hp) (v : V) (r : Rat) : Prop := ∃ a, v = .ref a /\ H a = some (.tup (fq r))
theorem FrV.same {H H' : Hp} {v : V} {r : Rat} (h : FrV H v r) (s : Same H H') : FrV H' v r := let ⟨a, e, h⟩ := h; ⟨a, e, s _ _ h⟩
theorem FrV.upd {H : Hp} {v : V} {r : Rat} {p : Addr} {o : HO} (h : FrV H v r) (n : H p = none) : FrV (upd H p o) v r := h.same (Same.upd n)
theorem FrV.new {H : Hp} {r : Rat} {p : Addr} : FrV (L2.upd H p (.tup (fq r))) (.ref p) r := ⟨p, rfl, upd_same⟩
theorem FrV.newOf {H : Hp} {r : Rat} {p : Addr} {t b : Int} (h1 : t = r.num) (h2 : b = (r.den : Int)) : FrV (L2.upd H p (.tup [.int t, .int b])) (.ref p) r := by
 subst h1 h2; exact FrV.new
theorem FrV.rep {K : PySem.W.Frag} {H : Hp} {v : V} {r : Rat} (h : FrV H v r) : RepD K H (pq r.num r.den) v := by
 obtain ⟨a, rfl, h⟩ := h
 exact rep_pq (SqT.of h)
theorem fq_dec (r q : Rat) : decide (r.num = q.num /\ (r.den : Int) = q.den) = decide (r = q) := by
 rw [decide_eq_decide]
 constructor
 ·rintro ⟨h1, h2⟩; exact fq_inj h1 h2
 ·rintro rfl; exact ⟨rfl, rfl⟩
structure Bd (n : Nat) (r : Rat) : Prop where
 num : r.num.natAbs < 2 ^ n
 den : r.den < 2 ^ n
theorem pow_le {m n : Nat} (h : m <= n) : (2 : Nat) ^ m <= 2 ^ n := Nat.pow_le_pow_right (by decide) h
theorem Bd.mono {m n : Nat} {r : Rat} (b : Bd m r) (h : m <= n) : Bd n r := ⟨Nat.lt_of_lt_of_le b.num (pow_le h), Nat.lt_of_lt_of_le b.den (pow_le h)⟩
theorem Bd.neg {n : Nat} {r : Rat} (b : Bd n r) : Bd n (-r) := ⟨by rw [Rat.neg_num, Int.natAbs_neg]; exact b.num, by rw [Rat.neg_den]; exact b.den⟩
theorem natAbs_mul_lt {a b : Int} {m n : Nat} (ha : a.natAbs < 2 ^ m) (hb : b.natAbs < 2 ^ n) : (a * b).natAbs < 2 ^ (m + n) := by
 rw [Int.natAbs_mul, Nat.pow_add]
 exact Nat.mul_lt_mul'' ha hb
theorem natAbs_add_lt {a b : Int} {n : Nat} (ha : a.natAbs < 2 ^ n) (hb : b.natAbs < 2 ^ n) : (a + b).natAbs < 2 ^ (n + 1) := by
 rw [Nat.pow_succ]; lia
theorem fq_num_le (t b : Int) (hb : b ≠ 0) : (Rat.divInt t b).num.natAbs <= t.natAbs := by
 rw [<- dv_num hb]
 have h := Int.fdiv_mul_cancel (dv_dvd_left t b)
 have h2 : ((t.fdiv (dv t b)) * dv t b).natAbs = t.natAbs := by rw [h]
 rw [Int.natAbs_mul] at h2
 have h3 : 0 < (dv t b).natAbs := by have := dv_ne (t := t) hb; lia
 rw [<- h2]
 exact Nat.le_mul_of_pos_right _ h3
theorem fq_den_le (t b : Int) (hb : b ≠ 0) : (Rat.divInt t b).den <= b.natAbs := by
 have e := dv_den (t := t) hb
 have h := Int.fdiv_mul_cancel (dv_dvd_right t b)
 have h2 : ((b.fdiv (dv t b)) * dv t b).natAbs = b.natAbs := by rw [h]
 rw [Int.natAbs_mul, e] at h2
 have h3 : 0 < (dv t b).natAbs := by have := dv_ne (t := t) hb; lia
 have : (((Rat.divInt t b).den : Int)).natAbs <= b.natAbs := by rw [<- h2]; exact Nat.le_mul_of_pos_right _ h3
 lia
theorem Bd.divInt {n : Nat} {t b : Int} (hb : b ≠ 0) (h1 : t.natAbs < 2 ^ n) (h2 : b.natAbs < 2 ^ n) : Bd n (Rat.divInt t b) := ⟨Nat.lt_of_le_of_lt (fq_num_le t b hb) h1, Nat.lt_of_le_of_lt (fq_den_le t b hb) h2⟩
theorem add_eq (r q : Rat) : r + q = Rat.divInt (r.num * q.den + q.num * r.den) (r.den * q.den) := by
 have h := Rat.divInt_add_divInt r.num q.num (d₁ := r.den) (d₂ := q.den) (by have := rat_den_pos r; lia) (by have := rat_den_pos q; lia)
 rw [Rat.num_divInt_den, Rat.num_divInt_den] at h
 exact h
theorem Bd.add {m n : Nat} {r q : Rat} (b1 : Bd m r) (b2 : Bd n q) : Bd (m + n + 1) (r + q) := by
 rw [add_eq]
 have d1 := rat_den_pos r
 have d2 := rat_den_pos q
 have n1 : ((r.den : Int)).natAbs < 2 ^ m := b1.den
 have n2 : ((q.den : Int)).natAbs < 2 ^ n := b2.den
 refine Bd.divInt (Int.mul_ne_zero (by lia) (by lia)) ?_ ?_
 ·refine natAbs_add_lt (natAbs_mul_lt b1.num n2) ?_
  have := natAbs_mul_lt b2.num n1
  rw [Nat.add_comm]; exact this
 ·exact Nat.lt_of_lt_of_le (natAbs_mul_lt n1 n2) (pow_le (by lia))
theorem Bd.divR {n : Nat} {r : Rat} (b : Bd n r) (h : n <= 8999) {i d : Int} (hd : d ≠ 0) (hl : d.natAbs <= r.den) : CDivB i d :=
 divB_of hd (Nat.lt_of_le_of_lt hl (Nat.lt_of_lt_of_le b.den (pow_le (by lia))))
theorem paired_get {α β : Type} {F : α -> β -> Prop} : ∀ {xs : List α} {ys : List β} {i : Nat} {x : α}, Paired F xs ys -> xs[i]? = some x -> ∃ y, ys[i]? = some y /\ F x y
 | _, _, _, _, .nil, e => by simp at e
 | _, _, 0, _, .cons r _, e => by simp at e; subst e; exact ⟨_, rfl, r⟩
 | _, _, i + 1, x, .cons _ t, e => by
  obtain ⟨u, h1, h2⟩ := paired_get (i := i) (x := x) t (by simpa using e)
  exact ⟨u, by simpa using h1, h2⟩
noncomputable def spWhole : Sp := fun vs H Q _ => ∃ v n, vs = [v] /\ tyS H v = some n /\ Q (.bl (n == "int")) H
noncomputable def spCd : Sp := fun vs H Q _ => ∃ t b : Int, vs = [.int t, .int b] /\ b ≠ 0 /\ Q (.int (dv t b)) H
noncomputable def sp2 (n : Nat) (f : Rat -> Rat -> Rat) : Sp := fun vs H Q _ => ∃ x y r q, vs = [x, y] /\ FrV H x r /\ FrV H y q /\ Bd n r /\ Bd n q /\ ∀ v H', Same H H' -> FrV H' v (f r q) -> Q v H'
noncomputable abbrev spPlus : Sp := sp2 8000 (· + ·)
noncomputable abbrev spMinus : Sp := sp2 8000 (· - ·)
noncomputable abbrev spTimes : Sp := fun vs H Q _ => ∃ x y a b t1 b1 t2 b2, vs = [x, y] /\ x = .ref a /\ H a = some (.tup [.int t1, .int b1]) /\ y = .ref b /\ H b = some (.tup [.int t2, .int b2]) /\ 0 < b1 /\ b2 ≠ 0 /\ Int.gcd t1 b1 = 1 /\ Int.gcd t2 b2 = 1 /\
 (t1.natAbs < 2 ^ 8000 /\ b1.natAbs < 2 ^ 8000 /\ t2.natAbs < 2 ^ 8000 /\ b2.natAbs < 2 ^ 8000) /\ ∀ v H', Same H H' -> FrV H' v (Rat.divInt (t1 * t2) (b1 * b2)) -> Q v H'
theorem spTimes.of {vs : List V} {H : Hp} {Q : VK} {E : XK} {x y : V} {r q : Rat} (e : vs = [x, y]) (h1 : FrV H x r) (h2 : FrV H y q) (b1 : Bd 8000 r) (b2 : Bd 8000 q) (k : ∀ v H', Same H H' -> FrV H' v (r * q) -> Q v H') : spTimes vs H Q E := by
 obtain ⟨a, rfl, ha⟩ := h1
 obtain ⟨b, rfl, hb⟩ := h2
 have d1 := rat_den_pos r
 have d2 := rat_den_pos q
 exact ⟨_, _, a, b, r.num, r.den, q.num, q.den, e, rfl, ha, rfl, hb, d1, by lia, rat_gcd r, rat_gcd q, ⟨b1.num, b1.den, b2.num, b2.den⟩, fun v H' s h => k v H' s (by rw [<- mul_eq]; exact h)⟩
noncomputable def spUnder : Sp := fun vs H Q _ => ∃ x y r q, vs = [x, y] /\ FrV H x r /\ FrV H y q /\ Bd 8000 r /\ Bd 8000 q /\ Q (.bl (decide (r < q))) H
noncomputable def spCell (K : PySem.W.Frag) : Sp := fun vs H Q _ => ∃ (a : Addr) (ns : List Int) (k : Int), vs = [.ref a, .int k] /\ SqL K H a (ns.map V.int) /\ 0 <= k /\ ∀ c : Int, Q (.int c) H
noncomputable def spLaw (K : PySem.W.Frag) : Sp := fun vs H Q _ => ∃ (a : Addr) (ns : List Int), vs = [.ref a] /\ SqL K H a (ns.map V.int) /\ ns.length <= 63 /\ ∀ H', Q (.bl true) H'
theorem sz {n : Nat} (h : n <= 1000) : n <= sizeLine := Nat.le_of_lt (small1000 h)
theorem map_at {ns : List Int} {k : Int} (h0 : 0 <= k) (h1 : k < (ns.map V.int).length) : ∃ c : Int, atI (ns.map V.int) k = some (V.int c) := by
 obtain ⟨j, rfl⟩ := Int.eq_ofNat_of_zero_le h0
 have hj : j < ns.length := by rw [List.length_map] at h1; lia
 refine ⟨ns[j], atI_nat ?_⟩
 rw [List.getElem?_map, List.getElem?_eq_getElem hj]
 rfl
theorem fmod_lt {c m : Int} (h : 0 < m) : 0 <= c.fmod m /\ c.fmod m < m := fmod_pos h
theorem sub_int (n : String) : subS n "int" = (n == "int" || n == "bool") := by simp [subS]
theorem sub_bool (n : String) : subS n "bool" = (n == "bool") := by simp [subS]
theorem dec_true {p : Prop} [Decidable p] {A B : Prop} (hp : p) (h : A) : if decide p = true then A else B := by
 rw [decide_eq_true hp]; exact iteT h
theorem dec_false {p : Prop} [Decidable p] {A B : Prop} (hp : ¬ p) (h : B) : if decide p = true then A else B := by
 rw [decide_eq_false hp]; exact iteF h
end Tc
namespace L2
open PySem PySem.Spec PyProof.Rows
section
variable {X : Cx}
end
section
variable {X : Cx} {K : PySem.W.Frag}
theorem ix_tup' (h : X.K = K) : IxR X (rIxT K) := by subst h; exact ix_tup
theorem ix_list' (h : X.K = K) : IxR X (rIxL K) := by subst h; exact ix_list
theorem op_in_seq' (h : X.K = K) : OpR X (compareOp .In) (rIn K false) := by subst h; exact op_in_seq
theorem op_notIn_seq' (h : X.K = K) : OpR X (compareOp .NotIn) (rIn K true) := by subst h; exact op_notIn_seq
theorem op_eqD' {k : Nat} (h : X.K = K) (hr : Room k X.A) : OpR X (compareOp .Eq) (rEqD K) := by subst h; exact op_eqD hr
theorem op_neD' {k : Nat} (h : X.K = K) (hr : Room k X.A) : OpR X (compareOp .NotEq) (rNeD K) := by subst h; exact op_neD hr
theorem call_len' (h : X.K = K) : CallR X (.builtin "len") (fun xs H Q => ∃ x n, xs = [x] /\ LenV K x H n /\ Q (.int n) H) := by subst h; exact call_len
theorem call_isi' (h : X.K = K) : CallR X (.builtin "isinstance") (fun xs H Q => ∃ x n t b, xs = [x, .ty n] /\ TyOf K H x t /\ PySem.W.kitOne K t (.type n) = some b /\ Q (.bl b) H) := by subst h; exact call_isi
theorem call_list_of' (h : X.K = K) : CallR X (.type "list") (fun xs H Q => ∃ p ys, xs = [.ref p] /\ (SqL K H p ys \/ SqT K H p ys) /\ ∀ l, H l = none -> Q (.ref l) (upd H l (.lst ys))) := by subst h; exact call_list_of
theorem pi_list' {tg l : Expr} {tl : TE} (h : X.K = K) (hl : PE X l tl) : PI X tg l (iList K tl) := by subst h; exact pi_list hl
end
theorem Same.updD {H H' : Hp} {D : Addr} {o : HO} (s : Same H H') (h : H D = none) : Same H (L2.upd H' D o) := fun b u e => by
 rw [L2.upd_ne (ne_of_none e h)]; exact s b u e
end L2
namespace L2
open PySem PySem.Spec PyProof.Rows
section
variable {X : Cx} {K : PySem.W.Frag}
theorem pe_bm' {o e : Expr} {es : List Expr} {to : TE} {t : TA} {name : Str} {apos cpos : Pos} {T id : String} {r : V -> List V -> Hp -> VK -> Prop} (h : X.K = K) (pa : PlainAttrs T) (slot : Slot T name id) (hty : typeOf (.builtin id) = pure (.type "method_descriptor"))
  (hm : MtR X id r) (ho : PE X o to) (ha : PA X (e :: es) t) (hbase : attributeBase o name X.env (eval o X.env) = eval o X.env := by rfl)
  (hfew : ((backTo cpos (starEach (e :: es) X.env)).all (fun x => !x.1) && (backToKw cpos (keywordEach [] X.env)).all (fun x => x.1.isSome) && decide ((e :: es).length + ([] : List Keyword).length + (if ([] : List Keyword).isEmpty then 0 else 1) < 30)) = true := by rfl)
  (hline : (apos.endLine == cpos.line) = true := by rfl) (hs : starEach (e :: es) X.env = (false, eval e X.env) :: starEach es X.env := by rfl) (hplain : (backTo cpos (starEach es X.env)).any (·.1) = false := by rfl) :
  PE X (.Call (.Attribute o name apos) (e :: es) [] cpos) (tBM K T r to t) := by subst h; exact pe_bm pa slot hty hm ho ha hbase hfew hline hs hplain
end
end L2
namespace L2
open PySem PySem.Spec PyProof.Rows
section
variable {X : Cx} {K : PySem.W.Frag} {k : Nat}
end
end L2
namespace Tc
open PySem L2
noncomputable abbrev one1 (c : Nat) : Str := ⟨#[c]⟩
noncomputable abbrev LT : Str := "abcdefghijklmnopqrstuvwxyz"
theorem str_at {zs : List Str} {k : Int} (h0 : 0 <= k) (h1 : k < zs.length) : ∃ z, z ∈ zs /\ atI (zs.map V.str) k = some (V.str z) := by
 obtain ⟨j, rfl⟩ := Int.eq_ofNat_of_zero_le h0
 have hj : j < zs.length := by lia
 refine ⟨zs[j], List.getElem_mem hj, atI_nat ?_⟩
 rw [List.getElem?_map, List.getElem?_eq_getElem hj]; rfl
theorem ddv {i d : Int} (h1 : 0 < d) (h2 : d <= 1000000) : CDivB i d := divB_of (by lia) (Nat.lt_of_le_of_lt (m := 1000000) (by lia) (by decide))
end Tc
namespace L2
open PySem PySem.Spec PyProof.Rows
noncomputable def RawD (h : Heap) (d : Addr) (es : Array DictEntry) (ep : Nat) : Prop := ∃ o, h.get? d = some o /\ o.ExactDict /\ o.data = .dict es ep
theorem RawD.at {h h' : Heap} {d : Addr} {es : Array DictEntry} {ep : Nat} (x : RawD h d es ep) (e : ∀ o, h.get? d = some o -> h'.get? d = some o) : RawD h' d es ep := let ⟨o, q, r⟩ := x; ⟨o, e o q, r⟩
theorem RawD.ty {s : Shared} {d : Addr} {es : Array DictEntry} {ep : Nat} (x : RawD s.heap d es ep) : s.TypeIs (.ref d) "dict" := let ⟨o, q, c, _⟩ := x; ⟨o, q, c.1⟩
section
variable {prog : Program} {w : World} {A : Around} {E : Value -> Shared -> Prop} {s : Shared} {it d vw : Addr} {i ep : Nat} {es : Array DictEntry} {ok ov : Value}
end
end L2
namespace L2
open PySem PySem.Spec PyProof.Rows
noncomputable def isDk : HO -> Bool
 | .dK _ => true
 | .dT _ => true
 | _ => false
section
variable {X : Cx} {pins : List (Addr × Obj)} {σ : St} {H : Hp} {s : Shared} {d : Addr} {u : HO} {o : Obj}
noncomputable abbrev PsRel (ps : List (V × V)) (es : List DictEntry) : Prop := Paired (fun p e => RelV p.1 e.key /\ RelV p.2 e.val) ps es
noncomputable def Pss (H : Hp) : HO -> List (V × V) -> Prop
 | .dK kvs, ps => ps = kvs.map fun kv => (kV kv.1, kv.2)
 | .dT kvs, ps => Paired (fun kv p => ∃ b, p = (V.ref b, kv.2) /\ H b = some (.tup (kv.1.map kV))) kvs ps
 | _, _ => False
theorem ps_of_pairs {P : Program} {w : World} : ∀ {kvs : List (Key × V)} {vs : List (Key × Value)} {es : List DictEntry}, KV kvs vs -> Pairs (mixKind P w) es vs -> PsRel (kvs.map fun kv => (kV kv.1, kv.2)) es
 | [], [], _, _, p => by cases p; exact .nil
 | [], _ :: _, _, r, _ => nomatch r
 | _ :: _, [], _, r, _ => nomatch r
 | kv :: kvs, v :: vs, es, .cons h r, p => by
  cases p with
  | cons a b c =>
   refine .cons ⟨?_, ?_⟩ (ps_of_pairs r c)
   ·have a := a
    rw [<- h.1] at a
    rcases keyIs_shape a with ⟨i, t, e1, e2⟩ | ⟨x, t, e1, e2⟩
    ·show RelV (kV kv.1) _; rw [e1, e2]; exact ⟨t, rfl⟩
    ·show RelV (kV kv.1) _; rw [e1, e2]; exact ⟨t, rfl⟩
   ·rw [b]; exact h.2
theorem ps_of_keys {P : Program} {w : World} {H : Hp} : ∀ {kvs : List (List Key × V)} {xs : List (List Key × Addr × Value)}, KT H kvs xs -> ∃ ps, Paired (fun kv p => ∃ b, p = (V.ref b, kv.2) /\ H b = some (.tup (kv.1.map kV))) kvs ps /\ PsRel ps (xs.map (entryOfKey (tupleKind (mixKind P w))))
 | _, _, .nil => ⟨[], .nil, .nil⟩
 | kv :: _, x :: _, .cons h r => by
  obtain ⟨ps, h1, h2⟩ := ps_of_keys (P := P) (w := w) r
  exact ⟨(.ref x.2.1, kv.2) :: ps, .cons ⟨x.2.1, rfl, h.2.1⟩ h1, .cons ⟨rfl, h.2.2⟩ h2⟩
theorem Inv.raw (I : Inv X pins σ H s) (hd : H d = some u) (hu : isDk u = true) : ∃ o es ep ps, s.heap.get? d = some o /\ o.ExactDict /\ o.data = .dict es ep /\ (d == sysModules) = false /\ Pss H u ps /\ PsRel ps es.toList := by
 have ok := I.hok d u hd
 cases u with
 | dK kvs =>
  obtain ⟨_, hs, vs, kv, o, es, ep, g, ex, dat, _, pr, _⟩ := ok
  exact ⟨o, es, ep, _, g, ex, dat, hs, rfl, ps_of_pairs kv pr⟩
 | dT kvs =>
  obtain ⟨_, hs, xs, kt, o, es, ep, g, ex, dat, he, _⟩ := ok
  obtain ⟨ps, h1, h2⟩ := ps_of_keys (P := X.prog) (w := X.w) kt
  exact ⟨o, es, ep, ps, g, ex, dat, hs, h1, by rw [he]; exact h2⟩
 | _ => cases hu
theorem pair_at {α β : Type} {F : α -> β -> Prop} : ∀ {xs : List α} {ys : List β} {i : Nat} {x : α}, Paired F xs ys -> xs[i]? = some x -> ∃ y, ys[i]? = some y /\ F x y
 | _, _, _, _, .nil, e => by simp at e
 | _, _, 0, _, .cons r _, e => by simp at e; subst e; exact ⟨_, rfl, r⟩
 | _, _, i + 1, x, .cons _ t, e => by
  obtain ⟨u, h1, h2⟩ := pair_at (i := i) (x := x) t (by simpa using e)
  exact ⟨u, by simpa using h1, h2⟩
end
end L2
namespace L2
open PySem PySem.Spec PyProof.Rows
section
variable {prog : Program} {w : World} {A : Around} {E : Value -> Shared -> Prop} {s : Shared} {it d vw : Addr} {i ep : Nat} {es : Array DictEntry}
end
section
variable {X : Cx} {K : PySem.W.Frag}
theorem dk_len {H : Hp} {u : HO} {ps : List (V × V)} (h : Pss H u ps) : isDk u = true -> ∀ {X : Cx} {pins : List (Addr × Obj)} {σ : St} {s : Shared} {d : Addr}, Inv X pins σ H s -> H d = some u -> ps.length <= sizeLine := by
 intro hu X pins σ s d I hd
 have ok := I.hok d u hd
 cases u with
 | dK kvs => obtain ⟨z, _⟩ := ok; have h : ps = _ := h; rw [h, List.length_map]; exact z
 | dT kvs => obtain ⟨z, _⟩ := ok; have h : Paired _ kvs ps := h; rw [<- h.length]; exact z
 | _ => cases hu
end
end L2
namespace L2
open PySem PySem.Spec PyProof.Rows
section
variable {prog : Program} {w : World} {A : Around} {E : Value -> Shared -> Prop} {s : Shared} {it d vw : Addr} {i ep : Nat} {es : Array DictEntry}
theorem raw_kiter {Q : Value -> Shared -> Prop} (hd : (d == sysModules) = false) (hm : RawD s.heap d es ep)
  (q : Q (.ref s.heap.objs.size) { s with heap := s.heap.push { cls := .type "dict_keyiterator", data := .fields #[.ref d, .int 0 0, .int es.size 0, .int ep 0] } }) : wpAny (model prog w) A (pyIter (.ref d)) Q E s := by
 obtain ⟨o2, g2, c2, f2⟩ := id hm
 refine wpAny_pyIter_slot hm.ty F.slot_dict_iter (wpAny_call_entry F.slot_dict_iter hm.ty F.entry_dict_iter (?_) (F.args_dict_iter_1 (_)))
 unfold Builtin.«dict.__iter__» Builtin.Dict.dictSlotNone
 refine wpAny_bind (wpAny_bind (wpAny_notOrdered_dict hm.ty ?_)); show wpAny _ _ (pure (Value.ref d)) _ _ (s)
 refine wpAny_pure ?_; show wpAny _ _ (Builtin.Dict.showsAll d >>= _) _ _ s
 unfold Builtin.Dict.showsAll
 rw [if_neg (show ¬ ((d == sysModules) = true) by rw [hd]; simp)]
 refine wpAny_bind (wpAny_pure (wpAny_bind (wpAny_dictEntries g2 f2 (wpAny_bind (wpAny_dictEpoch g2 f2 (wpAny_bind (wpAny_newObj_type (wpAny_pure ⟨_, rfl, "dict_keyiterator", _, ⟨_, Heap.get?_push_size (_) rfl, rfl⟩, F.slot_dict_keyiterator_next.lookup, (?_)⟩))))))))
 simpa [rawInt] using q
theorem raw_knext {Q : Option Value -> Shared -> Prop} (hit : s.heap.IsKeyIter it d i es.size ep) (hm : RawD s.heap d es ep) (hi : i < es.size)
  (q : ∀ h', h'.IsKeyIter it d (i + 1) es.size ep -> Heap.SameBut it s.heap h' -> Q (some es[i].key) { s with heap := h' }) : wpAny (model prog w) A (pyNext (.ref it)) Q E s := by
 obtain ⟨o, ho, hc, hd⟩ := id hit
 obtain ⟨o2, g2, c2, f2⟩ := id hm
 have hown : (Builtin.Dict_items.ownsTuple "dict_keyiterator") = false := by decide
 unfold pyNext
 refine wpAny_bind (wpAny_attempt (wpAny_callSpecial?_slot (name := Str.ofString "__next__") hit.typeIs F.slot_dict_keyiterator_next (wpAny_call_entry F.slot_dict_keyiterator_next hit.typeIs F.entry_dict_keyiterator_next ?_ (F.args_dict_keyiterator_next_1 _))))
 refine wpAny_bind (wpAny_pure (wpAny_bind (wpAny_bind ?_)))
 first | refine wpAny_bind (wpAny_typeNameOfWhole_keyiter hit.typeIs (wpAny_pure (wpAny_bind (wpAny_fieldsOf ho hd ?_)))) | refine wpAny_bind (wpAny_typeNameOf_keyiter hit.typeIs (wpAny_pure (wpAny_bind (wpAny_fieldsOf ho hd ?_))))
 simp only [hown, Bool.false_eq_true, if_false]
 show wpAny _ _ (if (Value.ref d == .none) = true then _ else _) _ _ _
 rw [if_neg (show ¬ ((Value.ref d == .none) = true) from Bool.false_ne_true)]
 refine wpAny_bind (wpAny_pure (wpAny_bind (wpAny_dictEntries g2 f2 ?_)))
 rw [if_neg (show ¬ _ by simp)]
 refine wpAny_bind (wpAny_pure (wpAny_bind (wpAny_dictEpoch g2 f2 ?_)))
 rw [if_neg (show ¬ _ by simp)]
 refine wpAny_pure ?_
 simp only [show ¬ ((i : Int) < 0) by lia, if_false, Int.toNat_natCast, Array.getElem?_eq_getElem hi]
 refine wpAny_bind ?_
 first | refine wpAny_bind (wpAny_typeNameOfWhole_keyiter hit.typeIs (wpAny_pure (wpAny_bind (wpAny_isOneOf_keyiter hit.typeIs ?_)))) | refine wpAny_bind (wpAny_typeNameOf_keyiter hit.typeIs (wpAny_pure (wpAny_bind (wpAny_isOneOf_keyiter hit.typeIs ?_))))
 show wpAny _ _ (setField (.ref it) 1 (rawInt ((i : Int) + 1)) >>= _) _ _ (s)
 have st : (s.heap.update it (Obj.mapFields (·.setIfInBounds 1 (rawInt ((i : Int) + 1))))).IsKeyIter it d (i + 1) es.size ep := ⟨_, Heap.get?_update_self _ ho (Obj.isFreed_of_fields (Obj.data_mapFields hd _)), (Obj.cls_mapFields ..).trans hc, by rw [Obj.data_mapFields hd]; simp [rawInt]⟩
 refine wpAny_bind (wpAny_setField ho hd (by simp) (wpAny_bind (wpAny_holding (wpAny_bind (wpAny_isOneOf_keyiter (s := { s with heap := s.heap.update it (Obj.mapFields (·.setIfInBounds 1 (rawInt ((i : Int) + 1)))) }) st.typeIs ?_)))))
 exact wpAny_pure (wpAny_pure ⟨_, rfl, wpAny_pure (q _ st (Heap.SameBut.update ..))⟩)
theorem raw_kend {Q : Option Value -> Shared -> Prop} (hh : A.handled = none) (hit : s.heap.IsKeyIter it d i es.size ep) (hm : RawD s.heap d es ep) (hi : es.size <= i)
  (q : ∀ h', Heap.ExtBut it s.heap h' -> Q none { s with heap := h' }) : wpAny (model prog w) A (pyNext (.ref it)) Q E s := by
 obtain ⟨o, ho, hc, hd⟩ := id hit
 obtain ⟨o2, g2, c2, f2⟩ := id hm
 have hown : (Builtin.Dict_items.ownsTuple "dict_keyiterator") = false := by decide
 unfold pyNext
 refine wpAny_bind (wpAny_attempt (wpAny_callSpecial?_slot (name := Str.ofString "__next__") hit.typeIs F.slot_dict_keyiterator_next (wpAny_call_entry F.slot_dict_keyiterator_next hit.typeIs F.entry_dict_keyiterator_next ?_ (F.args_dict_keyiterator_next_1 _))))
 refine wpAny_bind (wpAny_pure (wpAny_bind (wpAny_bind ?_)))
 first | refine wpAny_bind (wpAny_typeNameOfWhole_keyiter hit.typeIs (wpAny_pure (wpAny_bind (wpAny_fieldsOf ho hd ?_)))) | refine wpAny_bind (wpAny_typeNameOf_keyiter hit.typeIs (wpAny_pure (wpAny_bind (wpAny_fieldsOf ho hd ?_))))
 simp only [hown, Bool.false_eq_true, if_false]
 show wpAny _ _ (if (Value.ref d == .none) = true then _ else _) _ _ _
 rw [if_neg (show ¬ ((Value.ref d == .none) = true) from Bool.false_ne_true)]
 refine wpAny_bind (wpAny_pure (wpAny_bind (wpAny_dictEntries g2 f2 ?_)))
 rw [if_neg (show ¬ _ by simp)]
 refine wpAny_bind (wpAny_pure (wpAny_bind (wpAny_dictEpoch g2 f2 ?_)))
 rw [if_neg (show ¬ _ by simp)]
 refine wpAny_pure ?_
 simp only [show ¬ ((i : Int) < 0) by lia, if_false, Int.toNat_natCast, Array.getElem?_eq_none hi]
 refine wpAny_bind ?_
 first | refine wpAny_bind (wpAny_typeNameOfWhole_keyiter hit.typeIs (wpAny_pure (?_))) | refine wpAny_bind (wpAny_typeNameOf_keyiter hit.typeIs (wpAny_pure (?_)))
 show wpAny _ _ (setField (.ref it) 0 .none >>= _) _ _ (s)
 refine wpAny_bind (wpAny_setField ho hd (by simp) (show wpAny _ _ (newExc (.type "StopIteration") [] >>= _) _ _ _ from wpAny_bind ?_))
 simp only [newExc, newTuple]
 refine wpAny_bind (wpAny_newObj_type (wpAny_bind (m := firstArgMember _ _) (wpAny_of_eq (a := Value.none) (by first | rfl | (simp only [firstArgMember]; rfl)) (wpAny_newObj_type ?_ (by size_fits)))) (by size_fits))
 simp only [raiseNew]
 refine wpAny_bind (wpAny_handled ?_)
 rw [show (Around.in1 A).handled = none from hh]
 refine wpAny_bind (wpAny_pure (wpAny_throw (?_)))
 refine wpAny_bind (wpAny_isInstance (b := true) (T := "StopIteration") ⟨_, Heap.get?_push_size _ rfl, rfl⟩ isSubtype_stop (?_))
 exact wpAny_pure (q _ (((Heap.SameBut.update ..).extBut.push _).push _))
end
section
variable {X : Cx}
theorem call_dictK : CallR X (.type "dict") (fun xs H Q => ∃ a kvs, xs = [V.ref a] /\ H a = some (.dK kvs) /\ ∀ p, H p = none -> Q (.ref p) (upd H p (.dK kvs))) := by
 intro pins s σ H xs us Q I r h
 obtain ⟨a, kvs, rfl, ha, q⟩ := h
 obtain ⟨u, rfl, ru⟩ := vals1 r
 cases ru
 obtain ⟨z, y, vs, kv, D⟩ := dk_of I.hok ha
 have hl : vs.length = kvs.length := kv.length.symm
 refine kt_call_dict y D (by lia) fun h' hm sb => ?_
 refine ⟨.ref _, _, I.laid (a := s.heap.objs.size) (o := .dK kvs) (t' := s.toks) (fun b ob e => ?_) (Nat.le_refl _) ⟨z, ?_, vs, kv, hm⟩, rfl, q _ I.fresh⟩
 ·exact sb.extBut b ob (Nat.ne_of_lt (Heap.lt_size e)) (Heap.get?_push_of_some _ e)
 ·exact beq_eq_false_iff_ne.mpr (Nat.ne_of_gt I.big)
end
end L2
namespace Tc
section
variable {α : Type} [DecidableEq α]
noncomputable def IsM (P k : Nat) (r : Rat) : Prop := 0 <= r /\ ∃ m : Nat, m <= k * P /\ r * (P : Rat) = (m : Rat)
theorem natne {P : Nat} (h : 0 < P) : (P : Rat) ≠ 0 := by
 intro e
 have : (P : Rat) = ((0 : Nat) : Rat) := e
 have := Rat.natCast_inj.mp this
 lia
theorem IsM.eq {P k : Nat} {r : Rat} (hP : 0 < P) (h : IsM P k r) : ∃ m : Nat, m <= k * P /\ r = Rat.divInt m P := by
 obtain ⟨_, m, hm, e⟩ := h
 refine ⟨m, hm, ?_⟩
 rw [Rat.divInt_eq_div, Rat.intCast_natCast, Rat.intCast_natCast]
 have := natne hP
 grind
theorem IsM.zero (P k : Nat) : IsM P k 0 := ⟨by decide, 0, Nat.zero_le _, by rw [Rat.zero_mul]; rfl⟩
theorem IsM.one (P : Nat) : IsM P 1 1 := ⟨by decide, P, by lia, by rw [Rat.one_mul]⟩
theorem IsM.add {P k j : Nat} {r q : Rat} (h : IsM P k r) (g : IsM P j q) : IsM P (k + j) (r + q) := by
 obtain ⟨h0, m, hm, e⟩ := h
 obtain ⟨g0, n, hn, f⟩ := g
 refine ⟨Rat.add_nonneg h0 g0, m + n, by rw [Nat.add_mul]; lia, ?_⟩
 rw [Rat.add_mul, e, f, Rat.natCast_add]
theorem mul_den (t : Rat) : t * (t.den : Rat) = (t.num : Rat) := by
 have h := Rat.num_divInt_den t
 rw [Rat.divInt_eq_div, Rat.intCast_natCast] at h
 have := natne t.den_pos
 grind
theorem parts {t : Rat} (h0 : 0 <= t) (h1 : t <= 1) : ∃ u w : Nat, t.den = u + w /\ t * (t.den : Rat) = (u : Rat) /\ (1 - t) * (t.den : Rat) = (w : Rat) := by
 have n0 := Rat.num_nonneg.mpr h0
 have n1 := (Rat.le_iff t 1).mp h1
 have n1 : t.num <= t.den := by simpa using n1
 obtain ⟨u, hu⟩ := Int.eq_ofNat_of_zero_le n0
 have hw : t.den = u + (t.den - u) := by lia
 have e := mul_den t
 rw [hu, Rat.intCast_natCast] at e
 refine ⟨u, t.den - u, hw, e, ?_⟩
 have e2 : (t.den : Rat) = (u : Rat) + ((t.den - u : Nat) : Rat) := by rw [<- Rat.natCast_add, <- hw]
 grind
theorem IsM.mulL {P k : Nat} {a t : Rat} (h : IsM P k a) (h0 : 0 <= t) (h1 : t <= 1) : IsM (P * t.den) k (a * t) := by
 obtain ⟨a0, m, hm, e⟩ := h
 obtain ⟨u, w, hd, eu, ew⟩ := parts h0 h1
 refine ⟨Rat.mul_nonneg a0 h0, m * u, ?_, ?_⟩
 ·rw [hd, <- Nat.mul_assoc]
  exact Nat.mul_le_mul hm (by lia)
 ·rw [Rat.natCast_mul, Rat.natCast_mul, <- e, <- eu]; grind
theorem sub_nonneg {t : Rat} (h1 : t <= 1) : 0 <= 1 - t := by grind
theorem IsM.mix {P k : Nat} {a b t : Rat} (h : IsM P k a) (g : IsM P k b) (h0 : 0 <= t) (h1 : t <= 1) : IsM (P * t.den) k (a * (1 - t) + b * t) := by
 obtain ⟨a0, m, hm, e⟩ := h
 obtain ⟨b0, n, hn, f⟩ := g
 obtain ⟨u, w, hd, eu, ew⟩ := parts h0 h1
 refine ⟨Rat.add_nonneg (Rat.mul_nonneg a0 (sub_nonneg h1)) (Rat.mul_nonneg b0 h0), m * w + n * u, ?_, ?_⟩
 ·rw [hd, <- Nat.mul_assoc, Nat.mul_add]
  have := Nat.mul_le_mul_right w hm
  have := Nat.mul_le_mul_right u hn
  lia
 ·rw [Rat.natCast_add, Rat.natCast_mul, Rat.natCast_mul, Rat.natCast_mul, <- e, <- f, <- eu, <- ew]; grind
theorem IsM.mulR {P k : Nat} {a t : Rat} (h : IsM P k a) (h0 : 0 <= t) (h1 : t <= 1) : IsM (P * t.den) k (a * (1 - t)) := by
 have := h.mix (IsM.zero P k) h0 h1
 rw [Rat.zero_mul, Rat.add_zero] at this
 exact this
theorem IsM.up {P k : Nat} {a : Rat} (h : IsM P k a) (d : Nat) : IsM (P * d) k a := by
 obtain ⟨a0, m, hm, e⟩ := h
 refine ⟨a0, m * d, by rw [<- Nat.mul_assoc]; exact Nat.mul_le_mul_right d hm, ?_⟩
 rw [Rat.natCast_mul, Rat.natCast_mul, <- e]; grind
theorem nodup_len : ∀ {L ks : List α}, ks.Nodup -> (∀ z ∈ ks, z ∈ L) -> ks.length <= L.length
 | L, [], _, _ => by simp
 | L, k :: ks, hk, h => by
  rw [List.nodup_cons] at hk
  have hm := h k List.mem_cons_self
  have := nodup_len (L := L.erase k) (ks := ks) hk.2 fun z hz => by
   refine (List.mem_erase_of_ne ?_).mpr (h z (List.mem_cons_of_mem _ hz))
   rintro rfl; exact hk.1 hz
  rw [List.length_erase_of_mem hm] at this
  have hp := List.length_pos_of_mem hm
  rw [List.length_cons]
  lia
end
end Tc
namespace L2
open PySem PySem.Spec PyProof.Rows
section
variable {X : Cx} {K : PySem.W.Frag}
theorem call_lenK : CallR X (.builtin "len") (fun xs H Q => ∃ a kvs, xs = [V.ref a] /\ H a = some (.dK kvs) /\ Q (.int (kvs.length : Nat)) H) := by
 intro pins s σ H xs us Q I r h
 obtain ⟨a, kvs, rfl, ha, q⟩ := h
 obtain ⟨u, rfl, ru⟩ := vals1 r
 cases ru
 obtain ⟨z, y, vs, kv, D⟩ := dk_of I.hok ha
 have hl : vs.length = kvs.length := kv.length.symm
 have hs : sizeLine = 16777216 := sizeLine_eq
 refine call_len_dict y D (by lia) ?_
 rw [hl]
 exact ⟨.int _, H, I.tok _, ⟨_, rfl⟩, q⟩
end
end L2
namespace L2
open PySem PySem.Spec PyProof.Rows
theorem Paired.app {α β : Type} {F : α -> β -> Prop} {xs xs' : List α} {ys ys' : List β} (h : Paired F xs ys) (g : Paired F xs' ys') : Paired F (xs ++ xs') (ys ++ ys') := by
 induction h with
 | nil => exact g
 | cons r t ih => exact .cons r ih
section
variable {X : Cx} {K : PySem.W.Frag} {pos : Pos}
end
end L2
namespace L2
open PySem PySem.Spec PyProof.Rows
end L2
namespace L2
open PySem PySem.Spec PyProof.Rows
theorem bt_enumerate : bootBuiltins "enumerate" = some (.type "enumerate") := by decide +kernel
section
variable {X : Cx} {pins : List (Addr × Obj)} {σ : St} {H : Hp} {s : Shared} {h' : Heap}
theorem Inv.turns {t' : Nat} {ch : List Addr} (I : Inv X pins σ H s) (k : ∀ b o, b ∉ ch -> s.heap.get? b = some o -> h'.get? b = some o) (hf : ∀ b ∈ ch, FpOk X pins H b) : Inv X pins σ H { s with heap := h', toks := t' } := by
 have nit : ∀ b u, H b = some u -> b ∉ ch := fun b u e z => by rw [(hf b z).1] at e; cases e
 refine I.step (g' := s.gens) (d' := s.drawn) (ch := ch) (fun b hb => ?_) (fun b o _ _ hc e _ => k b o hc e) (fun b o _ _ hc e _ => ⟨o.slots, k b o hc e⟩) (fun _ _ _ _ n => n) (fun b o hc e => ⟨o, k b o hc e⟩) (fun _ _ e => e) (fun _ _ _ e => e) (fun b ps e => ⟨#[], by rw [e]; simp⟩) (fun m hm => ?_) (fun b u e => ?_) I.bare
 ·obtain ⟨f0, f1, f2, f3, f4, f5⟩ := hf b hb
  exact ⟨f3, f1, f4, f5⟩
 ·obtain ⟨o, es, ep, ho, r⟩ := hm
  exact ⟨o, es, ep, k _ o (fun z => (hf _ z).2.1 rfl) ho, r⟩
 ·refine (I.hok b u e).stay (fun c v hc q => k c v ?_ q) (fun _ q => q) fun _ _ q => q
  rcases hc with z | z
  ·rw [z]; exact nit b u e
  ·exact nit c _ z
end
noncomputable def ItE (K : PySem.W.Frag) (a : Addr) (xs : List V) : It :=
 ⟨fun i H => i < xs.length /\ SqL K H a xs, fun i H x H' => ∃ v T, xs[i]? = some v /\ x = .ref T /\ H T = none /\ H' = upd H T (.tup [.int (i : Nat), v]), fun i H => i = xs.length /\ SqL K H a xs⟩
theorem turn_enum {P : Program} {w : World} {K : PySem.W.Frag} {elts : List Expr} {kk : Nat} {pos : Pos} (a e li : Addr) (xs : List V) (hne : e ≠ li) :
  Turn P w K (.Tuple elts kk pos) (ItE K a xs) [e, li] e (fun i h => ∃ old, IsEnum h e li ((i : Nat) : Int) old /\ h.IsListIter li a i) where
 mem := by simp
 obj := fun i h st b hb => by
  obtain ⟨old, s1, o, e2, c, d⟩ := st
  simp only [List.mem_cons, List.not_mem_nil, or_false] at hb
  rcases hb with rfl | rfl
  ·exact ⟨_, s1, fun v z => by cases z⟩
  ·exact ⟨o, e2, fun v z => by rw [d] at z; cases z⟩
 keep := fun i h h' st k => let ⟨old, s1, s2⟩ := st; ⟨old, k e (by simp) _ s1, s2.at fun o eo => k li (by simp) o eo⟩
 item := by
  intro X hP hw hK hc i pins s σ H E I hf st hg
  subst hP hw hK
  obtain ⟨old, st1, st2⟩ := st
  obtain ⟨hi, hq⟩ := hg
  obtain ⟨its, rv, p, hz⟩ := I.list hq
  have hx : xs[i]? = some xs[i] := by simp [hi]
  obtain ⟨u, hu, ru⟩ := rv.get hx
  refine wpAny_pyNext_enum_item st1 st2 p.isList (x := u) (by simpa using hu) hne fun h' jo jl ht hz' kp => ?_
  refine ⟨_, rfl, wpAny_letOwnedTupleGo_enum jo fun h2 he2 sb => ?_⟩
  have sb : Heap.SameBut e h' h2 := sb
  have nTe : s.heap.objs.size ≠ e := Nat.ne_of_gt (Heap.lt_size st1)
  have nTl : s.heap.objs.size ≠ li := by
   obtain ⟨o, e2, _⟩ := id st2
   exact Nat.ne_of_gt (Heap.lt_size e2)
  have I1 : Inv X pins σ H { s with heap := h2, toks := s.toks + 1 } := I.turns (ch := [e, li]) (fun b o hb eo => sb.extBut b o (fun z => hb (by simp [z])) (kp b o (fun z => hb (by simp [z])) (fun z => hb (by simp [z])) eo)) hf
  have hT2 : h2.get? s.heap.objs.size = some { cls := .type "tuple", data := .seq #[.int i s.toks, u] } := sb.extBut _ _ nTe ht
  obtain ⟨g0, g1, _, _, g4, g5⟩ := I.fpOk (Nat.le_refl _) I.fresh
  have I2 := I1.track (a := s.heap.objs.size) (o := .tup [.int (i : Nat), xs[i]]) g0 (by
   cases q : X.s₀.heap.get? s.heap.objs.size with
   | none => rfl
   | some ob => exact absurd (Nat.lt_of_lt_of_le (Heap.lt_size q) I.sz) (Nat.lt_irrefl _)) g1 g4 g5 ⟨small1000 (by simp) |> Nat.le_of_lt, [.int i s.toks, u], .cons ⟨_, rfl⟩ (.cons ru .nil), ⟨_, hT2, rfl, _, rfl⟩⟩
  refine ⟨.ref _, _, I2, rfl, ⟨xs[i], _, hx, rfl, g0, rfl⟩, ⟨_, he2, jl.extBut sb.extBut hne.symm⟩, fun b hb => ?_⟩
  have nb : b ≠ s.heap.objs.size := by
   simp only [List.mem_cons, List.not_mem_nil, or_false] at hb
   rcases hb with rfl | rfl
   ·exact nTe.symm
   ·exact nTl.symm
  rw [upd_ne nb]; exact (hf b hb).1
 done := by
  intro X hP hw hK hc i pins s σ H E I hf st hg
  subst hP hw hK
  obtain ⟨old, st1, st2⟩ := st
  obtain ⟨hi, hq⟩ := hg
  obtain ⟨its, rv, p, hz⟩ := I.list hq
  have hl := rv.length
  exact wpAny_pyNext_enum_end (I.ok.hd hc) st1 st2 p.isList (by simp; lia) fun h' eb => ⟨rfl, I.turns (t' := s.toks) (ch := [e, li]) (fun b o hb eo => eb b o (fun z => hb (by simp [z])) eo) hf⟩
 self := fun A i s Q E st h => let ⟨_, st1, _⟩ := st; wpAny_pyIter_enum st1 h
section
variable {X : Cx} {K : PySem.W.Frag}
noncomputable def iEnum (K : PySem.W.Frag) (ta : TA) : TI := fun σ H R => ta σ H fun vs H1 => ∃ a xs, vs = [V.ref a] /\ SqL K H1 a xs /\ R (ItE K a xs) H1
theorem pi_enum {elts : List Expr} {kk : Nat} {tpos : Pos} {a : Expr} {ta : TA} {p pos : Pos} (hK : X.K = K) (hg : Gl X "enumerate") (hm : X.mg "enumerate" = none) (ha : PA X [a] ta) (hs : starEach [a] X.env = [(false, eval a X.env)] := by rfl) : PI X (.Tuple elts kk tpos) (.Call (.Name "enumerate" p) [a] [] pos) (iEnum K ta) := by
 subst hK
 intro pins s σ H R I h
 refine Call_ (ld_blt I hg hm bt_enumerate (PyProof.Rows.callWith_type1 (thn (ha pos pins s σ H _ I h) fun us s1 ⟨vs, H1, I1, r1, q1⟩ => ?_) hs rfl))
 obtain ⟨b, xs, rfl, hq, q⟩ := q1
 obtain ⟨u, rfl, ru⟩ := vals1 r1
 cases ru
 obtain ⟨its, rv, p, hz⟩ := I1.list hq
 refine call_enumerate_list p.isList fun h' he hl hz kk => wpAny_pyIter_enum he ?_
 refine ⟨s1.heap.objs.size + 1, [s1.heap.objs.size + 1, s1.heap.objs.size], _, _, H1, rfl, I1.kept (t' := s1.toks) kk, turn_enum b (s1.heap.objs.size + 1) s1.heap.objs.size xs (Nat.succ_ne_self _), ⟨_, he, hl⟩, fun c hc => ?_, q⟩
 simp only [List.mem_cons, List.not_mem_nil, or_false] at hc
 rcases hc with rfl | rfl
 ·exact I1.fpOk (by lia) (I1.hok.fresh (by lia))
 ·exact I1.fpOk (Nat.le_refl _) (I1.hok.fresh (Nat.le_refl _))
end
theorem for_enum {K : PySem.W.Frag} {a : Addr} {xs : List V} {g : TG} {tb : TS} {D : Ends} {σ : St} {H : Hp} (Pv : Nat -> St -> Hp -> Prop) (h0 : Pv 0 σ H) (hl : ∀ i σ H, i <= xs.length -> Pv i σ H -> SqL K H a xs)
  (hs : ∀ i v T σ H, xs[i]? = some v -> Pv i σ H -> H T = none -> g (.ref T) σ (upd H T (.tup [.int (i : Nat), v])) fun σ2 H2 => tb { D with nx := Pv (i + 1), ct := Pv (i + 1), bk := D.nx } σ2 H2) (hd : ∀ σ H, Pv xs.length σ H -> D.nx σ H) :
  ∃ W : Nat -> Nat -> St -> Hp -> Prop, (∃ m, W 0 m σ H) /\ ∀ i m σ H, W i m σ H -> ((ItE K a xs).stop i H /\ D.nx σ H) \/ ((ItE K a xs).go i H /\ ∃ N : St -> Hp -> Prop, (∀ σ' H', N σ' H' -> ∃ m', m' < m /\ W (i + 1) m' σ' H') /\
   ∀ x H', (ItE K a xs).yld i H x H' -> g x σ H' fun σ2 H2 => tb { D with nx := N, ct := N, bk := D.nx } σ2 H2) := by
 refine ⟨fun i m σ H => m = xs.length - i /\ i <= xs.length /\ Pv i σ H, ⟨_, rfl, Nat.zero_le _, h0⟩, ?_⟩
 rintro i m σ H ⟨rfl, hi, p⟩
 have q := hl i σ H hi p
 by_cases hlt : i < xs.length
 ·refine .inr ⟨⟨hlt, q⟩, Pv (i + 1), fun σ' H' p' => ⟨xs.length - (i + 1), by lia, rfl, hlt, p'⟩, fun x H' y => ?_⟩
  obtain ⟨v, T, hv, e1, hT, e2⟩ := y
  subst e1 e2
  exact hs i v T σ H hv p hT
 ·have e : i = xs.length := by lia
  subst e
  exact .inl ⟨⟨rfl, q⟩, hd σ H p⟩
end L2
namespace L2
open PySem PySem.Spec PyProof.Rows
section
variable {X : Cx}
end
end L2
namespace L2
open PySem PySem.Spec PyProof.Rows
section
variable {X : Cx} {K : PySem.W.Frag}
end
end L2
namespace L2
open PySem PySem.Spec PyProof.Rows
section
variable {X : Cx} {K : PySem.W.Frag}
end
end L2
namespace L2
open PySem PySem.Spec PyProof.Rows
end L2
namespace L2
open PySem PySem.Spec PyProof.Rows
section
variable {X : Cx}
end
end L2
namespace L2
open PySem PySem.Spec PyProof.Rows
noncomputable def EqW (prog : Program) (w : World) (A : Around) (s : Shared) (v y : Value) : Prop := ∀ (E : Value -> Shared -> Prop) (Q : Bool -> Shared -> Prop), Q true s -> wpAny (model prog w) A (eqBool v y) Q E s
section
variable {prog : Program} {w : World} {A : Around} {E : Value -> Shared -> Prop} {s : Shared}
theorem EqW.of {v y : Value} (h : SeqAt.EqAt A s v y true) : EqW prog w A s v y := fun E Q q => h prog w E Q q
theorem EqW.refs {a b : Addr} (h : ∀ (E : Value -> Shared -> Prop) (Q : Value -> Shared -> Prop), Q (.bool true) s -> wpAny (model prog w) A (richCompare .Eq (.ref a) (.ref b)) Q E s) : EqW prog w A s (.ref a) (.ref b) := by
 intro E Q q
 by_cases e : a = b
 ·subst e; exact SeqAt.EqAt.same _ prog w E Q q
 ·unfold eqBool
  refine wpAny_holding (wpAny_ite_split (fun z => absurd (by have := eq_of_beq z; injection this) e) fun _ => ?_)
  exact wpAny_bind (h E _ (wpAny_truthy_bool q))
variable {Kt : Type} [DecidableEq Kt] {knd : KeyKind prog w Kt}
theorem pairsW {nm : String} {a b : Addr} {ka kb : List (Kt × Value)} {Q : Bool -> Shared -> Prop} (ha : (a == sysModules) = false) (hb : (b == sysModules) = false)
  (da : s.heap.DictOf knd a ka) (db : s.heap.DictOf knd b kb) (hl : ka.length = kb.length) (hit : ∀ (i : Nat) (k : Kt) (v : Value), ka[i]? = some (k, v) -> ∃ y, valueAt kb k = some y /\ EqW prog w A s v y) (q : Q true s) :
  wpAny (model prog w) A (Builtin.Dict.samePairs nm a b) Q E s := by
 obtain ⟨oa, ea, na, g1, _, d1, k1, p1, _⟩ := da
 obtain ⟨ob, eb, nb, g2, _, d2, k2, p2, _⟩ := db
 have la : ka.length = ea.size := by rw [<- p1.length]; exact Array.length_toList
 have lb : kb.length = eb.size := by rw [<- p2.length]; exact Array.length_toList
 have sz : ea.size = eb.size := by lia
 unfold Builtin.Dict.samePairs Builtin.Dict.showsAll
 rw [if_neg (show ¬ (a == sysModules) = true by rw [ha]; exact Bool.false_ne_true), if_neg (show ¬ (b == sysModules) = true by rw [hb]; exact Bool.false_ne_true)]
 refine wpAny_bind (wpAny_pure (wpAny_bind (wpAny_pure (wpAny_bind (wpAny_dictEntries g1 d1 ?_)))))
 dsimp only
 refine wpAny_bind (wpAny_dictEntries g2 d2 ?_)
 rw [if_neg (by rw [sz]; simp)]
 refine wpAny_bind (wpAny_dictEpoch g1 d1 (wpAny_bind ?_))
 rw [Std.Legacy.Range.forIn_eq_forIn_range']
 simp only [Std.Legacy.Range.size, Nat.sub_zero, Nat.add_sub_cancel, Nat.div_one]
 refine wpAny_forIn_list _ (fun rest r s' => s' = s /\ r = (none, ()) /\ ∃ i, rest = List.range' i (ea.size - i) /\ i <= ea.size) _ ?_ ?_ _ _ ⟨rfl, rfl, 0, by simp, Nat.zero_le _⟩
 ·rintro x rest r s' ⟨rfl, rfl, i, er, hi⟩
  have lt : i < ea.size := by
   rcases Nat.lt_or_ge i ea.size with z | z
   ·exact z
   ·rw [Nat.sub_eq_zero_of_le z] at er; simp at er
  have e0 : ea.size - i = (ea.size - (i + 1)) + 1 := by lia
  rw [e0, List.range'_succ] at er
  obtain ⟨rfl, er⟩ := List.cons.inj er
  have lt2 : x < ka.length := by lia
  obtain ⟨k, v, ekv⟩ : ∃ k v, ka[x]? = some (k, v) := ⟨_, _, List.getElem?_eq_getElem lt2⟩
  obtain ⟨y, hy, hw⟩ := hit x k v ekv
  obtain ⟨ik, iv⟩ := p1.get? (i := x) (e := ea[x]) (k := k) (v := v) (by rw [Array.getElem?_toList]; exact Array.getElem?_eq_getElem lt) ekv
  obtain ⟨k', ik', hh⟩ := k1 ea[x] (Array.getElem_mem lt)
  have ek : k' = k := knd.inj _ _ _ ik' ik
  subst ek
  refine wpAny_bind (wpAny_dictEntries g1 d1 ?_)
  rw [Array.getElem?_eq_getElem lt]
  show wpAny _ _ (holding [ea[x].key, ea[x].val] _ >>= _) _ _ _
  rw [hh]
  refine wpAny_bind (wpAny_holding (wpAny_bind (wpAny_dictFind_of ik g2 d2 k2 ?_)))
  have fnd : findBy knd.is eb k' = valueAt kb k' := by
   rw [<- p2.find k']
   clear lb p2 k2 d2 g2 sz hit hw hy iv ik ik' hh er e0 lt
   obtain ⟨l⟩ := eb
   simp [findBy]
  cases hj : eb.findIdx? fun e => knd.is k' e.key with
  | none => rw [findBy_of_findIdx?, hj, hy] at fnd; cases fnd
  | some j =>
   obtain ⟨jl, _, _⟩ := Array.findIdx?_eq_some_iff_getElem.mp hj
   have ev : eb[j].val = y := by
    rw [findBy_of_findIdx?, hj, hy] at fnd
    simpa [Array.getElem?_eq_getElem jl] using fnd
   refine wpAny_bind (wpAny_dictEntries g2 d2 ?_)
   rw [Array.getElem?_eq_getElem jl]
   rw [<- ev, <- iv] at hw
   refine wpAny_holding (hw _ _ ?_)
   show wpAny _ _ (if (!true) = true then _ else _) _ _ _
   rw [if_neg (by decide)]
   refine wpAny_bind (wpAny_dictEpoch g1 d1 ?_)
   rw [if_neg (by simp)]
   exact wpAny_pure ⟨rfl, rfl, x + 1, er, lt⟩
 ·rintro r s' ⟨rfl, rfl, _⟩
  exact wpAny_pure q
theorem dictW {a b : Addr} {ka kb : List (Kt × Value)} {Q : Value -> Shared -> Prop} (ha : (a == sysModules) = false) (hb : (b == sysModules) = false) (da : s.heap.DictOf knd a ka) (db : s.heap.DictOf knd b kb) (hu : A.units < cLine) (hl : ka.length = kb.length)
  (hit : ∀ (i : Nat) (k : Kt) (v : Value), ka[i]? = some (k, v) -> ∃ y, valueAt kb k = some y /\ EqW prog w A.in1 s v y) (q : Q (.bool true) s) : wpAny (model prog w) A (richCompare .Eq (.ref a) (.ref b)) Q E s := by
 refine wpAny_richCompare_same_room (op := .Eq) da.typeIs db.typeIs PySem.F.slot_dict_eq (wpAny_call_entry PySem.F.slot_dict_eq da.typeIs PySem.F.entry_dict_eq ?_ (PySem.F.args_dict_eq_2 _ _)) hu
 show wpAny _ _ (Builtin.Dict.dictSlotArgs "__eq__" ⟨[.ref a, .ref b], []⟩ >>= _) _ _ s
 unfold Builtin.Dict.dictSlotArgs
 refine wpAny_bind (wpAny_bind (wpAny_notOrdered_dict da.typeIs ?_))
 show wpAny _ _ (pure (Value.ref a, Value.ref b)) _ _ s
 refine wpAny_pure (wpAny_bind (wpAny_isInstance (T := "dict") db.typeIs PySem.F.sub_dict_dict ?_))
 simp only [Bool.not_true, Bool.false_eq_true, if_false]
 refine wpAny_bind (wpAny_pure (wpAny_bind (wpAny_pure (wpAny_bind (pairsW ha hb da db hl hit ?_)))))
 exact wpAny_pure ⟨_, rfl, (by intro z; cases z), q⟩
open SeqAt in
open SeqAt in
theorem loopN (l b : Addr) (xs ys : Array Value) (n n2 : Nat) (dd dd2 : Option Addr) (sl sl2 : Array (Option Value)) (sz : xs.size = ys.size) (k : Nat) :
  ∀ i : Nat, xs.size - i = k -> MeetsIn prog w (Builtin.«list.__eq__.loop» ⟨[.ref l, .ref b, rawInt i, rawInt 3], []⟩) (fun A R s => s.heap.get? l = some { cls := .type "list", dict := dd, data := .seq xs n, slots := sl } /\ s.heap.get? b = some { cls := .type "list", dict := dd2, data := .seq ys n2, slots := sl2 } /\
    (∀ j (h1 : j < xs.size) (h2 : j < ys.size), EqW prog w A.in1 s xs[j] ys[j]) /\ R (.ok (.ret (.bool false))) s) := by
 induction k with
 | zero =>
  intro i hk A R s h
  obtain ⟨hp, g, d, tk, os⟩ := s
  obtain ⟨hl, hb, he, h⟩ := h
  have i1 : xs[((i : Nat) : Int).toNat]? = none := by simp; lia
  have i2 : ys[((i : Nat) : Int).toNat]? = none := by simp; lia
  wp_walk using AutoSeq1.wpAny_loadPart' hl, AutoSeq1.wpAny_loadPart' hb
  rw [i1, i2]
  wp_walk using AutoSeq1.wpAny_loadPart' hl, AutoSeq1.wpAny_loadPart' hb
  show R (.ok (.ret (.bool (xs.size != ys.size)))) _
  rw [sz]
  simpa using h
 | succ k ih =>
  intro i hk A R s h
  obtain ⟨hp, g, d, tk, os⟩ := s
  obtain ⟨hl, hb, he, h⟩ := h
  have l1 : i < xs.size := by lia
  have l2 : i < ys.size := by lia
  have i1 : xs[((i : Nat) : Int).toNat]? = some xs[i] := by simp [l1]
  have i2 : ys[((i : Nat) : Int).toNat]? = some ys[i] := by simp [l2]
  have hc : ((i : Int) + 1) = ((i + 1 : Nat) : Int) := by push_cast; rfl
  wp_walk using AutoSeq1.wpAny_loadPart' hl, AutoSeq1.wpAny_loadPart' hb
  rw [i1, i2]
  refine wpAny_bind (he i l1 l2 _ _ ?_)
  wp_walk
  rw [hc]
  exact ⟨plainId_quiet MeetsSeq3.plain_eq_loop _, codeAny_builtin MeetsSeq3.entry_eq_loop (by
   rw [Around.under_plainId MeetsSeq3.plain_eq_loop _]
   exact ih (i + 1) (by lia) A R _ ⟨hl, hb, he, h⟩)⟩
theorem listN (l b : Addr) (xs ys : Array Value) (n n2 : Nat) (dd dd2 : Option Addr) (sl sl2 : Array (Option Value)) (sz : xs.size = ys.size) :
  MeetsIn prog w (Builtin.«list.__ne__» ⟨[.ref l, .ref b], []⟩) (fun A R s => s.heap.get? l = some { cls := .type "list", dict := dd, data := .seq xs n, slots := sl } /\ s.heap.get? b = some { cls := .type "list", dict := dd2, data := .seq ys n2, slots := sl2 } /\
    (∀ j (h1 : j < xs.size) (h2 : j < ys.size), EqW prog w A.in1 s xs[j] ys[j]) /\ R (.ok (.ret (.bool false))) s) := by
 intro A R s h
 obtain ⟨hp, g, d, tk, os⟩ := s
 obtain ⟨hl, hb, he, h⟩ := h
 have f3 := AutoSeq1.sub_list_list
 have hne : ¬ (xs.size != ys.size) = true := by simp [sz]
 wp_walk using AutoSeq1.wpAny_loadPart' hl, AutoSeq1.wpAny_loadPart' hb
 exact ⟨plainId_quiet MeetsSeq3.plain_eq_loop _, codeAny_builtin MeetsSeq3.entry_eq_loop (by
  rw [Around.under_plainId MeetsSeq3.plain_eq_loop _]
  exact loopN l b xs ys n n2 dd dd2 sl sl2 sz _ 0 rfl A R _ ⟨hl, hb, he, h⟩)⟩
theorem richN {l b : Addr} {xs ys : Array Value} {Q : Value -> Shared -> Prop} (hl : s.heap.IsList l xs) (hb : s.heap.IsList b ys) (sz : xs.size = ys.size) (hu : A.units < cLine) (he : ∀ j (h1 : j < xs.size) (h2 : j < ys.size), EqW prog w A.in1 s xs[j] ys[j]) (q : Q (.bool false) s) :
  wpAny (model prog w) A (richCompare .NotEq (.ref l) (.ref b)) Q E s := by
 obtain ⟨⟨cls, dd, data, sl⟩, ho, hc, n, hd⟩ := id hl
 obtain ⟨⟨cls2, dd2, data2, sl2⟩, ho2, hc2, n2, hd2⟩ := id hb
 simp only at hc hd hc2 hd2
 subst hc hd hc2 hd2
 exact wpAny_richCompare_same_room (op := .NotEq) ⟨_, ho, rfl⟩ ⟨_, ho2, rfl⟩ F.slot_list_ne (call_meetsIn F.slot_list_ne ⟨_, ho, rfl⟩ F.entry_list_ne (F.args_list_ne_2 _ _) (listN l b xs ys n n2 dd dd2 sl sl2 sz) ⟨ho, ho2, he, show Value.bool false ≠ Value.notImplemented /\ Q (.bool false) s from ⟨(fun x => nomatch x), q⟩⟩) hu
end
end L2
namespace L2
open PySem PySem.Spec PyProof.Rows
noncomputable def AlN (K : PySem.W.Frag) (H : Hp) : Nat -> V -> V -> Prop
 | 0, x, y => (∃ a, x = .ref a /\ y = .ref a) \/ ∃ d, RepD K H d x /\ RepD K H d y /\ d.depth <= 40
 | n + 1, x, y => ((∃ a, x = .ref a /\ y = .ref a) \/ ∃ d, RepD K H d x /\ RepD K H d y /\ d.depth <= 40) \/ ∃ a b ka kb, x = .ref a /\ y = .ref b /\ H a = some (.dK ka) /\ H b = some (.dK kb) /\ ka.length = kb.length /\ ∀ kv ∈ ka, ∃ w, valV kb kv.1 = some w /\ AlN K H n kv.2 w
section
variable {X : Cx} {K : PySem.W.Frag}
theorem eqW0 {pins : List (Addr × Obj)} {σ : St} {H : Hp} {s : Shared} {A : Around} (I : Inv X pins σ H s) {x y : V} {v u : Value} (h : (∃ a, x = .ref a /\ y = .ref a) \/ ∃ d, RepD X.K H d x /\ RepD X.K H d y /\ d.depth <= 40) (rx : RelV x v) (ry : RelV y u) (hu : A.units + 44 < cLine) : EqW X.prog X.w A s v u := by
 rcases h with ⟨a, rfl, rfl⟩ | ⟨d, h1, h2, hd⟩
 ·cases rx; cases ry
  exact EqW.of (SeqAt.EqAt.same _)
 ·obtain ⟨as, r1⟩ := RepD.reads I h1 rx
  obtain ⟨bs, r2⟩ := RepD.reads I h2 ry
  have := SeqAt.eqAt_reads d d A s v u as bs r1 r2 h1.lay h2.lay (by have : min d.depth d.depth = d.depth := Nat.min_self _; lia)
  rw [SeqAt.eqv_refl d h1.lay] at this
  exact EqW.of this
theorem eqWn {pins : List (Addr × Obj)} {σ : St} {H : Hp} {s : Shared} (I : Inv X pins σ H s) : ∀ (n : Nat) {A : Around} {x y : V} {v u : Value}, AlN X.K H n x y -> RelV x v -> RelV y u -> A.units + n + 44 < cLine -> EqW X.prog X.w A s v u
 | 0, A, x, y, v, u, h, rx, ry, hu => eqW0 I h rx ry (by lia)
 | n + 1, A, x, y, v, u, h, rx, ry, hu => by
  rcases h with h | ⟨a, b, ka, kb, rfl, rfl, ha, hb, hl, hh⟩
  ·exact eqW0 I h rx ry (by lia)
  ·cases rx; cases ry
   obtain ⟨z1, y1, va, ra, Da⟩ := dk_of I.hok ha
   obtain ⟨z2, y2, vb, rb, Db⟩ := dk_of I.hok hb
   have e1 : va.length = vb.length := by rw [<- ra.length, <- rb.length, hl]
   refine EqW.refs fun E Q q => dictW y1 y2 Da Db (by lia) e1 (fun i k v' hi => ?_) q
   have hil : i < ka.length := by rw [ra.length]; exact (List.getElem?_eq_some_iff.mp hi).1
   obtain ⟨kv', h1, h2⟩ : ∃ q, va[i]? = some q /\ (ka[i].1 = q.1 /\ RelV ka[i].2 q.2) := by
    have ra' := ra
    unfold KV at ra'
    exact pair_at ra' (List.getElem?_eq_getElem hil)
   rw [hi] at h1
   cases h1
   obtain ⟨w0, e, al⟩ := hh ka[i] (List.getElem_mem hil)
   have rv := rb.val k
   have ek : ka[i].1 = k := h2.1
   rw [ek] at e
   rw [e] at rv
   cases ey : valueAt vb k with
   | none => rw [ey] at rv; exact (show False from rv).elim
   | some y =>
    rw [ey] at rv
    exact ⟨y, rfl, eqWn I n al h2.2 rv (by show A.units + 1 + n + 44 < cLine; lia)⟩
noncomputable def AlL (K : PySem.W.Frag) (H : Hp) (x y : V) : Prop := ∃ a b xs ys, x = .ref a /\ y = .ref b /\ SqL K H a xs /\ SqL K H b ys /\ Paired (AlN K H 3) xs ys
theorem al_of {pins : List (Addr × Obj)} {σ : St} {H : Hp} {s : Shared} {A : Around} (I : Inv X pins σ H s) (hu : A.units + 50 < cLine) {xs ys : List V} {us ws : List Value} (h : Paired (AlN X.K H 3) xs ys) (r : Vals xs us) (r' : Vals ys ws) :
  us.toArray.size = ws.toArray.size /\ ∀ j (h1 : j < us.toArray.size) (h2 : j < ws.toArray.size), EqW X.prog X.w A s us.toArray[j] ws.toArray[j] := by
 have e1 := r.length
 have e2 := r'.length
 have e3 := h.length
 refine ⟨by simp; lia, fun j h1 h2 => ?_⟩
 have j1 : j < us.length := by simpa using h1
 have j2 : j < xs.length := by lia
 obtain ⟨u, hu1, ru⟩ := r.get (List.getElem?_eq_getElem j2)
 obtain ⟨y, hy, al⟩ := pair_at h (List.getElem?_eq_getElem j2)
 obtain ⟨u', hu2, ru'⟩ := r'.get hy
 have e4 : us.toArray[j] = u := by
  have : us[j]? = some us[j] := List.getElem?_eq_getElem j1
  rw [hu1] at this
  simpa using (Option.some.inj this).symm
 have j3 : j < ws.length := by simpa using h2
 have e5 : ws.toArray[j] = u' := by
  have : ws[j]? = some ws[j] := List.getElem?_eq_getElem j3
  rw [hu2] at this
  simpa using (Option.some.inj this).symm
 rw [e4, e5]
 exact eqWn I 3 al ru ru' (by lia)
theorem op_neL {k : Nat} (hK : X.K = K) (hr : Room k X.A) : OpR X (compareOp .NotEq) (fun x y H Q => AlL K H x y /\ Q (.bl false) H) := by
 subst hK
 intro pins s σ H x y v u Q I rx ry h
 obtain ⟨⟨a, b, xs, ys, rfl, rfl, ha, hb, hp⟩, q⟩ := h
 cases rx; cases ry
 obtain ⟨its1, r1, p1, _⟩ := I.list ha
 obtain ⟨its2, r2, p2, _⟩ := I.list hb
 have hu := hr.un
 obtain ⟨sz, he⟩ := al_of (A := X.A.in1) I (by show X.A.units + 1 + 50 < cLine; lia) hp r1 r2
 exact richN p1.isList p2.isList sz (by lia) he ⟨.bl false, H, I, rfl, q⟩
end
end L2
namespace L2
open PySem PySem.Spec PyProof.Rows
section
variable {prog : Program} {w : World} {A : Around} {E : Value -> Shared -> Prop} {s : Shared} {d : Addr} {es : Array DictEntry} {ep : Nat}
theorem walks_keys (hh : A.handled = none) (I d : Addr) (hne : d ≠ I) (es : Array DictEntry) (ep : Nat) : Walks prog w A I [I, d] [I] es.size (fun i v => ∃ e, es[i]? = some e /\ v = e.key) (fun i h => h.IsKeyIter I d i es.size ep /\ RawD h d es ep) where
 sub := fun b hb => by simp at hb; simp [hb]
 frame := fun _ _ _ st k => ⟨let ⟨o, e, r⟩ := st.1; ⟨o, k I (by simp) o e, r⟩, st.2.at fun o e => k d (by simp) o e⟩
 item := fun i s Q E hi st q => raw_knext st.1 st.2 hi fun h' st' sb => q _ h' s.toks ⟨es[i], by simp [hi], rfl⟩ ⟨st', st.2.at fun o e => sb.extBut d o hne e⟩ fun b o hb e => sb.extBut b o (fun z => hb (by simp [z])) e
 done := fun s Q E st q => raw_kend hh st.1 st.2 (Nat.le_refl _) fun h' eb => q h' s.toks fun b o hb e => eb b o (fun z => hb (by simp [z])) e
 self := fun _ _ _ _ st q => wpAny_pyIter_keyiter st.1 q
theorem src_keys (hs : (d == sysModules) = false) : PySem.W.KdlSrc prog w "dict" d d es.size (fun i v => ∃ e, es[i]? = some e /\ v = e.key) (fun h => RawD h d es ep) where
 type := fun _ hm => hm.ty
 there := fun _ hm => ⟨let ⟨_, ho, _⟩ := hm; Heap.lt_size ho, let ⟨_, ho, _⟩ := hm; Heap.lt_size ho⟩
 keep := fun _ _ hm k => hm.at fun o e => k d (.inr rfl) o e
 notList := by decide
 notTuple := by decide
 hint := fun _ _ _ _ hm q => PySem.W.kdl_hint_dict hm.ty q
 iter := fun _ _ hh hm => ⟨_, _, (fun _ _ q => raw_kiter hs hm q), walks_keys hh _ d (Nat.ne_of_lt (let ⟨_, ho, _⟩ := hm; Heap.lt_size ho)) es ep, ⟨⟨_, Heap.get?_push_size _ rfl, rfl, rfl⟩, hm.at fun o e => Heap.get?_push_of_some _ e⟩⟩
end
section
variable {X : Cx} {K : PySem.W.Frag}
theorem call_list_keys (hc : X.calm = true) : CallR X (.type "list") (fun xs H Q => ∃ d u, xs = [V.ref d] /\ H d = some u /\ isDk u = true /\ ∀ ps, Pss H u ps -> ∀ l, H l = none -> Q (.ref l) (upd H l (.lst (ps.map (·.1))))) := by
 intro pins s σ H xs us Q I r h
 obtain ⟨d, u, rfl, hd, hu, q⟩ := h
 obtain ⟨w0, rfl, rw0⟩ := vals1 r
 cases rw0
 obtain ⟨o, es, ep, ps, g, ex, dat, hs, hps, rel⟩ := I.raw hd hu
 have hl := dk_len hps hu I hd
 have hlen : ps.length = es.size := by rw [rel.length]; simp
 refine PySem.W.kdl_call (src_keys (es := es) (ep := ep) hs) (I.ok.hd hc) ⟨o, g, ex, dat⟩ (by lia) fun h' tk acc c kk hD hacc => ?_
 have vr : Vals (ps.map (·.1)) acc.toList := by
  have e1 : acc.toList = es.toList.map (·.key) := by
   apply List.ext_getElem?
   intro j
   rw [List.getElem?_map]
   by_cases hj : j < es.size
   ·have hj2 : j < acc.size := by rw [hacc.1]; exact hj
    obtain ⟨e, he, hv⟩ := hacc.2 j acc[j] (by simp [hj2])
    have e2 : es.toList[j]? = some e := by simpa using he
    rw [e2]
    simp [hj2, hv]
   ·have hj2 : ¬ j < acc.size := by rw [hacc.1]; exact hj
    rw [List.getElem?_eq_none (by simp; lia), List.getElem?_eq_none (by simp; lia)]; rfl
  rw [e1]
  clear hlen hl hps e1 hacc
  generalize es.toList = el at rel
  induction rel with
  | nil => exact .nil
  | cons h t ih => exact .cons h.1 ih
 refine ⟨.ref _, _, I.laid (a := s.heap.objs.size) (o := .lst (ps.map (·.1))) (t' := tk) kk (Nat.le_refl _) ⟨by rw [List.length_map]; exact hl, acc.toList, c, vr, by simpa using hD⟩, rfl, q ps hps _ I.fresh⟩
end
end L2
namespace L2
open PySem PySem.Spec PyProof.Rows
section
variable {X : Cx}
noncomputable def rIndex : V -> List V -> Hp -> VK -> Prop := fun x vs H Q => ∃ (l : Addr) (zs : List Str) (z : Str) (j : Nat), x = .ref l /\ vs = [.str z] /\ H l = some (.lst (zs.map V.str)) /\ zs[j]? = some z /\ (∀ m, m < j -> zs[m]? ≠ some z) /\ Q (.int (j : Nat)) H
theorem mt_index : MtR X "list.index" rIndex := by
 intro pins s σ H x vs v us Q I rx rv h
 obtain ⟨l, zs, z, j, rfl, rfl, hH, hj, hno, q⟩ := h
 cases rx
 obtain ⟨u, rfl, ru⟩ := rv.one
 obtain ⟨zz, its, n, r, hl, e⟩ := I.lstM hH
 have hsz : sizeLine = 16777216 := sizeLine_eq
 have hlen : zs.length = its.length := by rw [<- hl, List.length_map]
 have hjl : j < its.length := by rw [<- hlen]; exact (List.getElem?_eq_some_iff.mp hj).1
 have fl : (zs.map V.str).all flatV = true := by
  rw [List.all_eq_true]
  intro y hy
  obtain ⟨y0, _, rfl⟩ := List.mem_map.mp hy
  rfl
 have ats : ∀ m (hm : m < its.length), eqU (.str z) its[m] = decide (zs[m]? = some z) := by
  intro m hm
  have hm2 : m < zs.length := by lia
  have e1 : (zs.map V.str)[m]? = some (.str zs[m]) := by rw [List.getElem?_map, List.getElem?_eq_getElem hm2]; rfl
  obtain ⟨w, hw, rw0⟩ := r.get e1
  have e2 : its[m] = w := by
   rw [List.getElem?_eq_getElem hm] at hw
   exact Option.some.inj hw
  rw [e2, eqU_of rw0 rfl, List.getElem?_eq_getElem hm2]
  show (zs[m] == z) = _
  by_cases c : zs[m] = z
  ·rw [c]; simp
  ·have : (zs[m] == z) = false := by simp [c]
   rw [this]; simp [c]
 refine call_meets F.slot_list_index ⟨_, e, rfl⟩ F.entry_list_index (F.args_list_index_2 _ _) (SeqAt.list_indexAt l its.toArray n none #[] u (eqU (.str z)) j (by simpa using hjl) (by lia) ?_ ?_) ⟨e, fun y hy => mem_eqAt ru rfl r fl y (by simpa using hy), ?_⟩
 ·have := ats j hjl
  rw [hj] at this
  simpa using this
 ·intro m hm hmj
  have hm' : m < its.length := by simpa using hm
  have := ats m hm'
  rw [decide_eq_false (hno m hmj)] at this
  simpa using this
 ·exact ⟨.int (j : Nat), H, I.kept (t' := s.toks + 1) fun b ob e => e, ⟨_, rfl⟩, q⟩
end
end L2
namespace L2
open PySem PySem.Spec PyProof.Rows
section
variable {X : Cx} {K : PySem.W.Frag}
end
end L2
namespace L2
theorem by_key1 {α : Type} {P C : α -> Prop} {G : Prop} (go : (∀ x, C x -> P x) -> G) (body : ∀ x, C x -> P x) : G := go body
theorem by_key4 {α β γ δ : Type} {P C : α -> β -> γ -> δ -> Prop} {G : Prop} (go : (∀ a b c d, C a b c d -> P a b c d) -> G) (body : ∀ a b c d, C a b c d -> P a b c d) : G := go body
theorem by_key2 {α β : Type} {P C : α -> β -> Prop} {G : Prop} (go : (∀ x y, C x y -> P x y) -> G) (body : ∀ x y, C x y -> P x y) : G := go body
end L2
namespace L2
open PySem PySem.Spec PyProof.Rows
section
variable {X : Cx}
noncomputable def tFmt (te : TE) : TE := fun σ H Q => te σ H fun x H1 => ∃ n : Int, x = .int n /\ n.natAbs.log2 < 1920 /\ Q (.str (Str.ofString (toString n))) H1
theorem pe_fmt {e : Expr} {te : TE} {pos : Pos} (he : PE X e te) : PE X (.FormattedValue e (-1) none pos) (tFmt te) := by
 intro pins s σ H Q I h
 refine wpAny_FormattedValue_plain (thn (he pins s σ H _ I h) fun v s1 ⟨x, H1, I1, r1, q1⟩ => ?_)
 obtain ⟨n, rfl, hn, q⟩ := q1
 obtain ⟨t, rfl⟩ := r1
 exact wpAny_formatField_int hn ⟨.str _, H1, I1.tok _, ⟨_, rfl⟩, q⟩
noncomputable def tJs : List TE -> Str -> TE
 | [], acc => fun _ H Q => acc.length <= 16777216 /\ Q (.str acc) H
 | t :: ts, acc => fun σ H Q => t σ H fun x H1 => ∃ y, x = .str y /\ (acc ++ y).length <= 16777216 /\ tJs ts (acc ++ y) σ H1 Q
theorem joins_of {pins : List (Addr × Obj)} {σ : St} {Q : VK} : ∀ (es : List Expr) (ts : List TE) (acc : Str) (s : Shared) (H : Hp), Paired (PE X) es ts -> Inv X pins σ H s -> tJs ts acc σ H Q ->
  Joins (model X.prog X.w) X.A X.xe (evalEach es X.env) acc (fun out s₁ => out.length <= sizeLine /\ EP X pins σ Q (.str out s₁.toks) { s₁ with toks := s₁.toks + 1 }) s
 | _, _, acc, s, H, .nil, I, h => ⟨by rw [sizeLine_eq]; exact h.1, .str acc, H, I.tok _, ⟨_, rfl⟩, h.2⟩
 | _, _, acc, s, H, .cons r t, I, h => thn (r pins s σ H _ I h) fun v s1 ⟨x, H1, I1, r1, q1⟩ => by
  obtain ⟨y, rfl, hz, q⟩ := q1
  obtain ⟨t', rfl⟩ := r1
  exact ⟨y, t', rfl, by rw [sizeLine_eq]; exact hz, joins_of _ _ _ _ _ t I1 q⟩
theorem pe_js {a b : Expr} {es : List Expr} {ts : List TE} {pos : Pos} (h : Paired (PE X) (a :: b :: es) ts) : PE X (.JoinedStr (a :: b :: es) pos) (tJs ts Str.empty) :=
 fun _ _ _ _ _ I q => wpAny_JoinedStr (joins_of _ _ _ _ _ h I q)
end
end L2
namespace L2
open PySem PySem.Spec PyProof.Rows
section
variable {prog : Program} {w : World} {A : Around} {R : Result -> Shared -> Prop} {I : Addr} {fp wr : List Addr} {G : Array GenState -> Array GenState -> Prop} {P : Nat -> Value -> Prop} {St : Nat -> Shared -> Prop}
end
section
variable {prog : Program} {w : World} {A : Around} {E : Value -> Shared -> Prop} {s : Shared}
end
section
variable {X : Cx}
end
end L2
namespace L2
open PySem PySem.Spec PyProof.Rows
section
variable {P : Program} {w : World} {A : Around} {E : Value -> Shared -> Prop} {s : Shared}
end
section
variable {X : Cx} {K : PySem.W.Frag}
end
end L2
namespace L2
open PySem PySem.Spec PyProof.Rows
section
variable {prog : Program} {w : World} {A : Around} {E : Value -> Shared -> Prop} {h : Heap} {g : Array GenState} {d : Drawn} {t : Nat} {os : OsState} {a : Addr} {fs : Array Value}
end
section
variable {P : Program} {w : World} {A : Around} {E : Value -> Shared -> Prop} {s : Shared}
end
section
variable {P : Program} {w : World} {A : Around} {E : Value -> Shared -> Prop} {s : Shared}
end
section
variable {X : Cx} {e : Expr}
end
end L2
namespace L2
open PySem PySem.Spec PyProof.Rows
section
variable {X : Cx} {K : PySem.W.Frag}
end
end L2
namespace L2
open PySem PySem.Spec PyProof.Rows
open AutoSeq1 (wpAny_loadPart')
section
variable {P : Program} {w : World} {A : Around} {E : Value -> Shared -> Prop} {s : Shared}
end
section
variable {X : Cx} {K : PySem.W.Frag}
end
end L2
namespace L2
open PySem PySem.Spec PyProof.Rows
end L2
namespace L2
open PySem PySem.Spec PyProof.Rows
section
variable {X : Cx}
end
end L2
namespace L2
open PySem PySem.Spec PyProof.Rows
section
variable {X : Cx} {K : PySem.W.Frag}
end
end L2
namespace L2
open PySem PySem.Spec PyProof.Rows
section
variable {X : Cx} {K : PySem.W.Frag}
end
end L2
namespace L2
open PySem PySem.Spec PyProof.Rows
section
variable {X : Cx} {K : PySem.W.Frag}
end
end L2
namespace L2
open PySem PySem.Spec PyProof.Rows
theorem scF {N P : List Str} {sc : Scope} (h1 : sc.kind = .function := by rfl) (h2 : sc.isCoroutine = false := by rfl) (h3 : sc.isGenerator = false := by rfl) (h4 : N.Nodup := by decide +kernel) (h5 : N.take P.length = P := by rfl) (h6 : ∀ x ∈ P, sc.names.lookup x = some .local \/ sc.names.lookup x = some .cell := by decide +kernel) (h7 : ∀ y ∈ sc.names, y.2 ≠ .free := by decide +kernel) : FnScope N P sc := ⟨h1, h2, h3, h4, h5, h6, h7⟩
section
variable {X : Cx} {k j : Nat} {ps : List Str} {sp : Sp} {x : Str} {p pos : Pos} {e : Expr} {es : List Expr} {t : TA}
theorem pfn (F : FnAt X.prog X.w X.K X.mg X.base CX0 j x ps sp) (hr : Room k X.A) (ha : PA X (e :: es) t) (hg : Gl X x := by rfl) (hj : j <= k := by decide)
  (hdb : (x == ("__debug__" : Str)) = false := by decide) (he : starEach (e :: es) X.env = (false, eval e X.env) :: starEach es X.env := by rfl) (hpl : (backTo pos (starEach es X.env)).any (·.1) = false := by rfl) :
  PE X (.Call (.Name x p) (e :: es) [] pos) (tCall sp [] E0 t) := pe_fn F hr hg pass0 ha hj hdb he hpl
end
theorem pixT {X : Cx} {K : PySem.W.Frag} {a b : Expr} {ta tb : TE} {pos : Pos} (ha : PE X a ta) (hb : PE X b tb) (h : X.K = K := by rfl) (hs : PlainIx b := by exact fun _ _ => rfl) : PE X (.Subscript a b pos) (tOp (rIxT K) ta tb) := pe_ix (ix_tup' h) ha hb hs
theorem pixL {X : Cx} {K : PySem.W.Frag} {a b : Expr} {ta tb : TE} {pos : Pos} (ha : PE X a ta) (hb : PE X b tb) (h : X.K = K := by rfl) (hs : PlainIx b := by exact fun _ _ => rfl) : PE X (.Subscript a b pos) (tOp (rIxL K) ta tb) := pe_ix (ix_list' h) ha hb hs
end L2
namespace Tc
open PySem L2
end Tc
namespace L2
open PySem
noncomputable def DK (h h' : Heap) : Prop := ∀ a o, h.get? a = some o -> ∃ o', h'.get? a = some o' /\ o'.dict = o.dict /\ o'.cls = o.cls
theorem DK.refl (h : Heap) : DK h h := fun _ o e => ⟨o, e, rfl, rfl⟩
theorem DK.trans {h h' h'' : Heap} (x : DK h h') (y : DK h' h'') : DK h h'' := fun a o e => by
 obtain ⟨o1, e1, d1, c1⟩ := x a o e
 obtain ⟨o2, e2, d2, c2⟩ := y a o1 e1
 exact ⟨o2, e2, d2.trans d1, c2.trans c1⟩
inductive Sf {α : Type} : Sem α -> Prop
 | pure (a : α) : Sf (.pure a)
 | raise (e : Value) : Sf (.raise e)
 | unsupported (w : String) : Sf (.unsupported w)
 | rule {t : String} {k : Unit -> Sem α} (h : ∀ x, Sf (k x)) : Sf (.rule t k)
 | load {a : Addr} {p : Option Value} {k : Obj -> Sem α} (h : ∀ x, Sf (k x)) : Sf (.load a p k)
 | update {a : Addr} {p : Option Value} {f : Obj -> Obj} {k : Unit -> Sem α} (hf : ∀ o, (f o).dict = o.dict /\ (f o).cls = o.cls /\ (f o).isFreed = o.isFreed) (h : ∀ x, Sf (k x)) : Sf (.update a p f k)
 | alloc {o : Obj} {k : Addr -> Sem α} (h : ∀ x, Sf (k x)) : Sf (.alloc o k)
 | stack {k : List (Code × Pos) -> Sem α} (h : ∀ x, Sf (k x)) : Sf (.stack k)
 | ask {k : Setting -> Sem α} (h : ∀ x, Sf (k x)) : Sf (.ask k)
theorem Sf.bind {α β : Type} {m : Sem α} {f : α -> Sem β} (h : Sf m) (g : ∀ a, Sf (f a)) : Sf (m >>= f) := by
 show Sf (Sem.bind m f)
 induction h with
 | pure a => exact g a
 | raise e => exact .raise e
 | unsupported w => exact .unsupported w
 | rule h ih => exact .rule ih
 | load h ih => exact .load ih
 | update hf h ih => exact .update hf ih
 | alloc h ih => exact .alloc ih
 | stack h ih => exact .stack ih
 | ask h ih => exact .ask ih
theorem DK.update {h : Heap} {a : Addr} {f : Obj -> Obj} (hf : ∀ o, (f o).dict = o.dict /\ (f o).cls = o.cls /\ (f o).isFreed = o.isFreed) : DK h (h.update a f) := fun b o e => by
 by_cases q : a = b
 ·subst q
  have nf : o.isFreed = false := (Heap.get?_some_iff.mp e).2
  exact ⟨f o, Heap.get?_update_self f e ((hf o).2.2.trans nf), (hf o).1, (hf o).2.1⟩
 ·exact ⟨o, (Heap.get?_update_other h f q).trans e, rfl, rfl⟩
theorem DK.push {h : Heap} (o : Obj) : DK h (h.push o) := fun _ u e => ⟨u, Heap.get?_push_of_some o e, rfl, rfl⟩
theorem Sf.keep {α : Type} {M : Model} {Γ : Ctx} {t : Sem α} (h : Sf t) : ∀ {Q : α -> Pos -> Shared -> Prop} {E : Value -> Pos -> Shared -> Prop} {p : Pos} {s : Shared}, Sem.wp M Γ t Q E p s -> Sem.wp M Γ t (fun a p' s' => Q a p' s' /\ DK s.heap s'.heap) (fun e p' s' => E e p' s' /\ DK s.heap s'.heap) p s := by
 induction h with
 | pure a => intro Q E p s w; rw [Sem.wp] at w ⊢; exact ⟨w, DK.refl _⟩
 | raise e => intro Q E p s w; rw [Sem.wp] at w ⊢; exact ⟨w, DK.refl _⟩
 | unsupported w0 => intro Q E p s w; rw [Sem.wp] at w; exact w.elim
 | rule h ih => intro Q E p s w; rw [Sem.wp] at w ⊢; exact ih () w
 | load h ih =>
  intro Q E p s w
  rw [Sem.wp] at w ⊢
  obtain ⟨o, ho, w⟩ := w
  exact ⟨o, ho, ih o w⟩
 | update hf h ih =>
  intro Q E p s w
  rw [Sem.wp] at w ⊢
  refine ⟨w.1, Sem.wp_mono M Γ _ (fun a p' s' x => ⟨x.1, (DK.update hf).trans x.2⟩) (fun e p' s' x => ⟨x.1, (DK.update hf).trans x.2⟩) _ _ (ih () w.2)⟩
 | alloc h ih =>
  intro Q E p s w
  rw [Sem.wp] at w ⊢
  exact Sem.wp_mono M Γ _ (fun a p' s' x => ⟨x.1, (DK.push _).trans x.2⟩) (fun e p' s' x => ⟨x.1, (DK.push _).trans x.2⟩) _ _ (ih _ w)
 | stack h ih => intro Q E p s w; rw [Sem.wp] at w ⊢; exact ih _ w
 | ask h ih => intro Q E p s w; rw [Sem.wp] at w ⊢; exact ih _ w
theorem Sf.keepAny {α : Type} {M : Model} {A : Around} {t : Sem α} {Q : α -> Shared -> Prop} {E : Value -> Shared -> Prop} {s : Shared} (h : Sf t) (w : wpAny M A t Q E s) : wpAny M A t (fun a s' => Q a s' /\ DK s.heap s'.heap) (fun e s' => E e s' /\ DK s.heap s'.heap) s :=
 fun Γ p hΓ => h.keep (w Γ p hΓ)
theorem Sf.ofLoad (a : Addr) : Sf (PySem.load a) := .load fun x => .pure x
theorem Sf.ofStack : Sf PySem.stack := .stack fun x => .pure x
theorem mapF_ok (g : Array Value -> Array Value) (o : Obj) : (Obj.mapFields g o).dict = o.dict /\ (Obj.mapFields g o).cls = o.cls /\ (Obj.mapFields g o).isFreed = o.isFreed := by
 obtain ⟨c, d, dt, sl⟩ := o
 cases dt <;> exact ⟨rfl, rfl, rfl⟩
theorem Sf.ofField (v : Value) (i : Nat) : Sf (field v i) := by
 unfold field fieldsOf
 refine Sf.bind ?_ fun x => ?_
 ·cases v with
  | ref a =>
   refine Sf.bind (Sf.ofLoad a) fun o => ?_
   split
   ·exact .pure _
   ·exact .unsupported _
  | _ => exact .unsupported _
 ·split
  ·exact .pure _
  ·exact .unsupported _
theorem Sf.ofSetField (v : Value) (i : Nat) (x : Value) : Sf (setField v i x) := by
 unfold setField
 cases v with
 | ref a =>
  show Sf (updateField a i x)
  unfold updateField
  refine Sf.bind (Sf.ofLoad a) fun o => ?_
  split
  ·split
   ·exact .update (mapF_ok _) fun u => .pure u
   ·exact .unsupported _
  ·exact .unsupported _
 | _ => exact .unsupported _
theorem Sf.ofSetFlight (e : Value) (f : Option Addr) : Sf (setFlight e f) := by
 unfold setFlight
 refine Sf.bind (Sf.ofField e 1) fun tb => ?_
 split
 ·exact Sf.ofSetField _ _ _
 ·exact .pure _
theorem Sf.ofReady : ∀ l : List Env, Sf (readyFrames l)
 | [] => by unfold readyFrames; exact .pure _
 | env :: outer => by
  unfold readyFrames
  split
  ·refine Sf.bind (Sf.ofLoad _) fun o => ?_
   split
   ·exact .pure _
   ·refine Sf.bind ?_ fun b => Sf.bind ?_ fun k => ?_
    ·unfold behindIsImport
     split
     ·exact .pure _
     ·split
      ·exact .pure _
      ·exact Sf.bind (Sf.ofField _ _) fun x => .pure _
    ·unfold keptBack
     split
     ·split
      ·exact .pure _
      ·exact Sf.bind (Sf.bind Sf.ofStack fun x => .pure _) fun x => .pure _
     ·exact .pure _
    ·exact Sf.bind (.update (fun o => ⟨rfl, rfl, by obtain ⟨c, d, dt, sl⟩ := o; cases dt <;> rfl⟩) fun u => .pure u) fun _ => Sf.ofReady outer
  ·exact .unsupported _
theorem Sf.ofFrameOf (env : Env) : Sf (frameOf env) := by
 unfold frameOf frameEnvs
 refine Sf.bind (Sf.bind Sf.ofStack fun x => .pure _) fun es => Sf.bind ?_ fun r => ?_
 ·generalize List.dropWhile _ es = l
  cases l with
  | nil => unfold frameObject; exact .pure _
  | cons e o => unfold frameObject; exact Sf.bind (Sf.ofReady _) fun _ => .pure _
 ·split
  ·exact .pure _
  ·exact .unsupported _
theorem Sf.ofPlace (f : Addr) (b : Bool) : Sf (entryPlaceOf f b) := by
 unfold entryPlaceOf
 refine Sf.bind Sf.ofStack fun x => ?_
 split
 ·exact .pure _
 ·exact .pure _
theorem Sf.ofEntry (a b c d e : Value) (l : List Value) : Sf (EntryCells.newEntry a b c d e l) := by
 unfold EntryCells.newEntry newFields newObj
 have jp : ∀ D, Sf (newObjAsIs (.type "traceback") D) := fun D => by
  unfold newObjAsIs
  exact Sf.bind (.alloc fun x => .pure x) fun a => .pure _
 dsimp only
 generalize ([a, b, c, d, e] ++ if l.isEmpty = true then List.replicate 6 Value.none else l).toArray = vs
 split
 ·exact Sf.bind (.unsupported _) fun _ => jp _
 ·exact jp _
theorem Sf.ofNote (e : Value) (env : Env) : Sf (noteFrame e env) := by
 unfold noteFrame
 cases hf : env.frame with
 | none => exact .unsupported _
 | some f =>
  dsimp only
  refine Sf.bind (Sf.ofField _ _) fun hd => ?_
  have rest : ∀ b, Sf (do let fr <- frameOf env; let pl <- entryPlaceOf f b; let en <- EntryCells.newEntry hd fr .none (rawInt f) .none pl; setField e 1 en) := fun b =>
   Sf.bind (Sf.ofFrameOf _) fun fr => Sf.bind (Sf.ofPlace _ _) fun pl => Sf.bind (Sf.ofEntry _ _ _ _ _ _) fun en => Sf.ofSetField _ _ _
  split
  ·refine Sf.bind (Sf.ofField _ _) fun x => ?_
   split
   ·exact .pure _
   ·exact Sf.bind (Sf.ofSetField _ _ _) fun _ => rest _
  ·exact rest _
theorem Sf.ofLeaving (env : Env) (e : Value) : Sf (leaving env e) := Sf.bind (Sf.ofNote e env) fun _ => Sf.ofSetFlight e none
end L2
namespace L2
open PySem PySem.Spec PyProof.Rows
noncomputable def DictIs (h : Heap) (a : Addr) (dx : Option Addr) : Prop := ∃ oe, h.get? a = some oe /\ oe.dict = dx
theorem DictIs.keep {h h' : Heap} {a : Addr} {dx : Option Addr} (x : DictIs h a dx) (k : DK h h') : DictIs h' a dx := by
 obtain ⟨oe, e, d⟩ := x
 obtain ⟨o', e', d', _⟩ := k a oe e
 exact ⟨o', e', d'.trans d⟩
noncomputable def CXD (P : Program) (w : World) : CXT := fun outer H s E e s' => ∃ (a : Addr) (C : Value) (H' : Hp) (B : Heap) (a0 : Value) (dx : Option Addr),
 e = .ref a /\ s'.os = s.os /\ AllBare s'.gens /\ Kp P w outer H s.heap H' s'.heap B /\ Heap.FlyingW B outer a C a0 s'.heap /\ DictIs s'.heap a dx /\ E C dx H'
section
variable {P : Program} {w : World} {K : PySem.W.Frag} {mg : Str -> Option Value} {base : Heap} {N : List Str} {qual : Str} {scope : Scope} {f : Addr} {cd : Value} {A : Around} {outer : List Env} {s : Shared} {H : Hp} {E : XK}
theorem passD : Passes (CXD P w) (cxOf (CXD P w) P w K mg base N qual scope f cd A outer s H E) E := by
 intro pins σ H1 s1 e s2 I hq
 obtain ⟨a, C, H2, B, a0, dx, rfl, os, bare, Kq, fl, di, q⟩ := hq
 refine wpAny_mono ((Sf.ofLeaving _ _).keepAny (wpAny_leaves_onW (Q := fun _ s' => ∃ h3, s' = { s2 with heap := h3 } /\ Heap.FlyingW _ _ a C a0 h3 /\ s2.heap.UpToSlots h3) (E := fun _ _ => False) I.ok.frames rfl fl fun h3 fl3 sl => ⟨h3, rfl, fl3, sl⟩)) (fun _ s' z => ?_) fun _ _ z => z.1.elim
 obtain ⟨⟨h3, rfl, fl3, sl⟩, dk⟩ := z
 exact ⟨a, C, H2, B, a0, dx, rfl, os.trans I.os, bare, Kq.leave I rfl rfl rfl fl3.1 sl, fl3, di.keep dk, q⟩
theorem DefAt.okD {x : Str} {st : Stmt} {N ps : List Str} {k : Nat} {sp : Sp} (D : DefAt K mg x st) (S : FnScope N ps (defScope st)) (len : ∀ vs H Q E, sp vs H Q E -> vs.length = ps.length)
  (hb : ∀ (kV doc pm : Value) (an : Option Addr) (cdv ct : Value) (us : List Value), us.length = ps.length -> bindArgs (PySem.W.fnOf x x (defArgs st) (defBody st) (defScope st) .none kV doc pm an cdv ct) ⟨us, []⟩ = pure (ps.zip us))
  (hbody : ∀ (f : Addr) (cdv : Value) (A : Around) (outer : List Env) (s : Shared) (H : Hp) (vs : List V) (Q : VK) (E : XK), Room k (A.deeper (envOfC x (defScope st) s.heap.objs.size f cdv)) -> sp vs H Q E ->
   ∃ t, PSs (cxOf (CXD P w) P w K mg base N x (defScope st) f cdv A outer s H E) (defBody st) t /\ t { nx := fun _ H' => Q .non H', rt := Q } (start N vs) H) : FnAt P w K mg base (CXD P w) (k + 1) x ps sp := by
 obtain ⟨f, fd, F, m⟩ := D.ex
 have hF := F
 obtain ⟨oc, od, kV, doc, pm, an, cdv, ct, osl, rfl, lk, hcd⟩ := F.ex
 exact ⟨f, _, fn_of lk hcd S len fun A outer s H vs Q E hr hsp => hbody f cdv A outer s H vs Q E hr hsp, m, hF.kp, hF.binds hb⟩
end
noncomputable def excD (a : Addr) (C : Value) (dx : Option Addr) : HO := .ext fun h => ∃ oe vs, h.get? a = some oe /\ oe.cls = C /\ oe.data = .fields vs /\ oe.dict = dx
noncomputable def HdD (X : Cx) (hds : List ExceptHandler) (th : Value -> Option Addr -> TS) : Prop :=
 ∀ (pins : List (Addr × Obj)) (σ : St) (H1 H2 : Hp) (s1 s2 : Shared) (D : Ends) (a : Addr) (C : Value) (B : Heap) (a0 : Value) (dx : Option Addr), Inv X pins σ H1 s1 -> s2.os = s1.os -> AllBare s2.gens -> Kp X.prog X.w X.stack H1 s1.heap H2 s2.heap B ->
  Heap.FlyingW B X.stack a C a0 s2.heap -> DictIs s2.heap a dx -> th C dx D σ H2 -> wpAny (model X.prog X.w) X.A (handleBy (.ref a) X.env hds) (SP X pins D) X.xe s2
theorem hdD_none {X : Cx} : HdD X [] (fun _ _ => tNever) := fun _ _ _ _ _ _ _ _ _ _ _ _ _ _ _ _ _ _ h => h.elim
noncomputable def PEXD (X : Cx) (e : Expr) (t : St -> Hp -> VK -> XK -> Prop) : Prop :=
 ∀ (pins : List (Addr × Obj)) (s : Shared) (σ : St) (H : Hp) (Q : VK) (E : XK), Inv X pins σ H s -> t σ H Q E ->
  wpAny (model X.prog X.w) X.A (eval e X.env) (EP X pins σ Q) (fun x s' => ∃ s1 H1, Inv X pins σ H1 s1 /\ CXD X.prog X.w X.stack H1 s1 E x s') s
section
variable {X : Cx} {k j : Nat} {ps : List Str} {sp : Sp} {x : Str} {p pos : Pos} {e : Expr} {es : List Expr} {t : TA}
theorem pexD_fn (F : FnAt X.prog X.w X.K X.mg X.base (CXD X.prog X.w) j x ps sp) (hr : Room k X.A) (hg : Gl X x) (ha : PA X.nox (e :: es) t) (hj : j <= k := by decide)
  (hdb : (x == ("__debug__" : Str)) = false := by decide) (he : starEach (e :: es) X.env = (false, eval e X.env) :: starEach es X.env := by rfl) (hpl : (backTo pos (starEach es X.env)).any (·.1) = false := by rfl) :
  PEXD X (.Call (.Name x p) (e :: es) [] pos) (fun σ H Q E => t σ H fun vs H1 => sp vs H1 Q E) := by
 intro pins s σ H Q E I h
 obtain ⟨f, fd, G, m, kp, b⟩ := F.ex
 refine wpAny_Call_Name_kw (ld_glob I hg m ?_ hdb)
 refine PySem.W.callWith_K (h₀ := X.base) I.ok.mod.kin kp (wpAny_mono (ha pos pins s σ H _ (I.wish _) h) (fun us s1 ⟨vs, H1, I1', r, q⟩ => ⟨I1'.unwish.kIn, ?_⟩) fun _ _ z => z.elim) he hpl
 have I1 := I1'.unwish
 have hl : us.length = ps.length := by rw [<- r.length]; exact G.len _ _ _ _ q
 have hb := b s1 us I1.kIn (by rw [List.append_nil]; exact hl)
 rw [List.append_nil] at hb
 refine wpAny_call (codeAny_mono (G.run X.A X.stack s1 H1 ⟨us, []⟩ us vs Q E (hr.mono hj) I1.env0 hb r q) fun r s' hq => ?_)
 cases r with
 | error x => exact ⟨s1, H1, I1, hq⟩
 | ok fl =>
  cases fl with
  | ret u => exact I1.after hq
  | next => exact False.elim hq
  | brk => exact False.elim hq
  | cont => exact False.elim hq
theorem to_handsD {hd : ExceptHandler} {hds : List ExceptHandler} {th : Value -> Option Addr -> TS} {pins : List (Addr × Obj)} {σ : St} {H1 : Hp} {s1 s2 : Shared} {D : Ends} {E : XK} {ex : Value} (hst : X.stack = X.env :: X.outer) (hf : X.env.frame = some X.env.locals)
  (hh : HdD X (hd :: hds) th) (I1 : Inv X pins σ H1 s1) (hx : CXD X.prog X.w X.stack H1 s1 E ex s2) (hE : ∀ C dx H', E C dx H' -> th C dx D σ H') :
  wpAny (model X.prog X.w) X.A (noteFrame ex X.env) (fun _ s₂ => wpAny (model X.prog X.w) X.A (setFlight ex none) (fun _ s₃ => wpAny (model X.prog X.w) X.A (handleBy ex X.env (hd :: hds)) (SP X pins D) X.xe s₃) X.xe s₂) X.xe s2 := by
 obtain ⟨a, C, H2, B, a0, dx, rfl, os, bare, K, fl, di, q⟩ := hx
 rw [hst] at fl
 refine wpAny_mono ((Sf.ofNote _ _).keepAny (wpAny_looks_onW (Q := fun _ s' => ∃ h3, s' = { s2 with heap := h3 } /\ Heap.HeldW _ _ a C a0 _ h3 /\ s2.heap.UpToSlots h3) (E := fun _ _ => False) (by rw [I1.ok.frames, hst]) hf fl fun h3 held sl => ⟨h3, rfl, held, sl⟩)) (fun _ s' z => ?_) fun _ _ z => z.1.elim
 obtain ⟨⟨h3, rfl, held, sl3⟩, dk3⟩ := z
 refine wpAny_mono ((Sf.ofSetFlight _ _).keepAny (wpAny_landsW (Q := fun _ s' => ∃ h4, s' = { s2 with heap := h4 } /\ Heap.FlyingW _ _ a C a0 h4 /\ h3.UpToSlots h4) (E := fun _ _ => False) held fun h4 fl4 sl4 => ⟨h4, rfl, fl4, sl4⟩)) (fun _ s' z => ?_) fun _ _ z => z.1.elim
 obtain ⟨⟨h4, rfl, fl4, sl4⟩, dk4⟩ := z
 have K3 := K.slots I1 held.1 sl3
 have K4 := K3.slots I1 fl4.1 sl4
 rw [<- hst] at fl4
 exact hh pins σ H1 H2 s1 { s2 with heap := h4 } D a C B a0 dx I1 os bare K4 fl4 ((di.keep dk3).keep dk4) (hE _ _ _ q)
noncomputable def tTryD (tx : St -> Hp -> VK -> XK -> Prop) (th : Value -> Option Addr -> TS) : TS := fun D σ H => tx σ H (fun _ H1 => D.nx σ H1) (fun C dx H' => th C dx D σ H')
theorem ps_tryD {hd : ExceptHandler} {hds : List ExceptHandler} {th : Value -> Option Addr -> TS} {p1 pos : Pos} {tx : St -> Hp -> VK -> XK -> Prop} (hst : X.stack = X.env :: X.outer) (hf : X.env.frame = some X.env.locals) (hx : PEXD X e tx) (hh : HdD X (hd :: hds) th)
  (hs : swapsWith e none p1.line X.env = pure false := by rfl) : PS X (.Try [.Expr e p1] (hd :: hds) [] [] pos) (tTryD tx th) := by
 intro pins s σ H D I h
 refine wpAny_Try_except ?_
 refine wpAny_execs_cons (wpAny_Expr_any (wpAny_mono (hx pins s σ H _ _ I h) (fun v s1 ⟨y, H1, I1, _, q⟩ => ?_) fun ex s2 ⟨s1, H1, I1, z⟩ => ?_) I.quiet hs)
 ·exact wpAny_execs_nil (wpAny_execs_nil ⟨σ, H1, I1, q⟩)
 ·exact to_handsD hst hf hh I1 z fun C dx H' q => q
end
section
variable {X : Cx} {x n : Str} {C' : Addr} {i : Nat} {np pos : Pos} {b₀ : Stmt} {suite : List Stmt} {rest : List ExceptHandler} {ts : TS} {tr : Value -> Option Addr -> TS}
noncomputable def hAsD (K : PySem.W.Frag) (C' : Addr) (i : Nat) (ts : TS) (tr : Value -> Option Addr -> TS) : Value -> Option Addr -> TS := fun C dx D σ H => ∃ b, PySem.W.exmOne K C (.ref C') = some b /\
 if b = true then ∀ a, H a = none -> ts (handEnds i D) (σ.set i (some (.ref a))) (upd H a (excD a C dx)) else tr C dx D σ H
theorem hdD_as (hex : X.ex = []) (hN : X.N.Nodup) (hg : Gl X x) (hm : X.mg x = some (.ref C')) (hi : X.N[i]? = some n) (hk : X.env.scope.names.lookup n = some .local) (hs : ∀ a, PSs (X.hand a) (b₀ :: suite) ts) (hr : HdD X rest tr)
  (hd : (x == ("__debug__" : Str)) = false := by decide) : HdD X (.ExceptHandler (some (.Name x np)) (some n) (b₀ :: suite) pos :: rest) (hAsD X.K C' i ts tr) := by
 intro pins σ H1 H2 s1 s2 D a C B a0 dx I1 os bare K fl di h
 have I2 := K.inv I1 os bare
 obtain ⟨b, hb, h⟩ := h
 refine wpAny_handleBy_cons (codeAny_handlers_test (ld_glob (X := X.hand a) (I2.hand a) hg hm ?_ hd)) (by intro z; cases z)
 obtain ⟨oe, he, hcls⟩ := fl.there
 have LT : PySem.W.Looks (model X.prog X.w) s2.heap (typeOf (.ref a)) C := hcls ▸ (PySem.W.Looks.ld he).andThen .now
 refine (PySem.W.exm_one I2.kIn LT hb).here ?_
 cases b with
 | false => exact hr pins σ H1 H2 s1 s2 D a C B a0 dx I1 os bare K fl di h
 | true =>
  refine codeAny_handlers_suite_as (wpAny_mono ((Sf.ofSetFlight _ _).keepAny (lands_againW (Q := fun _ s' => ∃ h6, s' = { s2 with heap := h6 } /\ Heap.FlyingW _ _ a C a0 h6 /\ s2.heap.UpToSlots h6) (E := fun _ _ => False) fl fun h6 fl6 sl6 => ⟨h6, rfl, fl6, sl6⟩)) (fun _ s' z => ?_) fun _ _ z => z.1.elim)
  obtain ⟨⟨h6, rfl, fl6, sl6⟩, dk6⟩ := z
  have di6 := di.keep dk6
  have K6 : Kp X.prog X.w X.stack H1 s1.heap H2 ({ s2 with heap := h6 } : Shared).heap B := K.slots I1 fl6.1 sl6
  have I6 := K6.inv I1 os bare
  have new1 : s1.heap.get? a = none := by
   cases q : s1.heap.get? a with
   | none => rfl
   | some ob =>
    by_cases hb : a ∈ frs X.stack
    ·obtain ⟨_, o', e', d'⟩ := I6.stack.mem hb
     obtain ⟨oe6, vs6, e6, _, d6, _⟩ := fl6.first
     rw [e6] at e'
     cases e'
     exact absurd d6 (d' vs6)
    ·obtain ⟨o', e'⟩ := K.has a ob q hb
     rw [fl.2.1] at e'; cases e'
  have hn : H2 a = none := by
   cases q : H2 a with
   | none => rfl
   | some u =>
    obtain ⟨o', _, e'⟩ := K.trk a u q
    rw [fl.2.1] at e'; cases e'
  have new0 : X.s₀.heap.get? a = none := by
   cases q : X.s₀.heap.get? a with
   | none => rfl
   | some ob =>
    obtain ⟨o', e'⟩ := I1.base.there a ob q (by rw [hex]; simp)
    rw [new1] at e'; cases e'
  have hL : a ≠ X.env.locals := by
   intro z
   obtain ⟨m, ⟨oL, _, _, hoL, _⟩, _⟩ := I1.loc
   rw [<- z, new1] at hoL; cases hoL
  have hCe : ∀ y c, X.env.cells.lookup y = some c -> c ≠ a := fun y c e z => by
   obtain ⟨v, oc, hoc, _⟩ := I1.cell y c e
   rw [z, new1] at hoc; cases hoc
  have hPe : ∀ p ∈ X.pn ++ pins, p.1 ≠ a := fun p hp z => by
   have q := (I1.pin p hp).1
   rw [z, new1] at q; cases q
  have ho : ObjOk X.prog X.w (upd H2 a (excD a C dx)) h6 a (excD a C dx) := by
   obtain ⟨oe6, vs6, e6, c6, d6, _⟩ := fl6.first
   obtain ⟨oe7, e7, d7⟩ := di6
   have e7 : h6.get? a = some oe7 := e7
   rw [e6] at e7
   cases e7
   exact ⟨⟨oe6, vs6, e6, c6, d6, d7⟩, ⟨oe6, e6⟩, fun g1 g2 ⟨o1, v1, q1, q2, q3, q4⟩ kk => ⟨o1, v1, kk o1 q1, q2, q3, q4⟩⟩
  have I7 : Inv X pins σ (upd H2 a (excD a C dx)) { s2 with heap := h6 } := I6.track hn new0 hL hCe hPe ho
  refine store_ok (X := X.hand a) (v := .ref a) (I7.hand a) hN hi (Or.inl hk) rfl (fun s8 I8 => ?_) (Or.inr hk)
  refine wpAny_mono (hs a pins s8 _ _ (handEnds i D) I8 (h a hn)) (fun f s9 q => ?_) fun _ _ z => z.elim
  cases f with
  | next =>
   obtain ⟨σ', H', I', q⟩ := q
   exact name_goesI (I'.unhand I1.ok) hN hi hk fun s10 I10 => ⟨_, _, I10, q⟩
  | brk =>
   obtain ⟨σ', H', I', q⟩ := q
   exact name_goesI (I'.unhand I1.ok) hN hi hk fun s10 I10 => ⟨_, _, I10, q⟩
  | cont =>
   obtain ⟨σ', H', I', q⟩ := q
   exact name_goesI (I'.unhand I1.ok) hN hi hk fun s10 I10 => ⟨_, _, I10, q⟩
  | ret u =>
   obtain ⟨v, σ', H', I', r, q⟩ := q
   exact name_goesI (I'.unhand I1.ok) hN hi hk fun s10 I10 => ⟨v, _, H', I10, r, q⟩
end
end L2
namespace L2
open PySem PySem.Spec PyProof.Rows PySem.W PySem.Builtin PySem.Builtin.ObjectAttr PySem.Builtin.Getset_descriptor
section
variable {X : Cx}
theorem call_isiD : CallR X (.builtin "isinstance") (fun xs H Q => ∃ a C dx c b, xs = [.ref a, c] /\ H a = some (excD a (.ref C) dx) /\ ExcK X.K C /\
  ((∃ n, c = .ty n /\ kitOne X.K (.ref C) (.type n) = some b) \/ (∃ D, c = .ref D /\ kitOne X.K (.ref C) (.ref D) = some b)) /\ Q (.bl b) H) := by
 intro pins s σ H xs us Q I r h
 obtain ⟨a, C, dx, c, b, rfl, hH, hk, hc, q⟩ := h
 obtain ⟨u, u', rfl, ru, ru'⟩ := vals2 r
 cases ru
 have ho := I.hok a _ hH
 unfold excD at ho
 obtain ⟨⟨oe, vs, e1, e2, e3, _⟩, _, _⟩ := ho
 have fin : ∀ tk, EP X pins σ Q (.bool b) { s with toks := tk } := fun tk => ⟨.bl b, H, I.tok tk, rfl, q⟩
 rcases hc with ⟨n, rfl, e⟩ | ⟨D, rfl, e⟩
 ·cases ru'
  exact kia_one (kitx_exc hk) I.kIn ⟨oe, vs, e1, e2, e3⟩ e (fun z => nomatch z) fin
 ·cases ru'
  exact kia_one (kitx_exc hk) I.kIn ⟨oe, vs, e1, e2, e3⟩ e (fun z => nomatch z) fin
end
section
variable {prog : Program} {w : World} {A : Around} {E : Value -> Shared -> Prop}
theorem exf_ga {K : Frag} {a C dx : Addr} {f : Str} {v : Value} {mA : Str -> Option Value} {tk : Tok} {R : Result -> Shared -> Prop} {hh : Heap} {g : Array GenState} {dr : Drawn} {t : Nat} {os : OsState} {oe : Obj} {vs : Array Value} (X : K.In hh) (he : hh.get? a = some oe) (hc : oe.cls = .ref C) (hdt : oe.data = .fields vs) (hd : oe.dict = some dx)
  (hn : hh.Ns1 dx mA) (hv : mA f = some v) (hh' : hasDictIn K C = true) (hcl : findIn K (.ref C) f = some none) (LB : Looks (model prog w) hh (isSubtype (.ref C) (.type "BaseException")) true) (h : R (.ok (.ret v)) ⟨hh, g, dr, t, os⟩) :
  codeAny (model prog w) A (.call (.builtin "BaseException.__getattribute__") ⟨[.ref a, .str f tk], []⟩) R ⟨hh, g, dr, t, os⟩ := by
 refine codeAny_call_builtin PySem.F.attr_ValueError.ga.plain PySem.F.entry_bexc_ga ?_
 have k1 : builtinKind "BaseException.__getattribute__" = some .slot := by decide +kernel
 have k2 : splitId "BaseException.__getattribute__" = some ("BaseException", "__getattribute__") := by decide +kernel
 have ha := PySem.F.args_bexc_ga (.ref a) (.str f tk)
 obtain ⟨od, eod, hod⟩ := lookIn_ns hn
 have hno : notCls oe = true := by unfold notCls; rw [hdt]
 have I : InstAt hh a oe C (some od) := ⟨he, hc, hno, by rw [hd]; exact eod⟩
 have LF : Looks (model prog w) hh (find (.ref a) (.ref C) f) (.value v) := looks_find X I (findObj_own hh' hcl rfl ((hod f).trans (congrArg some hv)))
 simp only [checkBuiltinCall, k1, k2]
 refine wpAny_bind ?_
 unfold isInstance
 repeat (first | (with_reducible refine wpAny_loadPart_at he ?_; rw [hc]) | (with_reducible refine LB.at ?_) | (with_reducible refine wpAny_bind (LF.at ?_)) | (with_reducible refine LF.at ?_) | wp_step)
 repeat (any_goals (first | assumption | wp_step))
theorem exf_at {K : Frag} {a C dx : Addr} {f : Str} {v : Value} {mA : Str -> Option Value} {expr : Bool} {s : Shared} {oe : Obj} {vs : Array Value} {Q : Value -> Shared -> Prop} (X : K.In s.heap) (he : s.heap.get? a = some oe) (hc : oe.cls = .ref C) (hdt : oe.data = .fields vs) (hd : oe.dict = some dx)
  (hn : s.heap.Ns1 dx mA) (hv : mA f = some v) (hga : findIn K (.ref C) "__getattribute__" = some (some (.builtin "BaseException.__getattribute__"))) (hg2 : findIn K (.ref C) "__getattr__" = some none)
  (hh' : hasDictIn K C = true) (hcl : findIn K (.ref C) f = some none) (hmB : mroIn K C (.type "BaseException") = some true) (hv' : handedIn v = true)
  (h : Q v { s with toks := s.toks + 1 }) : wpAny (model prog w) A (getAttr (.ref a) f expr) Q E s := by
 obtain ⟨hh, g, d, t, os⟩ := s
 obtain ⟨oc, odi, oda, osl⟩ := oe
 dsimp only at hc hdt hd
 subst hc hdt hd
 have L0 : Looks (model prog w) hh (typeOf (.ref a)) (.ref C) := (Looks.ld he).andThen .now
 have L1 : Looks (model prog w) hh (typeLookup (.ref C) "__getattribute__") (some (.builtin "BaseException.__getattribute__")) := looks_findIn X hga
 have L2 : Looks (model prog w) hh (typeLookup (.ref C) "__getattr__") none := looks_findIn X hg2
 have LB : Looks (model prog w) hh (isSubtype (.ref C) (.type "BaseException")) true := looks_mroIn X hmB
 have f3 := PySem.F.attr_ValueError.ga.bind (.ref a)
 have hx2 : (Value.builtin "BaseException.__getattribute__" == Value.builtin "object.__getattribute__") = false := by decide +kernel
 have hx0 : (expr && onTheHeap (Value.builtin "BaseException.__getattribute__")) = false := by cases expr <;> rfl
 have hx1 : (onTheHeap (Value.ref C) && Value.builtin "BaseException.__getattribute__" == Value.builtin "object.__getattribute__") = false := by rw [hx2]; rfl
 unfold getAttr
 repeat (any_goals (first | assumption | wp_step | (with_reducible refine L1.at ?_) | (with_reducible refine L2.at ?_) | (with_reducible refine L0.at ?_)))
 refine exf_ga X he rfl rfl rfl hn hv hh' hcl LB ?_
 repeat (any_goals (first | assumption | wp_step))
 show wpAny _ _ (handedOut v) _ _ _
 rw [handedOut_of hv']
 exact wpAny_pure h
end
section
variable {X : Cx} {e : Expr} {f : Str} {pos : Pos} {ta : TE}
noncomputable def tExf (K : Frag) (ta : TE) (f : Str) : TE := fun σ H Q => ta σ H fun x H1 => ∃ a C dx fs v, x = .ref a /\ H1 a = some (excD a (.ref C) (some dx)) /\ H1 dx = some (.xd fs) /\ ExcK K C /\ hasDictIn K C = true /\ findIn K (.ref C) f = some none /\ fs.lookup f = some (.int v) /\ Q (.int v) H1
theorem pe_exf (he : PE X e ta) (hb : attributeBase e f X.env (eval e X.env) = eval e X.env := by rfl) : PE X (.Attribute e f pos) (tExf X.K ta f) := by
 intro pins s σ H Q I h
 refine attr_of hb (thn (he pins s σ H _ I h) fun u s1 ⟨x, H1, I1, rx, a, C, dx, fs, v, ex, ea, ed, k, hd, hf, l, q⟩ => ?_)
 subst ex
 obtain rfl : u = Value.ref a := rx
 have ho := I1.hok a _ ea
 unfold excD at ho
 obtain ⟨⟨oe, vs, e1, e2, e3, e4⟩, _, _⟩ := ho
 obtain ⟨mA, hn, hm⟩ := (show ObjOk X.prog X.w H1 s1.heap dx (.xd fs) from I1.hok dx _ ed)
 have hv := hm f
 rw [l] at hv
 cases hv' : mA f with
 | none => rw [hv'] at hv; exact hv.elim
 | some u =>
  rw [hv'] at hv
  obtain ⟨tk, rfl⟩ := (show ∃ tk, u = Value.int v tk from hv)
  exact exf_at I1.kIn e1 e2 e3 e4 hn hv' k.ga k.g2 hd hf k.mB rfl ⟨.int v, H1, I1.tok _, ⟨_, rfl⟩, q⟩
end
abbrev veMro : List Value := [.type "ValueError", .type "Exception", .type "BaseException", .type "object"]
section
variable {prog : Program} {w : World} {A : Around} {E : Value -> Shared -> Prop} {s : Shared} {K : Frag} {a C Ct : Addr} {f : Str} {v : Value} {vs : Array Value} {sl : Array (Option Value)} {cd : ClassData}
theorem exs_attr {Q : Unit -> Shared -> Prop} (X : K.In s.heap) (he : s.heap.get? a = some ⟨.ref C, none, .fields vs, sl⟩) (hs : findIn K (.ref C) "__setattr__" = some (some (.builtin "object.__setattr__"))) (hc : clsIn K C = some cd)
  (hm : cd.mro = .ref C :: .ref Ct :: veMro) (hd : cd.hasDict = true) (hf : findIn K (.ref C) f = some none)
  (h : ∀ h' dx, h'.get? a = some ⟨.ref C, some dx, .fields vs, sl⟩ -> h'.Ns1 dx (fun y => if y = f then some v else none) -> (∀ b o, b ≠ a -> s.heap.get? b = some o -> h'.get? b = some o) -> s.heap.objs.size <= dx -> Q () { s with heap := h', toks := s.toks + 2 }) :
  wpAny (model prog w) A (setAttr (.ref a) f v) Q E s := by
 have I : InstAt s.heap a ⟨.ref C, none, .fields vs, sl⟩ C none := ⟨he, rfl, rfl, trivial⟩
 refine set_plain X I hs ?_
 have SF := PySem.F.store_object
 have sub : Looks (model prog w) s.heap (isInstance (.ref a) (.type "object")) true := I.type.andThen (looks_mroIn X (by unfold mroIn; rw [hc, Option.bind_some, if_neg (by rw [hm]; exact Bool.false_ne_true), hm]; rfl))
 refine codeAny_call_builtin SF.slot.plain SF.entry (@check_slot (model prog w) _ _ { s with toks := s.toks + 1 } "object.__setattr__" "object" "__setattr__" (.ref a) [.str f s.toks, v] [] _ SF.kind SF.split sub (SF.args (.ref a) (.str f s.toks) v) ?_)
 have hm' : Looks (model prog w) s.heap (mroOf (.ref C)) cd.mro := (looks_clsIn X hc).andThen .now
 rw [osa_eq, refuse_eq]
 refine wpAny_bind (wpAny_bind (I.type.at (wpAny_bind (hm'.at ?_))))
 rw [hm, refuseLoop_ref, refuseLoop_ref, PySem.F.store_ValueError.passes]
 refine wpAny_pure (wpAny_bind (I.type.at (wpAny_bind ((looks_findIn X hf).at (wpAny_bind (wpAny_pure ?_))))))
 have hx₁ : (s.heap.push { cls := .type "dict", data := .dict #[] }).get? a = some ⟨.ref C, none, .fields vs, sl⟩ := Heap.get?_push_of_some _ he
 have hxs : a ≠ s.heap.objs.size := Nat.ne_of_lt (Heap.lt_size he)
 refine wpAny_bind (wpAny_pure (wpAny_bind (wpAny_bind (wpAny_loadPart he (wpAny_bind ((looks_clsIn X hc).at ?_))))))
 rw [hd]
 show wpAny _ _ (do let d <- alloc { cls := .type "dict", data := .dict #[] }; update a fun o => { cls := o.cls, dict := some d, data := o.data, slots := o.slots }; dictMade (.ref C) a d) _ _ _
 refine wpAny_bind (wpAny_alloc' ?_)
 refine wpAny_bind (wpAny_update' hx₁ ?_)
 refine wpAny_pure ?_
 have hgd : ((s.heap.push { cls := .type "dict", data := .dict #[] }).update a fun o => { cls := o.cls, dict := some s.heap.objs.size, data := o.data, slots := o.slots }).get? s.heap.objs.size
   = some { cls := .type "dict", data := .dict #[] } := (Heap.get?_update_ne _ _ _ _ hxs.symm).trans (Heap.get?_push_at rfl rfl)
 have hnd : ((s.heap.push { cls := .type "dict", data := .dict #[] }).update a fun o => { cls := o.cls, dict := some s.heap.objs.size, data := o.data, slots := o.slots }).Ns s.heap.objs.size (fun _ => none) :=
  ⟨_, #[], _, hgd, rfl, fun e he => absurd he (by simp), fun _ => rfl⟩
 show wpAny _ _ (storeInDict s.heap.objs.size (.str f s.toks) f v) _ _ _
 unfold storeInDict newKeyGuard
 refine wpAny_bind (wpAny_pure (wpAny_bind (wpAny_nsSet1 (s := ⟨_, s.gens, s.drawn, s.toks + 1, s.os⟩) (Heap.Ns1.of_empty hnd) fun h' hn' hs => ?_)))
 obtain ⟨oD, esD, epD, hoD, hdD, hcD⟩ := hn'.count (Within.cons f v Within.nil)
 refine wpAny_bind (wpAny_lookBehind hoD (by rw [hdD]; exact pastItsLine_dict (Nat.le_trans hcD (by rw [List.length_cons, List.length_nil, sizeLine_eq]; lia))) ?_)
 refine wpAny_pure (h h' s.heap.objs.size ?_ hn' (fun b o hb e => ?_) (Nat.le_refl _))
 ·exact (hs.2 a hxs).trans (Heap.get?_update_self _ hx₁ rfl)
 ·exact (hs.2 b (Nat.ne_of_lt (Heap.lt_size e))).trans ((Heap.get?_update_ne _ _ _ _ hb).trans (Heap.get?_push_of_some _ e))
end
end L2
namespace L2
open PySem PySem.Spec PyProof.Rows PySem.W
noncomputable def excN (a C : Addr) (dx : Option Addr) : HO := .ext fun h => ∃ t, h.get? a = some ⟨.ref C, dx, .fields #[.ref t, .none, .none, .none, .bool false, .none], #[]⟩
structure ExcI (K : Frag) (C Ct : Addr) (f : Str) : Prop where
 ex : ∃ nm q N bs sn sub ab col dd k0 k1 k2 k3 k5, K.lookup C = some (excClassObj nm q C N bs (.ref Ct :: veMro) true sn sub ab col dd k0 k1 k2 k3 k5 "ValueError.__new__")
 sa : findIn K (.ref C) "__setattr__" = some (some (.builtin "object.__setattr__"))
 fa : findIn K (.ref C) f = some none
 k : ExcK K C
theorem ExcI.mk' {K : Frag} {C Ct : Addr} {f nm q : Str} {N : Addr} {bs : List Value} {sn : List Str} {sub : List Value} {ab : Bool} {col : Option Bool} {dd : Option Addr} {k0 k1 k2 k3 k5 : Option Value}
  (l : K.lookup C = some (excClassObj nm q C N bs (.ref Ct :: veMro) true sn sub ab col dd k0 k1 k2 k3 k5 "ValueError.__new__")) (sa : findIn K (.ref C) "__setattr__" = some (some (.builtin "object.__setattr__"))) (fa : findIn K (.ref C) f = some none)
  (g1 : findIn K (.ref C) "__getattribute__" = some (some (.builtin "BaseException.__getattribute__"))) (g2 : findIn K (.ref C) "__getattr__" = some none) (g3 : findIn K (.ref C) "__class__" = some (some (.builtin "object.__class__"))) (g4 : mroIn K C (.type "BaseException") = some true) (g5 : mroIn K C (.type "object") = some true) : ExcI K C Ct f :=
 ⟨⟨nm, q, N, bs, sn, sub, ab, col, dd, k0, k1, k2, k3, k5, l⟩, sa, fa, ⟨g1, g2, g3, g4, g5⟩⟩
structure ExcT (K : Frag) (Ct : Addr) : Prop where
 ex : excIn K Ct veMro "ValueError.__new__" = true
 rd : readsIn K Ct (.type "type") = true
 ga : specialIn K (.ref Ct) "__getattribute__" = some (some (.builtin "type.__getattribute__"))
 ini : findCls K (.ref Ct) (.type "type") "__init__" = some (.val (.builtin "ValueError.__init__"))
theorem ExcI.cls {K : Frag} {C Ct : Addr} {f : Str} (x : ExcI K C Ct f) : ∃ cd, clsIn K C = some cd /\ cd.mro = .ref C :: .ref Ct :: veMro /\ cd.hasDict = true := by
 obtain ⟨nm, q, N, bs, sn, sub, ab, col, dd, k0, k1, k2, k3, k5, e⟩ := x.ex
 refine ⟨_, by unfold clsIn; rw [e], rfl, rfl⟩
theorem ExcI.hd {K : Frag} {C Ct : Addr} {f : Str} (x : ExcI K C Ct f) : hasDictIn K C = true := by
 obtain ⟨cd, e, _, h⟩ := x.cls
 unfold hasDictIn
 rw [e]; exact h
theorem ExcT.tail {K : Frag} {Ct : Addr} {h : Heap} (x : ExcT K Ct) (X : K.In h) : OwnTail h veMro (.ref Ct :: veMro) := by
 obtain ⟨tl, N, nm, qn, bs, hdct, sn, sub, ab, col, dd, k0, k1, k2, k3, k5, mN, hC, hN, hni, T⟩ := excObj_of X x.ex
 exact .own hC hN hni .base
theorem upd_id {H : Hp} {a : Addr} {o : HO} (h : H a = some o) : upd H a o = H := by
 funext b
 unfold upd
 split
 ·rename_i e; rw [e, h]
 ·rfl
theorem excN_ok {P : Program} {w : World} {H : Hp} {h : Heap} {a C : Addr} {dx : Option Addr} {t : Addr} (e : h.get? a = some ⟨.ref C, dx, .fields #[.ref t, .none, .none, .none, .bool false, .none], #[]⟩) : ObjOk P w H h a (excN a C dx) :=
 ⟨⟨t, e⟩, ⟨_, e⟩, fun _ _ ⟨t', q⟩ k => ⟨t', k _ q⟩⟩
section
variable {X : Cx} {x f : Str} {Ct C : Addr} {np ap pos pos' : Pos} {e : Expr} {es : List Expr} {t : TA} {ta tv : TE} {o value : Expr}
noncomputable def tSup (C : Addr) (t : TA) : TE := fun σ H Q => t σ H fun vs H1 => ∃ a m, vs = [.ref a, .str m] /\ H1 a = some (excN a C none) /\ Q .non H1
theorem pe_sup (T : ExcT X.K Ct) (Y : ExcI X.K C Ct f) (hg : Gl X x) (hm : X.mg x = some (.ref Ct)) (ha : PA X (e :: es) t) (hd : (x == ("__debug__" : Str)) = false := by decide)
  (he : starEach (e :: es) X.env = (false, eval e X.env) :: starEach es X.env := by rfl) (hpl : (backTo pos (starEach es X.env)).any (·.1) = false := by rfl)
  (ht : ∃ pl, eval (.Call (.Attribute (.Name x np) "__init__" ap) (e :: es) [] pos) X.env = (do
   let ov <- eval (.Name x np) X.env
   standAt ap.atName
   let (f, first) <- holding [ov] (getMethod ov "__init__" pl)
   callWith pos f first (backTo pos (starEach (e :: es) X.env)) (backToKw pos (keywordEach [] X.env))) := by exact ⟨_, rfl⟩) :
  PE X (.Call (.Attribute (.Name x np) "__init__" ap) (e :: es) [] pos) (tSup C t) := by
 intro pins s σ H Q I h
 obtain ⟨pl, ht⟩ := ht
 refine methodCall_KW (pl := pl) (ld_glob I hg hm ?_ hd) ht
 refine method_cls I.kIn T.ga (cls_value I.kIn T.rd T.ini (by decide +kernel) ?_)
 have I0 := I.tok (s.toks + 1)
 refine PyProof.Rows.callWith_builtin1 (thn (ha pos pins _ σ H _ I0 h) fun us s1 ⟨vs, H1, I1, r, a, m, ev, hH, q⟩ => ?_) he hpl
 subst ev
 obtain ⟨u, u', rfl, ru, ru'⟩ := vals2 r
 cases ru
 obtain ⟨tk, rfl⟩ := (show ∃ tk, u' = Value.str m tk from ru')
 have ho := I1.hok a _ hH
 unfold excN at ho
 obtain ⟨⟨t0, e0⟩, _, _⟩ := ho
 obtain ⟨hh, g, d, tks, os⟩ := s1
 have F := PySem.F.excBase_ValueError
 obtain ⟨nm, qq, N, bs, sn, sub, ab, col, dd, k0, k1, k2, k3, k5, eC⟩ := Y.ex
 have hC := I1.kIn _ _ eC
 refine wpAny_call (codeAny_call_builtin F.init.plain F.initEntry (wpAny_check_init_subT F (T.tail I1.kIn) hC e0 rfl ?_))
 wp_walk
 have I2 : Inv X pins σ H1 { heap := hh.push { cls := .type "tuple", data := .seq #[.str m tk] }, gens := g, drawn := d, toks := tks, os := os } := I1.kept (t' := tks) fun b o e => Heap.get?_push_of_some _ e
 have e1 : (hh.push { cls := .type "tuple", data := .seq #[.str m tk] }).get? a = some ⟨.ref C, none, .fields #[.ref t0, .none, .none, .none, .bool false, .none], #[]⟩ := Heap.get?_push_of_some _ e0
 have e2 := Heap.get?_update_self (Obj.mapFields fun x => x.setIfInBounds 0 (Value.ref hh.objs.size)) e1 rfl
 have I3 := I2.write (x := a) (e := a) (o := excN a C none) (t' := tks) (by rw [hH]; exact trivial) (Or.inl rfl) (fun b u hb e => (Heap.get?_update_other _ _ (Ne.symm hb)).trans e) ⟨_, e2⟩ (excN_ok e2)
 rw [upd_id hH] at I3
 exact ⟨.non, H1, I3, rfl, q⟩
noncomputable def sSetI (C : Addr) (f : Str) (ta tv : TE) : TS := fun D σ H => tv σ H fun y H1 => ta σ H1 fun x H2 => ∃ a n, y = .int n /\ x = .ref a /\ H2 a = some (excN a C none) /\
 ∀ dx, H2 dx = none -> dx ≠ a -> D.nx σ (upd (upd H2 dx (.xd [(f, .int n)])) a (excN a C (some dx)))
theorem ps_setI (Y : ExcI X.K C Ct f) (ha : PE X o ta) (hv : PE X value tv) (hs : swapsWith value (some (.Attribute o f pos')) pos.line X.env = pure false := by rfl) : PS X (.Assign [.Attribute o f pos'] value pos) (sSetI C f ta tv) := by
 intro pins s σ H D I h
 refine plainObj_wpAny_Assign_Attribute (thn (hv pins s σ H _ I h) fun u s1 ⟨y, H1, I1, ry, q⟩ => thn (ha pins s1 σ H1 _ I1 q) fun ov s2 ⟨x, H2, I2, rx, a, n, ey, ex, hH, q2⟩ => ?_) hs
 subst ex ey
 obtain rfl : ov = Value.ref a := rx
 obtain ⟨tk, rfl⟩ := (show ∃ tk, u = Value.int n tk from ry)
 have ho := I2.hok a _ hH
 unfold excN at ho
 obtain ⟨⟨t0, e0⟩, _, _⟩ := ho
 obtain ⟨cd, hc, hm, hd⟩ := Y.cls
 refine exs_attr I2.kIn e0 Y.sa hc hm hd Y.fa fun h' dx ea hn kp hdx => ?_
 have fr : H2 dx = none := I2.hok.fresh hdx
 have nea : dx ≠ a := fun z => by rw [z, hH] at fr; cases fr
 have nd : ∀ b o, s2.heap.get? b = some o -> b ≠ dx := fun b o e z => absurd (Nat.lt_of_lt_of_le (Heap.lt_size e) hdx) (by rw [z]; exact Nat.lt_irrefl _)
 have na : ∀ b, H2 b ≠ some (excN a C none) -> b ≠ a := fun b e z => e (by rw [z]; exact hH)
 have at_ : ∀ b, b ≠ a -> b ≠ dx -> upd (upd H2 dx (.xd [(f, .int n)])) a (excN a C (some dx)) b = H2 b := fun b h1 h2 => by rw [upd_ne h1, upd_ne h2]
 have hsome : ∀ b u, H2 b = some u -> b ≠ dx := fun b u e z => by rw [z, fr] at e; cases e
 refine ⟨σ, _, I2.un (H' := upd (upd H2 dx (.xd [(f, .int n)])) a (excN a C (some dx))) ?_ ?_, q2 dx fr nea⟩
 ·have nn : ∀ b, H2 b = none -> b ≠ a := fun b e z => by rw [z, hH] at e; cases e
  refine ⟨fun b o e hb _ _ => kp b o (nn b hb) e, fun b o e hb _ _ => ⟨o.slots, kp b o (nn b hb) e⟩, fun b o e hb _ => by rw [at_ b (nn b hb) (nd b o e)]; exact hb, fun b o e _ => ?_, fun b xs e => ?_, fun b o u e => ?_, fun b ps e => ⟨#[], ?_⟩⟩
  ·by_cases hb : b = a
   ·rw [hb]; exact ⟨_, ea⟩
   ·exact ⟨o, kp b o hb e⟩
  ·rw [at_ b (na b (by rw [e]; intro z; cases z)) (hsome b _ e)]; exact e
  ·rw [at_ b (na b (by rw [e]; intro z; cases z)) (hsome b _ e)]; exact e
  ·rw [at_ b (na b (by rw [e]; intro z; cases z)) (hsome b _ e), e]; simp
 ·intro b u e
  by_cases hb : b = a
  ·subst hb
   rw [upd_same] at e
   cases e
   exact excN_ok ea
  ·rw [upd_ne hb] at e
   by_cases hb2 : b = dx
   ·subst hb2
    rw [upd_same] at e
    cases e
    refine ⟨_, hn, fun y => ?_⟩
    by_cases hy : y = f
    ·subst hy
     rw [if_pos rfl]
     simp only [List.lookup, beq_self_eq_true]
     exact ⟨_, rfl⟩
    ·rw [if_neg hy]
     have : (y == f) = false := beq_eq_false_iff_ne.mpr hy
     simp only [List.lookup, this]
     exact trivial
   ·rw [upd_ne hb2] at e
    refine (I2.hok b u e).stay (fun c o hc q => kp c o ?_ q) (fun c q => ?_) fun c xs q => ?_
    ·rcases hc with z | z
     ·rw [z]; exact hb
     ·exact na c (by rw [z]; intro z; cases z)
    ·rw [at_ c (na c (by rw [q]; intro z; cases z)) (hsome c _ q)]; exact q
    ·rw [at_ c (na c (by rw [q]; intro z; cases z)) (hsome c _ q)]; exact q
end
end L2
namespace L2
open PySem PySem.Spec PyProof.Rows PySem.W
section
variable {prog : Program} {w : World} {A : Around} {E : Value -> Shared -> Prop} {h : Heap} {g : Array GenState} {d : Drawn} {t : Nat} {os : OsState} {K : Frag} {C Ct fI : Addr} {f : Str} {rest : List Value}
theorem tc_ini (X : K.In h) (T : ExcT K Ct) (Y : ExcI K C Ct f) (hi : findIn K (.ref C) "__init__" = some (some (.ref fI))) (hf : typeIn K (.ref fI) = some (.type "function")) {Q : Fin -> Shared -> Prop} (hrest : rest.length <= sizeLine)
  (hq : wpAny (model prog w) A (call (.ref fI) (.ref (h.objs.size + 1) :: rest)) (fun r s' => r = .none /\ Q (.done (.ret (.ref (h.objs.size + 1)))) s') E
   ⟨(h.push { cls := .type "tuple", data := .seq rest.toArray }).push { cls := .ref C, data := .fields #[.ref h.objs.size, .none, .none, .none, .bool false, .none] }, g, d, t, os⟩) :
  wpAny (model prog w) A (Builtin.«type.__call__» ⟨.ref C :: rest, []⟩) Q E ⟨h, g, d, t, os⟩ := by
 obtain ⟨nm, qq, N, bs, sn, sub, ab, col, dd, k0, k1, k2, k3, k5, eC⟩ := Y.ex
 have hC := X _ _ eC
 have F := PySem.F.excBase_ValueError
 have TT := T.tail X
 repeat (first | with_reducible refine wpAny_loadPart_at hC ?_ | with_reducible refine wpAny_madeBy_exc hC ?_ | wp_step)
 refine codeAny_call_builtin_code (Code.quiet_builtin _ F.quiet) (wpAny_check_new_subT F TT hC ?_)
 refine codeAny_exc_new_subT F TT hC ?_ hrest
 show wpAny _ _ _ _ _ _
 have X₁ : K.In ((h.push { cls := .type "tuple", data := .seq rest.toArray }).push { cls := .ref C, data := .fields #[.ref h.objs.size, .none, .none, .none, .bool false, .none] }) := X.keeps fun b o e => Heap.get?_push_of_some _ (Heap.get?_push_of_some _ e)
 have hC₁ := X₁ _ _ eC
 have hget : ((h.push { cls := .type "tuple", data := .seq rest.toArray }).push
   { cls := .ref C, data := .fields #[.ref h.objs.size, .none, .none, .none, .bool false, .none] }).get? (h.objs.size + 1) = some
   { cls := .ref C, data := .fields #[.ref h.objs.size, .none, .none, .none, .bool false, .none] } := by heap_get
 have hcC : (Value.ref C :: .ref Ct :: veMro).contains (.ref C) = true := by simp
 unfold isInstance
 repeat (first | with_reducible refine wpAny_loadPart_at hget ?_ | (with_reducible refine wpAny_isSubtype_exc hC₁ ?_; rw [hcC]) | wp_step)
 show wpAny _ _ (typeLookup (.ref C) _) _ _ _
 refine (looks_findIn X₁ hi).at ?_
 refine wpAny_holding (wpAny_bind ?_)
 unfold bindSpecial
 refine wpAny_bind ((looks_typeIn X₁ hf).at ?_)
 rw [if_pos (by decide)]
 refine wpAny_pure (wpAny_bind (wpAny_mono hq (fun r s' hr => ?_) fun _ _ x => x))
 obtain ⟨rfl, hQ⟩ := hr
 wp_walk
 exact hQ
theorem call_ini (X : K.In h) (T : ExcT K Ct) (Y : ExcI K C Ct f) (hi : findIn K (.ref C) "__init__" = some (some (.ref fI))) (hf : typeIn K (.ref fI) = some (.type "function")) {Q : Value -> Shared -> Prop} (hrest : rest.length <= sizeLine)
  (hq : wpAny (model prog w) (A.under (.builtin "type.__call__" ⟨.ref C :: rest, []⟩)) (call (.ref fI) (.ref (h.objs.size + 1) :: rest)) (fun r s' => r = .none /\ Q (.ref (h.objs.size + 1)) s') E
   ⟨(h.push { cls := .type "tuple", data := .seq rest.toArray }).push { cls := .ref C, data := .fields #[.ref h.objs.size, .none, .none, .none, .bool false, .none] }, g, d, t, os⟩) :
  wpAny (model prog w) A (call (.ref C) rest) Q E ⟨h, g, d, t, os⟩ := by
 obtain ⟨nm, qq, N, bs, sn, sub, ab, col, dd, k0, k1, k2, k3, k5, eC⟩ := id Y.ex
 have hC := X _ _ eC
 have f1 := tc_lookup
 have f2 := tc_bind (.ref C)
 have hT : (⟨h, g, d, t, os⟩ : Shared).TypeIs (.ref C) "type" := ⟨_, hC, rfl⟩
 refine wpAny_call (codeAny_of_tree ?_)
 show wpAny _ _ (callAny (.ref C) _) _ _ _
 repeat (any_goals (first | assumption | with_reducible refine wpAny_loadPart_at hC ?_ | wp_step))
 refine ⟨rfl, ?_⟩
 refine codeAny_call_builtin_at (Code.quiet_builtin _ (by decide +kernel)) entry_typeCall (wpAny_check_type_call_sub hC (tc_ini X T Y hi hf hrest ?_))
 exact hq
theorem raiseD {env : Env} {M : Model} {A : Around} {E : Value -> Shared -> Prop} {s : Shared} {x : Sem Value} {Q : Flow -> Shared -> Prop} (Y : ExcI K C Ct f) (hh : A.handled = none)
  (h : wpAny M A x (fun v s₁ => ∃ e oe vs, v = .ref e /\ K.In s₁.heap /\ s₁.heap.get? e = some oe /\ oe.cls = .ref C /\ oe.data = .fields vs /\ vs[1]? = some .none /\ E (.ref e) s₁) E s) : wpAny M A (raiseStmt env (some x) none) Q E s := by
 unfold raiseStmt
 refine wpAny_bind (wpAny_mono h (fun v s₁ h₁ => ?_) fun _ _ x => x)
 obtain ⟨e, oe, vs, rfl, X, he, hc, hd, hv, hE⟩ := h₁
 obtain ⟨hp, g, d, tk, os⟩ := s₁
 obtain ⟨nm, qq, N, bs, sn, sub, ab, col, dd, k0, k1, k2, k3, k5, eC⟩ := Y.ex
 have hC := X _ _ eC
 obtain ⟨oc, odi, oda, osl⟩ := oe
 dsimp only at hc hd
 subst hc hd
 have hcB : (Value.ref C :: .ref Ct :: veMro).contains (.type "BaseException") = true := rfl
 repeat (first | with_reducible refine wpAny_loadPart_at he ?_ | with_reducible refine wpAny_loadPart_at hC ?_ | (with_reducible refine wpAny_isSubtype_exc hC ?_; rw [hcB]) | wp_step)
 rw [hv]
 refine wpAny_pure (wpAny_pure ?_)
 exact wpAny_raiseNew_none hh hE
end
noncomputable def RaisesI (X : Cx) (E : XK) : Prop := ∀ (C : Value) (pins : List (Addr × Obj)) (σ : St) (H1 H4 : Hp) (s1 s2 : Shared) (B : Heap) (e : Addr) (oe : Obj) (vs : Array Value) (a0 : Value) (dx : Option Addr), Inv X pins σ H1 s1 -> s2.os = s1.os -> AllBare s2.gens ->
 Kp X.prog X.w X.stack H1 s1.heap H4 s2.heap B -> B.StaysIn s2.heap -> B.get? e = none -> s2.heap.FunFrames B X.stack -> s2.heap.get? e = some oe -> oe.cls = C -> oe.dict = dx -> oe.data = .fields vs -> vs[0]? = some a0 -> vs[1]? = some .none -> E C dx H4 -> X.xe (.ref e) s2
section
variable {P : Program} {w : World} {K : PySem.W.Frag} {mg : Str -> Option Value} {base : Heap} {N : List Str} {qual : Str} {scope : Scope} {f : Addr} {cd : Value} {A : Around} {outer : List Env} {s : Shared} {H : Hp} {E : XK}
theorem raisesI : RaisesI (cxOf (CXD P w) P w K mg base N qual scope f cd A outer s H E) E := by
 intro C pins σ H1 H4 s1 s2 B e oe vs a0 dx I os bare K4 st en fr he hc hdx hd h0 h1 q
 subst hc
 refine wpAny_mono ((Sf.ofLeaving _ _).keepAny (wpAny_leaving_firstW (a0 := a0) (Q := fun _ s' => ∃ h3, s' = { s2 with heap := h3 } /\ Heap.LeftW B (cxOf (CXD P w) P w K mg base N qual scope f cd A outer s H E).stack e oe.cls a0 s2.heap h3) (E := fun _ _ => False) I.ok.frames fr rfl he st en hd h1 h0 fun h3 z => ⟨h3, rfl, z⟩)) (fun _ s' z => ?_) fun _ _ z => z.1.elim
 obtain ⟨⟨h3, rfl, k1, ⟨_, _, k2⟩, k3, k4⟩, dk⟩ := z
 exact ⟨e, oe.cls, H4, B, a0, dx, rfl, os.trans I.os, bare, K4.leave I rfl rfl rfl k1 k4, ⟨k1, en, k2, k3⟩, DictIs.keep ⟨oe, he, hdx⟩ dk, q⟩
end
theorem Kp.made {X : Cx} {pins : List (Addr × Obj)} {σ : St} {H1 H3 : Hp} {s1 : Shared} {h3 h4 : Heap} {a dx C : Addr} {o : HO} (I : Inv X pins σ H1 s1) (ha : s1.heap.objs.size <= a) (k0 : ∀ b u, s1.heap.get? b = some u -> h3.get? b = some u)
  (un : Un (frs X.stack) [] (upd H1 a (excN a C none)) H3 h3 h4) (hok : HOk X.prog X.w H3 h4) (e3 : H3 = upd (upd (upd H1 a (excN a C none)) dx o) a (excN a C (some dx))) (nd : upd H1 a (excN a C none) dx = none) (ne : dx ≠ a) :
  Kp X.prog X.w X.stack H1 s1.heap (upd H1 dx o) h4 (hideAll h4 (a :: frs X.stack)) := by
 have na : ∀ b u, s1.heap.get? b = some u -> b ≠ a := fun b u e z => absurd (Nat.lt_of_lt_of_le (Heap.lt_size e) ha) (by rw [z]; exact Nat.lt_irrefl _)
 have fa : H1 a = none := I.hok.fresh ha
 have at3 : H3 a = some (excN a C (some dx)) := by rw [e3]; exact upd_same
 have eq : ∀ b, b ≠ a -> upd H1 dx o b = H3 b := fun b hb => by
  rw [e3, upd_ne hb]
  by_cases z : b = dx
  ·rw [z, upd_same, upd_same]
  ·rw [upd_ne z, upd_ne z, upd_ne hb]
 have un1 : Un (frs X.stack) [] H1 H3 s1.heap h4 := Un.trans (Un.laid k0 ha fa) un
 have nn : ∀ b u, H1 b = some u -> b ≠ a := fun b u e z => by rw [z, fa] at e; cases e
 have nf : ∀ b ∈ frs X.stack, upd H1 dx o b = none := fun b hb => by
  obtain ⟨_, ob, e, _⟩ := I.stack.mem hb
  have h1 := I.stkFree b hb
  have h2 := un1.free b ob e h1 (by simp)
  rw [eq b (na b ob e)]
  exact h2
 refine ⟨fun b u e => ?_, ⟨un1.keep, un1.slot, fun b ob e n hx => ?_, un1.there, fun b xs e => ?_, fun b ob u e => ?_, fun b ps e => ?_⟩, fun b ob e n hb => ?_, fun b ob e hb => ?_, fun b u e => ?_⟩
 ·have hb : b ≠ a := fun z => by rw [z, upd_ne (Ne.symm ne), fa] at e; cases e
  rw [eq b hb] at e
  refine (hok b u e).stay (fun _ _ _ q => q) (fun c q => ?_) fun c xs q => ?_
  ·have hc : c ≠ a := fun z => by rw [z, at3] at q; cases q
   rw [eq c hc]; exact q
  ·have hc : c ≠ a := fun z => by rw [z, at3] at q; cases q
   rw [eq c hc]; exact q
 ·rw [eq b (na b ob e)]; exact un1.free b ob e n hx
 ·rw [eq b (nn b _ e)]; exact un1.tups b xs e
 ·rw [eq b (nn b _ e)]; exact un1.frzs b ob u e
 ·obtain ⟨m, q⟩ := un1.tbls b ps e
  exact ⟨m, by rw [eq b (nn b _ e)]; exact q⟩
 ·refine hideAll_get _ (un1.keep b ob e n hb (by simp)) fun z => ?_
  rcases List.mem_cons.mp z with z | z
  ·exact na b ob e z
  ·exact hb z
 ·obtain ⟨o', q⟩ := un1.there b ob e (by simp)
  refine ⟨o', hideAll_get _ q fun z => ?_⟩
  rcases List.mem_cons.mp z with z | z
  ·exact na b ob e z
  ·exact hb z
 ·have hb : b ≠ a := fun z => by rw [z, upd_ne (Ne.symm ne), fa] at e; cases e
  have e' := e
  rw [eq b hb] at e'
  obtain ⟨ob, q⟩ := (hok b u e').there
  refine ⟨ob, q, hideAll_get _ q fun z => ?_⟩
  rcases List.mem_cons.mp z with z | z
  ·exact hb z
  ·rw [nf b z] at e; cases e
noncomputable def spIni (C : Addr) (f : Str) : Sp := fun vs H Q _ => ∃ a n, vs = [.ref a, .int n] /\ H a = some (excN a C none) /\ 0 <= n /\ n < 64 /\ ∀ dx, H dx = none -> dx ≠ a -> Q .non (upd (upd H dx (.xd [(f, .int n)])) a (excN a C (some dx)))
structure IniAt (P : Program) (w : World) (K : Frag) (mg : Str -> Option Value) (base : Heap) (k : Nat) (C Ct : Addr) (f : Str) (ps : List Str) : Prop where
 ex : ∃ (fI : Addr) (fd : FuncData), FnOk P w K mg base CX0 k fI fd ps (spIni C f) /\ findIn K (.ref C) "__init__" = some (some (.ref fI)) /\ typeIn K (.ref fI) = some (.type "function") /\ Binds K fd ps []
 t : ExcT K Ct
 y : ExcI K C Ct f
section
variable {X : Cx} {E : XK} {C Ct : Addr} {f : Str} {k j : Nat} {ps : List Str} {x : Str} {np cpos pos : Pos} {e₀ : Expr} {rest : List Expr} {t : TA}
noncomputable def tRaiseI (C : Addr) (f : Str) (E : XK) (t : TA) : TS := fun _ σ H => t σ H fun vs H1 => ∃ n, vs = [.int n] /\ 0 <= n /\ n < 64 /\ ∀ dx, H1 dx = none -> E (.ref C) (some dx) (upd H1 dx (.xd [(f, .int n)]))
theorem ps_raiseI (G : IniAt X.prog X.w X.K X.mg X.base j C Ct f ps) (R : RaisesI X E) (hc : X.calm = true) (hr : Room k X.A) (hg : Gl X x) (hm : X.mg x = some (.ref C)) (ha : PA X (e₀ :: rest) t) (hj : j + 1 <= k := by decide)
  (he : starEach (e₀ :: rest) X.env = (false, eval e₀ X.env) :: starEach rest X.env := by rfl) (hpl : (backTo cpos (starEach rest X.env)).any (·.1) = false := by rfl) (hd : (x == ("__debug__" : Str)) = false := by decide) :
  PS X (.Raise (some (.Call (.Name x np) (e₀ :: rest) [] cpos)) none pos) (tRaiseI C f E t) := by
 intro pins s σ H D I h
 obtain ⟨fI, fd, FI, hi, hf, hb⟩ := G.ex
 have Y := G.y
 rw [arm_exec_Raise]
 refine wpAny_bind (wpAny_standAt (raiseD Y (I.ok.hd hc) ?_))
 refine wpAny_bind (wpAny_mono (wpAny_Call_ofName (ld_glob I hg hm ?_ hd)) (fun v s₃ h₃ => wpAny_bind (wpAny_standAt (wpAny_pure h₃))) fun _ _ x => x)
 unfold callWith
 have hplain : (backTo cpos (starEach (e₀ :: rest) X.env)).any (·.1) = false := by
  rw [he]
  show (false || (backTo cpos (starEach rest X.env)).any (·.1)) = false
  rw [hpl]; rfl
 have h1 := ha cpos pins s σ H _ I h
 have h2 : wpAny (model X.prog X.w) X.A (evalArgs (.ref C) true (backTo cpos (starEach (e₀ :: rest) X.env)) []) (fun a s₂ => ∃ H1 n tk, a = ⟨[.int n tk], []⟩ /\ Inv X pins σ H1 s₂ /\ 0 <= n /\ n < 64 /\ ∀ dx, H1 dx = none -> E (.ref C) (some dx) (upd H1 dx (.xd [(f, .int n)]))) X.xe s := by
  rw [he] at h1 ⊢
  refine Calls.evalArgs_plain (wpAny_mono h1 (fun us s1 z => ?_) fun _ _ y => y)
  obtain ⟨vs, H1, I1, r, n, rfl, n0, n1, q⟩ := z
  obtain ⟨u, rfl, ru⟩ := vals1 r
  obtain ⟨tk, rfl⟩ := (show ∃ tk, u = Value.int n tk from ru)
  exact ⟨H1, n, tk, rfl, I1, n0, n1, q⟩
 refine wpAny_bind (wpAny_holding (wpAny_mono h2 (fun a s₂ z => wpAny_bind (wpAny_standAt ?_)) fun _ _ x => x))
 obtain ⟨H1, n, tk, rfl, I1, n0, n1, q⟩ := z
 obtain ⟨hp, g, d, tks, os⟩ := s₂
 obtain ⟨nm, qq, N, bs, sn, sub, ab, col, dd, k0, k1, k2, k3, k5, eC⟩ := id Y.ex
 have hC := I1.kIn _ _ eC
 simp only [hplain]
 refine wpAny_bind (wpAny_keeperOf_exc hC ?_)
 have I2 : Inv X pins σ H1 { heap := hp.push { cls := .type "tuple", data := .seq #[.int n tk] }, gens := g, drawn := d, toks := tks, os := os } := I1.kept (t' := tks) fun b o e => Heap.get?_push_of_some _ e
 have nh : H1 (hp.objs.size + 1) = none := I1.hok.fresh (Nat.le_succ _)
 have eN : ((hp.push { cls := .type "tuple", data := .seq #[.int n tk] }).push { cls := .ref C, data := .fields #[.ref hp.objs.size, .none, .none, .none, .bool false, .none] }).get? (hp.objs.size + 1) = some { cls := .ref C, data := .fields #[.ref hp.objs.size, .none, .none, .none, .bool false, .none] } := by heap_get
 have I3 : Inv X pins σ (upd H1 (hp.objs.size + 1) (excN (hp.objs.size + 1) C none)) { heap := (hp.push { cls := .type "tuple", data := .seq #[.int n tk] }).push { cls := .ref C, data := .fields #[.ref hp.objs.size, .none, .none, .none, .bool false, .none] }, gens := g, drawn := d, toks := tks, os := os } :=
  I2.laid (t' := tks) (fun b o e => Heap.get?_push_of_some _ e) (by show (hp.push _).objs.size <= _; rw [Heap.size_push]; exact Nat.le_refl _) (excN_ok eN)
 refine wpAny_bind (call_ini (rest := [.int n tk]) I1.kIn G.t Y hi hf (by rw [sizeLine_eq]; exact (by decide : (1 : Nat) <= 16777216)) ?_)
 have hl := FI.len [.ref (hp.objs.size + 1), .int n] (upd H1 (hp.objs.size + 1) (excN (hp.objs.size + 1) C none)) (fun v H' => v = .non /\ ∃ dx, upd H1 (hp.objs.size + 1) (excN (hp.objs.size + 1) C none) dx = none /\ dx ≠ hp.objs.size + 1 /\ H' = upd (upd (upd H1 (hp.objs.size + 1) (excN (hp.objs.size + 1) C none)) dx (.xd [(f, .int n)])) (hp.objs.size + 1) (excN (hp.objs.size + 1) C (some dx))) E0
  ⟨_, n, rfl, upd_same, n0, n1, fun dx z1 z2 => ⟨rfl, dx, z1, z2, rfl⟩⟩
 have bd := hb { heap := (hp.push { cls := .type "tuple", data := .seq #[.int n tk] }).push { cls := .ref C, data := .fields #[.ref hp.objs.size, .none, .none, .none, .bool false, .none] }, gens := g, drawn := d, toks := tks, os := os } [.ref (hp.objs.size + 1), .int n tk] I3.kIn hl
 have run := FI.run (X.A.under (.builtin "type.__call__" ⟨.ref C :: [.int n tk], []⟩)) X.stack _ _ ⟨[.ref (hp.objs.size + 1), .int n tk], []⟩ [.ref (hp.objs.size + 1), .int n tk] [.ref (hp.objs.size + 1), .int n] (fun v H' => v = .non /\ ∃ dx, upd H1 (hp.objs.size + 1) (excN (hp.objs.size + 1) C none) dx = none /\ dx ≠ hp.objs.size + 1 /\ H' = upd (upd (upd H1 (hp.objs.size + 1) (excN (hp.objs.size + 1) C none)) dx (.xd [(f, .int n)])) (hp.objs.size + 1) (excN (hp.objs.size + 1) C (some dx))) E0
  ((hr.mono hj).make C [.int n tk] []) (I3.env0.make C [.int n tk] []) bd (.cons rfl (.cons ⟨tk, rfl⟩ .nil)) ⟨_, n, rfl, upd_same, n0, n1, fun dx z1 z2 => ⟨rfl, dx, z1, z2, rfl⟩⟩
 refine wpAny_call (codeAny_mono run fun r s' z => ?_)
 cases r with
 | error x => exact False.elim z
 | ok fl =>
  cases fl with
  | next => exact False.elim z
  | brk => exact False.elim z
  | cont => exact False.elim z
  | ret u =>
   obtain ⟨v, H3, os', bare, un, hok, rv, hv, dx, nd, ne, e3⟩ := z
   subst hv
   have I4 := I3.call' (ch := []) os' un hok bare fun b z => absurd z (by simp)
   have K4 := Kp.made (X := X) (o := .xd [(f, .int n)]) I1 (Nat.le_succ _) (fun b u e => Heap.get?_push_of_some _ (Heap.get?_push_of_some _ e)) un hok e3 nd ne
   have at3 : H3 (hp.objs.size + 1) = some (excN (hp.objs.size + 1) C (some dx)) := by rw [e3]; exact upd_same
   have ho := hok _ _ at3
   unfold excN at ho
   obtain ⟨⟨t0, e0⟩, _, _⟩ := ho
   have nd1 : H1 dx = none := by rw [upd_ne ne] at nd; exact nd
   refine ⟨rv, wpAny_bind (wpAny_holding (wpAny_point (wpAny_pure ⟨hp.objs.size + 1, _, _, rfl, I4.kIn, e0, rfl, rfl, rfl, ?_⟩)))⟩
   exact R (.ref C) pins σ H1 _ _ _ _ (hp.objs.size + 1) _ _ (.ref t0) (some dx) I1 os' bare K4 (fun b o q => of_hideAll _ q) (hideAll_none _ (List.mem_cons_self ..)) (funFrames_hide I4.stack fun env he b hb => List.mem_cons_of_mem _ (List.mem_filterMap.mpr ⟨env, he, hb⟩)) e0 rfl rfl rfl rfl rfl (q dx nd1)
end
end L2
namespace L2
open PySem PySem.Spec PyProof.Rows
structure RoomH (k : Nat) (A : Around) : Prop where
 dp : A.depth + 3 * k + 5 < recursionLimit
 un : A.units + 16 * k + 200 < cLine
theorem Room.h {k : Nat} {A : Around} (r : Room k A) : RoomH k A := ⟨r.dp, r.un⟩
theorem RoomH.mark {k : Nat} {A : Around} (r : RoomH k A) (v : Option Value) : RoomH k (A.mark v) := ⟨r.dp, r.un⟩
theorem RoomH.mono {j k : Nat} {A : Around} (r : RoomH k A) (h : j <= k) : RoomH j A := ⟨by have := r.dp; lia, by have := r.un; lia⟩
theorem RoomH.deeper {k : Nat} {A : Around} (r : RoomH (k + 1) A) (env : Env) : RoomH k (A.deeper env) :=
 ⟨by have := r.dp; show A.depth + 1 + 3 * k + 5 < _; lia, by have := r.un; show A.units + 3 + 16 * k + 200 < _; lia⟩
theorem RoomH.depth {k : Nat} {A : Around} (r : RoomH k A) : A.depth < recursionLimit := by have := r.dp; lia
noncomputable abbrev Cx.less (X : Cx) : Cx := { X with calm := false, xe := fun _ _ => False }
structure FnOkH (P : Program) (w : World) (K : PySem.W.Frag) (mg : Str -> Option Value) (base : Heap) (k : Nat) (f : Addr) (fd : FuncData) (ps : List Str) (sp : Sp) : Prop where
 len : ∀ vs H Q E, sp vs H Q E -> vs.length = ps.length
 run : ∀ (A : Around) (outer : List Env) (s : Shared) (H : Hp) (args : Args) (us : List Value) (vs : List V) (Q : VK), RoomH k A -> Env0 P w K mg base A outer s H -> BindsTo s fd args (ps.zip us) -> Vals vs us -> sp vs H Q E0 ->
  codeAny (model P w) A (.call (.ref f) args) (CR CX0 outer P w H s Q E0) s
theorem fn_ofH {P : Program} {w : World} {K : PySem.W.Frag} {mg : Str -> Option Value} {base : Heap} {k : Nat} {f : Addr} {name qual : Str} {params : Arguments} {body : List Stmt} {scope : Scope} {dV kV doc pm cdv ct oc : Value} {an od : Option Addr}
  {osl : Array (Option Value)} {N ps : List Str} {sp : Sp} (lk : K.lookup f = some ⟨oc, od, .func (PySem.W.fnOf name qual params body scope dV kV doc pm an cdv ct), osl⟩) (hcd : PySem.W.codeIn K cdv qual = true) (S : FnScope N ps scope)
  (len : ∀ vs H Q E, sp vs H Q E -> vs.length = ps.length)
  (hbody : ∀ (A : Around) (outer : List Env) (s : Shared) (H : Hp) (vs : List V) (Q : VK), RoomH k (A.deeper (envOfC qual scope s.heap.objs.size f cdv)) -> sp vs H Q E0 ->
   ∃ t, PSs (cxOf CX0 P w K mg base N qual scope f cdv A outer s H E0).less body t /\ t { nx := fun _ H' => Q .non H', rt := Q } (start N vs) H) :
  FnOkH P w K mg base (k + 1) f (PySem.W.fnOf name qual params body scope dV kV doc pm an cdv ct) ps sp := by
 refine ⟨len, fun A outer s H args us vs Q hr e0 hb r hsp => ?_⟩
 have hl := len _ _ _ _ hsp
 have KX : K.In s.heap := e0.mod.kin.keeps fun b o e => (e0.bs b o e).1
 have lim : s.heap.NoLimit := e0.mod.nolimit.keeps fun b o e => (e0.bs b o e).1
 have hkind : ∀ y ∈ ps.zip us, scope.names.lookup y.1 = some .local \/ (scope.names.lookup y.1 = some .cell /\ ((cellsFrom (s.heap.objs.size + 1) scope.names []).lookup y.1).isSome = true) := fun ⟨n, v⟩ hy => by
  rcases S.par n (List.of_mem_zip hy).1 with q | q
  ·exact .inl q
  ·exact .inr ⟨q, PySem.W.cellsFrom_some _ _ _ (.inl q)⟩
 refine codeAny_call_function hr.depth (KX _ _ lk) rfl S.co S.gen rfl (PySem.W.codeRec_of KX hcd) (hb _ _ _ _ ?_)
 refine wpAny_newFunctionEnv_cells S.kind hkind fun env he s1 x => ?_
 subst he
 refine ⟨lim.keeps x.toInCall.keep, codeAny_func ?_⟩
 obtain ⟨t, ht, hq⟩ := hbody A outer s H vs Q (hr.deeper _) hsp
 have e0' : Env0 P w K mg base { A with handled := none } outer s H := ⟨e0.frames, e0.mod, e0.bs, e0.bsz, e0.funs, e0.frf, e0.hok, e0.bare⟩
 have J : Inv (cxOf CX0 P w K mg base N qual scope f cdv { A with handled := none } outer s H E0) [] (start N vs) H s1 := inv_start S rfl e0' hl r x
 have I : Inv (cxOf CX0 P w K mg base N qual scope f cdv A outer s H E0).less [] (start N vs) H s1 :=
  ⟨⟨J.ok.mod, J.ok.kind, J.ok.glob, J.ok.blt, J.ok.above, J.ok.inj, J.ok.has, J.ok.cab, fun z => (Bool.false_ne_true z).elim, Around.frames_deeper e0.frames, J.ok.stk, J.ok.exf, J.ok.bs, J.ok.bsz, J.ok.noex, J.ok.exfs, J.ok.funs, J.ok.frf⟩,
   J.os, J.bare, J.base, J.loc, J.cell, J.free, J.freeC, J.pin, J.hok, J.len⟩
 refine wpAny_mono (ht [] s1 (start N vs) H _ I hq) (fun fl s' hs => ?_) fun e s' hs => hs.elim
 have fin : ∀ {σ' : St} {H' : Hp} {v : V} {u : Value}, Inv (cxOf CX0 P w K mg base N qual scope f cdv A outer s H E0).less [] σ' H' s' -> RelV v u -> Q v H' -> CE outer P w H s Q u s' :=
  fun {σ' H' v u} J rv q => ⟨v, H', J.os, J.bare, J.base, J.hok, rv, q⟩
 cases fl with
 | ret u =>
  obtain ⟨v, σ', H', J, rv, q⟩ := hs
  exact fin J rv q
 | next =>
  obtain ⟨σ', H', J, q⟩ := hs
  exact fin (v := V.non) (u := Value.none) J rfl q
 | brk =>
  obtain ⟨_, _, _, q⟩ := hs
  exact False.elim q
 | cont =>
  obtain ⟨_, _, _, q⟩ := hs
  exact False.elim q
structure FnAtH (P : Program) (w : World) (K : PySem.W.Frag) (mg : Str -> Option Value) (base : Heap) (k : Nat) (x : Str) (ps : List Str) (sp : Sp) : Prop where
 ex : ∃ (f : Addr) (fd : FuncData), FnOkH P w K mg base k f fd ps sp /\ mg x = some (.ref f) /\ PySem.W.keepIn K (.ref f) = true /\ Binds K fd ps []
section
variable {P : Program} {w : World} {K : PySem.W.Frag} {mg : Str -> Option Value} {base : Heap}
theorem DefAt.okH {x : Str} {st : Stmt} {N ps : List Str} {k : Nat} {sp : Sp} (D : DefAt K mg x st) (S : FnScope N ps (defScope st)) (len : ∀ vs H Q E, sp vs H Q E -> vs.length = ps.length)
  (hb : ∀ (kV doc pm : Value) (an : Option Addr) (cdv ct : Value) (us : List Value), us.length = ps.length -> bindArgs (PySem.W.fnOf x x (defArgs st) (defBody st) (defScope st) .none kV doc pm an cdv ct) ⟨us, []⟩ = pure (ps.zip us))
  (hbody : ∀ (f : Addr) (cdv : Value) (A : Around) (outer : List Env) (s : Shared) (H : Hp) (vs : List V) (Q : VK) (E : XK), RoomH k (A.deeper (envOfC x (defScope st) s.heap.objs.size f cdv)) -> sp vs H Q E0 ->
   ∃ t, PSs (cxOf CX0 P w K mg base N x (defScope st) f cdv A outer s H E0).less (defBody st) t /\ t { nx := fun _ H' => Q .non H', rt := Q } (start N vs) H) : FnAtH P w K mg base (k + 1) x ps sp := by
 obtain ⟨f, fd, F, m⟩ := D.ex
 have hF := F
 obtain ⟨oc, od, kV, doc, pm, an, cdv, ct, osl, rfl, lk, hcd⟩ := F.ex
 exact ⟨f, _, fn_ofH lk hcd S len fun A outer s H vs Q hr hsp => hbody f cdv A outer s H vs Q E0 hr hsp, m, hF.kp, hF.binds hb⟩
end
section
variable {X : Cx} {k j : Nat} {ps : List Str} {sp : Sp} {x : Str} {p pos : Pos} {e : Expr} {es : List Expr} {t : TA}
theorem pfnH (F : FnAtH X.prog X.w X.K X.mg X.base j x ps sp) (hr : RoomH k X.A) (ha : PA X (e :: es) t) (hg : Gl X x := by rfl) (hj : j <= k := by decide)
  (hdb : (x == ("__debug__" : Str)) = false := by decide) (he : starEach (e :: es) X.env = (false, eval e X.env) :: starEach es X.env := by rfl) (hpl : (backTo pos (starEach es X.env)).any (·.1) = false := by rfl) :
  PE X (.Call (.Name x p) (e :: es) [] pos) (tCall sp [] E0 t) := by
 intro pins s σ H Q I h
 obtain ⟨f, fd, G, m, kp, b⟩ := F.ex
 refine wpAny_Call_Name_kw (ld_glob I hg m ?_ hdb)
 refine PySem.W.callWith_K (h₀ := X.base) I.ok.mod.kin kp (thn (ha pos pins s σ H _ I h) fun us s1 ⟨vs, H1, I1, r, q⟩ => ⟨I1.kIn, ?_⟩) he hpl
 have q : sp (vs ++ []) H1 Q E0 := q
 rw [List.append_nil] at q
 have hl : us.length = ps.length := by rw [<- r.length]; exact G.len _ _ _ _ q
 have hb := b s1 us I1.kIn (by rw [List.append_nil]; exact hl)
 rw [List.append_nil] at hb
 refine wpAny_call (codeAny_mono (G.run X.A X.stack s1 H1 ⟨us, []⟩ us vs Q (hr.mono hj) I1.env0 hb r q) fun r s' hq => ?_)
 cases r with
 | error x => exact hq.elim
 | ok fl =>
  cases fl with
  | ret u => exact I1.after hq
  | next => exact False.elim hq
  | brk => exact False.elim hq
  | cont => exact False.elim hq
end
end L2
namespace L2
open PySem PySem.Spec PyProof.Rows PySem.W
noncomputable def clsFn (s : Stmt) (i : Nat) : Stmt := match s with
 | .ClassDef _ _ _ b _ _ _ _ _ _ _ => b.getD i (.Pass ⟨0, 0, 0, 0⟩)
 | _ => .Pass ⟨0, 0, 0, 0⟩
structure InitDef (K : Frag) (C : Addr) (qual : Str) (st : Stmt) : Prop where
 ex : ∃ (f : Addr) (fd : FuncData), Fun K "__init__" qual st f fd /\ findIn K (.ref C) "__init__" = some (some (.ref f)) /\ typeIn K (.ref f) = some (.type "function")
theorem InitDef.mk' {K : Frag} {C f : Addr} {qual : Str} {st : Stmt} {oc : Value} {od an : Option Addr} {osl : Array (Option Value)} {kV doc pm cdv ct : Value} (a : findIn K (.ref C) "__init__" = some (some (.ref f))) (t : typeIn K (.ref f) = some (.type "function"))
  (l : K.lookup f = some ⟨oc, od, .func (fnOf "__init__" qual (defArgs st) (defBody st) (defScope st) .none kV doc pm an cdv ct), osl⟩) (c : codeIn K cdv qual = true) (k : keepIn K (.ref f) = true) : InitDef K C qual st := ⟨f, _, fun_mk (st := st) l c k, a, t⟩
section
variable {X : Cx} {K : Frag}
theorem call_isiD' (h : X.K = K) : CallR X (.builtin "isinstance") (fun xs H Q => ∃ a C dx c b, xs = [.ref a, c] /\ H a = some (excD a (.ref C) dx) /\ ExcK K C /\
  ((∃ n, c = .ty n /\ kitOne K (.ref C) (.type n) = some b) \/ (∃ D, c = .ref D /\ kitOne K (.ref C) (.ref D) = some b)) /\ Q (.bl b) H) := by subst h; exact call_isiD
theorem pe_exf' {e : Expr} {f : Str} {pos : Pos} {ta : TE} (h : X.K = K) (he : PE X e ta) (hb : attributeBase e f X.env (eval e X.env) = eval e X.env := by rfl) : PE X (.Attribute e f pos) (tExf K ta f) := by subst h; exact pe_exf he hb
end
end L2
namespace L2
open PySem PySem.Spec PyProof.Rows
theorem dig64 : ∀ m ∈ List.range 64, (Str.ofString (toString ((m : Nat) : Int))).length <= 8 := by decide +kernel
theorem dig_le {n : Int} (h0 : 0 <= n) (h1 : n < 64) : (Str.ofString (toString n)).length <= 8 := by
 obtain ⟨m, rfl⟩ := Int.eq_ofNat_of_zero_le h0
 exact dig64 m (List.mem_range.mpr (by lia))
theorem ini_rd {C : Addr} {msg : Str} {a : Addr} {n : Int} {H : Hp} {Q : VK} {f : Str} (hm : msg.length <= 1000) (hH : H a = some (excN a C none)) (n0 : 0 <= n) (n1 : n < 64)
  (k : ∀ dx, H dx = none -> dx ≠ a -> Q .non (upd (upd H dx (.xd [(f, .int n)])) a (excN a C (some dx)))) :
  tSeq (tDrop (tSup C (tCons (tVar 0) (tCons (tJs [tC (V.str msg), tFmt (tVar 1)] Str.empty) tNil)))) (sSetI C f (tVar 0) (tVar 1)) { nx := fun _ H' => Q .non H', rt := Q } (start ["self", "at"] [.ref a, .int n]) H := by
 have hd := dig_le n0 n1
 have e0 : (Str.empty : Str).length = 0 := rfl
 have e1 : (Str.empty ++ msg).length = 0 + msg.length := Str.length_append _ _
 have e2 : (Str.empty ++ msg ++ Str.ofString (toString n)).length = (Str.empty ++ msg).length + (Str.ofString (toString n)).length := Str.length_append _ _
 have hl : n.natAbs.log2 < 1920 := Nat.lt_of_le_of_lt (Nat.log2_le_self _) (by lia)
 refine ⟨_, rfl, msg, rfl, by lia, _, rfl, n, rfl, hl, _, rfl, by lia, by lia, a, _, rfl, hH, ?_⟩
 exact ⟨_, rfl, _, rfl, a, n, rfl, rfl, hH, k⟩
end L2
namespace T21
open PySem L2 Tc
noncomputable def top (i : Nat) : Stmt := PySem.Challenge.pw_tiercask_k21_steps_refused.main.body.getD i (.Pass ⟨0, 0, 0, 0⟩)
set_option genInjectivity false in
structure Ca where
 Full : Addr
 Lacking : Addr
 NoCask : Addr
 NoDeed : Addr
 NotSteady : Addr
 Tied : Addr
 TierError : Addr
structure Txt (K : PySem.W.Frag) (mg : Str -> Option Value) (ca : Ca) : Prop where
 z_ValueError : mg "ValueError" = none
 z_abs : mg "abs" = none
 z_bool : mg "bool" = none
 z_dict : mg "dict" = none
 z_enumerate : mg "enumerate" = none
 z_int : mg "int" = none
 z_isinstance : mg "isinstance" = none
 z_len : mg "len" = none
 z_list : mg "list" = none
 z_min : mg "min" = none
 z_range : mg "range" = none
 c_Full : mg "Full" = some (.ref ca.Full)
 c_Lacking : mg "Lacking" = some (.ref ca.Lacking)
 c_NoCask : mg "NoCask" = some (.ref ca.NoCask)
 c_NoDeed : mg "NoDeed" = some (.ref ca.NoDeed)
 c_NotSteady : mg "NotSteady" = some (.ref ca.NotSteady)
 c_Tied : mg "Tied" = some (.ref ca.Tied)
 c_TierError : mg "TierError" = some (.ref ca.TierError)
 q_TierError : ExcT K ca.TierError
 u_Full : ExcI K ca.Full ca.TierError "at"
 x_Full : ExcK K ca.Full
 i_Full_Full : PySem.W.kitOne K (.ref ca.Full) (.ref ca.Full) = some true
 m_Full_Full : PySem.W.exmOne K (.ref ca.Full) (.ref ca.Full) = some true
 i_Full_Lacking : PySem.W.kitOne K (.ref ca.Full) (.ref ca.Lacking) = some false
 m_Full_Lacking : PySem.W.exmOne K (.ref ca.Full) (.ref ca.Lacking) = some false
 i_Full_NoCask : PySem.W.kitOne K (.ref ca.Full) (.ref ca.NoCask) = some false
 m_Full_NoCask : PySem.W.exmOne K (.ref ca.Full) (.ref ca.NoCask) = some false
 i_Full_NoDeed : PySem.W.kitOne K (.ref ca.Full) (.ref ca.NoDeed) = some false
 m_Full_NoDeed : PySem.W.exmOne K (.ref ca.Full) (.ref ca.NoDeed) = some false
 i_Full_NotSteady : PySem.W.kitOne K (.ref ca.Full) (.ref ca.NotSteady) = some false
 m_Full_NotSteady : PySem.W.exmOne K (.ref ca.Full) (.ref ca.NotSteady) = some false
 i_Full_Tied : PySem.W.kitOne K (.ref ca.Full) (.ref ca.Tied) = some false
 m_Full_Tied : PySem.W.exmOne K (.ref ca.Full) (.ref ca.Tied) = some false
 i_Full_TierError : PySem.W.kitOne K (.ref ca.Full) (.ref ca.TierError) = some true
 m_Full_TierError : PySem.W.exmOne K (.ref ca.Full) (.ref ca.TierError) = some true
 v_Full : PySem.W.kitOne K (.ref ca.Full) (.type "ValueError") = some true
 u_Lacking : ExcI K ca.Lacking ca.TierError "at"
 x_Lacking : ExcK K ca.Lacking
 i_Lacking_Full : PySem.W.kitOne K (.ref ca.Lacking) (.ref ca.Full) = some false
 m_Lacking_Full : PySem.W.exmOne K (.ref ca.Lacking) (.ref ca.Full) = some false
 i_Lacking_Lacking : PySem.W.kitOne K (.ref ca.Lacking) (.ref ca.Lacking) = some true
 m_Lacking_Lacking : PySem.W.exmOne K (.ref ca.Lacking) (.ref ca.Lacking) = some true
 i_Lacking_NoCask : PySem.W.kitOne K (.ref ca.Lacking) (.ref ca.NoCask) = some false
 m_Lacking_NoCask : PySem.W.exmOne K (.ref ca.Lacking) (.ref ca.NoCask) = some false
 i_Lacking_NoDeed : PySem.W.kitOne K (.ref ca.Lacking) (.ref ca.NoDeed) = some false
 m_Lacking_NoDeed : PySem.W.exmOne K (.ref ca.Lacking) (.ref ca.NoDeed) = some false
 i_Lacking_NotSteady : PySem.W.kitOne K (.ref ca.Lacking) (.ref ca.NotSteady) = some false
 m_Lacking_NotSteady : PySem.W.exmOne K (.ref ca.Lacking) (.ref ca.NotSteady) = some false
 i_Lacking_Tied : PySem.W.kitOne K (.ref ca.Lacking) (.ref ca.Tied) = some false
 m_Lacking_Tied : PySem.W.exmOne K (.ref ca.Lacking) (.ref ca.Tied) = some false
 i_Lacking_TierError : PySem.W.kitOne K (.ref ca.Lacking) (.ref ca.TierError) = some true
 m_Lacking_TierError : PySem.W.exmOne K (.ref ca.Lacking) (.ref ca.TierError) = some true
 v_Lacking : PySem.W.kitOne K (.ref ca.Lacking) (.type "ValueError") = some true
structure RowAt (H : Hp) (kvs : List (Key × V)) (f : Str -> Option Rat) : Prop where
 nodup : (kvs.map (·.1)).Nodup
 keys : ∀ kv ∈ kvs, ∃ z, kv.1 = .inr z
 has : ∀ z r, f z = .some r -> ∃ v, valV kvs (.inr z) = .some v /\ FrV H v r
 not : ∀ z, f z = .none -> valV kvs (.inr z) = .none
theorem RowAt.same {H H' : Hp} {kvs : List (Key × V)} {f : Str -> Option Rat} (h : RowAt H kvs f) (s : ∀ v r, FrV H v r -> FrV H' v r) : RowAt H' kvs f :=
 ⟨h.nodup, h.keys, fun z r e => (let ⟨v, a, b⟩ := h.has z r e; ⟨v, a, s v r b⟩), h.not⟩
theorem RowAt.nil (H : Hp) : RowAt H [] fun _ => .none := ⟨List.nodup_nil, (fun _ z => nomatch z), (fun _ _ e => nomatch e), fun _ _ => rfl⟩
theorem keys_put (kvs : List (Key × V)) (k : Key) (v : V) : (putK kvs k v).map (·.1) = if (kvs.any fun kv => decide (kv.1 = k)) = true then kvs.map (·.1) else kvs.map (·.1) ++ [k] := by
 unfold putK
 split
 ·rw [List.map_map]
  apply List.map_congr_left
  intro kv _
  show (if kv.1 = k then (kv.1, v) else kv).1 = kv.1
  split <;> rfl
 ·rw [List.map_append]; rfl
theorem RowAt.put {H : Hp} {kvs : List (Key × V)} {f : Str -> Option Rat} (h : RowAt H kvs f) {z : Str} {v : V} {r : Rat} (hv : FrV H v r) : RowAt H (putK kvs (.inr z) v) fun y => if y = z then .some r else f y := by
 refine ⟨?_, ?_, fun y q e => ?_, fun y e => ?_⟩
 ·rw [keys_put]
  split
  ·exact h.nodup
  ·rename_i hn
   refine List.nodup_append.mpr ⟨h.nodup, by simp, fun a ha b hb e => hn ?_⟩
   have hb := List.mem_singleton.mp hb
   subst hb
   obtain ⟨kv, hk, ek⟩ := List.mem_map.mp ha
   exact List.any_eq_true.mpr ⟨kv, hk, decide_eq_true (ek.trans e)⟩
 ·intro kv hkv
  have : kv.1 ∈ (putK kvs (.inr z) v).map (·.1) := List.mem_map.mpr ⟨kv, hkv, rfl⟩
  rw [keys_put] at this
  split at this
  ·obtain ⟨kw, h1, h2⟩ := List.mem_map.mp this
   rw [<- h2]; exact h.keys kw h1
  ·rcases List.mem_append.mp this with q | q
   ·obtain ⟨kw, h1, h2⟩ := List.mem_map.mp q
    rw [<- h2]; exact h.keys kw h1
   ·exact ⟨z, List.mem_singleton.mp q⟩
 ·rw [valV_put]
  by_cases ey : y = z
  ·subst ey
   rw [if_pos rfl] at e ⊢
   cases e
   exact ⟨v, rfl, hv⟩
  ·rw [if_neg ey] at e
   rw [if_neg fun q => ey (Sum.inr.inj q)]
   exact h.has y q e
 ·rw [valV_put]
  by_cases ey : y = z
  ·subst ey; rw [if_pos rfl] at e; cases e
  ·rw [if_neg ey] at e
   rw [if_neg fun q => ey (Sum.inr.inj q)]
   exact h.not y e
noncomputable def nmz : Key -> Str
 | .inr z => z
 | .inl _ => ""
noncomputable def nms (ks : List (Key × V)) : List Str := ks.map fun kv => nmz kv.1
theorem valV_get : ∀ {ks : List (Key × V)}, (ks.map (·.1)).Nodup -> ∀ {i : Nat} {p : Key × V}, ks[i]? = .some p -> valV ks p.1 = .some p.2
 | [], _, _, _, e => by simp at e
 | q :: qs, hn, 0, p, e => by
  simp at e; subst e
  unfold valV
  rw [List.find?_cons_of_pos (by simp)]; rfl
 | q :: qs, hn, i + 1, p, e => by
  have e' : qs[i]? = .some p := by simpa using e
  rw [List.map_cons, List.nodup_cons] at hn
  have ne : q.1 ≠ p.1 := fun z => hn.1 (by rw [z]; exact List.mem_map.mpr ⟨p, List.mem_of_getElem? e', rfl⟩)
  have ih := valV_get hn.2 e'
  unfold valV at ih ⊢
  rw [List.find?_cons_of_neg (by simp [ne])]; exact ih
theorem nms_mem {ks : List (Key × V)} {z : Str} {v : V} (h : valV ks (.inr z) = .some v) : z ∈ nms ks := by
 unfold valV at h
 cases q : ks.find? fun kv => decide (kv.1 = .inr z) with
 | none => rw [q] at h; cases h
 | some kv =>
  have h1 := List.mem_of_find?_eq_some q
  have h2 := List.find?_some q
  refine List.mem_map.mpr ⟨kv, h1, ?_⟩
  rw [of_decide_eq_true h2]; rfl
theorem nms_not {ks : List (Key × V)} (hn : (ks.map (·.1)).Nodup) {i : Nat} {p : Key × V} (hp : ks[i]? = .some p) {z : Str} (hz : p.1 = .inr z) (hk : ∀ kv ∈ ks, ∃ y, kv.1 = .inr y) : z ∉ nms (ks.take i) := by
 intro h
 obtain ⟨q, hq, e⟩ := List.mem_map.mp h
 obtain ⟨j, hj, ej⟩ := List.getElem_of_mem hq
 have hji : j < i := by rw [List.length_take] at hj; lia
 have hj2 : ks[j]? = .some q := by
  have : (ks.take i)[j]? = .some q := by rw [List.getElem?_eq_getElem hj, ej]
  rwa [List.getElem?_take_of_lt hji] at this
 obtain ⟨y, hy⟩ := hk q (List.mem_of_getElem? hj2)
 have eyz : y = z := by rw [hy] at e; exact e
 have ek : q.1 = p.1 := by rw [hy, eyz, hz]
 have hi : i < ks.length := (List.getElem?_eq_some_iff.mp hp).1
 have hjl : j < ks.length := by lia
 have e1 : (ks.map (·.1))[j]'(by simpa using hjl) = (ks.map (·.1))[i]'(by simpa using hi) := by
  have a1 : ks[j] = q := by rw [List.getElem?_eq_getElem hjl] at hj2; exact Option.some.inj hj2
  have a2 : ks[i] = p := by rw [List.getElem?_eq_getElem hi] at hp; exact Option.some.inj hp
  simp [a1, a2, ek]
 exact List.pairwise_iff_getElem.mp hn j i (by simpa using hjl) (by simpa using hi) hji e1
theorem _root_.Tc.FrV.tup {H H' : Hp} {v : V} {r : Rat} (h : FrV H v r) (s : ∀ a xs, H a = some (.tup xs) -> H' a = some (.tup xs)) : FrV H' v r := let ⟨a, e, h⟩ := h; ⟨a, e, s _ _ h⟩
theorem tup_of {H : Hp} {p : Addr} {u o : HO} (hp : H p = some u) (hu : ∀ xs, u ≠ .tup xs) : ∀ a ys, H a = some (.tup ys) -> upd H p o a = some (.tup ys) := fun a ys e => by
 rw [upd_ne (ne_of e hp (fun z => hu ys z.symm))]; exact e
theorem nms_nodup {kvs : List (Key × V)} (h : (kvs.map (·.1)).Nodup) (hk : ∀ kv ∈ kvs, ∃ z, kv.1 = .inr z) : (nms kvs).Nodup := by
 unfold nms List.Nodup
 unfold List.Nodup at h
 rw [List.pairwise_map] at h ⊢
 refine List.Pairwise.imp_of_mem (fun {a b} ha hb hab e => hab ?_) h
 obtain ⟨x, hx⟩ := hk a ha
 obtain ⟨y, hy⟩ := hk b hb
 rw [hx, hy] at e ⊢
 have e : x = y := e
 rw [e]
theorem nms_len (kvs : List (Key × V)) : (nms kvs).length = kvs.length := List.length_map ..
theorem RowAt.iff {H : Hp} {kvs : List (Key × V)} {g : Str -> Option Rat} (h : RowAt H kvs g) (z : Str) : z ∈ nms kvs ↔ (g z).isSome = true := by
 constructor
 ·intro q
  obtain ⟨kvi, hm, ez⟩ := List.mem_map.mp q
  obtain ⟨y, hy⟩ := h.keys kvi hm
  obtain ⟨j, hj, ej⟩ := List.getElem_of_mem hm
  have hval := valV_get h.nodup (i := j) (p := kvi) (by rw [List.getElem?_eq_getElem hj, ej])
  have eyz : y = z := by rw [hy] at ez; exact ez
  rw [hy, eyz] at hval
  cases q2 : g z with
  | none => rw [h.not z q2] at hval; cases hval
  | some r => rfl
 ·intro q
  obtain ⟨r, hr⟩ := Option.isSome_iff_exists.mp q
  obtain ⟨v, h1, _⟩ := h.has z r hr
  exact nms_mem h1
theorem RowAt.len_eq {H H' : Hp} {ka kb : List (Key × V)} {g : Str -> Option Rat} (h : RowAt H ka g) (h' : RowAt H' kb g) : ka.length = kb.length := by
 rw [<- nms_len, <- nms_len]
 exact Nat.le_antisymm (nodup_len (nms_nodup h.nodup h.keys) fun z hz => (h'.iff z).mpr ((h.iff z).mp hz)) (nodup_len (nms_nodup h'.nodup h'.keys) fun z hz => (h.iff z).mpr ((h'.iff z).mp hz))
theorem RowAt.at {H : Hp} {kvs : List (Key × V)} {g : Str -> Option Rat} (h : RowAt H kvs g) {i : Nat} {p : Key × V} (hp : kvs[i]? = some p) : ∃ z r, p.1 = .inr z /\ g z = some r /\ FrV H p.2 r /\ z ∉ nms (kvs.take i) /\ nms (kvs.take (i + 1)) = nms (kvs.take i) ++ [z] := by
 obtain ⟨z, hz⟩ := h.keys p (List.mem_of_getElem? hp)
 have hval := valV_get h.nodup hp
 rw [hz] at hval
 refine ⟨z, ?_⟩
 cases q : g z with
 | none => rw [h.not z q] at hval; cases hval
 | some r =>
  obtain ⟨v', h1, h2⟩ := h.has z r q
  rw [hval] at h1; cases h1
  refine ⟨r, hz, rfl, h2, nms_not h.nodup hp hz h.keys, ?_⟩
  unfold nms
  rw [List.take_add_one, hp, List.map_append]
  show _ ++ [nmz p.1] = _
  rw [hz]; rfl
inductive Stp where
 | br (z : Str) (yr : Int) (x : Str) (q : Rat)
 | ps (x y : Str) (t : Rat)
noncomputable abbrev Lay (z : Str) : Prop := (PyData.str z).canLay0 = true
theorem _root_.Tc.IsM.bd {P k n : Nat} {r : Rat} (hP : 0 < P) (hk : 1 <= k) (hb : k * P < 2 ^ n) (h : IsM P k r) : Bd n r := by
 obtain ⟨m, hm, rfl⟩ := h.eq hP
 refine Bd.divInt (by lia) ?_ ?_
 ·show m < 2 ^ n
  lia
 ·show P < 2 ^ n
  have := Nat.mul_le_mul_right P hk
  lia
theorem _root_.Tc.Bd.share {t : Rat} (h0 : 0 <= t) (h1 : t <= 1) (hd : t.den < 2 ^ 40) : Bd 50 t /\ Bd 50 (1 - t) := by
 have a := (IsM.one 1).mulL h0 h1
 have b := (IsM.one 1).mulR h0 h1
 rw [Rat.one_mul, Nat.one_mul] at a b
 have hb : 1 * t.den < 2 ^ 50 := Nat.lt_of_lt_of_le (by lia) (pow_le (m := 40) (by decide))
 exact ⟨a.bd t.den_pos (Nat.le_refl _) hb, b.bd t.den_pos (Nat.le_refl _) hb⟩
noncomputable def StV (H : Hp) (v : V) : Stp -> Prop
 | .br z yr x q => ∃ a l f, v = .ref a /\ H a = some (.tup [.str "bring", .ref l, .str x, f]) /\ H l = some (.tup [.str z, .int yr]) /\ FrV H f q
 | .ps x y t => ∃ a f, v = .ref a /\ H a = some (.tup [.str "pass", .str x, .str y, f]) /\ FrV H f t
theorem StV.tup {H H' : Hp} (s : ∀ a xs, H a = some (.tup xs) -> H' a = some (.tup xs)) : ∀ {v : V} {st : Stp}, StV H v st -> StV H' v st
 | _, .br _ _ _ _, ⟨a, l, f, e, h1, h2, h3⟩ => ⟨a, l, f, e, s _ _ h1, s _ _ h2, h3.tup s⟩
 | _, .ps _ _ _, ⟨a, f, e, h1, h3⟩ => ⟨a, f, e, s _ _ h1, h3.tup s⟩
theorem StV.same {H H' : Hp} {v : V} {st : Stp} (h : StV H v st) (s : Same H H') : StV H' v st := h.tup fun _ _ e => s _ _ e
theorem steps_same {H H' : Hp} {xs : List V} {ss : List Stp} (h : Paired (StV H) xs ss) (s : Same H H') : Paired (StV H') xs ss := Paired.mapP h fun _ _ f => f.same s
theorem _root_.Tc.IsM.mono {P k j : Nat} {r : Rat} (h : IsM P k r) (hk : k <= j) : IsM P j r := by
 obtain ⟨a, m, b, c⟩ := h
 exact ⟨a, m, Nat.le_trans b (Nat.mul_le_mul_right _ hk), c⟩
theorem repT {K : PySem.W.Frag} {H : Hp} {a : Addr} {vs : List V} {xs : List PyData} (h : SqT K H a vs) (r : RepDs K H xs vs) : RepD K H (.tuple xs) (.ref a) := by simp only [RepD]; exact ⟨a, vs, rfl, h, r⟩
theorem repL {K : PySem.W.Frag} {H : Hp} {a : Addr} {vs : List V} {xs : List PyData} (h : SqL K H a vs) (r : RepDs K H xs vs) : RepD K H (.list xs) (.ref a) := by simp only [RepD]; exact ⟨a, vs, rfl, h, r⟩
theorem reps0 {K : PySem.W.Frag} {H : Hp} : RepDs K H [] [] := by simp [RepDs]
theorem repsC {K : PySem.W.Frag} {H : Hp} {d : PyData} {v : V} {ds : List PyData} {vs : List V} (h : RepD K H d v) (r : RepDs K H ds vs) : RepDs K H (d :: ds) (v :: vs) := by simp only [RepDs]; exact ⟨_, _, rfl, h, r⟩
theorem repS {K : PySem.W.Frag} {H : Hp} {z : Str} (h : Lay z) : RepD K H (.str z) (.str z) := by rw [RepD]; exact ⟨rfl, h⟩
theorem repI {K : PySem.W.Frag} {H : Hp} {i : Int} : RepD K H (.int i) (.int i) := by rw [RepD]
theorem depth_map {α : Type} {f : α -> PyData} {n : Nat} (h : ∀ a, (f a).depth <= n) : ∀ l : List α, PyData.depthAll (l.map f) <= n
 | [] => by simp [PyData.depthAll]
 | a :: l => by
  rw [List.map_cons]; simp only [PyData.depthAll]
  have := h a
  have := depth_map h l
  lia
inductive Plc where
 | ck (z : Str) (r : Rat)
 | sk (z : Str)
noncomputable def nmP : Plc -> Str
 | .ck z _ => z
 | .sk z => z
noncomputable def isC : Plc -> Bool
 | .ck _ _ => true
 | .sk _ => false
noncomputable def kd (b : Bool) : Str := if b then "cask" else "sink"
noncomputable def PlV (H : Hp) (v : V) : Plc -> Prop
 | .ck z r => ∃ a f, v = .ref a /\ H a = some (.tup [.str "cask", .str z, f]) /\ FrV H f r
 | .sk z => ∃ a, v = .ref a /\ H a = some (.tup [.str "sink", .str z])
theorem PlV.tup {H H' : Hp} (s : ∀ a xs, H a = some (.tup xs) -> H' a = some (.tup xs)) : ∀ {v : V} {p : Plc}, PlV H v p -> PlV H' v p
 | _, .ck _ _, ⟨a, f, e, h1, h2⟩ => ⟨a, f, e, s _ _ h1, h2.tup s⟩
 | _, .sk _, ⟨a, e, h1⟩ => ⟨a, e, s _ _ h1⟩
theorem PlV.same {H H' : Hp} {v : V} {p : Plc} (h : PlV H v p) (s : Same H H') : PlV H' v p := h.tup fun _ _ e => s _ _ e
theorem PlV.at {H : Hp} : ∀ {v : V} {p : Plc}, PlV H v p -> ∃ a ys, v = .ref a /\ H a = some (.tup ys) /\ atI ys 0 = some (.str (kd (isC p))) /\ atI ys 1 = some (.str (nmP p))
 | _, .ck _ _, ⟨a, f, e, h1, h2⟩ => ⟨a, _, e, h1, rfl, rfl⟩
 | _, .sk _, ⟨a, e, h1⟩ => ⟨a, _, e, h1, rfl, rfl⟩
theorem house_same {H H' : Hp} {xs : List V} {ps : List Plc} (h : Paired (PlV H) xs ps) (s : Same H H') : Paired (PlV H') xs ps := Paired.mapP h fun _ _ f => f.same s
noncomputable def allN (ps : List Plc) : List Str := ps.map nmP
noncomputable def ckN (ps : List Plc) : List Str := (ps.filter isC).map nmP
structure HouseOk (ps : List Plc) : Prop where
 nd : (allN ps).Nodup
 lay : ∀ z ∈ allN ps, Lay z
 len : ps.length <= 8
theorem ck_sub {ps : List Plc} {z : Str} (h : z ∈ ckN ps) : z ∈ allN ps := by
 obtain ⟨p, hp, e⟩ := List.mem_map.mp h
 exact List.mem_map.mpr ⟨p, (List.mem_filter.mp hp).1, e⟩
theorem HouseOk.ck {ps : List Plc} (h : HouseOk ps) : (ckN ps).Nodup := h.nd.sublist (List.filter_sublist.map nmP)
theorem ck_len {ps : List Plc} : (ckN ps).length <= ps.length := by
 unfold ckN
 rw [List.length_map]
 exact List.length_filter_le _ _
noncomputable def all (L : List Str) (f : Str -> Rat) : Str -> Option Rat := fun z => if z ∈ L then some (f z) else none
theorem all_snoc (L : List Str) (f : Str -> Rat) (n : Str) : all (L ++ [n]) f = fun y => if y = n then some (f n) else all L f y := by
 funext y
 unfold all
 by_cases e : y = n
 ·subst e; simp
 ·simp [e]
theorem all_nil (f : Str -> Rat) : all [] f = fun _ => none := by funext z; simp [all]
theorem take_one {α : Type} {L : List α} {i : Nat} {n : α} (h : L[i]? = some n) : L.take (i + 1) = L.take i ++ [n] := by rw [List.take_add_one, h]; rfl
noncomputable def Szd (i : Nat) (r : Rat) : Prop := IsM (12 * 4 ^ i) (2 ^ (60 + i)) r
theorem szP (i : Nat) : 0 < 12 * 4 ^ i := Nat.mul_pos (by decide) (Nat.pow_pos (by decide))
theorem szK {i : Nat} (h : i <= 90) : 2 ^ (60 + i) * (12 * 4 ^ i) < 2 ^ 400 := by
 have e : (4 : Nat) ^ i = 2 ^ (2 * i) := by rw [Nat.pow_mul]
 have h1 : 2 ^ (60 + i) <= 2 ^ 150 := pow_le (by lia)
 have h2 : (4 : Nat) ^ i <= 2 ^ 180 := by rw [e]; exact pow_le (by lia)
 have h3 := Nat.mul_le_mul h1 (Nat.mul_le_mul_left 12 h2)
 exact Nat.lt_of_le_of_lt h3 (by decide)
theorem Szd.bd {i : Nat} {r : Rat} (h : Szd i r) (hi : i <= 90) : Bd 400 r := _root_.Tc.IsM.bd (szP i) Nat.one_le_two_pow (szK hi) h
theorem Szd.nn {i : Nat} {r : Rat} (h : Szd i r) : 0 <= r := h.1
theorem Szd.up {i j : Nat} {r : Rat} (h : Szd i r) (hij : i <= j) : Szd j r := by
 have h1 := (IsM.up h (4 ^ (j - i))).mono (j := 2 ^ (60 + j)) (pow_le (by lia))
 have e : 12 * 4 ^ i * 4 ^ (j - i) = 12 * 4 ^ j := by
  rw [Nat.mul_assoc, <- Nat.pow_add]
  congr 2
  lia
 rw [e] at h1
 exact h1
theorem Szd.zero (i : Nat) : Szd i 0 := IsM.zero _ _
theorem Szd.add {i : Nat} {r q : Rat} (h : Szd i r) (g : Szd i q) : Szd (i + 1) (r + q) := by
 have h1 := (IsM.add h g).up 4
 have e1 : 2 ^ (60 + i) + 2 ^ (60 + i) = 2 ^ (60 + (i + 1)) := by
  rw [show 60 + (i + 1) = (60 + i) + 1 from rfl, Nat.pow_succ]; lia
 have e2 : 12 * 4 ^ i * 4 = 12 * 4 ^ (i + 1) := by rw [Nat.mul_assoc, <- Nat.pow_succ]
 rw [e1, e2] at h1
 exact h1
theorem Szd.sub {i : Nat} {r q : Rat} (h : Szd i r) (g : Szd i q) (hq : q <= r) : Szd i (r - q) := by
 obtain ⟨h0, m, hm, e⟩ := h
 obtain ⟨g0, n, hn, f⟩ := g
 have hP : (0 : Rat) <= ((12 * 4 ^ i : Nat) : Rat) := Rat.natCast_nonneg
 have hle : q * ((12 * 4 ^ i : Nat) : Rat) <= r * ((12 * 4 ^ i : Nat) : Rat) := Rat.mul_le_mul_of_nonneg_right hq hP
 rw [e, f] at hle
 have hnm : n <= m := Rat.natCast_le_natCast.mp hle
 obtain ⟨d, rfl⟩ := Nat.exists_eq_add_of_le hnm
 refine ⟨by grind, d, by lia, ?_⟩
 rw [Rat.natCast_add] at e
 grind
theorem Szd.part {i : Nat} {r q : Rat} (h : Szd i r) (h0 : 0 <= q) (h1 : q <= 1) (hd : q.den ∣ 4) : Szd (i + 1) (r * q) := by
 obtain ⟨c, hc⟩ := hd
 have g := ((IsM.mulL h h0 h1).up c).mono (j := 2 ^ (60 + (i + 1))) (pow_le (by lia))
 have e2 : 12 * 4 ^ i * q.den * c = 12 * 4 ^ (i + 1) := by
  rw [Nat.mul_assoc, <- hc, Nat.mul_assoc, <- Nat.pow_succ]
 rw [e2] at g
 exact g
theorem Szd.amt {t b : Int} (h0 : 0 <= t) (h1 : t <= 1000000000000) (b0 : 1 <= b) (b1 : b <= 4) : Szd 0 (Rat.divInt t b) := by
 obtain ⟨m, rfl⟩ := Int.eq_ofNat_of_zero_le h0
 have key : ∀ (c k : Nat), b = (c : Nat) -> c * k = 12 -> Szd 0 (Rat.divInt (m : Nat) b) := by
  intro c k e hck
  subst e
  have hc : 0 < c := by lia
  have hk : k <= 12 := by
   have := Nat.le_mul_of_pos_left k hc
   lia
  refine ⟨Rat.divInt_nonneg (by lia) (by lia), m * k, ?_, ?_⟩
  ·have hm : m <= 1000000000000 := by lia
   have := Nat.mul_le_mul hm hk
   refine Nat.le_trans this ?_
   decide
  ·have e1 : ((12 * 4 ^ 0 : Nat) : Rat) = (c : Rat) * (k : Rat) := by rw [<- Rat.natCast_mul, hck]
   rw [e1, Rat.divInt_eq_div, Rat.intCast_natCast, Rat.intCast_natCast, Rat.natCast_mul]
   have := natne hc
   grind
 have : b = 1 \/ b = 2 \/ b = 3 \/ b = 4 := by lia
 rcases this with e | e | e | e
 ·exact key 1 12 e rfl
 ·exact key 2 6 e rfl
 ·exact key 3 4 e rfl
 ·exact key 4 3 e rfl
theorem divInt_one (t : Int) : Rat.divInt t 1 = (t : Rat) := by rw [Rat.divInt_eq_div]; grind
theorem Szd.over {i : Nat} {r q : Rat} (h : Szd i r) (g : Szd i q) (hq : q ≠ 0) (hi : i <= 90) : Bd 400 (r / q) := by
 obtain ⟨m, hm, e⟩ := IsM.eq (szP i) h
 obtain ⟨n, hn, f⟩ := IsM.eq (szP i) g
 have hK := szK hi
 have hn0 : n ≠ 0 := by
  rintro rfl
  apply hq
  rw [f, Rat.divInt_eq_div]
  have : (((0 : Nat) : Int) : Rat) = 0 := rfl
  rw [this]
  grind
 have e2 : r / q = Rat.divInt m n := by
  rw [e, f, Rat.divInt_eq_div, Rat.divInt_eq_div, Rat.divInt_eq_div, Rat.intCast_natCast, Rat.intCast_natCast, Rat.intCast_natCast]
  have := natne (szP i)
  have := natne (show 0 < n by lia)
  grind
 rw [e2]
 exact Bd.divInt (by lia) (show m < 2 ^ 400 by lia) (show n < 2 ^ 400 by lia)
noncomputable def rmF : List Plc -> Str -> Option Rat
 | [], _ => none
 | .ck z r :: ps, y => if y = z then some r else rmF ps y
 | .sk _ :: ps, y => rmF ps y
theorem rmF_ck {z : Str} {r : Rat} : ∀ {ps : List Plc}, z ∉ allN ps -> rmF (ps ++ [.ck z r]) = fun y => if y = z then some r else rmF ps y
 | [], _ => by funext y; rfl
 | .ck z' r' :: ps, h => by
  have h1 : z ≠ z' := by rintro rfl; exact h List.mem_cons_self
  have ih := rmF_ck (z := z) (r := r) (ps := ps) fun q => h (List.mem_cons_of_mem _ q)
  funext y
  show (if y = z' then some r' else rmF (ps ++ [.ck z r]) y) = if y = z then some r else if y = z' then some r' else rmF ps y
  rw [ih]
  by_cases e1 : y = z'
  ·by_cases e2 : y = z
   ·exact absurd (e2.symm.trans e1) h1
   ·rw [if_pos e1, if_neg e2, if_pos e1]
  ·rw [if_neg e1]
   show (if y = z then some r else rmF ps y) = _
   rw [if_neg e1]
 | .sk z' :: ps, h => by
  have ih := rmF_ck (z := z) (r := r) (ps := ps) fun q => h (List.mem_cons_of_mem _ q)
  funext y
  show rmF (ps ++ [.ck z r]) y = _
  rw [ih]; rfl
theorem rmF_sk {z : Str} : ∀ {ps : List Plc}, rmF (ps ++ [.sk z]) = rmF ps
 | [] => rfl
 | .ck z' r' :: ps => by
  funext y
  show (if y = z' then some r' else rmF (ps ++ [.sk z]) y) = if y = z' then some r' else rmF ps y
  rw [rmF_sk]
 | .sk z' :: ps => rmF_sk (ps := ps)
theorem rmF_some {ps : List Plc} {z : Str} : z ∈ ckN ps -> ∃ r, rmF ps z = some r := by
 induction ps with
 | nil => intro h; cases h
 | cons p ps ih =>
  intro h
  cases p with
  | ck z' r' =>
   by_cases e : z = z'
   ·exact ⟨r', if_pos e⟩
   ·have h' : z ∈ ckN ps := by
     rcases List.mem_cons.mp (show z ∈ z' :: ckN ps from h) with q | q
     ·exact absurd q e
     ·exact q
    obtain ⟨r, hr⟩ := ih h'
    exact ⟨r, (if_neg e).trans hr⟩
  | sk z' => exact ih h
theorem rmF_mem {ps : List Plc} {z : Str} {r : Rat} : rmF ps z = some r -> z ∈ ckN ps /\ Plc.ck z r ∈ ps := by
 induction ps with
 | nil => intro h; cases h
 | cons p ps ih =>
  intro h
  cases p with
  | ck z' r' =>
   by_cases e : z = z'
   ·subst e
    have h : some r' = some r := (if_pos rfl).symm.trans h
    cases h
    exact ⟨List.mem_cons_self, List.mem_cons_self⟩
   ·have h : rmF ps z = some r := (if_neg e).symm.trans h
    obtain ⟨h1, h2⟩ := ih h
    exact ⟨List.mem_cons_of_mem _ h1, List.mem_cons_of_mem _ h2⟩
  | sk z' =>
   obtain ⟨h1, h2⟩ := ih h
   exact ⟨h1, List.mem_cons_of_mem _ h2⟩
noncomputable def RoomsOk (ps : List Plc) : Prop := ∀ z r, Plc.ck z r ∈ ps -> Szd 0 r
noncomputable def spRooms (K : PySem.W.Frag) : Sp := fun vs H Q _ => ∃ (a : Addr) (xs : List V) (ps : List Plc), vs = [.ref a] /\ SqL K H a xs /\ Paired (PlV H) xs ps /\ HouseOk ps /\ ∀ p H' kv, H p = none -> Same H H' -> H' p = some (.dK kv) -> RowAt H' kv (rmF ps) -> Q (.ref p) H'
noncomputable def spNone (K : PySem.W.Frag) : Sp := fun vs H Q _ => ∃ (a : Addr) (xs : List V) (ps : List Plc), vs = [.ref a] /\ SqL K H a xs /\ Paired (PlV H) xs ps /\ HouseOk ps /\ ∀ p H' kv, H p = none -> Same H H' -> H' p = some (.dK kv) -> RowAt H' kv (all (allN ps) fun _ => 0) -> Q (.ref p) H'
inductive Dd where
 | br (z x : Str) (r : Rat)
 | pt (x y : Str) (q : Rat)
 | al (x y : Str)
 | fl (x y : Str)
 | mv (x y : Str) (r : Rat)
 | yr
noncomputable def DdV (H : Hp) (v : V) : Dd -> Prop
 | .br z x r => ∃ a f, v = .ref a /\ H a = some (.tup [.str "bring", .str z, .str x, f]) /\ FrV H f r
 | .pt x y r => ∃ a f, v = .ref a /\ H a = some (.tup [.str "part", .str x, .str y, f]) /\ FrV H f r
 | .al x y => ∃ a, v = .ref a /\ H a = some (.tup [.str "all", .str x, .str y])
 | .fl x y => ∃ a, v = .ref a /\ H a = some (.tup [.str "fill", .str x, .str y])
 | .mv x y r => ∃ a f, v = .ref a /\ H a = some (.tup [.str "move", .str x, .str y, f]) /\ FrV H f r
 | .yr => ∃ a, v = .ref a /\ H a = some (.tup [.str "year"])
theorem DdV.tup {H H' : Hp} (s : ∀ a xs, H a = some (.tup xs) -> H' a = some (.tup xs)) : ∀ {v : V} {d : Dd}, DdV H v d -> DdV H' v d
 | _, .br _ _ _, ⟨a, f, e, h1, h3⟩ => ⟨a, f, e, s _ _ h1, h3.tup s⟩
 | _, .pt _ _ _, ⟨a, f, e, h1, h3⟩ => ⟨a, f, e, s _ _ h1, h3.tup s⟩
 | _, .al _ _, ⟨a, e, h1⟩ => ⟨a, e, s _ _ h1⟩
 | _, .fl _ _, ⟨a, e, h1⟩ => ⟨a, e, s _ _ h1⟩
 | _, .mv _ _ _, ⟨a, f, e, h1, h3⟩ => ⟨a, f, e, s _ _ h1, h3.tup s⟩
 | _, .yr, ⟨a, e, h1⟩ => ⟨a, e, s _ _ h1⟩
theorem DdV.same {H H' : Hp} {v : V} {d : Dd} (h : DdV H v d) (s : Same H H') : DdV H' v d := h.tup fun _ _ e => s _ _ e
noncomputable def OkD (ps : List Plc) : Dd -> Prop
 | .br z x r => x ∈ ckN ps /\ Lay z /\ Szd 0 r
 | .pt x y q => x ∈ ckN ps /\ y ∈ allN ps /\ x ≠ y /\ 0 <= q /\ q <= 1 /\ q.den ∣ 4
 | .al x y => x ∈ ckN ps /\ y ∈ allN ps /\ x ≠ y
 | .fl x y => x ∈ ckN ps /\ y ∈ ckN ps /\ x ≠ y
 | .mv x y r => x ∈ ckN ps /\ y ∈ allN ps /\ x ≠ y /\ Szd 0 r
 | .yr => True
noncomputable def gsD (ps : List Plc) (t : Str -> Rat) : Dd -> Rat
 | .br _ _ r => r
 | .pt x _ q => t x * q
 | .al x _ => t x
 | .fl _ y => (rmF ps y).getD 0 - t y
 | .mv _ _ r => r
 | .yr => 0
noncomputable def GoD (ps : List Plc) (t : Str -> Rat) : Dd -> Prop
 | .br _ x r => ∀ m, rmF ps x = some m -> t x + r <= m
 | .pt x y q => t x * q <= t x /\ ∀ m, rmF ps y = some m -> t y + t x * q <= m
 | .al x y => ∀ m, rmF ps y = some m -> t y + t x <= m
 | .fl x y => (rmF ps y).getD 0 - t y <= t x
 | .mv x y r => r <= t x /\ ∀ m, rmF ps y = some m -> t y + r <= m
 | .yr => True
noncomputable def mvT (x y : Str) (g : Rat) (t : Str -> Rat) : Str -> Rat := fun z => if z = x then t x - g else if z = y then t y + g else t z
noncomputable def adT (x : Str) (g : Rat) (t : Str -> Rat) : Str -> Rat := fun z => if z = x then t x + g else t z
noncomputable def ptT (ps : List Plc) (t : Str -> Rat) : Dd -> (Str -> Rat)
 | .br _ x r => adT x r t
 | .pt x y q => mvT x y (t x * q) t
 | .al x y => mvT x y (t x) t
 | .fl x y => mvT x y ((rmF ps y).getD 0 - t y) t
 | .mv x y r => mvT x y r t
 | .yr => t
noncomputable def stD (ps : List Plc) (t : Str -> Rat) (n : Int) : Dd -> List Stp
 | .br z x r => [.br z n x r]
 | .pt x y q => [.ps x y q]
 | .al x y => [.ps x y 1]
 | .fl x y => [.ps x y (((rmF ps y).getD 0 - t y) / t x)]
 | .mv x y r => [.ps x y (r / t x)]
 | .yr => []
noncomputable def yrD : Dd -> Int
 | .yr => 1
 | _ => 0
set_option genInjectivity false in
structure Run where
 t : Str -> Rat
 n : Int
 ss : List Stp
noncomputable def adv (ps : List Plc) (s : Run) (d : Dd) : Run := ⟨ptT ps s.t d, s.n + yrD d, s.ss ++ stD ps s.t s.n d⟩
noncomputable def run (ps : List Plc) (n : Int) (ds : List Dd) : Run := ds.foldl (adv ps) ⟨fun _ => 0, n, []⟩
theorem run_snoc (ps : List Plc) (n : Int) (ds : List Dd) (d : Dd) : run ps n (ds ++ [d]) = adv ps (run ps n ds) d := by
 unfold run; rw [List.foldl_append]; rfl
structure InT (ps : List Plc) (t : Str -> Rat) (i : Nat) : Prop where
 sz : ∀ z ∈ allN ps, Szd i (t z)
 rm : ∀ z m, rmF ps z = some m -> t z <= m
theorem InT.zero {ps : List Plc} (h : RoomsOk ps) : InT ps (fun _ => 0) 0 := ⟨fun _ _ => Szd.zero 0, fun z m e => (h z m (rmF_mem e).2).nn⟩
theorem InT.rmS {ps : List Plc} {t : Str -> Rat} {i : Nat} (h : InT ps t i) (hr : RoomsOk ps) {y : Str} (hy : y ∈ ckN ps) : Szd i ((rmF ps y).getD 0 - t y) /\ ∃ m, rmF ps y = some m /\ Szd 0 m /\ t y <= m := by
 obtain ⟨m, hm⟩ := rmF_some hy
 have hs := hr y m (rmF_mem hm).2
 rw [hm]
 exact ⟨(hs.up (Nat.zero_le _)).sub (h.sz y (ck_sub hy)) (h.rm y m hm), m, rfl, hs, h.rm y m hm⟩
theorem InT.mv {ps : List Plc} {t : Str -> Rat} {i : Nat} (h : InT ps t i) {x y : Str} {g : Rat} (hx : x ∈ allN ps) (hy : y ∈ allN ps) (hg : Szd (i + 1) g) (hle : g <= t x) (hroom : ∀ m, rmF ps y = some m -> t y + g <= m) : InT ps (mvT x y g t) (i + 2) := by
 refine ⟨fun z hz => ?_, fun z m e => ?_⟩
 ·unfold mvT
  split
  ·exact (((h.sz x hx).up (by lia)).sub hg hle).up (by lia)
  ·split
   ·exact ((h.sz y hy).up (by lia)).add hg
   ·exact (h.sz z hz).up (by lia)
 ·unfold mvT
  split
  ·rename_i e1
   have := h.rm x m (e1 ▸ e)
   have := hg.nn
   grind
  ·split
   ·rename_i e2
    exact hroom m (e2 ▸ e)
   ·exact h.rm z m e
theorem InT.put {ps : List Plc} {t : Str -> Rat} {i : Nat} (h : InT ps t i) (hr : RoomsOk ps) : ∀ {d : Dd}, OkD ps d -> GoD ps t d -> InT ps (ptT ps t d) (i + 2)
 | .br z x r, ok, go => by
  refine ⟨fun y hy => ?_, fun y m e => ?_⟩
  ·show Szd (i + 2) (if y = x then t x + r else t y)
   split
   ·exact ((h.sz x (ck_sub ok.1)).add (ok.2.2.up (Nat.zero_le _))).up (by lia)
   ·exact (h.sz y hy).up (by lia)
  ·show (if y = x then t x + r else t y) <= m
   split
   ·rename_i e1
    exact go m (e1 ▸ e)
   ·exact h.rm y m e
 | .pt x y q, ok, go => by
  have hg := (h.sz x (ck_sub ok.1)).part ok.2.2.2.1 ok.2.2.2.2.1 ok.2.2.2.2.2
  exact h.mv (ck_sub ok.1) ok.2.1 hg go.1 go.2
 | .al x y, ok, go => by
  have hg := (h.sz x (ck_sub ok.1)).up (show i <= i + 1 by lia)
  exact h.mv (ck_sub ok.1) ok.2.1 hg Rat.le_refl go
 | .fl x y, ok, go => by
  obtain ⟨h1, m, hm, hs, hle⟩ := h.rmS hr ok.2.1
  refine h.mv (ck_sub ok.1) (ck_sub ok.2.1) (h1.up (by lia)) go fun m' e => ?_
  rw [hm] at e ⊢
  cases e
  show t y + (m - t y) <= m
  grind
 | .mv x y r, ok, go => h.mv (ck_sub ok.1) ok.2.1 (ok.2.2.2.up (Nat.zero_le _)) go.1 go.2
 | .yr, _, _ => ⟨fun z hz => (h.sz z hz).up (by lia), h.rm⟩
noncomputable def Goes (ps : List Plc) (n : Int) (ds : List Dd) : Prop := ∀ i d, ds[i]? = some d -> OkD ps d /\ GoD ps (run ps n (ds.take i)).t d
theorem Goes.snoc {ps : List Plc} {n : Int} {ds : List Dd} (h : Goes ps n ds) {d : Dd} (ok : OkD ps d) (go : GoD ps (run ps n ds).t d) : Goes ps n (ds ++ [d]) := by
 intro i d' hd
 by_cases e : i < ds.length
 ·rw [List.getElem?_append_left e] at hd
  rw [List.take_append_of_le_length (by lia)]
  exact h i d' hd
 ·rw [List.getElem?_append_right (by lia)] at hd
  have hi : i = ds.length := by
   have := (List.getElem?_eq_some_iff.mp hd).1
   simp at this
   lia
  subst hi
  rw [Nat.sub_self] at hd
  cases hd
  rw [List.take_append_of_le_length (Nat.le_refl _), List.take_length]
  exact ⟨ok, go⟩
theorem Goes.nil (ps : List Plc) (n : Int) : Goes ps n [] := fun i d h => by simp at h
theorem Goes.inT {ps : List Plc} {n : Int} {ds : List Dd} (hr : RoomsOk ps) (h : Goes ps n ds) : ∀ i, i <= ds.length -> InT ps (run ps n (ds.take i)).t (2 * i)
 | 0, _ => InT.zero hr
 | i + 1, hi => by
  have ih := Goes.inT hr h i (by lia)
  have hd : ds[i]? = some ds[i] := List.getElem?_eq_getElem (by lia)
  obtain ⟨ok, go⟩ := h i _ hd
  rw [take_one hd, run_snoc]
  exact ih.put hr ok go
theorem share_back {g u : Rat} (h0 : 0 <= g) (h1 : g <= u) : u * (g / u) = g := by
 by_cases e : u = 0
 ·subst e
  have : g = 0 := by grind
  subst this
  exact Rat.zero_mul _
 ·grind
theorem all_put {L : List Str} {t : Str -> Rat} {x : Str} {r : Rat} (hx : x ∈ L) : (fun y => if y = x then some r else all L t y) = all L (fun z => if z = x then r else t z) := by
 funext y
 unfold all
 by_cases e : y = x
 ·subst e; simp [hx]
 ·simp [e]
theorem all_at {L : List Str} {t : Str -> Rat} {x : Str} (hx : x ∈ L) : all L t x = some (t x) := if_pos hx
theorem RowAt.get {H : Hp} {kv : List (Key × V)} {L : List Str} {t : Str -> Rat} (h : RowAt H kv (all L t)) {x : Str} (hx : x ∈ L) : ∃ v, valV kv (.inr x) = some v /\ FrV H v (t x) := h.has x (t x) (all_at hx)
theorem RowAt.lenO {H : Hp} {kvs : List (Key × V)} {f : Str -> Option Rat} {L : List Str} (h : RowAt H kvs f) (hf : ∀ z, (f z).isSome = true -> z ∈ L) : kvs.length <= L.length := by
 rw [<- nms_len]
 exact nodup_len (nms_nodup h.nodup h.keys) fun z hz => hf z ((h.iff z).mp hz)
theorem all_sub {L : List Str} {t : Str -> Rat} {z : Str} (h : (all L t z).isSome = true) : z ∈ L := by
 unfold all at h
 split at h
 ·assumption
 ·cases h
theorem rm_sub {ps : List Plc} {z : Str} (h : (rmF ps z).isSome = true) : z ∈ allN ps := by
 obtain ⟨r, hr⟩ := Option.isSome_iff_exists.mp h
 exact ck_sub (rmF_mem hr).1
theorem not_take {α : Type} {L : List α} (nd : L.Nodup) {i : Nat} {n : α} (hi : L[i]? = some n) : n ∉ L.take i := fun h => by
 obtain ⟨j, hj, ej⟩ := List.getElem_of_mem h
 have hji : j < i := by rw [List.length_take] at hj; lia
 have hil : i < L.length := (List.getElem?_eq_some_iff.mp hi).1
 rw [List.getElem_take] at ej
 have ei := (List.getElem?_eq_some_iff.mp hi).2
 exact List.pairwise_iff_getElem.mp nd j i (by lia) hil hji (ej.trans ei.symm)
theorem allN_take {ps : List Plc} (h : HouseOk ps) {i : Nat} {p : Plc} (hi : ps[i]? = some p) : nmP p ∉ allN (ps.take i) := by
 have e : allN (ps.take i) = (allN ps).take i := List.map_take ..
 rw [e]
 refine not_take h.nd ?_
 unfold allN
 rw [List.getElem?_map, hi]; rfl
noncomputable def spOver0 : Sp := fun vs H Q _ => ∃ x y r q, vs = [x, y] /\ FrV H x r /\ FrV H y q /\ Bd 8000 r /\ Bd 8000 q /\ q ≠ 0 /\ ∀ v H', Same H H' -> FrV H' v (r / q) -> Q v H'
noncomputable def isP : Dd -> Bool
 | .br _ _ _ => false
 | .yr => false
 | _ => true
noncomputable def frD : Dd -> Str
 | .br _ x _ => x
 | .pt x _ _ => x
 | .al x _ => x
 | .fl x _ => x
 | .mv x _ _ => x
 | .yr => ""
noncomputable def toD : Dd -> Str
 | .br _ x _ => x
 | .pt _ y _ => y
 | .al _ y => y
 | .fl _ y => y
 | .mv _ y _ => y
 | .yr => ""
noncomputable def shD (ps : List Plc) (t : Str -> Rat) : Dd -> Rat
 | .pt _ _ q => q
 | .al _ _ => 1
 | .fl x y => ((rmF ps y).getD 0 - t y) / t x
 | .mv x _ r => r / t x
 | _ => 0
noncomputable def kdD : Dd -> Str
 | .br _ _ _ => "bring"
 | .pt _ _ _ => "part"
 | .al _ _ => "all"
 | .fl _ _ => "fill"
 | .mv _ _ _ => "move"
 | .yr => "year"
structure PsD (ps : List Plc) (t : Str -> Rat) (i : Nat) (d : Dd) : Prop where
 x : frD d ∈ ckN ps
 y : toD d ∈ allN ps
 ne : frD d ≠ toD d
 g : Szd (i + 1) (gsD ps t d)
 le : gsD ps t d <= t (frD d)
 rm : ∀ m, rmF ps (toD d) = some m -> t (toD d) + gsD ps t d <= m
 sh : t (frD d) * shD ps t d = gsD ps t d
 b : Bd 400 (shD ps t d)
 pt : ptT ps t d = mvT (frD d) (toD d) (gsD ps t d) t
 st : ∀ n, stD ps t n d = [.ps (frD d) (toD d) (shD ps t d)]
theorem bd01 {q : Rat} (h0 : 0 <= q) (h1 : q <= 1) (hd : q.den ∣ 4) : Bd 400 q := by
 have hle := Nat.le_of_dvd (by decide) hd
 exact ((Bd.share h0 h1 (Nat.lt_of_le_of_lt hle (by decide))).1).mono (by decide)
theorem PsD.of {ps : List Plc} {t : Str -> Rat} {i : Nat} (h : InT ps t i) (hr : RoomsOk ps) (hi : i <= 88) : ∀ {d : Dd}, isP d = true -> OkD ps d -> GoD ps t d -> PsD ps t i d
 | .pt x y q, _, ok, go =>
  { x := ok.1, y := ok.2.1, ne := ok.2.2.1, g := (h.sz x (ck_sub ok.1)).part ok.2.2.2.1 ok.2.2.2.2.1 ok.2.2.2.2.2, le := go.1, rm := go.2, sh := rfl, b := bd01 ok.2.2.2.1 ok.2.2.2.2.1 ok.2.2.2.2.2, pt := rfl, st := fun _ => rfl }
 | .al x y, _, ok, go =>
  { x := ok.1, y := ok.2.1, ne := ok.2.2, g := (h.sz x (ck_sub ok.1)).up (by lia), le := Rat.le_refl, rm := go, sh := Rat.mul_one _, b := (show Bd 400 (1 : Rat) from ⟨by decide, by decide⟩), pt := rfl, st := fun _ => rfl }
 | .fl x y, _, ok, go => by
  obtain ⟨h1, m, hm, hs, hle⟩ := h.rmS hr ok.2.1
  have hx := h.sz x (ck_sub ok.1)
  refine { x := ok.1, y := ck_sub ok.2.1, ne := ok.2.2, g := h1.up (by lia), le := go, rm := fun m' e => ?_, sh := share_back h1.nn go, b := ?_, pt := rfl, st := fun _ => rfl }
  ·have e : rmF ps y = some m' := e
   rw [hm] at e
   cases e
   show t y + ((rmF ps y).getD 0 - t y) <= m
   rw [hm]
   show t y + (m - t y) <= m
   grind
  ·show Bd 400 (((rmF ps y).getD 0 - t y) / t x)
   by_cases e : t x = 0
   ·rw [e, Rat.div_def]
    have : (0 : Rat)⁻¹ = 0 := Rat.inv_zero
    rw [this, Rat.mul_zero]
    exact ⟨by decide, by decide⟩
   ·exact h1.over hx e (by lia)
 | .mv x y r, _, ok, go => by
  have hx := h.sz x (ck_sub ok.1)
  have h1 : Szd i r := ok.2.2.2.up (Nat.zero_le _)
  refine { x := ok.1, y := ok.2.1, ne := ok.2.2.1, g := h1.up (by lia), le := go.1, rm := go.2, sh := share_back h1.nn go.1, b := ?_, pt := rfl, st := fun _ => rfl }
  show Bd 400 (r / t x)
  by_cases e : t x = 0
  ·rw [e, Rat.div_def]
   have : (0 : Rat)⁻¹ = 0 := Rat.inv_zero
   rw [this, Rat.mul_zero]
   exact ⟨by decide, by decide⟩
  ·exact h1.over hx e (by lia)
theorem DdV.pass {H : Hp} : ∀ {v : V} {d : Dd}, DdV H v d -> d ≠ .yr -> ∃ a ys, v = .ref a /\ H a = some (.tup ys) /\ atI ys 0 = some (.str (kdD d)) /\ (isP d = true -> atI ys 1 = some (.str (frD d))) /\ atI ys 2 = some (.str (toD d))
 | _, .br _ _ _, ⟨a, f, e, h1, _⟩, _ => ⟨a, _, e, h1, rfl, (fun z => nomatch z), rfl⟩
 | _, .pt _ _ _, ⟨a, f, e, h1, _⟩, _ => ⟨a, _, e, h1, rfl, fun _ => rfl, rfl⟩
 | _, .al _ _, ⟨a, e, h1⟩, _ => ⟨a, _, e, h1, rfl, fun _ => rfl, rfl⟩
 | _, .fl _ _, ⟨a, e, h1⟩, _ => ⟨a, _, e, h1, rfl, fun _ => rfl, rfl⟩
 | _, .mv _ _ _, ⟨a, f, e, h1, _⟩, _ => ⟨a, _, e, h1, rfl, fun _ => rfl, rfl⟩
 | _, .yr, _, z => absurd rfl z
theorem DdV.kd {H : Hp} : ∀ {v : V} {d : Dd}, DdV H v d -> ∃ a ys, v = .ref a /\ H a = some (.tup ys) /\ atI ys 0 = some (.str (kdD d))
 | _, .br _ _ _, ⟨a, f, e, h1, _⟩ => ⟨a, _, e, h1, rfl⟩
 | _, .pt _ _ _, ⟨a, f, e, h1, _⟩ => ⟨a, _, e, h1, rfl⟩
 | _, .al _ _, ⟨a, e, h1⟩ => ⟨a, _, e, h1, rfl⟩
 | _, .fl _ _, ⟨a, e, h1⟩ => ⟨a, _, e, h1, rfl⟩
 | _, .mv _ _ _, ⟨a, f, e, h1, _⟩ => ⟨a, _, e, h1, rfl⟩
 | _, .yr, ⟨a, e, h1⟩ => ⟨a, _, e, h1, rfl⟩
theorem kd_br {d : Dd} : (V.str (kdD d) = V.str "bring") ↔ (isP d = false /\ d ≠ .yr) := by
 cases d <;> simp [kdD, isP] <;> decide +kernel
theorem kd_yr {d : Dd} : (V.str (kdD d) = V.str "year") ↔ d = .yr := by
 cases d <;> simp [kdD] <;> decide +kernel
structure Hs (H : Hp) (ps : List Plc) (t : Str -> Rat) (pt pr : Addr) (kvt kvr : List (Key × V)) : Prop where
 dt : H pt = some (.dK kvt)
 rt : RowAt H kvt (all (allN ps) t)
 dr : H pr = some (.dK kvr)
 rr : RowAt H kvr (rmF ps)
theorem Hs.same {H H' : Hp} {ps : List Plc} {t : Str -> Rat} {pt pr : Addr} {kvt kvr : List (Key × V)} (h : Hs H ps t pt pr kvt kvr) (s : Same H H') : Hs H' ps t pt pr kvt kvr := ⟨s _ _ h.dt, h.rt.same fun _ _ f => f.same s, s _ _ h.dr, h.rr.same fun _ _ f => f.same s⟩
theorem Hs.tot {H : Hp} {ps : List Plc} {t : Str -> Rat} {pt pr : Addr} {kvt kvr : List (Key × V)} (h : Hs H ps t pt pr kvt kvr) {z : Str} (hz : z ∈ allN ps) : ∃ v, DGet H pt (.str z) (some v) /\ FrV H v (t z) := by
 obtain ⟨v, e, f⟩ := h.rt.get hz
 refine ⟨v, ?_, f⟩
 have g := DGet.k (k := .inr z) h.dt
 rw [e] at g; exact g
theorem Hs.room {H : Hp} {ps : List Plc} {t : Str -> Rat} {pt pr : Addr} {kvt kvr : List (Key × V)} (h : Hs H ps t pt pr kvt kvr) {z : Str} {m : Rat} (hz : rmF ps z = some m) : ∃ v, DGet H pr (.str z) (some v) /\ FrV H v m := by
 obtain ⟨v, e, f⟩ := h.rr.has z m hz
 refine ⟨v, ?_, f⟩
 have g := DGet.k (k := .inr z) h.dr
 rw [e] at g; exact g
noncomputable def adS (t : Str -> Rat) : Stp -> (Str -> Rat)
 | .br _ _ x r => adT x r t
 | .ps x y q => mvT x y (t x * q) t
noncomputable def FitS (L : List Str) (t : Str -> Rat) : Stp -> Prop
 | .br _ _ x r => x ∈ L /\ Bd 2000 (t x) /\ Bd 2000 r
 | .ps x y q => x ∈ L /\ y ∈ L /\ x ≠ y /\ Bd 2000 (t x) /\ Bd 2000 (t y) /\ Bd 2000 q /\ Bd 2000 (t x * q)
noncomputable def spAddStep : Sp := fun vs H Q _ => ∃ (pt : Addr) (w : V) (s : Stp) (kv : List (Key × V)) (L : List Str) (t : Str -> Rat), vs = [.ref pt, w] /\ H pt = some (.dK kv) /\ RowAt H kv (all L t) /\ L.length <= 8 /\ StV H w s /\ FitS L t s /\
 ∀ H' kv', (∀ c o, H c = some o -> c ≠ pt -> H' c = some o) -> H' pt = some (.dK kv') -> RowAt H' kv' (all L (adS t s)) -> Q .non H'
noncomputable def spMixed2 : Sp := fun vs H Q _ => ∃ c j : Int, vs = [.int c, .int j] /\ (0 <= j /\ j <= 100) /\ ∀ m : Int, 0 <= m -> Q (.int m) H
noncomputable def spLow : Sp := fun vs H Q _ => ∃ t b : Int, vs = [.int t, .int b] /\ 0 < b /\ b.natAbs < 2 ^ 9000 /\ ∀ v H', Same H H' -> FrV H' v (Rat.divInt t b) -> Q v H'
noncomputable def spNm (n : Nat) : Sp := fun vs H Q _ => ∃ (c : Int) (m : Nat), vs = [.int c, .int (m : Nat)] /\ m <= n /\ ∀ a H' (L : List Str), H a = none -> Same H H' -> H' a = some (.lst (L.map V.str)) -> L.length = m -> L.Nodup -> (∀ z ∈ L, Lay z) -> Q (.ref a) H'
theorem lt97 : ∀ j ∈ List.range 26, LT.cps.toList[j]? = some (97 + j) := by decide +kernel
theorem lt_at {i : Int} (h : 0 <= i /\ i < 26) : atI LT.cps.toList i = some (97 + i.toNat) := by
 obtain ⟨j, rfl⟩ := Int.eq_ofNat_of_zero_le h.1
 exact atI_nat (lt97 j (List.mem_range.mpr (by lia)))
noncomputable def nmc (bs : List Int) (at' : Int) (k j : Nat) : Nat := 97 + ((bs.getD j 0 + 3 * (k : Int) * (if decide (V.int (j : Nat) = V.int at') = true then 1 else 0)).fmod 26).toNat
noncomputable def nmw (bs : List Int) (at' : Int) (k j : Nat) : Str := ⟨((List.range j).map (nmc bs at' k)).toArray⟩
theorem nmw_succ (bs : List Int) (at' : Int) (k j : Nat) : nmw bs at' k j ++ one1 (nmc bs at' k j) = nmw bs at' k (j + 1) := by
 unfold nmw
 rw [List.range_succ, List.map_append]
 show (⟨((List.range j).map (nmc bs at' k)).toArray ++ #[nmc bs at' k j]⟩ : Str) = _
 simp
theorem nmw_len (bs : List Int) (at' : Int) (k j : Nat) : (nmw bs at' k j).length = j := by
 show (((List.range j).map (nmc bs at' k)).toArray).size = j
 simp
theorem nmw_lay (bs : List Int) (at' : Int) (k j : Nat) : Lay (nmw bs at' k j) := by
 show (PyData.str _).canLay0 = true
 simp only [PyData.canLay0, PyData.strOk, nmw]
 simp only [Array.all_eq_true, decide_eq_true_eq]
 intro i hi
 simp
 unfold nmc
 have := fmod_lt (c := bs.getD i 0 + 3 * (k : Int) * (if decide (V.int (i : Nat) = V.int at') = true then 1 else 0)) (m := 26) (by decide)
 lia
theorem nmw_inj {bs : List Int} {a n : Nat} (ha : a < n) {k k' : Nat} (hk : k < 8) (hk' : k' < 8) (e : nmw bs (a : Nat) k n = nmw bs (a : Nat) k' n) : k = k' := by
 have e1 : (List.range n).map (nmc bs (a : Nat) k) = (List.range n).map (nmc bs (a : Nat) k') := by
  have := congrArg (fun z : Str => z.cps.toList) e
  simpa [nmw] using this
 have e2 : nmc bs (a : Nat) k a = nmc bs (a : Nat) k' a := by
  have h1 := congrArg (fun l : List Nat => l[a]?) e1
  simpa [ha] using h1
 unfold nmc at e2
 rw [decide_eq_true rfl, if_pos rfl, Int.mul_one, Int.mul_one] at e2
 have q1 := fmod_lt (c := bs.getD a 0 + 3 * (k : Int)) (m := 26) (by decide)
 have q2 := fmod_lt (c := bs.getD a 0 + 3 * (k' : Int)) (m := 26) (by decide)
 rw [Int.fmod_eq_emod_of_nonneg _ (by decide)] at q1 q2
 rw [Int.fmod_eq_emod_of_nonneg _ (by decide), Int.fmod_eq_emod_of_nonneg _ (by decide)] at e2
 lia
theorem nmw_nodup {bs : List Int} {a n : Nat} (ha : a < n) {m : Nat} (hm : m <= 8) : ((List.range m).map fun k => nmw bs (a : Nat) k n).Nodup := by
 unfold List.Nodup
 rw [List.pairwise_map]
 refine List.Pairwise.imp_of_mem (fun {x y} hx hy hxy e => hxy ?_) (List.nodup_range (n := m))
 exact nmw_inj ha (by have := List.mem_range.mp hx; lia) (by have := List.mem_range.mp hy; lia) e
theorem getD_map_at {bs : List Int} {j : Nat} (hj : j < bs.length) : atI (bs.map V.int) (0 + (j : Int)) = some (V.int (bs.getD j 0)) := by
 rw [Int.zero_add]
 refine atI_nat ?_
 rw [List.getElem?_map, List.getElem?_eq_getElem hj, List.getD_eq_getElem?_getD, List.getElem?_eq_getElem hj]
 rfl
noncomputable def spHouse : Sp := fun vs H Q _ => ∃ c : Int, vs = [.int c] /\ ∀ p H' xs ps, H p = none -> Same H H' -> H' p = some (.lst xs) -> Paired (PlV H') xs ps -> HouseOk ps -> RoomsOk ps -> 2 <= (ckN ps).length -> Q (.ref p) H'
theorem house_mk {L : List Str} (nd : L.Nodup) (lay : ∀ z ∈ L, Lay z) {cs sk : List Plc} {m j : Nat} (hm : 2 <= m) (h8 : m + j <= 8) (hL : m + j <= L.length) (ec : allN cs = L.take m) (es : allN sk = (L.drop m).take j) (ic : ∀ p ∈ cs, isC p = true) (is : ∀ p ∈ sk, isC p = false) (ro : RoomsOk cs) :
  (HouseOk (cs ++ sk) /\ RoomsOk (cs ++ sk) /\ 2 <= (ckN (cs ++ sk)).length) /\ (HouseOk (sk ++ cs) /\ RoomsOk (sk ++ cs) /\ 2 <= (ckN (sk ++ cs)).length) := by
 have e1 : allN (cs ++ sk) = L.take (m + j) := by
  unfold allN at ec es ⊢
  rw [List.map_append, ec, es, List.take_add]
 have pm : (allN (sk ++ cs)).Perm (allN (cs ++ sk)) := by
  unfold allN
  rw [List.map_append, List.map_append]
  exact List.perm_append_comm
 have n1 : (allN (cs ++ sk)).Nodup := by rw [e1]; exact nd.sublist (List.take_sublist _ _)
 have l1 : ∀ z ∈ allN (cs ++ sk), Lay z := fun z hz => by rw [e1] at hz; exact lay z (List.mem_of_mem_take hz)
 have lc : cs.length = m := by
  have := congrArg List.length ec
  unfold allN at this
  rw [List.length_map, List.length_take] at this
  lia
 have ls : sk.length = j := by
  have := congrArg List.length es
  unfold allN at this
  rw [List.length_map, List.length_take, List.length_drop] at this
  lia
 have ro1 : ∀ {z : Str} {r : Rat}, Plc.ck z r ∈ cs \/ Plc.ck z r ∈ sk -> Szd 0 r := fun {z r} h => by
  rcases h with h | h
  ·exact ro z r h
  ·have := is _ h
   cases this
 have fc : cs.filter isC = cs := List.filter_eq_self.mpr ic
 have fs : sk.filter isC = [] := List.filter_eq_nil_iff.mpr fun p hp => by rw [is p hp]; decide
 refine ⟨⟨⟨n1, l1, by rw [List.length_append]; lia⟩, fun z r h => ro1 (List.mem_append.mp h), ?_⟩, ⟨⟨pm.nodup_iff.mpr n1, fun z hz => l1 z (pm.mem_iff.mp hz), by rw [List.length_append]; lia⟩, fun z r h => ro1 (List.mem_append.mp h).symm, ?_⟩⟩
 ·unfold ckN
  rw [List.filter_append, fc, fs, List.append_nil, List.length_map, lc]; exact hm
 ·unfold ckN
  rw [List.filter_append, fc, fs, List.nil_append, List.length_map, lc]; exact hm
theorem pow12 : (10 : Int) ^ (12 : Int).toNat = 1000000000000 := by decide
noncomputable def spAmount : Sp := fun vs H Q _ => ∃ c : Int, vs = [.int c] /\ ∀ v H' r, Same H H' -> FrV H' v r -> Szd 0 r -> Q v H'
noncomputable def spMove : Sp := fun vs H Q _ => ∃ (x y : Str) (c : Int) (v : V) (u : Rat), vs = [.str x, .str y, .int c, v] /\ FrV H v u /\ Bd 400 u /\ ∀ w H' r, Same H H' -> DdV H' w (.mv x y r) -> Szd 0 r -> Q w H'
noncomputable def spDeed (K : PySem.W.Frag) : Sp := fun vs H Q _ => ∃ (c1 c2 : Int) (ah pt : Addr) (xs : List V) (ps : List Plc) (kvt : List (Key × V)) (t : Str -> Rat) (i : Nat), vs = [.int c1, .int c2, .ref ah, .ref pt] /\ SqL K H ah xs /\ Paired (PlV H) xs ps /\ HouseOk ps /\ 2 <= (ckN ps).length /\ H pt = some (.dK kvt) /\ RowAt H kvt (all (allN ps) t) /\ InT ps t i /\ i <= 88 /\ ∀ w H' d, Same H H' -> DdV H' w d -> OkD ps d -> Q w H'
theorem idx_of {L : List Str} (nd : L.Nodup) {x : Str} (hx : x ∈ L) : ∃ j : Nat, L[j]? = some x /\ ∀ m : Nat, m < j -> L[m]? ≠ some x := by
 obtain ⟨j, hj, e⟩ := List.getElem_of_mem hx
 refine ⟨j, by rw [List.getElem?_eq_getElem hj, e], fun m hm h => ?_⟩
 have hml : m < L.length := (List.getElem?_eq_some_iff.mp h).1
 have em := (List.getElem?_eq_some_iff.mp h).2
 exact List.pairwise_iff_getElem.mp nd m j hml hj hm (em.trans e.symm)
theorem next_of {L : List Str} (nd : L.Nodup) (h2 : 2 <= L.length) {x : Str} {j : Nat} (hj : L[j]? = some x) : ∃ y, y ∈ L /\ x ≠ y /\ atI (L.map V.str) ((((j : Nat) : Int) + 1).fmod (((L.map V.str).length : Nat) : Int)) = some (.str y) := by
 have hjl : j < L.length := (List.getElem?_eq_some_iff.mp hj).1
 have ej := (List.getElem?_eq_some_iff.mp hj).2
 have hlt : (j + 1) % L.length < L.length := Nat.mod_lt _ (by lia)
 refine ⟨L[(j + 1) % L.length], List.getElem_mem hlt, fun e => ?_, ?_⟩
 ·have hne : (j + 1) % L.length ≠ j := by
   by_cases h : j + 1 = L.length
   ·rw [h, Nat.mod_self]; lia
   ·rw [Nat.mod_eq_of_lt (by lia)]; lia
  rw [<- ej] at e
  rcases Nat.lt_or_ge ((j + 1) % L.length) j with h | h
  ·exact List.pairwise_iff_getElem.mp nd _ _ hlt hjl h e.symm
  ·exact List.pairwise_iff_getElem.mp nd _ _ hjl hlt (by lia) e
 ·have e1 : (((j : Nat) : Int) + 1).fmod (((L.map V.str).length : Nat) : Int) = (((j + 1) % L.length : Nat) : Int) := by
   rw [List.length_map, Int.fmod_eq_emod_of_nonneg _ (by lia)]
   exact (Int.natCast_emod (j + 1) L.length).symm
  rw [e1]
  refine atI_nat ?_
  rw [List.getElem?_map, List.getElem?_eq_getElem hlt]; rfl
theorem quart {n : Int} (h0 : 0 <= n) (h1 : n < 5) : 0 <= Rat.divInt n 4 /\ Rat.divInt n 4 <= 1 /\ (Rat.divInt n 4).den ∣ 4 := by
 have : n = 0 \/ n = 1 \/ n = 2 \/ n = 3 \/ n = 4 := by lia
 rcases this with rfl | rfl | rfl | rfl | rfl <;> decide +kernel
theorem gs_bd {ps : List Plc} {t : Str -> Rat} {i : Nat} (h : InT ps t i) (hr : RoomsOk ps) (hi : i <= 88) : ∀ {d : Dd}, OkD ps d -> Bd 400 (gsD ps t d)
 | .br _ _ r, ok => ok.2.2.bd (by lia)
 | .pt x y q, ok => ((h.sz x (ck_sub ok.1)).part ok.2.2.2.1 ok.2.2.2.2.1 ok.2.2.2.2.2).bd (by lia)
 | .al x y, ok => (h.sz x (ck_sub ok.1)).bd (by lia)
 | .fl x y, ok => (h.rmS hr ok.2.1).1.bd (by lia)
 | .mv x y r, ok => ok.2.2.2.bd (by lia)
 | .yr, _ => (Szd.zero 0).bd (by lia)
theorem go_of {ps : List Plc} {t : Str -> Rat} : ∀ {d : Dd}, isP d = true -> gsD ps t d <= t (frD d) -> (∀ m, rmF ps (toD d) = some m -> t (toD d) + gsD ps t d <= m) -> GoD ps t d
 | .pt x y q, _, le, rm => ⟨le, rm⟩
 | .al x y, _, _, rm => rm
 | .fl x y, _, le, _ => le
 | .mv x y r, _, le, rm => ⟨le, rm⟩
theorem to_mem {ps : List Plc} : ∀ {d : Dd}, OkD ps d -> d ≠ .yr -> toD d ∈ allN ps /\ frD d ∈ allN ps
 | .br _ _ _, ok, _ => ⟨ck_sub ok.1, ck_sub ok.1⟩
 | .pt _ _ _, ok, _ => ⟨ok.2.1, ck_sub ok.1⟩
 | .al _ _, ok, _ => ⟨ok.2.1, ck_sub ok.1⟩
 | .fl _ _, ok, _ => ⟨ck_sub ok.2.1, ck_sub ok.1⟩
 | .mv _ _ _, ok, _ => ⟨ok.2.1, ck_sub ok.1⟩
 | .yr, _, z => absurd rfl z
noncomputable def spPut : Sp := fun vs H Q _ => ∃ (v : V) (d : Dd) (f : V) (pt : Addr) (kv : List (Key × V)) (ps : List Plc) (t : Str -> Rat) (i : Nat), vs = [v, f, .ref pt] /\ DdV H v d /\ OkD ps d /\ GoD ps t d /\ InT ps t i /\ i <= 88 /\ RoomsOk ps /\ HouseOk ps /\ FrV H f (gsD ps t d) /\ H pt = some (.dK kv) /\ RowAt H kv (all (allN ps) t) /\
 ∀ H' kv', (∀ c o, H c = some o -> c ≠ pt -> H' c = some o) -> H' pt = some (.dK kv') -> RowAt H' kv' (all (allN ps) (ptT ps t d)) -> Q .non H'
noncomputable def dPl : Plc -> PyData
 | .ck z r => .tuple [.str "cask", .str z, pq r.num r.den]
 | .sk z => .tuple [.str "sink", .str z]
theorem PlV.rep {K : PySem.W.Frag} {H : Hp} : ∀ {v : V} {p : Plc}, PlV H v p -> Lay (nmP p) -> RepD K H (dPl p) v
 | _, .ck z r, ⟨a, f, e, h1, h3⟩, ok => by
  subst e
  exact repT (SqT.of h1) (repsC (repS (by decide +kernel)) (repsC (repS ok) (repsC h3.rep reps0)))
 | _, .sk z, ⟨a, e, h1⟩, ok => by
  subst e
  exact repT (SqT.of h1) (repsC (repS (by decide +kernel)) (repsC (repS ok) reps0))
theorem rep_house {K : PySem.W.Frag} {H : Hp} : ∀ {xs : List V} {ps : List Plc}, Paired (PlV H) xs ps -> (∀ p ∈ ps, Lay (nmP p)) -> RepDs K H (ps.map dPl) xs
 | _, _, .nil, _ => reps0
 | _, _, .cons r t, h => repsC (r.rep (h _ List.mem_cons_self)) (rep_house t fun s hs => h s (List.mem_cons_of_mem _ hs))
noncomputable def dDd : Dd -> PyData
 | .br z x r => .tuple [.str "bring", .str z, .str x, pq r.num r.den]
 | .pt x y r => .tuple [.str "part", .str x, .str y, pq r.num r.den]
 | .al x y => .tuple [.str "all", .str x, .str y]
 | .fl x y => .tuple [.str "fill", .str x, .str y]
 | .mv x y r => .tuple [.str "move", .str x, .str y, pq r.num r.den]
 | .yr => .tuple [.str "year"]
noncomputable def LayD : Dd -> Prop
 | .br z x _ => Lay z /\ Lay x
 | .pt x y _ => Lay x /\ Lay y
 | .al x y => Lay x /\ Lay y
 | .fl x y => Lay x /\ Lay y
 | .mv x y _ => Lay x /\ Lay y
 | .yr => True
theorem layD {ps : List Plc} (h : HouseOk ps) : ∀ {d : Dd}, OkD ps d -> LayD d
 | .br _ _ _, ok => ⟨ok.2.1, h.lay _ (ck_sub ok.1)⟩
 | .pt _ _ _, ok => ⟨h.lay _ (ck_sub ok.1), h.lay _ ok.2.1⟩
 | .al _ _, ok => ⟨h.lay _ (ck_sub ok.1), h.lay _ ok.2.1⟩
 | .fl _ _, ok => ⟨h.lay _ (ck_sub ok.1), h.lay _ (ck_sub ok.2.1)⟩
 | .mv _ _ _, ok => ⟨h.lay _ (ck_sub ok.1), h.lay _ ok.2.1⟩
 | .yr, _ => trivial
theorem DdV.rep {K : PySem.W.Frag} {H : Hp} : ∀ {v : V} {d : Dd}, DdV H v d -> LayD d -> RepD K H (dDd d) v
 | _, .br z x r, ⟨a, f, e, h1, h3⟩, ok => by
  subst e
  exact repT (SqT.of h1) (repsC (repS (by decide +kernel)) (repsC (repS ok.1) (repsC (repS ok.2) (repsC h3.rep reps0))))
 | _, .pt x y r, ⟨a, f, e, h1, h3⟩, ok => by
  subst e
  exact repT (SqT.of h1) (repsC (repS (by decide +kernel)) (repsC (repS ok.1) (repsC (repS ok.2) (repsC h3.rep reps0))))
 | _, .al x y, ⟨a, e, h1⟩, ok => by
  subst e
  exact repT (SqT.of h1) (repsC (repS (by decide +kernel)) (repsC (repS ok.1) (repsC (repS ok.2) reps0)))
 | _, .fl x y, ⟨a, e, h1⟩, ok => by
  subst e
  exact repT (SqT.of h1) (repsC (repS (by decide +kernel)) (repsC (repS ok.1) (repsC (repS ok.2) reps0)))
 | _, .mv x y r, ⟨a, f, e, h1, h3⟩, ok => by
  subst e
  exact repT (SqT.of h1) (repsC (repS (by decide +kernel)) (repsC (repS ok.1) (repsC (repS ok.2) (repsC h3.rep reps0))))
 | _, .yr, ⟨a, e, h1⟩, ok => by
  subst e
  exact repT (SqT.of h1) (repsC (repS (by decide +kernel)) reps0)
theorem rep_deeds {K : PySem.W.Frag} {H : Hp} : ∀ {xs : List V} {ds : List Dd}, Paired (DdV H) xs ds -> (∀ d ∈ ds, LayD d) -> RepDs K H (ds.map dDd) xs
 | _, _, .nil, _ => reps0
 | _, _, .cons r t, h => repsC (r.rep (h _ List.mem_cons_self)) (rep_deeds t fun s hs => h s (List.mem_cons_of_mem _ hs))
theorem dDd_depth (d : Dd) : (dDd d).depth <= 10 := by cases d <;> simp [dDd, pq, PyData.depth, PyData.depthAll]
theorem dPl_depth (p : Plc) : (dPl p).depth <= 10 := by cases p <;> simp [dPl, pq, PyData.depth, PyData.depthAll]
theorem lst_depth {α : Type} {f : α -> PyData} (h : ∀ a, (f a).depth <= 10) (l : List α) : (PyData.list (l.map f)).depth <= 40 := by
 have h2 := depth_map h l
 simp only [PyData.depth]
 lia
noncomputable def LkD (ps : List Plc) (t : Str -> Rat) (d : Dd) : Prop := isP d = true /\ t (frD d) < gsD ps t d
noncomputable def FuD (ps : List Plc) (t : Str -> Rat) (d : Dd) : Prop := d ≠ .yr /\ (isP d = true -> gsD ps t d <= t (frD d)) /\ ∃ m, rmF ps (toD d) = some m /\ m < t (toD d) + gsD ps t d
noncomputable def spJudgedR : Sp := fun vs H Q _ => ∃ (v : V) (d : Dd) (ps : List Plc) (t : Str -> Rat) (pt pr : Addr) (kvt kvr : List (Key × V)) (i : Nat), vs = [v, .ref pt, .ref pr] /\ Hs H ps t pt pr kvt kvr /\ DdV H v d /\ OkD ps d /\ InT ps t i /\ i <= 88 /\ RoomsOk ps /\
 ∀ a f w H', Same H H' -> H' a = some (.tup [.str w, f]) -> FrV H' f (gsD ps t d) -> ((w = "goes" /\ GoD ps t d) \/ (w = "lacking" /\ LkD ps t d) \/ (w = "full" /\ FuD ps t d)) -> Q (.ref a) H'
noncomputable def refE (C : Addr) (H : Hp) (n : Int) (E : XK) : Prop := ∀ dx H', Same H H' -> H' dx = some (.xd [("at", .int n)]) -> E (.ref C) (some dx) H'
theorem refE.same {C : Addr} {H H' : Hp} {n : Int} {E : XK} (h : refE C H n E) (s : Same H H') : refE C H' n E := fun dx H2 s2 e => h dx H2 (s.trans s2) e
theorem refE.now {C : Addr} {H : Hp} {n : Int} {E : XK} (h : refE C H n E) {dx : Addr} (e : H dx = none) : E (.ref C) (some dx) (upd H dx (.xd [("at", .int n)])) := h dx _ (Same.upd e) upd_same
structure PsL (ps : List Plc) (t : Str -> Rat) (i : Nat) (d : Dd) : Prop where
 x : frD d ∈ ckN ps
 y : toD d ∈ allN ps
 ne : frD d ≠ toD d
 sh : t (frD d) * shD ps t d = gsD ps t d
 b : Bd 400 (shD ps t d)
 st : ∀ n, stD ps t n d = [.ps (frD d) (toD d) (shD ps t d)]
theorem PsL.of {ps : List Plc} {t : Str -> Rat} {i : Nat} (h : InT ps t i) (hr : RoomsOk ps) (hi : i <= 88) : ∀ {d : Dd}, isP d = true -> OkD ps d -> gsD ps t d <= t (frD d) -> PsL ps t i d
 | .pt x y q, _, ok, le => { x := ok.1, y := ok.2.1, ne := ok.2.2.1, sh := rfl, b := bd01 ok.2.2.2.1 ok.2.2.2.2.1 ok.2.2.2.2.2, st := fun _ => rfl }
 | .al x y, _, ok, le => { x := ok.1, y := ok.2.1, ne := ok.2.2, sh := Rat.mul_one _, b := (show Bd 400 (1 : Rat) from ⟨by decide, by decide⟩), st := fun _ => rfl }
 | .fl x y, _, ok, le => by
  obtain ⟨h1, m, hm, hs, hle⟩ := h.rmS hr ok.2.1
  have hx := h.sz x (ck_sub ok.1)
  refine { x := ok.1, y := ck_sub ok.2.1, ne := ok.2.2, sh := share_back h1.nn le, b := ?_, st := fun _ => rfl }
  show Bd 400 (((rmF ps y).getD 0 - t y) / t x)
  by_cases e : t x = 0
  ·rw [e, Rat.div_def]
   have : (0 : Rat)⁻¹ = 0 := Rat.inv_zero
   rw [this, Rat.mul_zero]
   exact ⟨by decide, by decide⟩
  ·exact h1.over hx e (by lia)
 | .mv x y r, _, ok, le => by
  have hx := h.sz x (ck_sub ok.1)
  have h1 : Szd i r := ok.2.2.2.up (Nat.zero_le _)
  refine { x := ok.1, y := ok.2.1, ne := ok.2.2.1, sh := share_back h1.nn le, b := ?_, st := fun _ => rfl }
  show Bd 400 (r / t x)
  by_cases e : t x = 0
  ·rw [e, Rat.div_def]
   have : (0 : Rat)⁻¹ = 0 := Rat.inv_zero
   rw [this, Rat.mul_zero]
   exact ⟨by decide, by decide⟩
  ·exact h1.over hx e (by lia)
theorem fr_ck {ps : List Plc} : ∀ {d : Dd}, isP d = true -> OkD ps d -> frD d ∈ ckN ps
 | .pt _ _ _, _, ok => ok.1
 | .al _ _, _, ok => ok.1
 | .fl _ _, _, ok => ok.1
 | .mv _ _ _, _, ok => ok.1
theorem pt_le {ps : List Plc} {t : Str -> Rat} {i : Nat} (h : InT ps t i) {x y : Str} {q : Rat} (ok : OkD ps (.pt x y q)) : t x * q <= t x := by
 have h0 := (h.sz x (ck_sub ok.1)).nn
 have h1 := Rat.mul_le_mul_of_nonneg_left ok.2.2.2.2.1 h0
 rw [Rat.mul_one] at h1
 exact h1
noncomputable def spCheckR (C : Addr) : Sp := fun vs H Q E => ∃ (z : Str) (v : V) (n : Int) (ps : List Plc) (t : Str -> Rat) (pt pr : Addr) (kvt kvr : List (Key × V)) (g : Rat), vs = [.str z, v, .int n, .ref pt, .ref pr] /\ 0 <= n /\ n < 64 /\ Hs H ps t pt pr kvt kvr /\ z ∈ allN ps /\ FrV H v g /\ Bd 2000 g /\ Bd 2000 (t z) /\ (∀ m, rmF ps z = some m -> Bd 2000 m) /\
 (∀ H', Same H H' -> (∀ m, rmF ps z = some m -> t z + g <= m) -> Q .non H') /\ (∀ m, rmF ps z = some m -> m < t z + g -> refE C H n E)
noncomputable def spShareR (C : Addr) : Sp := fun vs H Q E => ∃ (v : V) (d : Dd) (n : Int) (ps : List Plc) (t : Str -> Rat) (pt pr : Addr) (kvt kvr : List (Key × V)) (i : Nat), vs = [v, .int n, .ref pt, .ref pr] /\ 0 <= n /\ n < 64 /\ Hs H ps t pt pr kvt kvr /\ DdV H v d /\ isP d = true /\ OkD ps d /\ InT ps t i /\ i <= 88 /\ RoomsOk ps /\
 (∀ w H', Same H H' -> FrV H' w (shD ps t d) -> gsD ps t d <= t (frD d) -> Q w H') /\ (t (frD d) < gsD ps t d -> refE C H n E)
noncomputable def spStepR (Cf Cl : Addr) : Sp := fun vs H Q E => ∃ (v : V) (d : Dd) (n yr : Int) (ps : List Plc) (t : Str -> Rat) (pt pr : Addr) (kvt kvr : List (Key × V)) (i : Nat), vs = [v, .int n, .int yr, .ref pt, .ref pr] /\ 0 <= n /\ n < 64 /\ Hs H ps t pt pr kvt kvr /\ DdV H v d /\ d ≠ .yr /\ OkD ps d /\ InT ps t i /\ i <= 88 /\ RoomsOk ps /\
 (∀ w H' s, Same H H' -> StV H' w s -> stD ps t yr d = [s] -> GoD ps t d -> Q w H') /\ (LkD ps t d -> refE Cl H n E) /\ (FuD ps t d -> refE Cf H n E)
theorem Go_lk {ps : List Plc} {t : Str -> Rat} {d : Dd} (h : LkD ps t d) : ¬ GoD ps t d := by
 obtain ⟨hp, lt⟩ := h
 intro go
 cases d with
 | pt x y q => exact absurd go.1 (by have : t x < t x * q := lt; grind)
 | al x y => have : t x < t x := lt; grind
 | fl x y => have h1 : (rmF ps y).getD 0 - t y <= t x := go; have h2 : t x < (rmF ps y).getD 0 - t y := lt; grind
 | mv x y r => have h1 := go.1; have h2 : t x < r := lt; grind
 | _ => cases hp
theorem Go_fu {ps : List Plc} {t : Str -> Rat} {d : Dd} (h : FuD ps t d) : ¬ GoD ps t d := by
 obtain ⟨hy, le, m, e, lt⟩ := h
 intro go
 cases d with
 | pt x y q => have h1 := go.2 m e; have h2 : m < t y + t x * q := lt; grind
 | al x y => have h1 := go m e; have h2 : m < t y + t x := lt; grind
 | fl x y =>
  have e : rmF ps y = some m := e
  have h2 : m < t y + ((rmF ps y).getD 0 - t y) := lt
  rw [e] at h2
  have h3 : m < t y + (m - t y) := h2
  grind
 | mv x y r => have h1 := go.2 m e; have h2 : m < t y + r := lt; grind
 | br z x r => have h1 := go m e; have h2 : m < t x + r := lt; grind
 | yr => exact hy rfl
noncomputable def spStepsR (K : PySem.W.Frag) (Cf Cl : Addr) : Sp := fun vs H Q E => ∃ (ah pt : Addr) (n : Int) (ad : Addr) (xs : List V) (ps : List Plc) (kvt : List (Key × V)) (ys : List V) (ds : List Dd), vs = [.ref ah, .ref pt, .int n, .ref ad] /\ SqL K H ah xs /\ Paired (PlV H) xs ps /\ HouseOk ps /\ RoomsOk ps /\ H pt = some (.dK kvt) /\ RowAt H kvt (all (allN ps) fun _ => 0) /\ SqL K H ad ys /\ Paired (DdV H) (ys.take ds.length) ds /\ Goes ps n ds /\ ds.length <= 42 /\
 ((ys.length = ds.length /\ ∀ a H', Same H H' -> Q (.ref a) H') \/ ∃ v d, ys[ds.length]? = some v /\ DdV H v d /\ OkD ps d /\ ((LkD ps (run ps n ds).t d /\ refE Cl H (ds.length : Nat) E) \/ (FuD ps (run ps n ds).t d /\ refE Cf H (ds.length : Nat) E)))
noncomputable def spRef (Cf Cl : Addr) : Sp := fun vs H Q _ => ∃ (a C dx : Addr) (n : Int) (w : Str), vs = [.ref a] /\ H a = some (excD a (.ref C) (some dx)) /\ H dx = some (.xd [("at", .int n)]) /\ ((C = Cf /\ w = "full") \/ (C = Cl /\ w = "lacking")) /\ ∀ p H', Same H H' -> H' p = some (.tup [.str w, .int n]) -> Q (.ref p) H'
theorem rngN_lt {lo hi : Int} {i : Nat} (h : i < rngN lo hi 2) : lo + (i : Int) * 2 < hi := by
 unfold rngN at h
 split at h <;> lia
noncomputable def rng85 (n : Nat) : Nat := rngN 2 ((if (85 : Int) < ((n : Nat) : Int) then (85 : Int) else ((n : Nat) : Int)) - 1) 2
theorem two_at {ns : List Int} {i : Nat} (h : i < rng85 (ns.map V.int).length) : i <= 41 /\ (∃ d0, atI (ns.map V.int) (2 + (i : Int) * 2) = some (V.int d0)) /\ ∃ d1, atI (ns.map V.int) (2 + (i : Int) * 2 + 1) = some (V.int d1) := by
 have h' := rngN_lt h
 have h2 : 2 + (i : Int) * 2 + 1 < (ns.map V.int).length /\ i <= 41 := by split at h' <;> lia
 exact ⟨h2.2, map_at (by lia) (by lia), map_at (by lia) (by lia)⟩
theorem rng42 (n : Nat) : rng85 n <= 42 := by
 have hmin : (if (85 : Int) < ((n : Nat) : Int) then (85 : Int) else ((n : Nat) : Int)) <= 85 := by split <;> lia
 unfold rng85 rngN
 generalize (if (85 : Int) < ((n : Nat) : Int) then (85 : Int) else ((n : Nat) : Int)) = mm at hmin ⊢
 split <;> lia
theorem le88 {d i : Nat} (h : d <= i) (hi : i <= 41) : 2 * d <= 88 := by lia
theorem le1000 {y d i : Nat} (e : y <= d) (h : d <= i) (hi : i <= 41) : y <= 1000 := by lia
theorem al_flat {K : PySem.W.Frag} {H : Hp} {x y : V} {d : PyData} (h1 : RepD K H d x) (h2 : RepD K H d y) (hd : d.depth <= 40) : ∀ n : Nat, AlN K H n x y
 | 0 => Or.inr ⟨d, h1, h2, hd⟩
 | _ + 1 => Or.inl (Or.inr ⟨d, h1, h2, hd⟩)
theorem al_row {K : PySem.W.Frag} {H : Hp} {a b : Addr} {ka kb : List (Key × V)} {f : Str -> Option Rat} (ha : H a = some (.dK ka)) (hb : H b = some (.dK kb)) (ra : RowAt H ka f) (rb : RowAt H kb f) (n : Nat) : AlN K H (n + 1) (.ref a) (.ref b) := by
 refine Or.inr ⟨a, b, ka, kb, rfl, rfl, ha, hb, ra.len_eq rb, fun kv hkv => ?_⟩
 obtain ⟨j, hj, ej⟩ := List.getElem_of_mem hkv
 obtain ⟨z, r, hz, hgz, fr, _, _⟩ := ra.at (i := j) (p := kv) (by rw [List.getElem?_eq_getElem hj, ej])
 obtain ⟨w, hw, fw'⟩ := rb.has z r hgz
 exact ⟨w, by rw [hz]; exact hw, al_flat fr.rep fw'.rep (by simp [pq, PyData.depth, PyData.depthAll]) n⟩
noncomputable def spTold : Sp := fun vs H Q _ => ∃ (ah : Addr) (n : Int) (ad : Addr) (xs : List V) (ps : List Plc) (ys : List V) (ds : List Dd), vs = [.ref ah, .int n, .ref ad] /\ H ah = some (.lst xs) /\ Paired (PlV H) xs ps /\ HouseOk ps /\ RoomsOk ps /\ H ad = some (.lst ys) /\ Paired (DdV H) (ys.take ds.length) ds /\ Goes ps n ds /\ ds.length <= 42 /\
 ((ys.length = ds.length /\ ∀ p H', Same H H' -> H' p = some (.tup [.str "goes", .int (-1)]) -> Q (.ref p) H') \/ ∃ (v : V) (d : Dd) (w : Str), ys[ds.length]? = some v /\ DdV H v d /\ OkD ps d /\ ((LkD ps (run ps n ds).t d /\ w = "lacking") \/ (FuD ps (run ps n ds).t d /\ w = "full")) /\ ∀ p H', Same H H' -> H' p = some (.tup [.str w, .int (ds.length : Nat)]) -> Q (.ref p) H')
structure Dm (H : Hp) (ps : List Plc) (n : Int) (xs ys : List V) (ds : List Dd) (kv : List (Key × V)) (ph pt pd : Addr) : Prop where
 X : H ph = some (.lst xs)
 P : Paired (PlV H) xs ps
 D : H pd = some (.lst ys)
 Y : Paired (DdV H) ys ds
 T : H pt = some (.dK kv)
 R : RowAt H kv (all (allN ps) (run ps n ds).t)
theorem Dm.same {H H' : Hp} {ps : List Plc} {n : Int} {xs ys : List V} {ds : List Dd} {kv : List (Key × V)} {ph pt pd : Addr} (h : Dm H ps n xs ys ds kv ph pt pd) (s : Same H H') : Dm H' ps n xs ys ds kv ph pt pd :=
 ⟨s _ _ h.X, house_same h.P s, s _ _ h.D, Paired.mapP h.Y fun _ _ f => f.same s, s _ _ h.T, h.R.same fun _ _ f => f.same s⟩
theorem rep_si {K : PySem.W.Frag} {H : Hp} {a : Addr} {z : Str} {n : Int} (h : H a = some (.tup [.str z, .int n])) (hz : Lay z) : RepD K H (.tuple [.str z, .int n]) (.ref a) := repT (SqT.of h) (repsC (repS hz) (repsC repI reps0))
theorem si_depth (z : Str) (n : Int) : (PyData.tuple [.str z, .int n]).depth <= 64 := by simp [PyData.depth, PyData.depthAll]
theorem rows_pos {H : Hp} {kvr : List (Key × V)} {ps : List Plc} (r : RowAt H kvr (rmF ps)) (h : 2 <= (ckN ps).length) : 0 < kvr.length := by
 obtain ⟨z, hz⟩ : ∃ z, z ∈ ckN ps := by
  cases e : ckN ps with
  | nil => rw [e] at h; simp at h
  | cons z l => exact ⟨z, List.mem_cons_self⟩
 obtain ⟨m, hm⟩ := rmF_some hz
 obtain ⟨v, hv, _⟩ := r.has z m hm
 cases kvr with
 | nil => cases hv
 | cons a l => exact Nat.succ_pos _
theorem at_mod {vs : List V} {k : Int} {m : Nat} (hm : vs.length = m) (h : 0 < m) : ∃ v, atI vs (k.fmod (m : Nat)) = some v := by
 have q := fmod_lt (c := k) (m := ((m : Nat) : Int)) (by lia)
 obtain ⟨j, hj⟩ := Int.eq_ofNat_of_zero_le q.1
 have hjl : j < vs.length := by lia
 refine ⟨vs[j], ?_⟩
 rw [hj]
 exact atI_nat (List.getElem?_eq_getElem hjl)
end T21
namespace T21
open PySem L2 Tc
section
variable {P : Program} {w : World} {K : PySem.W.Frag} {mg : Str -> Option Value} {base : Heap}
noncomputable abbrev s_Full_init : Stmt := clsFn (top 5) 0
theorem sc_Full_init : FnScope ["self", "at"] ["self", "at"] (defScope s_Full_init) := scF
theorem ok_Full_init {ca : Ca} (D : InitDef K ca.Full "Full.__init__" s_Full_init) (T : Txt K mg ca) : IniAt P w K mg base 1 ca.Full ca.TierError "at" ["self", "at"] := by
 obtain ⟨f, fd, F, hi, hf⟩ := D.ex
 refine ⟨⟨f, fd, F.ok sc_Full_init (fun vs H Q E h => ?_) (fun cdv A outer s H vs Q E hr h => ?_), hi, hf, F.binds (fun _ _ _ _ _ _ us hl => match us, hl with | [_, _], _ => rfl)⟩, T.q_TierError, T.u_Full⟩
 ·obtain ⟨a, n, rfl, _⟩ := h; rfl
 ·obtain ⟨a, n, rfl, hH, n0, n1, k⟩ := h
  refine ⟨_, (pss_cons (ps_expr (pe_sup T.q_TierError T.u_Full (by rfl) T.c_TierError (pa_cons (pv 0) (pa_cons (pe_js (.cons pe_str (.cons (pe_fmt (pv 1)) .nil))) pa_nil)))) (pss_one (ps_setI T.u_Full (pv 0) (pv 1)))), ?_⟩
  exact ini_rd (by decide +kernel) hH n0 n1 k
noncomputable abbrev s_Lacking_init : Stmt := clsFn (top 4) 0
theorem sc_Lacking_init : FnScope ["self", "at"] ["self", "at"] (defScope s_Lacking_init) := scF
theorem ok_Lacking_init {ca : Ca} (D : InitDef K ca.Lacking "Lacking.__init__" s_Lacking_init) (T : Txt K mg ca) : IniAt P w K mg base 1 ca.Lacking ca.TierError "at" ["self", "at"] := by
 obtain ⟨f, fd, F, hi, hf⟩ := D.ex
 refine ⟨⟨f, fd, F.ok sc_Lacking_init (fun vs H Q E h => ?_) (fun cdv A outer s H vs Q E hr h => ?_), hi, hf, F.binds (fun _ _ _ _ _ _ us hl => match us, hl with | [_, _], _ => rfl)⟩, T.q_TierError, T.u_Lacking⟩
 ·obtain ⟨a, n, rfl, _⟩ := h; rfl
 ·obtain ⟨a, n, rfl, hH, n0, n1, k⟩ := h
  refine ⟨_, (pss_cons (ps_expr (pe_sup T.q_TierError T.u_Lacking (by rfl) T.c_TierError (pa_cons (pv 0) (pa_cons (pe_js (.cons pe_str (.cons (pe_fmt (pv 1)) .nil))) pa_nil)))) (pss_one (ps_setI T.u_Lacking (pv 0) (pv 1)))), ?_⟩
  exact ini_rd (by decide +kernel) hH n0 n1 k
noncomputable abbrev s_common_divisor : Stmt := top 10
theorem sc_common_divisor : FnScope ["top", "bottom", "rest"] ["top", "bottom"] (defScope s_common_divisor) := scF
theorem ok_common_divisor {ca : Ca} (D : DefAt K mg "common_divisor" s_common_divisor) (T : Txt K mg ca) : FnAt P w K mg base CX0 1 "common_divisor" ["top", "bottom"] (spCd) := by
 refine D.ok sc_common_divisor (fun vs H Q E h => ?_) (fun _ _ _ _ _ _ us hl => match us, hl with | [_, _], _ => rfl) (fun f cdv A outer s H vs Q E hr h => ?_)
 ·obtain ⟨t, b, rfl, hb, k⟩ := h; rfl
 ·obtain ⟨t, b, rfl, hb, k⟩ := h
  have nd := sc_common_divisor.nd
  refine ⟨_, (pss_cons (ps_while PassesOwn.never (pt_cmpR op_ne (pv 1) pe_int (nomark _)) (pss_cons (ps_set (i := 2) nd rfl (Or.inl rfl) (pe_op op_modN (pv 0) (pv 1)))
   (pss_cons (ps_set (i := 0) nd rfl (Or.inl rfl) (pv 1))
   (pss_one (ps_set (i := 1) nd rfl (Or.inl rfl) (pv 2))))))
   (pss_one (ps_ret (pv 0)))), ?_⟩
  refine while_by (fun σ H1 => ∃ (x y : Int) (v : Option V), σ = [some (.int x), some (.int y), v] /\ H1 = H /\ Dv t b x y)
   (fun σ _ => match σ with | [_, some (.int y), _] => y.natAbs | _ => 0) ⟨t, b, none, rfl, rfl, Dv.start hb⟩ ?_ ?_
  ·rintro σ H1 ⟨x, y, v, rfl, rfl, d⟩
   refine ⟨_, rfl, rfl, _, rfl, ?_⟩
   refine ite2 (fun h1 => ?_) (fun h1 => ?_)
   ·have hy : y ≠ 0 := by
     intro e; subst e; simp at h1
    refine ⟨_, rfl, _, rfl, _, _, rfl, rfl, hy, ?_⟩
    refine ⟨_, rfl, _, rfl, ?_⟩
    exact ⟨⟨_, _, _, rfl, rfl, d.turn hy⟩, Dv.less hy⟩
   ·have hy : y = 0 := by
     by_cases e : y = 0
     ·exact e
     ·exact absurd (by simp [e]) h1
    refine ⟨_, rfl, ?_⟩
    rw [d.done hy hb]; exact k
  ·intro σ H1 Q1 Q2 hq h1
   obtain ⟨v, e, h2, c, e2, h3⟩ := h1
   exact ⟨v, e, h2, c, e2, hq _ _ h3⟩
noncomputable abbrev s_plus : Stmt := top 11
theorem sc_plus : FnScope ["one", "other", "shared", "rest", "top", "divisor"] ["one", "other"] (defScope s_plus) := scF
theorem ok_plus {ca : Ca} (D : DefAt K mg "plus" s_plus) (T : Txt K mg ca) (G_common_divisor : FnAt P w K mg base CX0 1 "common_divisor" ["top", "bottom"] (spCd)) : FnAt P w K mg base CX0 2 "plus" ["one", "other"] (spPlus) := by
 refine D.ok sc_plus (fun vs H Q E h => ?_) (fun _ _ _ _ _ _ us hl => match us, hl with | [_, _], _ => rfl) (fun f cdv A outer s H vs Q E hr h => ?_)
 ·obtain ⟨_, _, r, q, rfl, ⟨a, rfl, ha⟩, ⟨b, rfl, hb⟩, br, bq, k⟩ := h; rfl
 ·obtain ⟨_, _, r, q, rfl, ⟨a, rfl, ha⟩, ⟨b, rfl, hb⟩, br, bq, k⟩ := h
  have nd := sc_plus.nd
  refine ⟨_, (pss_cons (ps_set (i := 2) nd rfl (Or.inl rfl) (pfn G_common_divisor hr (pa_cons (pixT (pv 0) pe_int) (pa_cons (pixT (pv 1) pe_int) pa_nil))))
   (pss_cons (ps_set (i := 3) nd rfl (Or.inl rfl) (pe_op op_fdivB (pixT (pv 0) pe_int) (pv 2)))
   (pss_cons (ps_set (i := 4) nd rfl (Or.inl rfl) (pe_op op_add (pe_op op_mulB (pixT (pv 0) pe_int) (pe_op op_fdivB (pixT (pv 1) pe_int) (pv 2))) (pe_op op_mulB (pixT (pv 1) pe_int) (pv 3))))
   (pss_cons (ps_set (i := 5) nd rfl (Or.inl rfl) (pfn G_common_divisor hr (pa_cons (pv 4) (pa_cons (pv 2) pa_nil))))
   (pss_one (ps_ret (pe_tup (pa_cons (pe_op op_fdivB (pv 4) (pv 5)) (pa_cons (pe_op op_mulB (pv 3) (pe_op op_fdivB (pixT (pv 1) pe_int) (pv 5))) pa_nil))))))))), ?_⟩
  have d1 := rat_den_pos r
  have d2 := rat_den_pos q
  have i0 : ∀ (i : Nat), i <= 8000 -> (2 : Nat) ^ i <= 2 ^ 9000 := fun i hi => pow_le (by lia)
  refine ⟨_, rfl, a, _, _, _, rfl, rfl, SqT.of ha, rfl, _, rfl, b, _, _, _, rfl, rfl, SqT.of hb, rfl, _, _, rfl, (by lia), ?_⟩
  have s0 : dv r.den q.den ≠ 0 := dv_ne (by lia)
  have sle : (dv (r.den : Int) q.den).natAbs <= ((q.den : Int)).natAbs := dv_le (by lia)
  have sdiv : ∀ i, CDivB i (dv (r.den : Int) q.den) := fun i => bq.divR (by decide) s0 sle
  generalize hs : dv (r.den : Int) q.den = s1 at *
  refine ⟨_, rfl, a, _, _, _, rfl, rfl, SqT.of ha, rfl, _, rfl, _, _, rfl, rfl, sdiv _, ?_⟩
  have le1 : ∀ {x : Int} {m : Nat}, x.natAbs < 2 ^ m -> (x.fdiv s1).natAbs < 2 ^ (m + 1) := fun {x m} hx => by
   have := natAbs_fdiv_le x s1
   rw [Nat.pow_succ]; lia
  have hrest : ((r.den : Int).fdiv s1).natAbs < 2 ^ 8001 := le1 br.den
  have hq1 : ((q.den : Int).fdiv s1).natAbs < 2 ^ 8001 := le1 bq.den
  refine ⟨_, rfl, a, _, _, _, rfl, rfl, SqT.of ha, rfl, _, rfl, b, _, _, _, rfl, rfl, SqT.of hb, rfl, _, rfl, _, _, rfl, rfl, sdiv _, _, _, rfl, rfl, mulOk_of 8001 (Nat.lt_of_lt_of_le br.num (pow_le (by decide))) hq1 (by decide), _, rfl, b, _, _, _, rfl, rfl, SqT.of hb, rfl, _, rfl, _, _, rfl, rfl, mulOk_of 8001 (Nat.lt_of_lt_of_le bq.num (pow_le (by decide))) hrest (by decide), _, _, rfl, rfl, ?_⟩
  refine ⟨_, rfl, _, rfl, _, _, rfl, s0, ?_⟩
  have d0 : dv (r.num * (q.den : Int).fdiv s1 + q.num * (r.den : Int).fdiv s1) s1 ≠ 0 := dv_ne s0
  have dle : (dv (r.num * (q.den : Int).fdiv s1 + q.num * (r.den : Int).fdiv s1) s1).natAbs <= ((q.den : Int)).natAbs := Nat.le_trans (dv_le s0) sle
  have ddiv : ∀ i, CDivB i (dv (r.num * (q.den : Int).fdiv s1 + q.num * (r.den : Int).fdiv s1) s1) := fun i => bq.divR (by decide) d0 dle
  obtain ⟨e1, e2⟩ := plus_ok r q hs.symm rfl rfl rfl
  have hq2 : ((q.den : Int).fdiv (dv (r.num * (q.den : Int).fdiv s1 + q.num * (r.den : Int).fdiv s1) s1)).natAbs < 2 ^ 8001 := by
   have := natAbs_fdiv_le (q.den : Int) (dv (r.num * (q.den : Int).fdiv s1 + q.num * (r.den : Int).fdiv s1) s1)
   have z : ((q.den : Int)).natAbs < 2 ^ 8000 := bq.den
   rw [Nat.pow_succ]; lia
  refine ⟨_, rfl, _, rfl, _, _, rfl, rfl, ddiv _, _, rfl, _, rfl, b, _, _, _, rfl, rfl, SqT.of hb, rfl, _, rfl, _, _, rfl, rfl, ddiv _, _, _, rfl, rfl, mulOk_of 8001 hrest hq2 (by decide), sz (by simp), fun p hp => ?_⟩
  exact k _ _ (Same.upd hp) (FrV.newOf e1 e2)
noncomputable abbrev s_minus : Stmt := top 12
theorem sc_minus : FnScope ["one", "other"] ["one", "other"] (defScope s_minus) := scF
theorem ok_minus {ca : Ca} (D : DefAt K mg "minus" s_minus) (T : Txt K mg ca) (G_plus : FnAt P w K mg base CX0 2 "plus" ["one", "other"] (spPlus)) : FnAt P w K mg base CX0 3 "minus" ["one", "other"] (spMinus) := by
 refine D.ok sc_minus (fun vs H Q E h => ?_) (fun _ _ _ _ _ _ us hl => match us, hl with | [_, _], _ => rfl) (fun f cdv A outer s H vs Q E hr h => ?_)
 ·obtain ⟨_, _, r, q, rfl, hx, ⟨b, rfl, hb⟩, br, bq, k⟩ := h; rfl
 ·obtain ⟨_, _, r, q, rfl, hx, ⟨b, rfl, hb⟩, br, bq, k⟩ := h
  have nd := sc_minus.nd
  refine ⟨_, (pss_one (ps_ret (pfn G_plus hr (pa_cons (pv 0) (pa_cons (pe_tup (pa_cons (pe_op op_sub pe_int (pixT (pv 1) pe_int)) (pa_cons (pixT (pv 1) pe_int) pa_nil))) pa_nil))))), ?_⟩
  refine ⟨_, rfl, _, rfl, b, _, _, _, rfl, rfl, SqT.of hb, rfl, _, _, rfl, rfl, _, rfl, b, _, _, _, rfl, rfl, SqT.of hb, rfl, sz (by simp), fun p hp => ?_⟩
  refine ⟨_, _, r, -q, rfl, hx.upd hp, FrV.newOf (neg_ok q).1 (neg_ok q).2, br, bq.neg, fun v H' s' h => ?_⟩
  have h : FrV H' v (r + -q) := h
  rw [sub_eq] at h
  exact k v H' ((Same.upd hp).trans s') h
noncomputable abbrev s_times : Stmt := top 13
theorem sc_times : FnScope ["one", "other", "left", "right"] ["one", "other"] (defScope s_times) := scF
theorem ok_times {ca : Ca} (D : DefAt K mg "times" s_times) (T : Txt K mg ca) (G_common_divisor : FnAt P w K mg base CX0 1 "common_divisor" ["top", "bottom"] (spCd)) : FnAt P w K mg base CX0 2 "times" ["one", "other"] (spTimes) := by
 refine D.ok sc_times (fun vs H Q E h => ?_) (fun _ _ _ _ _ _ us hl => match us, hl with | [_, _], _ => rfl) (fun f cdv A outer s H vs Q E hr h => ?_)
 ·obtain ⟨_, _, a, b, t1, b1, t2, b2, rfl, rfl, ha, rfl, hb, p1, n2, c1, c2, ⟨z1, z2, z3, z4⟩, k⟩ := h; rfl
 ·obtain ⟨_, _, a, b, t1, b1, t2, b2, rfl, rfl, ha, rfl, hb, p1, n2, c1, c2, ⟨z1, z2, z3, z4⟩, k⟩ := h
  have nd := sc_times.nd
  refine ⟨_, (pss_cons (ps_set (i := 2) nd rfl (Or.inl rfl) (pfn G_common_divisor hr (pa_cons (pixT (pv 0) pe_int) (pa_cons (pixT (pv 1) pe_int) pa_nil))))
   (pss_cons (ps_set (i := 3) nd rfl (Or.inl rfl) (pfn G_common_divisor hr (pa_cons (pixT (pv 1) pe_int) (pa_cons (pixT (pv 0) pe_int) pa_nil))))
   (pss_one (ps_ret (pe_tup (pa_cons (pe_op op_mulB (pe_op op_fdivB (pixT (pv 0) pe_int) (pv 2)) (pe_op op_fdivB (pixT (pv 1) pe_int) (pv 3))) (pa_cons (pe_op op_mulB (pe_op op_fdivB (pixT (pv 0) pe_int) (pv 3)) (pe_op op_fdivB (pixT (pv 1) pe_int) (pv 2))) pa_nil))))))), ?_⟩
  refine ⟨_, rfl, a, _, _, _, rfl, rfl, SqT.of ha, rfl, _, rfl, b, _, _, _, rfl, rfl, SqT.of hb, rfl, _, _, rfl, n2, ?_⟩
  have l0 : dv t1 b2 ≠ 0 := dv_ne n2
  have lle : (dv t1 b2).natAbs <= b2.natAbs := dv_le n2
  have r0 : dv t2 b1 ≠ 0 := dv_ne (by lia)
  have rle : (dv t2 b1).natAbs <= b1.natAbs := dv_le (by lia)
  have ldiv : ∀ i, CDivB i (dv t1 b2) := fun i => divB_of l0 (Nat.lt_of_le_of_lt lle (Nat.lt_of_lt_of_le z4 (pow_le (by decide))))
  have rdiv : ∀ i, CDivB i (dv t2 b1) := fun i => divB_of r0 (Nat.lt_of_le_of_lt rle (Nat.lt_of_lt_of_le z2 (pow_le (by decide))))
  refine ⟨_, rfl, b, _, _, _, rfl, rfl, SqT.of hb, rfl, _, rfl, a, _, _, _, rfl, rfl, SqT.of ha, rfl, _, _, rfl, (by lia), ?_⟩
  generalize hl : dv t1 b2 = l at *
  generalize hr : dv t2 b1 = r at *
  obtain ⟨e1, e2⟩ := times_ok p1 n2 c1 c2 hl.symm hr.symm
  have le1 : ∀ {x d : Int}, x.natAbs < 2 ^ 8000 -> (x.fdiv d).natAbs < 2 ^ 8001 := fun {x d} hx => by
   have := natAbs_fdiv_le x d
   rw [Nat.pow_succ]; lia
  refine ⟨_, rfl, a, _, _, _, rfl, rfl, SqT.of ha, rfl, _, rfl, _, _, rfl, rfl, ldiv _, _, rfl, b, _, _, _, rfl, rfl, SqT.of hb, rfl, _, rfl, _, _, rfl, rfl, rdiv _, _, _, rfl, rfl, mulOk_of 8001 (le1 z1) (le1 z3) (by decide), _, rfl, a, _, _, _, rfl, rfl, SqT.of ha, rfl, _, rfl, _, _, rfl, rfl, rdiv _, _, rfl, b, _, _, _, rfl, rfl, SqT.of hb, rfl, _, rfl, _, _, rfl, rfl, ldiv _, _, _, rfl, rfl, mulOk_of 8001 (le1 z2) (le1 z4) (by decide), sz (by simp), fun p hp => ?_⟩
  exact k _ _ (Same.upd hp) (FrV.newOf e1 e2)
noncomputable abbrev s_over : Stmt := top 14
theorem sc_over : FnScope ["one", "other"] ["one", "other"] (defScope s_over) := scF
theorem ok_over {ca : Ca} (D : DefAt K mg "over" s_over) (T : Txt K mg ca) (G_times : FnAt P w K mg base CX0 2 "times" ["one", "other"] (spTimes)) : FnAt P w K mg base CX0 3 "over" ["one", "other"] (spOver0) := by
 refine D.ok sc_over (fun vs H Q E h => ?_) (fun _ _ _ _ _ _ us hl => match us, hl with | [_, _], _ => rfl) (fun f cdv A outer s H vs Q E hr h => ?_)
 ·obtain ⟨_, _, r, q, rfl, ⟨a, rfl, ha⟩, ⟨b, rfl, hb⟩, br, bq, hq, k⟩ := h; rfl
 ·obtain ⟨_, _, r, q, rfl, ⟨a, rfl, ha⟩, ⟨b, rfl, hb⟩, br, bq, hq, k⟩ := h
  have nd := sc_over.nd
  refine ⟨_, (pss_cons (ps_if (pt_cmpR op_eq (pixT (pv 1) pe_int) pe_int (nomark _)) (pss_one ps_never) pss_nil)
   (pss_one (ps_ret (pfn G_times hr (pa_cons (pv 0) (pa_cons (pe_tup (pa_cons (pixT (pv 1) pe_int) (pa_cons (pixT (pv 1) pe_int) pa_nil))) pa_nil)))))), ?_⟩
  have hn : q.num ≠ 0 := fun z => hq (Rat.num_eq_zero.mp z)
  refine ⟨_, rfl, b, _, _, _, rfl, rfl, SqT.of hb, rfl, rfl, _, rfl, ?_⟩
  refine dec_false (fun e => hn (V.int.inj e)) ?_
  refine ⟨_, rfl, _, rfl, b, _, _, _, rfl, rfl, SqT.of hb, rfl, _, rfl, b, _, _, _, rfl, rfl, SqT.of hb, rfl, sz (by simp), fun p hp => ?_⟩
  have ne : a ≠ p := ne_of_none ha hp
  refine ⟨_, _, a, p, r.num, r.den, q.den, q.num, rfl, rfl, (by rw [upd_ne ne]; exact ha), rfl, upd_same, rat_den_pos r, hn, rat_gcd r, gcd_swap q, ⟨br.num, br.den, bq.den, bq.num⟩, fun v H' s' h => ?_⟩
  rw [div_eq r q hn] at h
  exact k v H' ((Same.upd hp).trans s') h
noncomputable abbrev s_under : Stmt := top 15
theorem sc_under : FnScope ["one", "other"] ["one", "other"] (defScope s_under) := scF
theorem ok_under {ca : Ca} (D : DefAt K mg "under" s_under) (T : Txt K mg ca) : FnAt P w K mg base CX0 1 "under" ["one", "other"] (spUnder) := by
 refine D.ok sc_under (fun vs H Q E h => ?_) (fun _ _ _ _ _ _ us hl => match us, hl with | [_, _], _ => rfl) (fun f cdv A outer s H vs Q E hr h => ?_)
 ·obtain ⟨_, _, r, q, rfl, ⟨a, rfl, ha⟩, ⟨b, rfl, hb⟩, br, bq, k⟩ := h; rfl
 ·obtain ⟨_, _, r, q, rfl, ⟨a, rfl, ha⟩, ⟨b, rfl, hb⟩, br, bq, k⟩ := h
  have nd := sc_under.nd
  refine ⟨_, (pss_one (ps_ret (pe_cmpR op_lt (pe_op op_mulB (pixT (pv 0) pe_int) (pixT (pv 1) pe_int)) (pe_op op_mulB (pixT (pv 1) pe_int) (pixT (pv 0) pe_int)) (nomark _)))), ?_⟩
  refine ⟨_, rfl, a, _, _, _, rfl, rfl, SqT.of ha, rfl, _, rfl, b, _, _, _, rfl, rfl, SqT.of hb, rfl, _, _, rfl, rfl, mulOk_of 8000 br.num bq.den (by decide), _, rfl, b, _, _, _, rfl, rfl, SqT.of hb, rfl, _, rfl, a, _, _, _, rfl, rfl, SqT.of ha, rfl, _, _, rfl, rfl, mulOk_of 8000 bq.num br.den (by decide), _, _, rfl, rfl, ?_⟩
  rw [<- _root_.Tc.lt_ok] at k
  exact k
noncomputable abbrev s_rooms_of : Stmt := top 17
theorem sc_rooms_of : FnScope ["house", "rooms", "place"] ["house"] (defScope s_rooms_of) := scF
theorem ok_rooms_of {ca : Ca} (D : DefAt K mg "rooms_of" s_rooms_of) (T : Txt K mg ca) : FnAt P w K mg base CX0 1 "rooms_of" ["house"] (spRooms K) := by
 refine D.ok sc_rooms_of (fun vs H Q E h => ?_) (fun _ _ _ _ _ _ us hl => match us, hl with | [_], _ => rfl) (fun f cdv A outer s H vs Q E hr h => ?_)
 ·obtain ⟨a, xs, ps, rfl, hS, hP, hH, k⟩ := h; rfl
 ·obtain ⟨a, xs, ps, rfl, hS, hP, hH, k⟩ := h
  have nd := sc_rooms_of.nd
  refine ⟨_, (pss_cons (ps_set (i := 1) nd rfl (Or.inl rfl) pe_dnewK)
   (pss_cons (ps_for PassesOwn.never rfl (pi_list' (K := K) rfl (pv 0)) (pg_name (i := 2) nd rfl (Or.inl rfl)) (pss_one (ps_if (pt_cmpR op_eq (pixT (pv 2) pe_int) pe_str (nomark _)) (pss_one (ps_dput (hu_of hr) (pv 1) (pixT (pv 2) pe_int) (pixT (pv 2) pe_int) rfl)) pss_nil)))
   (pss_one (ps_ret (pv 1))))), ?_⟩
  have hlen : xs.length = ps.length := hP.length
  intro p hp
  have tp := Same.upd (o := .dK []) hp
  refine ⟨_, rfl, a, rfl, ⟨_, tp.seq hS⟩, ?_⟩
  refine for_list (xs := xs) (fun i σ H1 => ∃ (v2 : Option V) (kv : List (Key × V)), σ = [some (.ref a), some (.ref p), v2] /\ Same H H1 /\ H1 p = some (.dK kv) /\ RowAt H1 kv (rmF (ps.take i))) ⟨none, [], rfl, tp, upd_same, RowAt.nil _⟩ ?_ ?_ ?_
  ·rintro i σ H1 hi ⟨v2, kv, rfl, s1, h1, row⟩
   exact s1.seq hS
  ·rintro i x σ H1 hx ⟨v2, kv, rfl, s1, h1, row⟩
   obtain ⟨pl, hpl, pv⟩ := paired_get hP hx
   have pv := pv.same s1
   have en := take_one hpl
   have nin := allN_take hH hpl
   have len : kv.length <= (allN (ps.take i)).length := row.lenO fun z hz => rm_sub hz
   have l8 : kv.length <= 8 := by
    unfold allN at len
    rw [List.length_map, List.length_take] at len
    have := hH.len
    lia
   cases pl with
   | ck z r =>
    obtain ⟨b, f, rfl, hb, hf⟩ := pv
    refine ⟨_, rfl, b, _, _, _, rfl, rfl, SqT.of hb, rfl, rfl, _, rfl, ?_⟩
    refine dec_true rfl ?_
    refine ⟨_, rfl, b, _, _, _, rfl, rfl, SqT.of hb, rfl, _, rfl, _, rfl, b, _, _, _, rfl, rfl, SqT.of hb, rfl, p, upd H1 p (.dK (putK kv (.inr z) f)), rfl, DPut.k (k := .inr z) h1 (sz (by lia)), ?_⟩
    refine ⟨_, putK kv (.inr z) f, rfl, s1.updD hp, upd_same, ?_⟩
    have nin : z ∉ allN (ps.take i) := nin
    rw [en, rmF_ck nin]
    exact (row.put (z := z) hf).same fun v r g => g.tup (tup_of h1 (fun _ z => nomatch z))
   | sk z =>
    obtain ⟨b, rfl, hb⟩ := pv
    refine ⟨_, rfl, b, _, _, _, rfl, rfl, SqT.of hb, rfl, rfl, _, rfl, ?_⟩
    refine dec_false (by decide +kernel) ?_
    refine ⟨_, kv, rfl, s1, h1, ?_⟩
    rw [en, rmF_sk]; exact row
  ·rintro σ H1 ⟨v2, kv, rfl, s1, h1, row⟩
   rw [hlen, List.take_length] at row
   exact ⟨_, rfl, k p H1 kv hp s1 h1 row⟩
noncomputable abbrev s_check_room : Stmt := top 18
theorem sc_check_room : FnScope ["name", "amount", "at", "totals", "rooms"] ["name", "amount", "at", "totals", "rooms"] (defScope s_check_room) := scF
theorem ok_check_room {ca : Ca} (D : DefAt K mg "check_room" s_check_room) (T : Txt K mg ca) (G_under : FnAt P w K mg base CX0 1 "under" ["one", "other"] (spUnder)) (G_plus : FnAt P w K mg base CX0 2 "plus" ["one", "other"] (spPlus)) (I_Full : IniAt P w K mg base 1 ca.Full ca.TierError "at" ["self", "at"]) : FnAt P w K mg base (CXD P w) 3 "check_room" ["name", "amount", "at", "totals", "rooms"] (spCheckR ca.Full) := by
 refine D.okD sc_check_room (fun vs H Q E h => ?_) (fun _ _ _ _ _ _ us hl => match us, hl with | [_, _, _, _, _], _ => rfl) (fun f cdv A outer s H vs Q E hr h => ?_)
 ·obtain ⟨z, v, n, ps, t, pt, pr, kvt, kvr, g, rfl, n0, n1, hs, hz, hv, bg, bt, hm, k, kx⟩ := h; rfl
 ·obtain ⟨z, v, n, ps, t, pt, pr, kvt, kvr, g, rfl, n0, n1, hs, hz, hv, bg, bt, hm, k, kx⟩ := h
  have nd := sc_check_room.nd
  refine ⟨_, (pss_one (ps_if (PW.pt (pw_and (pt_cmp (pc_din (hu_of hr) (pv 0) (pv 4))) (pw_and1 (pt_val (pfn G_under hr (pa_cons (pe_dget (hu_of hr) (pv 4) (pv 0) (fun _ _ => rfl)) (pa_cons (pfn G_plus hr (pa_cons (pe_dget (hu_of hr) (pv 3) (pv 0) (fun _ _ => rfl)) (pa_cons (pv 1) pa_nil))) pa_nil))))))) (pss_one (ps_raiseI I_Full raisesI rfl hr (by rfl) T.c_Full (pa_cons (pv 2) pa_nil))) pss_nil)), ?_⟩
  cases e : rmF ps z with
  | none =>
   have dg := DGet.k (k := .inr z) hs.dr
   rw [hs.rr.not z e] at dg
   refine ⟨_, rfl, _, rfl, pr, _, rfl, dg, _, rfl, ?_⟩
   refine iteF ?_
   exact k H (Same.refl _) fun m e' => by rw [e] at e'; cases e'
  | some m =>
   have bm := hm m e
   obtain ⟨w, dg, fm⟩ := hs.room e
   obtain ⟨u, dt, fu⟩ := hs.tot hz
   refine ⟨_, rfl, _, rfl, pr, _, rfl, dg, _, rfl, ?_⟩
   refine iteT ?_
   refine ⟨_, rfl, _, rfl, pr, w, rfl, dg, _, rfl, _, rfl, pt, u, rfl, dt, _, rfl, _, _, t z, g, rfl, fu, hv, bt.mono (by decide), bg.mono (by decide), fun v1 H1 s1 f1 => ?_⟩
   refine ⟨_, _, m, t z + g, rfl, fm.same s1, f1, bm.mono (by decide), (bt.add bg).mono (by decide), _, rfl, ?_⟩
   refine ite2 (fun h => ?_) (fun h => ?_)
   ·exact ⟨_, rfl, n, rfl, n0, n1, fun dx hdx => ((kx m e (of_decide_eq_true h)).same s1).now hdx⟩
   ·have nl : ¬ m < t z + g := fun q => h (decide_eq_true q)
    exact k H1 s1 fun m' e' => by rw [e] at e'; cases e'; grind
noncomputable abbrev s_share_of : Stmt := top 19
theorem sc_share_of : FnScope ["deed", "at", "totals", "rooms", "amount"] ["deed", "at", "totals", "rooms"] (defScope s_share_of) := scF
theorem ok_share_of {ca : Ca} (D : DefAt K mg "share_of" s_share_of) (T : Txt K mg ca) (G_minus : FnAt P w K mg base CX0 3 "minus" ["one", "other"] (spMinus)) (G_under : FnAt P w K mg base CX0 1 "under" ["one", "other"] (spUnder)) (G_over : FnAt P w K mg base CX0 3 "over" ["one", "other"] (spOver0)) (I_Lacking : IniAt P w K mg base 1 ca.Lacking ca.TierError "at" ["self", "at"]) : FnAt P w K mg base (CXD P w) 4 "share_of" ["deed", "at", "totals", "rooms"] (spShareR ca.Lacking) := by
 refine D.okD sc_share_of (fun vs H Q E h => ?_) (fun _ _ _ _ _ _ us hl => match us, hl with | [_, _, _, _], _ => rfl) (fun f cdv A outer s H vs Q E hr h => ?_)
 ·obtain ⟨v, d, n, ps, t, pt, pr, kvt, kvr, i, rfl, n0, n1, hs, dv0, hp, ok, hI, hi, hro, k, kx⟩ := h; rfl
 ·obtain ⟨v, d, n, ps, t, pt, pr, kvt, kvr, i, rfl, n0, n1, hs, dv0, hp, ok, hI, hi, hro, k, kx⟩ := h
  have nd := sc_share_of.nd
  refine ⟨_, (pss_cons (ps_if (pt_cmpR op_eq (pixT (pv 0) pe_int) pe_str (nomark _)) (pss_one (ps_ret (pixT (pv 0) pe_int))) pss_nil)
   (pss_cons (ps_if (pt_cmpR op_eq (pixT (pv 0) pe_int) pe_str (nomark _)) (pss_one (ps_ret (pe_tup (pa_cons pe_int (pa_cons pe_int pa_nil))))) pss_nil)
   (pss_cons (ps_set (i := 4) nd rfl (Or.inl rfl) (pe_ifExp (pt_cmpR op_eq (pixT (pv 0) pe_int) pe_str (nomark _)) (pixT (pv 0) pe_int) (pfn G_minus hr (pa_cons (pe_dget (hu_of hr) (pv 3) (pixT (pv 0) pe_int) (fun _ _ => rfl)) (pa_cons (pe_dget (hu_of hr) (pv 2) (pixT (pv 0) pe_int) (fun _ _ => rfl)) pa_nil)))))
   (pss_cons (ps_if (pt_val (pfn G_under hr (pa_cons (pe_dget (hu_of hr) (pv 2) (pixT (pv 0) pe_int) (fun _ _ => rfl)) (pa_cons (pv 4) pa_nil)))) (pss_one (ps_raiseI I_Lacking raisesI rfl hr (by rfl) T.c_Lacking (pa_cons (pv 1) pa_nil))) pss_nil)
   (pss_cons (ps_if (pt_cmpR (op_eqD' (K := K) rfl hr) (pv 4) (pe_tup (pa_cons pe_int (pa_cons pe_int pa_nil))) (nomark _)) (pss_one (ps_ret (pe_tup (pa_cons pe_int (pa_cons pe_int pa_nil))))) pss_nil)
   (pss_one (ps_ret (pfn G_over hr (pa_cons (pv 4) (pa_cons (pe_dget (hu_of hr) (pv 2) (pixT (pv 0) pe_int) (fun _ _ => rfl)) pa_nil)))))))))), ?_⟩
  have hx := fr_ck hp ok
  have fx := hs.tot (ck_sub hx)
  have bx := (hI.sz _ (ck_sub hx)).bd (by lia)
  have bg := gs_bd hI hro hi ok
  cases d with
  | br _ _ _ => cases hp
  | yr => cases hp
  | pt x y q =>
   obtain ⟨a, f, rfl, ha, hf⟩ := dv0
   refine ⟨_, rfl, a, _, _, _, rfl, rfl, SqT.of ha, rfl, rfl, _, rfl, ?_⟩
   refine dec_true rfl ?_
   exact ⟨_, rfl, a, _, _, _, rfl, rfl, SqT.of ha, rfl, k _ _ (Same.refl _) hf (pt_le hI ok)⟩
  | al x y =>
   obtain ⟨a, rfl, ha⟩ := dv0
   refine ⟨_, rfl, a, _, _, _, rfl, rfl, SqT.of ha, rfl, rfl, _, rfl, ?_⟩
   refine dec_false (by decide +kernel) ?_
   refine ⟨_, rfl, a, _, _, _, rfl, rfl, SqT.of ha, rfl, rfl, _, rfl, ?_⟩
   refine dec_true rfl ?_
   exact ⟨sz (by simp), fun p hp => k _ _ (Same.upd hp) (FrV.newOf rfl rfl) Rat.le_refl⟩
  | fl x y =>
   obtain ⟨a, rfl, ha⟩ := dv0
   refine ⟨_, rfl, a, _, _, _, rfl, rfl, SqT.of ha, rfl, rfl, _, rfl, ?_⟩
   refine dec_false (by decide +kernel) ?_
   refine ⟨_, rfl, a, _, _, _, rfl, rfl, SqT.of ha, rfl, rfl, _, rfl, ?_⟩
   refine dec_false (by decide +kernel) ?_
   refine ⟨_, rfl, a, _, _, _, rfl, rfl, SqT.of ha, rfl, rfl, _, rfl, ?_⟩
   refine dec_false (by decide +kernel) ?_
   obtain ⟨_, m, hm, hsz, _⟩ := hI.rmS hro ok.2.1
   obtain ⟨w, dg, fm⟩ := hs.room hm
   obtain ⟨u, dt, fu⟩ := hs.tot (ck_sub ok.2.1)
   refine ⟨_, rfl, _, rfl, a, _, _, _, rfl, rfl, SqT.of ha, rfl, pr, w, rfl, dg, _, rfl, _, rfl, a, _, _, _, rfl, rfl, SqT.of ha, rfl, pt, u, rfl, dt, _, _, m, t y, rfl, fm, fu, (hsz.bd (by lia)).mono (by decide), ((hI.sz y (ck_sub ok.2.1)).bd (by lia)).mono (by decide), fun v1 H1 s1 f1 => ?_⟩
   have f1 : FrV H1 v1 ((rmF ps y).getD 0 - t y) := by rw [hm]; exact f1
   have hs1 := hs.same s1
   have ha1 := s1 _ _ ha
   obtain ⟨ux, dx, fux⟩ := hs1.tot (ck_sub hx)
   refine ⟨_, rfl, _, rfl, a, _, _, _, rfl, rfl, SqT.of ha1, rfl, pt, ux, rfl, dx, _, rfl, _, _, t x, (rmF ps y).getD 0 - t y, rfl, fux, f1, bx.mono (by decide), bg.mono (by decide), _, rfl, ?_⟩
   refine ite2 (fun h => ⟨_, rfl, n, rfl, n0, n1, fun dx hdx => ((kx (of_decide_eq_true h)).same s1).now hdx⟩) (fun h => ?_)
   have gle : (rmF ps y).getD 0 - t y <= t x := by
    have nl : ¬ t x < (rmF ps y).getD 0 - t y := fun q => h (decide_eq_true q)
    grind
   have g0 : 0 <= (rmF ps y).getD 0 - t y := (hI.rmS hro ok.2.1).1.nn
   refine ⟨_, rfl, sz (by simp), fun p0 hp0 => ?_⟩
   have t0 := Same.upd (o := .tup [.int 0, .int 1]) hp0
   refine ⟨_, _, (f1.same t0).rep, rep_pq (SqT.of upd_same), pq_depth _ _, _, rfl, ?_⟩
   rw [eqv_pq]
   refine ite2 (fun h => ?_) (fun h => ?_)
   ·have h0 : (rmF ps y).getD 0 - t y = 0 := of_decide_eq_true ((fq_dec _ 0).symm.trans h)
    refine ⟨sz (by simp), fun p hp => k _ _ (s1.trans (t0.trans (Same.upd hp))) ?_ gle⟩
    show FrV _ _ (((rmF ps y).getD 0 - t y) / t x)
    rw [h0, Rat.div_def, Rat.zero_mul]
    exact FrV.newOf rfl rfl
   ·have h0 : ¬ (rmF ps y).getD 0 - t y = 0 := fun e => h ((fq_dec _ 0).trans (decide_eq_true e))
    have tx0 : t x ≠ 0 := fun e => h0 (by
     have h1 : 0 <= (rmF ps y).getD 0 - t y := g0
     have h2 : (rmF ps y).getD 0 - t y <= t x := gle
     grind)
    have hs2 := hs1.same t0
    obtain ⟨ux, dx, fux⟩ := hs2.tot (ck_sub hx)
    refine ⟨_, rfl, _, rfl, _, rfl, a, _, _, _, rfl, rfl, SqT.of (t0 _ _ ha1), rfl, pt, ux, rfl, dx, _, _, (rmF ps y).getD 0 - t y, t x, rfl, f1.same t0, fux, bg.mono (by decide), bx.mono (by decide), tx0, fun w2 H2 s2 f2 => k _ _ (s1.trans (t0.trans s2)) f2 gle⟩
  | mv x y r =>
   obtain ⟨a, f, rfl, ha, hf⟩ := dv0
   refine ⟨_, rfl, a, _, _, _, rfl, rfl, SqT.of ha, rfl, rfl, _, rfl, ?_⟩
   refine dec_false (by decide +kernel) ?_
   refine ⟨_, rfl, a, _, _, _, rfl, rfl, SqT.of ha, rfl, rfl, _, rfl, ?_⟩
   refine dec_false (by decide +kernel) ?_
   refine ⟨_, rfl, a, _, _, _, rfl, rfl, SqT.of ha, rfl, rfl, _, rfl, ?_⟩
   refine dec_true rfl ?_
   refine ⟨_, rfl, a, _, _, _, rfl, rfl, SqT.of ha, rfl, ?_⟩
   obtain ⟨ux, dx, fux⟩ := fx
   refine ⟨_, rfl, _, rfl, a, _, _, _, rfl, rfl, SqT.of ha, rfl, pt, ux, rfl, dx, _, rfl, _, _, t x, r, rfl, fux, hf, bx.mono (by decide), bg.mono (by decide), _, rfl, ?_⟩
   refine ite2 (fun h => ⟨_, rfl, n, rfl, n0, n1, fun dx hdx => (kx (of_decide_eq_true h)).now hdx⟩) (fun h => ?_)
   have gle : r <= t x := by
    have nl : ¬ t x < r := fun q => h (decide_eq_true q)
    grind
   have g0 : 0 <= r := ok.2.2.2.nn
   refine ⟨_, rfl, sz (by simp), fun p0 hp0 => ?_⟩
   have t0 := Same.upd (o := .tup [.int 0, .int 1]) hp0
   refine ⟨_, _, (hf.same t0).rep, rep_pq (SqT.of upd_same), pq_depth _ _, _, rfl, ?_⟩
   rw [eqv_pq]
   refine ite2 (fun h => ?_) (fun h => ?_)
   ·have h0 : r = 0 := of_decide_eq_true ((fq_dec _ 0).symm.trans h)
    refine ⟨sz (by simp), fun p hp => k _ _ (t0.trans (Same.upd hp)) ?_ gle⟩
    show FrV _ _ (r / t x)
    rw [h0, Rat.div_def, Rat.zero_mul]
    exact FrV.newOf rfl rfl
   ·have h0 : ¬ r = 0 := fun e => h ((fq_dec _ 0).trans (decide_eq_true e))
    have tx0 : t x ≠ 0 := fun e => h0 (by
     have h1 : 0 <= r := g0
     have h2 : r <= t x := gle
     grind)
    have hs2 := hs.same t0
    obtain ⟨ux, dx, fux⟩ := hs2.tot (ck_sub hx)
    refine ⟨_, rfl, _, rfl, _, rfl, a, _, _, _, rfl, rfl, SqT.of (t0 _ _ ha), rfl, pt, ux, rfl, dx, _, _, r, t x, rfl, hf.same t0, fux, bg.mono (by decide), bx.mono (by decide), tx0, fun w2 H2 s2 f2 => k _ _ (t0.trans s2) f2 gle⟩
noncomputable abbrev s_step_of : Stmt := top 20
theorem sc_step_of : FnScope ["deed", "at", "year", "totals", "rooms", "share"] ["deed", "at", "year", "totals", "rooms"] (defScope s_step_of) := scF
theorem ok_step_of {ca : Ca} (D : DefAt K mg "step_of" s_step_of) (T : Txt K mg ca) (G_check_room : FnAt P w K mg base (CXD P w) 3 "check_room" ["name", "amount", "at", "totals", "rooms"] (spCheckR ca.Full)) (G_share_of : FnAt P w K mg base (CXD P w) 4 "share_of" ["deed", "at", "totals", "rooms"] (spShareR ca.Lacking)) (G_times : FnAt P w K mg base CX0 2 "times" ["one", "other"] (spTimes)) : FnAt P w K mg base (CXD P w) 5 "step_of" ["deed", "at", "year", "totals", "rooms"] (spStepR ca.Full ca.Lacking) := by
 refine D.okD sc_step_of (fun vs H Q E h => ?_) (fun _ _ _ _ _ _ us hl => match us, hl with | [_, _, _, _, _], _ => rfl) (fun f cdv A outer s H vs Q E hr h => ?_)
 ·obtain ⟨v, d, n, yr, ps, t, pt, pr, kvt, kvr, i, rfl, n0, n1, hs, dv0, hy, ok, hI, hi, hro, k, kl, kf⟩ := h; rfl
 ·obtain ⟨v, d, n, yr, ps, t, pt, pr, kvt, kvr, i, rfl, n0, n1, hs, dv0, hy, ok, hI, hi, hro, k, kl, kf⟩ := h
  have nd := sc_step_of.nd
  refine ⟨_, (pss_cons (ps_if (pt_cmpR op_eq (pixT (pv 0) pe_int) pe_str (nomark _)) (pss_cons (ps_expr (pe_fn G_check_room hr (by rfl) passD (pa_cons (pixT (pv 0) pe_int) (pa_cons (pixT (pv 0) pe_int) (pa_cons (pv 1) (pa_cons (pv 3) (pa_cons (pv 4) pa_nil)))))))
   (pss_one (ps_ret (pe_tup (pa_cons pe_str (pa_cons (pe_tup (pa_cons (pixT (pv 0) pe_int) (pa_cons (pv 2) pa_nil))) (pa_cons (pixT (pv 0) pe_int) (pa_cons (pixT (pv 0) pe_int) pa_nil)))))))) pss_nil)
   (pss_cons (ps_set (i := 5) nd rfl (Or.inl rfl) (pe_fn G_share_of hr (by rfl) passD (pa_cons (pv 0) (pa_cons (pv 1) (pa_cons (pv 3) (pa_cons (pv 4) pa_nil))))))
   (pss_cons (ps_expr (pe_fn G_check_room hr (by rfl) passD (pa_cons (pixT (pv 0) pe_int) (pa_cons (pfn G_times hr (pa_cons (pe_dget (hu_of hr) (pv 3) (pixT (pv 0) pe_int) (fun _ _ => rfl)) (pa_cons (pv 5) pa_nil))) (pa_cons (pv 1) (pa_cons (pv 3) (pa_cons (pv 4) pa_nil)))))))
   (pss_one (ps_ret (pe_tup (pa_cons pe_str (pa_cons (pixT (pv 0) pe_int) (pa_cons (pixT (pv 0) pe_int) (pa_cons (pv 5) pa_nil)))))))))), ?_⟩
  have brm : ∀ {z : Str} {m : Rat}, rmF ps z = some m -> Bd 2000 m := fun {z m} e => ((hro z m (rmF_mem e).2).bd (by lia)).mono (by decide)
  cases hp : isP d with
  | false =>
   cases d with
   | br z x r =>
    obtain ⟨a, f, rfl, ha, hf⟩ := dv0
    have br : Bd 2000 r := (ok.2.2.bd (by lia)).mono (by decide)
    have bt : Bd 2000 (t x) := ((hI.sz x (ck_sub ok.1)).bd (by lia)).mono (by decide)
    refine ⟨_, rfl, a, _, _, _, rfl, rfl, SqT.of ha, rfl, rfl, _, rfl, ?_⟩
    refine dec_true rfl ?_
    refine ⟨_, rfl, a, _, _, _, rfl, rfl, SqT.of ha, rfl, _, rfl, a, _, _, _, rfl, rfl, SqT.of ha, rfl, _, rfl, _, rfl, _, rfl, x, f, n, ps, t, pt, pr, kvt, kvr, r, rfl, n0, n1, hs, ck_sub ok.1, hf, br, bt, (fun m e => brm e), (fun H1 s1 go => ?_), fun m e lt => kf ⟨hy, (fun z => nomatch z), m, e, lt⟩⟩
    have ha1 := s1 _ _ ha
    refine ⟨_, rfl, a, _, _, _, rfl, rfl, SqT.of ha1, rfl, _, rfl, sz (by simp), fun l hl => ?_⟩
    have t2 := Same.upd (o := .tup [V.str z, .int yr]) hl
    refine ⟨_, rfl, a, _, _, _, rfl, rfl, SqT.of (t2 _ _ ha1), rfl, _, rfl, a, _, _, _, rfl, rfl, SqT.of (t2 _ _ ha1), rfl, sz (by simp), fun l2 hl2 => ?_⟩
    have t3 := Same.upd (o := .tup [V.str "bring", .ref l, .str x, f]) hl2
    exact k _ _ (.br z yr x r) (s1.trans (t2.trans t3)) ⟨l2, l, f, rfl, upd_same, t3 _ _ upd_same, hf.same (s1.trans (t2.trans t3))⟩ rfl go
   | yr => exact absurd rfl hy
   | _ => cases hp
  | true =>
   obtain ⟨a, ys, rfl, ha, e0, e1, e2⟩ := dv0.pass hy
   have e1 := e1 hp
   have nb : ¬ V.str (kdD d) = V.str "bring" := fun e => by
    have := (kd_br.mp e).1
    rw [hp] at this; cases this
   refine ⟨_, rfl, a, _, _, _, rfl, rfl, SqT.of ha, e0, rfl, _, rfl, ?_⟩
   refine dec_false nb ?_
   refine ⟨_, rfl, _, rfl, _, rfl, _, rfl, .ref a, d, n, ps, t, pt, pr, kvt, kvr, i, rfl, n0, n1, hs, dv0, hp, ok, hI, hi, hro, (fun w H1 s1 f1 le => ?_), fun lt => kl ⟨hp, lt⟩⟩
   have P := PsL.of hI hro hi hp ok le
   have hs1 := hs.same s1
   have ha1 := s1 _ _ ha
   obtain ⟨ux, dx, fux⟩ := hs1.tot (ck_sub P.x)
   have bx : Bd 2000 (t (frD d)) := ((hI.sz _ (ck_sub P.x)).bd (by lia)).mono (by decide)
   have by' : Bd 2000 (t (toD d)) := ((hI.sz _ P.y).bd (by lia)).mono (by decide)
   refine ⟨_, rfl, a, _, _, _, rfl, rfl, SqT.of ha1, e2, _, rfl, _, rfl, a, _, _, _, rfl, rfl, SqT.of ha1, e1, pt, ux, rfl, dx, _, rfl, spTimes.of (E := E0) rfl fux f1 (bx.mono (by decide)) (P.b.mono (by decide)) fun v2 H2 s2 f2 => ?_⟩
   rw [P.sh] at f2
   have hs2 := hs1.same s2
   refine ⟨_, rfl, _, rfl, _, rfl, toD d, v2, n, ps, t, pt, pr, kvt, kvr, gsD ps t d, rfl, n0, n1, hs2, P.y, f2, (gs_bd hI hro hi ok).mono (by decide), by', (fun m e => brm e), (fun H3 s3 rm => ?_), fun m e lt => (kf ⟨hy, (fun _ => le), m, e, lt⟩).same (s1.trans s2)⟩
   have s13 := s2.trans s3
   have ha3 := s13 _ _ ha1
   refine ⟨_, rfl, a, _, _, _, rfl, rfl, SqT.of ha3, e1, _, rfl, a, _, _, _, rfl, rfl, SqT.of ha3, e2, _, rfl, sz (by simp), fun l hl => ?_⟩
   have t4 := Same.upd (o := .tup [V.str "pass", .str (frD d), .str (toD d), w]) hl
   exact k _ _ (.ps (frD d) (toD d) (shD ps t d)) (s1.trans (s13.trans t4)) ⟨l, w, rfl, upd_same, f1.same (s13.trans t4)⟩ (P.st yr) (go_of (d := d) hp le rm)
noncomputable abbrev s_add_step : Stmt := top 21
theorem sc_add_step : FnScope ["totals", "step", "amount"] ["totals", "step"] (defScope s_add_step) := scF
theorem ok_add_step {ca : Ca} (D : DefAt K mg "add_step" s_add_step) (T : Txt K mg ca) (G_plus : FnAt P w K mg base CX0 2 "plus" ["one", "other"] (spPlus)) (G_times : FnAt P w K mg base CX0 2 "times" ["one", "other"] (spTimes)) (G_minus : FnAt P w K mg base CX0 3 "minus" ["one", "other"] (spMinus)) : FnAt P w K mg base CX0 4 "add_step" ["totals", "step"] (spAddStep) := by
 refine D.ok sc_add_step (fun vs H Q E h => ?_) (fun _ _ _ _ _ _ us hl => match us, hl with | [_, _], _ => rfl) (fun f cdv A outer s H vs Q E hr h => ?_)
 ·obtain ⟨pt, w, s, kv, L, t, rfl, ht, row, l8, sv, fit, k⟩ := h; rfl
 ·obtain ⟨pt, w, s, kv, L, t, rfl, ht, row, l8, sv, fit, k⟩ := h
  have nd := sc_add_step.nd
  refine ⟨_, (pss_one (ps_if (pt_cmpR op_eq (pixT (pv 1) pe_int) pe_str (nomark _)) (pss_one (ps_dput (hu_of hr) (pv 0) (pixT (pv 1) pe_int) (pfn G_plus hr (pa_cons (pe_dget (hu_of hr) (pv 0) (pixT (pv 1) pe_int) (fun _ _ => rfl)) (pa_cons (pixT (pv 1) pe_int) pa_nil))) rfl)) (pss_cons (ps_set (i := 2) nd rfl (Or.inl rfl) (pfn G_times hr (pa_cons (pe_dget (hu_of hr) (pv 0) (pixT (pv 1) pe_int) (fun _ _ => rfl)) (pa_cons (pixT (pv 1) pe_int) pa_nil))))
   (pss_cons (ps_dput (hu_of hr) (pv 0) (pixT (pv 1) pe_int) (pfn G_minus hr (pa_cons (pe_dget (hu_of hr) (pv 0) (pixT (pv 1) pe_int) (fun _ _ => rfl)) (pa_cons (pv 2) pa_nil))) rfl)
   (pss_one (ps_dput (hu_of hr) (pv 0) (pixT (pv 1) pe_int) (pfn G_plus hr (pa_cons (pe_dget (hu_of hr) (pv 0) (pixT (pv 1) pe_int) (fun _ _ => rfl)) (pa_cons (pv 2) pa_nil))) rfl)))))), ?_⟩
  have len : kv.length <= L.length := row.lenO fun z hz => all_sub hz
  have get : ∀ {H1 : Hp} {kv1 : List (Key × V)} {t1 : Str -> Rat}, H1 pt = some (.dK kv1) -> RowAt H1 kv1 (all L t1) -> ∀ {z : Str}, z ∈ L -> ∃ v, DGet H1 pt (.str z) (some v) /\ FrV H1 v (t1 z) := fun {H1 kv1 t1} h1 r1 {z} hz => by
   obtain ⟨v, e, f⟩ := r1.get hz
   refine ⟨v, ?_, f⟩
   have g := DGet.k (k := .inr z) h1
   rw [e] at g; exact g
  cases s with
  | br z n x r =>
   obtain ⟨a, l, f, rfl, ha, hl, hf⟩ := sv
   obtain ⟨hx, bt, br⟩ := fit
   obtain ⟨u, dg, fu⟩ := get ht row hx
   refine ⟨_, rfl, a, _, _, _, rfl, rfl, SqT.of ha, rfl, rfl, _, rfl, ?_⟩
   refine dec_true rfl ?_
   refine ⟨_, rfl, _, rfl, a, _, _, _, rfl, rfl, SqT.of ha, rfl, pt, u, rfl, dg, _, rfl, a, _, _, _, rfl, rfl, SqT.of ha, rfl, _, _, t x, r, rfl, fu, hf, bt.mono (by decide), br.mono (by decide), fun v1 H1 s1 f1 => ?_⟩
   have ht1 := s1 _ _ ht
   refine ⟨_, rfl, _, rfl, a, _, _, _, rfl, rfl, SqT.of (s1 _ _ ha), rfl, pt, upd H1 pt (.dK (putK kv (.inr x) v1)), rfl, DPut.k (k := .inr x) ht1 (sz (by lia)), ?_⟩
   refine k _ (putK kv (.inr x) v1) (fun c o e n => by rw [upd_ne n]; exact s1 _ _ e) upd_same ?_
   have r1 := ((row.same fun _ _ g => g.same s1).put (z := x) f1).same fun v r g => g.tup (tup_of (o := .dK (putK kv (.inr x) v1)) ht1 (fun _ z => nomatch z))
   rw [all_put hx] at r1
   exact r1
  | ps x y q =>
   obtain ⟨a, f, rfl, ha, hf⟩ := sv
   obtain ⟨hx, hy, hxy, bx, by', bq, bm⟩ := fit
   obtain ⟨u, dg, fu⟩ := get ht row hx
   refine ⟨_, rfl, a, _, _, _, rfl, rfl, SqT.of ha, rfl, rfl, _, rfl, ?_⟩
   refine dec_false (by decide +kernel) ?_
   refine ⟨_, rfl, _, rfl, a, _, _, _, rfl, rfl, SqT.of ha, rfl, pt, u, rfl, dg, _, rfl, a, _, _, _, rfl, rfl, SqT.of ha, rfl, spTimes.of (E := E0) rfl fu hf (bx.mono (by decide)) (bq.mono (by decide)) fun v1 H1 s1 f1 => ?_⟩
   have ht1 := s1 _ _ ht
   have row1 := row.same fun _ _ g => g.same s1
   have ha1 := s1 _ _ ha
   obtain ⟨u1, dg1, fu1⟩ := get ht1 row1 hx
   refine ⟨_, rfl, _, rfl, a, _, _, _, rfl, rfl, SqT.of ha1, rfl, pt, u1, rfl, dg1, _, rfl, _, _, t x, t x * q, rfl, fu1, f1, bx.mono (by decide), bm.mono (by decide), fun v2 H2 s2 f2 => ?_⟩
   have ht2 := s2 _ _ ht1
   have ha2 := s2 _ _ ha1
   refine ⟨_, rfl, _, rfl, a, _, _, _, rfl, rfl, SqT.of ha2, rfl, pt, upd H2 pt (.dK (putK kv (.inr x) v2)), rfl, DPut.k (k := .inr x) ht2 (sz (by lia)), ?_⟩
   have tu3 : ∀ b ys, H2 b = some (.tup ys) -> upd H2 pt (.dK (putK kv (.inr x) v2)) b = some (.tup ys) := tup_of ht2 (fun _ z => nomatch z)
   have row3 := ((row1.same fun _ _ g => g.same s2).put (z := x) f2).same fun v r g => g.tup tu3
   rw [all_put hx] at row3
   have f13 := (f1.same s2).tup tu3
   have ha3 := tu3 _ _ ha2
   have ht3 := upd_same (H := H2) (a := pt) (o := .dK (putK kv (.inr x) v2))
   have k3 : ∀ c o, H c = some o -> c ≠ pt -> upd H2 pt (.dK (putK kv (.inr x) v2)) c = some o := fun c o e n => by rw [upd_ne n]; exact s2 _ _ (s1 _ _ e)
   have len3 := length_putK kv (.inr x) v2
   generalize upd H2 pt (.dK (putK kv (.inr x) v2)) = H3 at *
   generalize putK kv (.inr x) v2 = kv3 at *
   obtain ⟨u3, dg3, fu3⟩ := get ht3 row3 hy
   have ey : (if y = x then t x - t x * q else t y) = t y := if_neg fun e => hxy e.symm
   rw [ey] at fu3
   refine ⟨_, rfl, _, rfl, a, _, _, _, rfl, rfl, SqT.of ha3, rfl, pt, u3, rfl, dg3, _, rfl, _, _, t y, t x * q, rfl, fu3, f13, by'.mono (by decide), bm.mono (by decide), fun v4 H4 s4 f4 => ?_⟩
   have ht4 := s4 _ _ ht3
   refine ⟨_, rfl, _, rfl, a, _, _, _, rfl, rfl, SqT.of (s4 _ _ ha3), rfl, pt, upd H4 pt (.dK (putK kv3 (.inr y) v4)), rfl, DPut.k (k := .inr y) ht4 (sz (by lia)), ?_⟩
   refine k _ (putK kv3 (.inr y) v4) (fun c o e n => by rw [upd_ne n]; exact s4 _ _ (k3 c o e n)) upd_same ?_
   have row5 := ((row3.same fun _ _ g => g.same s4).put (z := y) f4).same fun v r g => g.tup (tup_of (o := .dK (putK kv3 (.inr y) v4)) ht4 (fun _ z => nomatch z))
   rw [all_put hy] at row5
   have ef : (fun z => if z = y then t y + t x * q else if z = x then t x - t x * q else t z) = adS t (.ps x y q) := by
    funext z
    show _ = if z = x then t x - t x * q else if z = y then t y + t x * q else t z
    by_cases h1 : z = x
    ·rw [if_pos h1, if_neg (fun h2 => hxy (h1.symm.trans h2)), if_pos h1]
    ·rw [if_neg h1, if_neg h1]
   rw [<- ef]
   exact row5
noncomputable abbrev s_steps_of : Stmt := top 22
theorem sc_steps_of : FnScope ["house", "totals", "year", "deeds", "rooms", "now", "steps", "at", "deed", "step"] ["house", "totals", "year", "deeds"] (defScope s_steps_of) := scF
theorem ok_steps_of {ca : Ca} (D : DefAt K mg "steps_of" s_steps_of) (T : Txt K mg ca) (G_rooms_of : FnAt P w K mg base CX0 1 "rooms_of" ["house"] (spRooms K)) (G_step_of : FnAt P w K mg base (CXD P w) 5 "step_of" ["deed", "at", "year", "totals", "rooms"] (spStepR ca.Full ca.Lacking)) (G_add_step : FnAt P w K mg base CX0 4 "add_step" ["totals", "step"] (spAddStep)) : FnAt P w K mg base (CXD P w) 6 "steps_of" ["house", "totals", "year", "deeds"] (spStepsR K ca.Full ca.Lacking) := by
 refine D.okD sc_steps_of (fun vs H Q E h => ?_) (fun _ _ _ _ _ _ us hl => match us, hl with | [_, _, _, _], _ => rfl) (fun f cdv A outer s H vs Q E hr h => ?_)
 ·obtain ⟨ah, pt, n, ad, xs, ps, kvt, ys, ds, rfl, hS, hP, hH, hro, ht, rt, hD, hPd, hG, h42, kk⟩ := h; rfl
 ·obtain ⟨ah, pt, n, ad, xs, ps, kvt, ys, ds, rfl, hS, hP, hH, hro, ht, rt, hD, hPd, hG, h42, kk⟩ := h
  have nd := sc_steps_of.nd
  refine ⟨_, (pss_cons (ps_set (i := 4) nd rfl (Or.inl rfl) (pfn G_rooms_of hr (pa_cons (pv 0) pa_nil)))
   (pss_cons (ps_set (i := 5) nd rfl (Or.inl rfl) (pe_callTy call_dictK (by rfl) T.z_dict bt_dict (pa_cons (pv 1) pa_nil)))
   (pss_cons (ps_set (i := 6) nd rfl (Or.inl rfl) (pe_lst pa_nil))
   (pss_cons (ps_for PassesOwn.leaving rfl (pi_enum (K := K) rfl (by rfl) T.z_enumerate (pa_cons (pv 3) pa_nil)) (pg_tup rfl (pgs_cons (pg_name (i := 7) nd rfl (Or.inl rfl)) (pgs_cons (pg_name (i := 8) nd rfl (Or.inl rfl)) pgs_nil))) (pss_one (ps_if (pt_cmpR op_eq (pixT (pv 8) pe_int) pe_str (nomark _)) (pss_one (ps_aug (i := 2) nd rfl (Or.inl rfl) pe_int ip_add)) (pss_cons (ps_set (i := 9) nd rfl (Or.inl rfl) (pe_fn G_step_of hr (by rfl) passD (pa_cons (pv 8) (pa_cons (pv 7) (pa_cons (pv 2) (pa_cons (pv 5) (pa_cons (pv 4) pa_nil)))))))
   (pss_cons (ps_expr (pfn G_add_step hr (pa_cons (pv 5) (pa_cons (pv 9) pa_nil))))
   (pss_one (ps_expr (pe_bm PySem.F.plainAttrs_list PySem.F.slot_list_append PySem.F.type_list_append mt_append (pv 6) (pa_cons (pv 9) pa_nil)))))))))
   (pss_one (ps_ret (pe_tup (pa_cons (pv 6) (pa_cons (pv 5) pa_nil))))))))), ?_⟩
  refine ⟨_, rfl, ah, xs, ps, rfl, hS, hP, hH, fun pr H1 kvr hpr s1 h1 rr => ?_⟩
  refine ⟨_, rfl, pt, kvt, rfl, s1 _ _ ht, fun pn hpn => ?_⟩
  have t2 := Same.upd (o := .dK kvt) hpn
  refine ⟨sz (by simp), fun pl hpl => ?_⟩
  have t3 := t2.trans (Same.upd (o := .lst []) hpl)
  have s3 := s1.trans t3
  have hn3 : upd (upd H1 pn (.dK kvt)) pl (.lst []) pn = some (.dK kvt) := (Same.upd (o := .lst []) hpl) _ _ upd_same
  have hl3 := upd_same (H := upd H1 pn (.dK kvt)) (a := pl) (o := .lst [])
  have hr3 := t3 _ _ h1
  have rt3 := rt.same fun _ _ g => g.same s3
  have rr3 := rr.same fun _ _ g => g.same t3
  have npn0 : H pn = none := s1.free hpn
  have npl0 : H pl = none := s1.free (t2.free hpl)
  have nln : pl ≠ pn := fun e => by rw [e, upd_same] at hpl; cases hpl
  have nrn : pr ≠ pn := ne_of_none h1 hpn
  have nrl : pr ≠ pl := ne_of_none (t2 _ _ h1) hpl
  generalize upd (upd H1 pn (.dK kvt)) pl (.lst []) = H3 at *
  refine ⟨_, rfl, ad, _, rfl, s3.seq hD, ?_⟩
  refine for_enum (xs := ys) (fun j σ H4 => j <= ds.length /\ ∃ (v7 v8 v9 : Option V) (ws : List V) (kv : List (Key × V)), σ = [some (.ref ah), some (.ref pt), some (.int (run ps n (ds.take j)).n), some (.ref ad), some (.ref pr), some (.ref pn), some (.ref pl), v7, v8, v9] /\ Same H H4 /\ H4 pl = some (.lst ws) /\ Paired (StV H4) ws (run ps n (ds.take j)).ss /\ ws.length <= j /\ H4 pn = some (.dK kv) /\ RowAt H4 kv (all (allN ps) (run ps n (ds.take j)).t) /\ H4 pr = some (.dK kvr) /\ RowAt H4 kvr (rmF ps)) ⟨Nat.zero_le _, none, none, none, [], kvt, rfl, s3, hl3, .nil, Nat.le_refl _, hn3, rt3, hr3, rr3⟩ ?_ ?_ ?_
  ·rintro j σ H4 hj ⟨_, v7, v8, v9, ws, kv, rfl, s4, hl4, hW, lw, hn4, rt4, hr4, rr4⟩
   exact s4.seq hD
  ·rintro j x T σ H4 hx ⟨hjl, v7, v8, v9, ws, kv, rfl, s4, hl4, hW, lw, hn4, rt4, hr4, rr4⟩ hT
   have tT := Same.upd (o := .tup [.int (j : Nat), x]) hT
   refine ⟨T, _, rfl, SqT.of upd_same, rfl, _, _, rfl, _, _, rfl, rfl, ?_⟩
   have s5 := s4.trans tT
   have hl5 := tT _ _ hl4
   have hW5 := steps_same hW tT
   have hn5 := tT _ _ hn4
   have rt5 := rt4.same fun _ _ g => g.same tT
   have hr5 := tT _ _ hr4
   have rr5 := rr4.same fun _ _ g => g.same tT
   generalize upd H4 T (.tup [.int (j : Nat), x]) = H5 at *
   have hI := Goes.inT hro hG j hjl
   have hs5 : Hs H5 ps (run ps n (ds.take j)).t pn pr kv kvr := ⟨hn5, rt5, hr5, rr5⟩
   by_cases hj : j < ds.length
   rotate_left
   ·have hjd : j = ds.length := by lia
    have hx' : j < ys.length := (List.getElem?_eq_some_iff.mp hx).1
    rcases kk with ⟨hlen, _⟩ | ⟨v, d, hv, dv0, ok, rf⟩
    ·lia
    have dv5 := dv0.same s5
    have hxv : x = v := by rw [hjd, hv] at hx; exact (Option.some.inj hx).symm
    subst hxv
    have et : ds.take j = ds := by rw [hjd, List.take_length]
    have hy : d ≠ .yr := by
     rcases rf with ⟨lk, _⟩ | ⟨fu, _⟩
     ·intro e; subst e; cases lk.1
     ·exact fu.1
    obtain ⟨a, zs, rfl, ha, e0⟩ := dv5.kd
    refine ⟨_, rfl, a, _, _, _, rfl, rfl, SqT.of ha, e0, rfl, _, rfl, ?_⟩
    refine dec_false (fun e => hy (kd_yr.mp e)) ?_
    refine ⟨_, rfl, _, rfl, _, rfl, _, rfl, _, rfl, .ref a, d, (j : Nat), (run ps n (ds.take j)).n, ps, (run ps n (ds.take j)).t, pn, pr, kv, kvr, 2 * j, rfl, by lia, by lia, hs5, dv5, hy, ok, hI, by lia, hro, (fun w H6 s s6 sv es go => ?_), (fun lk => ?_), (fun fu => ?_)⟩
    ·rw [et] at go
     rcases rf with ⟨lk, _⟩ | ⟨fu, _⟩
     ·exact absurd go (Go_lk lk)
     ·exact absurd go (Go_fu fu)
    ·rw [et] at lk
     rcases rf with ⟨_, r⟩ | ⟨fu, _⟩
     ·rw [hjd]; exact r.same s5
     ·have h1 := fu.2.1 lk.1
      have h2 := lk.2
      grind
    ·rw [et] at fu
     rcases rf with ⟨lk, _⟩ | ⟨_, r⟩
     ·have h1 := fu.2.1 lk.1
      have h2 := lk.2
      grind
     ·rw [hjd]; exact r.same s5
   have hx2 : (ys.take ds.length)[j]? = some x := by rw [List.getElem?_take_of_lt hj]; exact hx
   obtain ⟨d, hd, dv0⟩ := paired_get hPd hx2
   have dv5 := dv0.same s5
   obtain ⟨ok, go⟩ := hG j d hd
   have en := take_one hd
   have er := run_snoc ps n (ds.take j) d
   rw [<- en] at er
   rw [er]
   let R := run ps n (ds.take j)
   obtain ⟨a, zs, rfl, ha, e0⟩ := dv5.kd
   refine ⟨_, rfl, a, _, _, _, rfl, rfl, SqT.of ha, e0, rfl, _, rfl, ?_⟩
   by_cases hy : d = .yr
   ·subst hy
    refine dec_true rfl ?_
    refine ⟨_, rfl, _, _, rfl, rfl, ?_⟩
    refine ⟨hj, _, _, _, ws, kv, rfl, s5, hl5, ?_, by lia, hn5, rt5, hr5, rr5⟩
    show Paired (StV H5) ws ((run ps n (ds.take j)).ss ++ [])
    rw [List.append_nil]; exact hW5
   ·refine dec_false (fun e => hy (kd_yr.mp e)) ?_
    refine ⟨_, rfl, _, rfl, _, rfl, _, rfl, _, rfl, .ref a, d, (j : Nat), (run ps n (ds.take j)).n, ps, (run ps n (ds.take j)).t, pn, pr, kv, kvr, 2 * j, rfl, by lia, by lia, hs5, dv5, hy, ok, hI, by lia, hro, (fun w H6 s s6 sv es _ => ?_), (fun lk => absurd go (Go_lk lk)), (fun fu => absurd go (Go_fu fu))⟩
    have hs6 := hs5.same s6
    have eyr : yrD d = 0 := by cases d <;> first | rfl | exact absurd rfl hy
    have fit : FitS (allN ps) (run ps n (ds.take j)).t s /\ adS (run ps n (ds.take j)).t s = ptT ps (run ps n (ds.take j)).t d := by
     cases hp : isP d with
     | true =>
      have P := PsD.of hI hro (by lia) hp ok go
      rw [P.st] at es
      have es := (List.cons.inj es).1
      subst es
      refine ⟨⟨ck_sub P.x, P.y, P.ne, ((hI.sz _ (ck_sub P.x)).bd (by lia)).mono (by decide), ((hI.sz _ P.y).bd (by lia)).mono (by decide), P.b.mono (by decide), ?_⟩, ?_⟩
      ·rw [P.sh]; exact (P.g.bd (by lia)).mono (by decide)
      ·show mvT (frD d) (toD d) ((run ps n (ds.take j)).t (frD d) * shD ps (run ps n (ds.take j)).t d) _ = _
       rw [P.sh, P.pt]
     | false =>
      cases d with
      | br z x r =>
       have es := (List.cons.inj es).1
       subst es
       exact ⟨⟨ck_sub ok.1, ((hI.sz _ (ck_sub ok.1)).bd (by lia)).mono (by decide), (ok.2.2.bd (by lia)).mono (by decide)⟩, rfl⟩
      | yr => exact absurd rfl hy
      | _ => cases hp
    refine ⟨_, rfl, _, rfl, pn, w, s, kv, allN ps, (run ps n (ds.take j)).t, rfl, hs6.dt, hs6.rt, (by unfold allN; rw [List.length_map]; exact hH.len), sv, fit.1, fun H7 kv7 k7 hn7 r7 => ?_⟩
    rw [fit.2] at r7
    have tu7 : ∀ b zs, H6 b = some (.tup zs) -> H7 b = some (.tup zs) := fun b zs e => k7 b _ e (ne_of e hs6.dt (by intro z; cases z))
    have hl7 := k7 _ _ (s6 _ _ hl5) nln
    have hr7 := k7 _ _ hs6.dr nrn
    have s07 : Same H H7 := fun c o e => k7 _ _ (s6 _ _ (s5 _ _ e)) (ne_of_none e npn0)
    refine ⟨_, rfl, .inl ⟨rfl, _, SqL.of hl7⟩, _, rfl, pl, _, _, rfl, rfl, hl7, sz (by lia), ?_⟩
    have tu8 : ∀ b zs, H7 b = some (.tup zs) -> upd H7 pl (.lst (ws ++ [w])) b = some (.tup zs) := tup_of hl7 (fun _ z => nomatch z)
    refine ⟨hj, some (.int (j : Nat)), some (.ref a), some w, ws ++ [w], kv7, ?_, s07.updD npl0, upd_same, ?_, by rw [List.length_append]; show ws.length + 1 <= j + 1; lia, by rw [upd_ne nln.symm]; exact hn7, r7.same fun _ _ g => g.tup tu8, by rw [upd_ne nrl]; exact hr7, (hs6.rr.same fun _ _ g => g.tup tu7).same fun _ _ g => g.tup tu8⟩
    ·have en2 : (adv ps (run ps n (ds.take j)) d).n = (run ps n (ds.take j)).n := by
      show (run ps n (ds.take j)).n + yrD d = _
      rw [eyr, Int.add_zero]
     rw [en2]; rfl
    ·show Paired _ _ ((run ps n (ds.take j)).ss ++ stD ps (run ps n (ds.take j)).t (run ps n (ds.take j)).n d)
     rw [es]
     exact Paired.snoc (Paired.mapP hW5 fun _ _ f => ((f.same s6).tup tu7).tup tu8) ((sv.tup tu7).tup tu8)
  ·rintro σ H4 ⟨hjl, v7, v8, v9, ws, kv, rfl, s4, hl4, hW, lw, hn4, rt4, hr4, rr4⟩
   rcases kk with ⟨_, k⟩ | ⟨v, d, hv, _⟩
   rotate_left
   ·have := (List.getElem?_eq_some_iff.mp hv).1
    lia
   refine ⟨_, rfl, _, rfl, sz (by simp), fun l hl => ?_⟩
   exact k l _ (s4.trans (Same.upd hl))
noncomputable abbrev s__law_cell_at : Stmt := top 24
theorem sc__law_cell_at : FnScope ["_law_script", "_law_k"] ["_law_script", "_law_k"] (defScope s__law_cell_at) := scF
theorem ok__law_cell_at {ca : Ca} (D : DefAt K mg "_law_cell_at" s__law_cell_at) (T : Txt K mg ca) : FnAt P w K mg base CX0 1 "_law_cell_at" ["_law_script", "_law_k"] (spCell K) := by
 refine D.ok sc__law_cell_at (fun vs H Q E h => ?_) (fun _ _ _ _ _ _ us hl => match us, hl with | [_, _], _ => rfl) (fun f cdv A outer s H vs Q E hr h => ?_)
 ·obtain ⟨a, ns, j, rfl, hS, hj, k⟩ := h; rfl
 ·obtain ⟨a, ns, j, rfl, hS, hj, k⟩ := h
  have nd := sc__law_cell_at.nd
  refine ⟨_, (pss_cons (ps_if (pt_cmpR op_lt (pv 1) (pe_callB (call_len' (K := K) rfl) (by rfl) T.z_len PySem.boot_len (pa_cons (pv 0) pa_nil)) (nomark _)) (pss_one (ps_ret (pixL (pv 0) (pv 1)))) pss_nil)
   (pss_one (ps_ret pe_int))), ?_⟩
  refine ⟨_, rfl, _, rfl, _, _, rfl, .inl ⟨_, hS, rfl⟩, _, _, rfl, rfl, _, rfl, ?_⟩
  refine ite2 (fun h1 => ?_) (fun h1 => ?_)
  ·obtain ⟨c, hc⟩ := map_at hj (of_decide_eq_true h1)
   refine ⟨_, rfl, _, rfl, a, _, j, _, rfl, rfl, hS, hc, k c⟩
  ·exact k 0
noncomputable abbrev s__law_mixed : Stmt := top 25
theorem sc__law_mixed : FnScope ["_law_cell", "_law_k", "_law_one"] ["_law_cell", "_law_k"] (defScope s__law_mixed) := scF
theorem ok__law_mixed {ca : Ca} (D : DefAt K mg "_law_mixed" s__law_mixed) (T : Txt K mg ca) : FnAt P w K mg base CX0 1 "_law_mixed" ["_law_cell", "_law_k"] (spMixed2) := by
 refine D.ok sc__law_mixed (fun vs H Q E h => ?_) (fun _ _ _ _ _ _ us hl => match us, hl with | [_, _], _ => rfl) (fun f cdv A outer s H vs Q E hr h => ?_)
 ·obtain ⟨c, j, rfl, ⟨j0, j1⟩, k⟩ := h; rfl
 ·obtain ⟨c, j, rfl, ⟨j0, j1⟩, k⟩ := h
  have nd := sc__law_mixed.nd
  refine ⟨_, (pss_cons (ps_set (i := 2) nd rfl (Or.inl rfl) (pe_op op_modN (pe_op op_mulB (pe_op op_add (pe_op op_add (pe_op op_modN (pv 0) pe_int) (pe_op op_mulB (pe_op op_mulB pe_int (pv 1)) (pv 1))) (pv 1)) pe_int) pe_int))
   (pss_one (ps_ret (pe_op op_modN (pe_op op_mulB (pv 2) (pv 2)) pe_int)))), ?_⟩
  have q1 := fmod_lt (c := c) (m := 1000000007) (by decide)
  have e1 : 0 <= 101 * j /\ 101 * j <= 10100 := by lia
  have e2 : 0 <= 101 * j * j /\ 101 * j * j <= 10100 * 100 := ⟨Int.mul_nonneg e1.1 j0, Int.mul_le_mul e1.2 j1 j0 (by lia)⟩
  refine ⟨_, rfl, _, _, rfl, rfl, (show (1000000007 : Int) ≠ 0 by decide), _, rfl, _, _, rfl, rfl, mulOk_of 64 (by decide) (Nat.lt_of_le_of_lt (m := 100) (by lia) (by decide)) (by decide), _, rfl, _, _, rfl, rfl, mulOk_of 64 (Nat.lt_of_le_of_lt (m := 10100) (by lia) (by decide)) (Nat.lt_of_le_of_lt (m := 100) (by lia) (by decide)) (by decide), _, _, rfl, rfl, _, rfl, _, _, rfl, rfl, _, _, rfl, rfl, mulOk_of 64 (Nat.lt_of_le_of_lt (m := 1002000000) (by lia) (by decide)) (by decide) (by decide), _, _, rfl, rfl, (show (2147483647 : Int) ≠ 0 by decide), ?_⟩
  have q2 := fmod_lt (c := (c.fmod 1000000007 + 101 * j * j + j) * 48271) (m := 2147483647) (by decide)
  refine ⟨_, rfl, _, rfl, _, _, rfl, rfl, mulOk_of 64 (Nat.lt_of_le_of_lt (m := 2147483647) (by lia) (by decide)) (Nat.lt_of_le_of_lt (m := 2147483647) (by lia) (by decide)) (by decide), _, _, rfl, rfl, (show (2147483629 : Int) ≠ 0 by decide), ?_⟩
  exact k _ (fmod_lt (by decide)).1
noncomputable abbrev s__law_names : Stmt := top 26
theorem sc__law_names : FnScope ["_law_cell", "_law_many", "_law_letters", "_law_base", "_law_at", "_law_found", "_law_k", "_law_name", "_law_j"] ["_law_cell", "_law_many"] (defScope s__law_names) := scF
theorem ok__law_names {ca : Ca} (D : DefAt K mg "_law_names" s__law_names) (T : Txt K mg ca) (G__law_mixed : FnAt P w K mg base CX0 1 "_law_mixed" ["_law_cell", "_law_k"] (spMixed2)) : FnAt P w K mg base CX0 2 "_law_names" ["_law_cell", "_law_many"] (spNm 6) := by
 refine D.ok sc__law_names (fun vs H Q E h => ?_) (fun _ _ _ _ _ _ us hl => match us, hl with | [_, _], _ => rfl) (fun f cdv A outer s H vs Q E hr h => ?_)
 ·obtain ⟨c, m, rfl, hm, k⟩ := h; rfl
 ·obtain ⟨c, m, rfl, hm, k⟩ := h
  have nd := sc__law_names.nd
  refine ⟨_, (pss_cons (ps_set (i := 2) nd rfl (Or.inl rfl) pe_str)
   (pss_cons (ps_setcomp ["_law_k"] ["_law_cell"] [0] (i := 3) nd rfl rfl rfl (by rfl) (pi_range1 (by rfl) T.z_range (pa_cons (pe_op op_add pe_int (pe_op op_modN (pv 0) pe_int)) pa_nil)) (fun _ _ _ _ => (pg_name (i := 0) (show List.Nodup (["_law_k", "_law_cell"] : List Str) from by decide) rfl (Or.inl rfl))) (fun _ _ _ _ => pif_none) (fun _ _ _ _ => (pe_op op_modN (pfn G__law_mixed hr (pa_cons (pv 1) (pa_cons (pe_op op_add pe_int (pv 0)) pa_nil))) pe_int)))
   (pss_cons (ps_set (i := 4) nd rfl (Or.inl rfl) (pe_op op_modN (pfn G__law_mixed hr (pa_cons (pv 0) (pa_cons pe_int pa_nil))) (pe_callB (call_len' (K := K) rfl) (by rfl) T.z_len PySem.boot_len (pa_cons (pv 3) pa_nil))))
   (pss_cons (ps_set (i := 5) nd rfl (Or.inl rfl) (pe_lst pa_nil))
   (pss_cons (ps_for PassesOwn.never rfl (pi_range1 (by rfl) T.z_range (pa_cons (pv 1) pa_nil)) (pg_name (i := 6) nd rfl (Or.inl rfl)) (pss_cons (ps_set (i := 7) nd rfl (Or.inl rfl) pe_str)
   (pss_cons (ps_for PassesOwn.never rfl (pi_range1 (by rfl) T.z_range (pa_cons (pe_callB (call_len' (K := K) rfl) (by rfl) T.z_len PySem.boot_len (pa_cons (pv 3) pa_nil)) pa_nil)) (pg_name (i := 8) nd rfl (Or.inl rfl)) (pss_one (ps_set (i := 7) nd rfl (Or.inl rfl) (pe_op op_add_str (pv 7) (pe_ix ix_str (pv 2) (pe_op op_modN (pe_op op_add (pixL (pv 3) (pv 8)) (pe_op op_mulB (pe_op op_mulB pe_int (pv 6)) (pe_callTy call_int1 (by rfl) T.z_int bt_int (pa_cons (pe_cmpR op_eq (pv 8) (pv 4) (nomark _)) pa_nil)))) pe_int) (fun _ _ => rfl))))))
   (pss_one (ps_expr (pe_bm PySem.F.plainAttrs_list PySem.F.slot_list_append PySem.F.type_list_append mt_append (pv 5) (pa_cons (pv 7) pa_nil)))))))
   (pss_one (ps_ret (pv 5)))))))), ?_⟩
  have q8 := fmod_lt (c := c) (m := 8) (by decide)
  refine ⟨_, rfl, _, _, rfl, rfl, (show (8 : Int) ≠ 0 by decide), _, _, rfl, rfl, _, rfl, by lia, by lia, fun D hD => ?_⟩
  refine block_range (fun i σ' H' => ∃ (v : Option V) (bs : List Int), σ' = [v, some (.int c)] /\ Same H H' /\ H' D = some (.lst (bs.map V.int)) /\ bs.length = i) ⟨none, [], rfl, Same.upd hD, upd_same, rfl⟩ ?_ ?_
  ·rintro i σ' H' hi ⟨v, bs, rfl, s1, hd, hl⟩
   have hi : i < (1 + c.fmod 8).toNat := hi
   refine ⟨_, rfl, _, rfl, _, _, rfl, rfl, c, 10 + (0 + (i : Int)), rfl, ⟨by lia, by lia⟩, fun mm hmm => ⟨_, _, rfl, rfl, (show (26 : Int) ≠ 0 by decide), ?_⟩⟩
   refine ⟨_, hd, by rw [List.length_map]; exact sz (by lia), _, bs ++ [mm.fmod 26], rfl, s1.updD hD, ?_, by rw [List.length_append, hl]; rfl⟩
   rw [upd_same, List.map_append]
   rfl
  rintro σ' H1 ⟨v, bs, rfl, s1, hd, hl⟩
  have hl : bs.length = (1 + c.fmod 8).toNat := hl
  have hlen : (bs.map V.int).length = bs.length := List.length_map ..
  refine ⟨_, rfl, c, 9, rfl, ⟨by decide, by decide⟩, fun mm hmm => ⟨_, rfl, _, _, rfl, .inl ⟨_, SqL.of hd, rfl⟩, _, _, rfl, rfl, (show (((bs.map V.int).length : Nat) : Int) ≠ 0 by rw [hlen]; lia), ?_⟩⟩
  have qa := fmod_lt (c := mm) (m := (((bs.map V.int).length : Nat) : Int)) (by rw [hlen]; lia)
  let av : Int := mm.fmod (((bs.map V.int).length : Nat) : Int)
  obtain ⟨a0, ea⟩ : ∃ a0 : Nat, av = (a0 : Nat) := Int.eq_ofNat_of_zero_le qa.1
  have ha0 : a0 < bs.length := by
   have h2 : av < (((bs.map V.int).length : Nat) : Int) := qa.2
   rw [ea, hlen] at h2; lia
  refine ⟨sz (by simp), fun p hp => ?_⟩
  have sp1 := Same.upd (o := .lst []) hp
  refine ⟨_, rfl, _, rfl, by lia, by lia, ?_⟩
  refine for_range (fun i σ H2 => ∃ (v6 v7 v8 : Option V), σ = [some (.int c), some (.int (m : Nat)), some (.str LT), some (.ref D), some (.int av), some (.ref p), v6, v7, v8] /\ Same H1 H2 /\ H2 p = some (.lst (((List.range i).map fun k => nmw bs av k bs.length).map V.str))) ⟨none, none, none, rfl, sp1, upd_same⟩ ?_ ?_
  ·rintro i σ H2 hi ⟨v6, v7, v8, rfl, s2, hp2⟩
   have hi : i < m := by simpa using hi
   have hd2 := s2 _ _ hd
   refine ⟨_, rfl, _, _, rfl, .inl ⟨_, SqL.of hd2, rfl⟩, _, rfl, by rw [hlen]; lia, by rw [hlen]; lia, ?_⟩
   refine for_range (fun j σ H3 => ∃ (v8 : Option V), σ = [some (.int c), some (.int (m : Nat)), some (.str LT), some (.ref D), some (.int av), some (.ref p), some (.int (0 + (i : Int))), some (.str (nmw bs av i j)), v8] /\ H3 = H2) ⟨v8, rfl, rfl⟩ ?_ ?_
   ·rintro j σ H3 hj ⟨v8, rfl, rfl⟩
    have hj : j < bs.length := by
     have hj : j < (((bs.map V.int).length : Nat) : Int).toNat := hj
     rw [hlen] at hj; simpa using hj
    have q26 := fmod_lt (c := bs.getD j 0 + 3 * (i : Int) * (if decide (V.int (j : Nat) = V.int av) = true then 1 else 0)) (m := 26) (by decide)
    refine ⟨_, rfl, _, rfl, _, rfl, _, rfl, D, _, _, _, rfl, rfl, SqL.of hd2, getD_map_at hj, _, rfl, _, _, rfl, rfl, mulOk_of 64 (by decide) (Nat.lt_of_le_of_lt (m := 20) (by lia) (by decide)) (by decide), _, rfl, _, rfl, rfl, .inr ⟨_, rfl, _, _, rfl, rfl, mulOk_of 64 (Nat.lt_of_le_of_lt (m := 60) (by lia) (by decide)) ?_ (by decide), _, _, rfl, rfl, _, _, rfl, rfl, (show (26 : Int) ≠ 0 by decide), _, _, nmc bs av i j, rfl, rfl, sz (by decide), ?_, ?_⟩⟩
    ·refine Nat.lt_of_le_of_lt (m := 1) ?_ (by decide)
     show (if _ then (1 : Int) else 0).natAbs <= 1
     split <;> decide
    ·have e1 : (bs.getD j 0 + 3 * (0 + (i : Int)) * (if decide (V.int (0 + (j : Int)) = V.int av) = true then 1 else 0)) = bs.getD j 0 + 3 * (i : Int) * (if decide (V.int (j : Nat) = V.int av) = true then 1 else 0) := by rw [Int.zero_add, Int.zero_add]
     show atI LT.cps.toList ((bs.getD j 0 + 3 * (0 + (i : Int)) * (if decide (V.int (0 + (j : Int)) = V.int av) = true then 1 else 0)).fmod 26) = _
     rw [e1]
     exact lt_at q26
    ·refine ⟨_, _, rfl, rfl, sz (show (nmw bs av i j).length + 1 <= 1000 by rw [nmw_len]; lia), ?_⟩
     refine ⟨some (.int (0 + (j : Int))), ?_, rfl⟩
     show [_, _, _, _, _, _, _, some (V.str (nmw bs av i j ++ one1 (nmc bs av i j))), _] = _
     rw [nmw_succ]
   ·rintro σ H3 ⟨v8, rfl, rfl⟩
    have ej : (((bs.map V.int).length : Nat) : Int).toNat = bs.length := by rw [hlen]; simp
    refine ⟨_, rfl, .inl ⟨rfl, _, SqL.of hp2⟩, _, rfl, p, _, _, rfl, rfl, hp2, by rw [List.length_map, List.length_map, List.length_range]; exact sz (by lia), ?_⟩
    refine ⟨_, _, _, rfl, s2.updD hp, ?_⟩
    rw [upd_same, List.range_succ, List.map_append, List.map_append, ej]
    rfl
  rintro σ H2 ⟨v6, v7, v8, rfl, s2, hp2⟩
  have hp2 : H2 p = some (.lst (((List.range m).map fun k => nmw bs av k bs.length).map V.str)) := by simpa using hp2
  refine ⟨_, rfl, k p H2 _ (s1.free hp) (s1.trans s2) hp2 (by rw [List.length_map, List.length_range]) ?_ fun z hz => ?_⟩
  ·rw [ea]; exact nmw_nodup ha0 (by lia)
  ·obtain ⟨x, _, rfl⟩ := List.mem_map.mp hz
   exact nmw_lay _ _ _ _
noncomputable abbrev s__law_low : Stmt := top 27
theorem sc__law_low : FnScope ["_law_top", "_law_bottom", "_law_one", "_law_other"] ["_law_top", "_law_bottom"] (defScope s__law_low) := scF
theorem ok__law_low {ca : Ca} (D : DefAt K mg "_law_low" s__law_low) (T : Txt K mg ca) : FnAt P w K mg base CX0 1 "_law_low" ["_law_top", "_law_bottom"] (spLow) := by
 refine D.ok sc__law_low (fun vs H Q E h => ?_) (fun _ _ _ _ _ _ us hl => match us, hl with | [_, _], _ => rfl) (fun f cdv A outer s H vs Q E hr h => ?_)
 ·obtain ⟨t, b, rfl, hb, hbb, k⟩ := h; rfl
 ·obtain ⟨t, b, rfl, hb, hbb, k⟩ := h
  have nd := sc__law_low.nd
  refine ⟨_, (pss_cons (ps_set (i := 2) nd rfl (Or.inl rfl) (pe_callB call_abs (by rfl) T.z_abs bt_abs (pa_cons (pv 0) pa_nil)))
   (pss_cons (ps_set (i := 3) nd rfl (Or.inl rfl) (pv 1))
   (pss_cons (ps_while PassesOwn.never (pt_cmpR op_ne (pv 3) pe_int (nomark _)) (pss_one (ps_par (i := 2) (j := 3) rfl nd rfl rfl (by decide) rfl rfl (pa_cons (pv 3) (pa_cons (pe_op op_modN (pv 2) (pv 3)) pa_nil)) rfl)))
   (pss_one (ps_ret (pe_tup (pa_cons (pe_op op_fdivB (pv 0) (pv 2)) (pa_cons (pe_op op_fdivB (pv 1) (pv 2)) pa_nil)))))))), ?_⟩
  have hb0 : b ≠ 0 := by lia
  have hdv : dv t b = ((Int.gcd t b : Nat) : Int) := by
   unfold dv
   rw [if_neg (by lia)]
  have hd : ∀ i, CDivB i (dv t b) := fun i => divB_of (dv_ne hb0) (Nat.lt_of_le_of_lt (dv_le hb0) hbb)
  refine ⟨_, rfl, t, rfl, ?_⟩
  refine ⟨_, rfl, ?_⟩
  refine while_by (fun σ H1 => ∃ x y : Int, σ = [some (.int t), some (.int b), some (.int x), some (.int y)] /\ H1 = H /\ 0 <= x /\ 0 <= y /\ Int.gcd x y = Int.gcd t b)
   (fun σ _ => match σ with | [_, _, _, some (.int y)] => y.natAbs | _ => 0) ⟨_, b, rfl, rfl, ?_, by lia, ?_⟩ ?_ ?_
  ·show 0 <= (if t < 0 then -t else t)
   split <;> lia
  ·show Int.gcd (if t < 0 then -t else t) b = Int.gcd t b
   split
   ·rw [Int.neg_gcd]
   ·rfl
  ·rintro σ H1 ⟨x, y, rfl, rfl, x0, y0, d⟩
   refine ⟨_, rfl, rfl, _, rfl, ?_⟩
   refine ite2 (fun h1 => ?_) (fun h1 => ?_)
   ·have hy : y ≠ 0 := by
     intro e; subst e; simp at h1
    refine ⟨_, rfl, _, rfl, _, rfl, _, _, rfl, rfl, hy, _, _, rfl, ?_⟩
    exact ⟨⟨_, _, rfl, rfl, y0, (fmod_lt (by lia)).1, (gcd_fmod x y).trans d⟩, Dv.less hy⟩
   ·have hy : y = 0 := by
     by_cases e : y = 0
     ·exact e
     ·exact absurd (by simp [e]) h1
    subst hy
    rw [Int.gcd_zero_right] at d
    have ex : x = dv t b := by rw [hdv, <- d]; lia
    subst ex
    refine ⟨_, rfl, _, rfl, _, _, rfl, rfl, hd _, _, rfl, _, rfl, _, _, rfl, rfl, hd _, sz (by simp), fun p hp => ?_⟩
    exact k _ _ (Same.upd hp) (FrV.newOf (dv_num hb0) (dv_den hb0))
  ·intro σ H1 Q1 Q2 hq h1
   obtain ⟨v, e, h2, c, e2, h3⟩ := h1
   exact ⟨v, e, h2, c, e2, hq _ _ h3⟩
noncomputable abbrev s__law_add : Stmt := top 28
theorem sc__law_add : FnScope ["_law_one", "_law_other"] ["_law_one", "_law_other"] (defScope s__law_add) := scF
theorem ok__law_add {ca : Ca} (D : DefAt K mg "_law_add" s__law_add) (T : Txt K mg ca) (G__law_low : FnAt P w K mg base CX0 1 "_law_low" ["_law_top", "_law_bottom"] (spLow)) : FnAt P w K mg base CX0 2 "_law_add" ["_law_one", "_law_other"] (sp2 4000 (· + ·)) := by
 refine D.ok sc__law_add (fun vs H Q E h => ?_) (fun _ _ _ _ _ _ us hl => match us, hl with | [_, _], _ => rfl) (fun f cdv A outer s H vs Q E hr h => ?_)
 ·obtain ⟨_, _, r, q, rfl, ⟨a, rfl, ha⟩, ⟨b, rfl, hb⟩, br, bq, k⟩ := h; rfl
 ·obtain ⟨_, _, r, q, rfl, ⟨a, rfl, ha⟩, ⟨b, rfl, hb⟩, br, bq, k⟩ := h
  have nd := sc__law_add.nd
  refine ⟨_, (pss_one (ps_ret (pfn G__law_low hr (pa_cons (pe_op op_add (pe_op op_mulB (pixT (pv 0) pe_int) (pixT (pv 1) pe_int)) (pe_op op_mulB (pixT (pv 1) pe_int) (pixT (pv 0) pe_int))) (pa_cons (pe_op op_mulB (pixT (pv 0) pe_int) (pixT (pv 1) pe_int)) pa_nil))))), ?_⟩
  have d1 := rat_den_pos r
  have d2 := rat_den_pos q
  refine ⟨_, rfl, a, _, _, _, rfl, rfl, SqT.of ha, rfl, _, rfl, b, _, _, _, rfl, rfl, SqT.of hb, rfl, _, _, rfl, rfl, mulOk_of 4000 br.num bq.den (by decide), _, rfl, b, _, _, _, rfl, rfl, SqT.of hb, rfl, _, rfl, a, _, _, _, rfl, rfl, SqT.of ha, rfl, _, _, rfl, rfl, mulOk_of 4000 bq.num br.den (by decide), _, _, rfl, rfl, _, rfl, a, _, _, _, rfl, rfl, SqT.of ha, rfl, _, rfl, b, _, _, _, rfl, rfl, SqT.of hb, rfl, _, _, rfl, rfl, mulOk_of 4000 br.den bq.den (by decide), _, _, rfl, Int.mul_pos (by lia) (by lia), ?_, fun v H' s h => ?_⟩
  ·have n1 : ((r.den : Int)).natAbs < 2 ^ 4000 := br.den
   have n2 : ((q.den : Int)).natAbs < 2 ^ 4000 := bq.den
   exact Nat.lt_of_lt_of_le (natAbs_mul_lt n1 n2) (pow_le (by decide))
  ·rw [<- add_eq] at h
   exact k v H' s h
noncomputable abbrev s__law_less : Stmt := top 29
theorem sc__law_less : FnScope ["_law_one", "_law_other"] ["_law_one", "_law_other"] (defScope s__law_less) := scF
theorem ok__law_less {ca : Ca} (D : DefAt K mg "_law_less" s__law_less) (T : Txt K mg ca) : FnAt P w K mg base CX0 1 "_law_less" ["_law_one", "_law_other"] (spUnder) := by
 refine D.ok sc__law_less (fun vs H Q E h => ?_) (fun _ _ _ _ _ _ us hl => match us, hl with | [_, _], _ => rfl) (fun f cdv A outer s H vs Q E hr h => ?_)
 ·obtain ⟨_, _, r, q, rfl, ⟨a, rfl, ha⟩, ⟨b, rfl, hb⟩, br, bq, k⟩ := h; rfl
 ·obtain ⟨_, _, r, q, rfl, ⟨a, rfl, ha⟩, ⟨b, rfl, hb⟩, br, bq, k⟩ := h
  have nd := sc__law_less.nd
  refine ⟨_, (pss_one (ps_ret (pe_cmpR op_lt (pe_op op_mulB (pixT (pv 0) pe_int) (pixT (pv 1) pe_int)) (pe_op op_mulB (pixT (pv 1) pe_int) (pixT (pv 0) pe_int)) (nomark _)))), ?_⟩
  refine ⟨_, rfl, a, _, _, _, rfl, rfl, SqT.of ha, rfl, _, rfl, b, _, _, _, rfl, rfl, SqT.of hb, rfl, _, _, rfl, rfl, mulOk_of 8000 br.num bq.den (by decide), _, rfl, b, _, _, _, rfl, rfl, SqT.of hb, rfl, _, rfl, a, _, _, _, rfl, rfl, SqT.of ha, rfl, _, _, rfl, rfl, mulOk_of 8000 bq.num br.den (by decide), _, _, rfl, rfl, ?_⟩
  rw [<- _root_.Tc.lt_ok] at k
  exact k
noncomputable abbrev s__law_house : Stmt := top 30
theorem sc__law_house : FnScope ["_law_cell", "_law_names_here", "_law_way", "_law_many", "_law_house_here", "_law_k", "_law_size", "_law_room", "_law_sinks"] ["_law_cell"] (defScope s__law_house) := scF
theorem ok__law_house {ca : Ca} (D : DefAt K mg "_law_house" s__law_house) (T : Txt K mg ca) (G__law_names : FnAt P w K mg base CX0 2 "_law_names" ["_law_cell", "_law_many"] (spNm 6)) (G__law_mixed : FnAt P w K mg base CX0 1 "_law_mixed" ["_law_cell", "_law_k"] (spMixed2)) (G__law_low : FnAt P w K mg base CX0 1 "_law_low" ["_law_top", "_law_bottom"] (spLow)) : FnAt P w K mg base CX0 3 "_law_house" ["_law_cell"] (spHouse) := by
 refine D.ok sc__law_house (fun vs H Q E h => ?_) (fun _ _ _ _ _ _ us hl => match us, hl with | [_], _ => rfl) (fun f cdv A outer s H vs Q E hr h => ?_)
 ·obtain ⟨c, rfl, k⟩ := h; rfl
 ·obtain ⟨c, rfl, k⟩ := h
  have nd := sc__law_house.nd
  refine ⟨_, (pss_cons (ps_set (i := 1) nd rfl (Or.inr rfl) (pfn G__law_names hr (pa_cons (pv 0) (pa_cons pe_int pa_nil))))
   (pss_cons (ps_set (i := 2) nd rfl (Or.inl rfl) (pfn G__law_mixed hr (pa_cons (pv 0) (pa_cons pe_int pa_nil))))
   (pss_cons (ps_set (i := 3) nd rfl (Or.inr rfl) (pe_op op_add pe_int (pe_op op_modN (pv 2) pe_int)))
   (pss_cons (ps_set (i := 4) nd rfl (Or.inl rfl) (pe_lst pa_nil))
   (pss_cons (ps_for PassesOwn.never rfl (pi_range1 (by rfl) T.z_range (pa_cons (pv 3) pa_nil)) (pg_name (i := 5) nd rfl (Or.inl rfl)) (pss_cons (ps_set (i := 6) nd rfl (Or.inl rfl) (pfn G__law_mixed hr (pa_cons (pv 0) (pa_cons (pe_op op_add pe_int (pv 5)) pa_nil))))
   (pss_cons (ps_set (i := 7) nd rfl (Or.inl rfl) (pfn G__law_low hr (pa_cons (pe_op op_add pe_int (pe_op op_modN (pv 6) pe_int)) (pa_cons (pe_op op_add pe_int (pe_op op_modN (pe_op op_fdivB (pv 6) pe_int) pe_int)) pa_nil))))
   (pss_cons (ps_if (pt_cmpR op_eq (pe_op op_modN (pe_op op_fdivB (pv 6) pe_int) pe_int) pe_int (nomark _)) (pss_one (ps_set (i := 7) nd rfl (Or.inl rfl) (pe_tup (pa_cons (pe_op op_sub (pe_op op_pow pe_int pe_int) pe_int) (pa_cons pe_int pa_nil))))) pss_nil)
   (pss_one (ps_expr (pe_bm PySem.F.plainAttrs_list PySem.F.slot_list_append PySem.F.type_list_append mt_append (pv 4) (pa_cons (pe_tup (pa_cons pe_str (pa_cons (pixL (pv 1) (pv 5)) (pa_cons (pv 7) pa_nil)))) pa_nil))))))))
   (pss_cons (ps_setcomp ["_law_k"] ["_law_names_here", "_law_many"] [1, 3] (i := 8) nd rfl rfl rfl (by rfl) (pi_range1 (by rfl) T.z_range (pa_cons (pe_op op_add pe_int (pe_op op_modN (pe_op op_fdivB (pv 2) pe_int) pe_int)) pa_nil)) (fun _ _ _ _ => (pg_name (i := 0) (show List.Nodup (["_law_k", "_law_names_here", "_law_many"] : List Str) from by decide) rfl (Or.inl rfl))) (fun _ _ _ _ => pif_none) (fun _ _ _ _ => (pe_tup (pa_cons pe_str (pa_cons (pixL (pv 1) (pe_op op_add (pv 2) (pv 0))) pa_nil)))))
   (pss_cons (ps_if (pt_cmpR op_eq (pe_op op_modN (pe_op op_fdivB (pv 2) pe_int) pe_int) pe_int (nomark _)) (pss_one (ps_ret (pe_op op_cat (pv 8) (pv 4)))) pss_nil)
   (pss_one (ps_ret (pe_op op_cat (pv 4) (pv 8))))))))))), ?_⟩
  refine ⟨_, rfl, c, 6, rfl, Nat.le_refl _, fun an H1 L hna s1 hN hL nd lay => ?_⟩
  refine ⟨_, rfl, c, 30, rfl, ⟨by decide, by decide⟩, fun wy wy0 => ?_⟩
  have q3 := fmod_lt (c := wy) (m := 3) (by decide)
  obtain ⟨m, em⟩ := Int.eq_ofNat_of_zero_le (show 0 <= 2 + wy.fmod 3 by lia)
  have m2 : 2 <= m := by lia
  have m4 : m <= 4 := by lia
  refine ⟨_, rfl, _, _, rfl, rfl, (show (3 : Int) ≠ 0 by decide), _, _, rfl, rfl, ?_⟩
  refine ⟨sz (by simp), fun ph hph => ?_⟩
  have tp := Same.upd (o := .lst []) hph
  refine ⟨_, rfl, _, rfl, by lia, by lia, ?_⟩
  refine for_range (fun i σ H2 => ∃ (v5 v6 v7 : Option V) (xs : List V) (cs : List Plc), σ = [some (.int c), some (.ref an), some (.int wy), some (.int (2 + wy.fmod 3)), some (.ref ph), v5, v6, v7, none] /\ Same H1 H2 /\ H2 ph = some (.lst xs) /\ Paired (PlV H2) xs cs /\ xs.length = i /\ allN cs = L.take i /\ (∀ p ∈ cs, isC p = true) /\ RoomsOk cs) ⟨none, none, none, [], [], rfl, tp, upd_same, .nil, rfl, rfl, (fun _ z => nomatch z), (fun _ _ z => nomatch z)⟩ ?_ ?_
  ·rintro i σ H2 hi ⟨v5, v6, v7, xs, cs, rfl, s2, h2, hP, hl, eL, ic, ro⟩
   have hi : i < m := by
    have hi : i < (2 + wy.fmod 3).toNat := hi
    lia
   have hN2 := s2 _ _ hN
   have hiL : i < L.length := by lia
   refine ⟨_, rfl, _, rfl, _, _, rfl, rfl, c, 31 + (0 + (i : Int)), rfl, ⟨by lia, by lia⟩, fun z z0 => ?_⟩
   have q240 := fmod_lt (c := z) (m := 240) (by decide)
   have q4 := fmod_lt (c := z.fdiv 240) (m := 4) (by decide)
   refine ⟨_, rfl, _, _, rfl, rfl, (show (240 : Int) ≠ 0 by decide), _, _, rfl, rfl, _, rfl, _, _, rfl, rfl, ddv (by decide) (by decide), _, _, rfl, rfl, (show (4 : Int) ≠ 0 by decide), _, _, rfl, rfl, 1 + z.fmod 240, 1 + (z.fdiv 240).fmod 4, rfl, by lia, Nat.lt_of_le_of_lt (m := 10) (by lia) (by decide), fun w3 H3 s3 f3 => ?_⟩
   obtain ⟨l3, rfl, hl3⟩ := id f3
   have hat : atI (L.map V.str) (0 + (i : Int)) = some (.str L[i]) := by
    rw [Int.zero_add]
    refine atI_nat ?_
    rw [List.getElem?_map, List.getElem?_eq_getElem hiL]; rfl
   have et : L.take (i + 1) = L.take i ++ [L[i]] := take_one (List.getElem?_eq_getElem hiL)
   refine ⟨_, rfl, _, _, rfl, rfl, ddv (by decide) (by decide), _, _, rfl, rfl, (show (4 : Int) ≠ 0 by decide), rfl, _, rfl, ?_⟩
   refine' by_key2 (C := fun (l : Addr) (Hy : Hp) => Same H3 Hy /\ ∃ rr, FrV Hy (.ref l) rr /\ Szd 0 rr) (fun key => ?go) ?body
   case go =>
    refine ite2 (fun _ => ?_) (fun _ => ?_)
    ·refine ⟨_, _, rfl, rfl, ⟨by decide, by decide, by decide⟩, _, _, rfl, rfl, sz (by simp), fun l4 hl4 => ?_⟩
     have t4 : Same H3 (upd H3 l4 (.tup [.int (((10 : Int) ^ (12 : Int).toNat) - 1), .int 1])) := Same.upd hl4
     have f4 : FrV (upd H3 l4 (.tup [.int (((10 : Int) ^ (12 : Int).toNat) - 1), .int 1])) (.ref l4) ((((10 : Int) ^ (12 : Int).toNat) - 1 : Int) : Rat) := FrV.newOf (Rat.num_intCast _).symm (by rw [Rat.den_intCast]; rfl)
     have z4 : Szd 0 ((((10 : Int) ^ (12 : Int).toNat) - 1 : Int) : Rat) := by
      rw [<- divInt_one]
      exact Szd.amt (by rw [pow12]; decide) (by rw [pow12]; decide) (by decide) (by decide)
     generalize upd H3 l4 (.tup [.int (((10 : Int) ^ (12 : Int).toNat) - 1), .int 1]) = Hy at t4 f4 ⊢
     exact key l4 Hy ⟨t4, _, f4, z4⟩
    ·exact key l3 H3 ⟨Same.refl H3, _, f3, Szd.amt (by lia) (by lia) (by lia) (by lia)⟩
   case body =>
    rintro l4 H4 ⟨t4, rr, f4, z4⟩
    let w4 : V := .ref l4
    have s24 := s3.trans t4
    have h24 := s24 _ _ h2
    refine ⟨_, rfl, .inl ⟨rfl, _, SqL.of h24⟩, _, rfl, _, rfl, an, _, _, _, rfl, rfl, SqL.of (s24 _ _ hN2), hat, _, rfl, sz (by simp), fun l5 hl5 => ?_⟩
    have t5 := Same.upd (o := .tup [V.str "cask", .str L[i], w4]) hl5
    have h25 := t5 _ _ h24
    refine ⟨ph, _, _, rfl, rfl, h25, sz (by lia), ?_⟩
    have tu := tup_of (o := .lst (xs ++ [.ref l5])) h25 (fun _ z => nomatch z)
    refine ⟨_, _, _, xs ++ [.ref l5], cs ++ [.ck L[i] rr], rfl, (s2.trans (s24.trans t5)).updD hph, upd_same, ?_, by rw [List.length_append, hl]; rfl, ?_, fun p hp => ?_, fun z' r' hz' => ?_⟩
    ·refine Paired.snoc (Paired.mapP hP fun _ _ f => (f.same (s24.trans t5)).tup tu) ?_
     exact ⟨l5, _, rfl, tu _ _ upd_same, (f4.same t5).tup tu⟩
    ·rw [et, <- eL]; unfold allN; rw [List.map_append]; rfl
    ·rcases List.mem_append.mp hp with e | e
     ·exact ic p e
     ·rw [List.mem_singleton.mp e]; rfl
    ·rcases List.mem_append.mp hz' with e | e
     ·exact ro z' r' e
     ·have e := List.mem_singleton.mp e
      injection e with _ e2
      rw [e2]; exact z4
  rintro σ H2 ⟨v5, v6, v7, xs, cs, rfl, s2, h2, hP, hl, eL, ic, ro⟩
  have em' : (2 + wy.fmod 3).toNat = m := by lia
  have hl : xs.length = (2 + wy.fmod 3).toNat := hl
  have eL : allN cs = L.take (2 + wy.fmod 3).toNat := eL
  rw [em'] at hl eL
  have hN2 := s2 _ _ hN
  have qs := fmod_lt (c := wy.fdiv 3) (m := 2) (by decide)
  refine ⟨_, rfl, _, _, rfl, rfl, ddv (by decide) (by decide), _, _, rfl, rfl, (show (2 : Int) ≠ 0 by decide), _, _, rfl, rfl, _, rfl, by lia, by lia, fun D hD => ?_⟩
  refine block_range (fun j σ' H' => ∃ (v : Option V) (ys : List V) (sk : List Plc), σ' = [v, some (.ref an), some (.int (2 + wy.fmod 3))] /\ Same H2 H' /\ H' D = some (.lst ys) /\ Paired (PlV H') ys sk /\ ys.length = j /\ allN sk = (L.drop m).take j /\ ∀ p ∈ sk, isC p = false) ⟨none, [], [], rfl, Same.upd hD, upd_same, .nil, rfl, rfl, (fun _ z => nomatch z)⟩ ?_ ?_
  ·rintro j σ' H' hj ⟨v, ys, sk, rfl, s3, hd, hPs, hls, eS, is⟩
   have hj : j < 2 := by
    have hj : j < (1 + (wy.fdiv 3).fmod 2).toNat := hj
    lia
   have hmj : m + j < L.length := by lia
   have hat : atI (L.map V.str) (2 + wy.fmod 3 + (0 + (j : Int))) = some (.str L[m + j]) := by
    rw [em, Int.zero_add]
    have e : ((m : Nat) : Int) + (j : Int) = ((m + j : Nat) : Int) := by lia
    rw [e]
    refine atI_nat ?_
    rw [List.getElem?_map, List.getElem?_eq_getElem hmj]; rfl
   have et : (L.drop m).take (j + 1) = (L.drop m).take j ++ [L[m + j]] := by
    refine take_one ?_
    rw [List.getElem?_drop, List.getElem?_eq_getElem hmj]
   refine ⟨_, rfl, _, rfl, _, rfl, _, _, rfl, rfl, an, _, _, _, rfl, rfl, SqL.of (s3 _ _ hN2), hat, sz (by simp), fun l5 hl5 => ?_⟩
   have t5 := Same.upd (o := .tup [V.str "sink", .str L[m + j]]) hl5
   have hd5 := t5 _ _ hd
   have tu := tup_of (o := .lst (ys ++ [.ref l5])) hd5 (fun _ z => nomatch z)
   refine ⟨_, hd5, sz (by lia), _, ys ++ [.ref l5], sk ++ [.sk L[m + j]], rfl, (s3.trans t5).updD hD, upd_same, ?_, by rw [List.length_append, hls]; rfl, ?_, fun p hp => ?_⟩
   ·refine Paired.snoc (Paired.mapP hPs fun _ _ f => (f.same t5).tup tu) ?_
    exact ⟨l5, rfl, tu _ _ upd_same⟩
   ·rw [et, <- eS]; unfold allN; rw [List.map_append]; rfl
   ·rcases List.mem_append.mp hp with e | e
    ·exact is p e
    ·rw [List.mem_singleton.mp e]; rfl
  rintro σ' H3 ⟨v, ys, sk, rfl, s3, hd, hPs, hls, eS, is⟩
  have hls : ys.length = (1 + (wy.fdiv 3).fmod 2).toNat := hls
  have eS : allN sk = (L.drop m).take (1 + (wy.fdiv 3).fmod 2).toNat := eS
  have hk := house_mk nd lay (j := (1 + (wy.fdiv 3).fmod 2).toNat) m2 (by lia) (by lia) eL eS ic is ro
  have h23 := s3 _ _ h2
  have hP3 := house_same hP s3
  have s13 := s1.trans (s2.trans s3)
  refine ⟨_, rfl, _, _, rfl, rfl, ddv (by decide) (by decide), _, _, rfl, rfl, (show (2 : Int) ≠ 0 by decide), rfl, _, rfl, ?_⟩
  refine ite2 (fun _ => ?_) (fun _ => ?_)
  ·refine ⟨_, rfl, _, rfl, D, ph, _, _, rfl, rfl, hd, h23, sz (by lia), fun l hl => ?_⟩
   have t := Same.upd (o := .lst (ys ++ xs)) hl
   exact k l _ _ (sk ++ cs) (s13.free hl) (s13.trans t) upd_same (Paired.app (house_same hPs t) (house_same hP3 t)) hk.2.1 hk.2.2.1 hk.2.2.2
  ·refine ⟨_, rfl, _, rfl, ph, D, _, _, rfl, rfl, h23, hd, sz (by lia), fun l hl => ?_⟩
   have t := Same.upd (o := .lst (xs ++ ys)) hl
   exact k l _ _ (cs ++ sk) (s13.free hl) (s13.trans t) upd_same (Paired.app (house_same hP3 t) (house_same hPs t)) hk.1.1 hk.1.2.1 hk.1.2.2
noncomputable abbrev s__law_rooms : Stmt := top 31
theorem sc__law_rooms : FnScope ["_law_house_here", "_law_found", "_law_place"] ["_law_house_here"] (defScope s__law_rooms) := scF
theorem ok__law_rooms {ca : Ca} (D : DefAt K mg "_law_rooms" s__law_rooms) (T : Txt K mg ca) : FnAt P w K mg base CX0 1 "_law_rooms" ["_law_house_here"] (spRooms K) := by
 refine D.ok sc__law_rooms (fun vs H Q E h => ?_) (fun _ _ _ _ _ _ us hl => match us, hl with | [_], _ => rfl) (fun f cdv A outer s H vs Q E hr h => ?_)
 ·obtain ⟨a, xs, ps, rfl, hS, hP, hH, k⟩ := h; rfl
 ·obtain ⟨a, xs, ps, rfl, hS, hP, hH, k⟩ := h
  have nd := sc__law_rooms.nd
  refine ⟨_, (pss_cons (ps_set (i := 1) nd rfl (Or.inl rfl) pe_dnewK)
   (pss_cons (ps_for PassesOwn.never rfl (pi_list' (K := K) rfl (pv 0)) (pg_name (i := 2) nd rfl (Or.inl rfl)) (pss_one (ps_if (pt_cmpR op_eq (pixT (pv 2) pe_int) pe_str (nomark _)) (pss_one (ps_dput (hu_of hr) (pv 1) (pixT (pv 2) pe_int) (pixT (pv 2) pe_int) rfl)) pss_nil)))
   (pss_one (ps_ret (pv 1))))), ?_⟩
  have hlen : xs.length = ps.length := hP.length
  intro p hp
  have tp := Same.upd (o := .dK []) hp
  refine ⟨_, rfl, a, rfl, ⟨_, tp.seq hS⟩, ?_⟩
  refine for_list (xs := xs) (fun i σ H1 => ∃ (v2 : Option V) (kv : List (Key × V)), σ = [some (.ref a), some (.ref p), v2] /\ Same H H1 /\ H1 p = some (.dK kv) /\ RowAt H1 kv (rmF (ps.take i))) ⟨none, [], rfl, tp, upd_same, RowAt.nil _⟩ ?_ ?_ ?_
  ·rintro i σ H1 hi ⟨v2, kv, rfl, s1, h1, row⟩
   exact s1.seq hS
  ·rintro i x σ H1 hx ⟨v2, kv, rfl, s1, h1, row⟩
   obtain ⟨pl, hpl, pv⟩ := paired_get hP hx
   have pv := pv.same s1
   have en := take_one hpl
   have nin := allN_take hH hpl
   have len : kv.length <= (allN (ps.take i)).length := row.lenO fun z hz => rm_sub hz
   have l8 : kv.length <= 8 := by
    unfold allN at len
    rw [List.length_map, List.length_take] at len
    have := hH.len
    lia
   cases pl with
   | ck z r =>
    obtain ⟨b, f, rfl, hb, hf⟩ := pv
    refine ⟨_, rfl, b, _, _, _, rfl, rfl, SqT.of hb, rfl, rfl, _, rfl, ?_⟩
    refine dec_true rfl ?_
    refine ⟨_, rfl, b, _, _, _, rfl, rfl, SqT.of hb, rfl, _, rfl, _, rfl, b, _, _, _, rfl, rfl, SqT.of hb, rfl, p, upd H1 p (.dK (putK kv (.inr z) f)), rfl, DPut.k (k := .inr z) h1 (sz (by lia)), ?_⟩
    refine ⟨_, putK kv (.inr z) f, rfl, s1.updD hp, upd_same, ?_⟩
    have nin : z ∉ allN (ps.take i) := nin
    rw [en, rmF_ck nin]
    exact (row.put (z := z) hf).same fun v r g => g.tup (tup_of h1 (fun _ z => nomatch z))
   | sk z =>
    obtain ⟨b, rfl, hb⟩ := pv
    refine ⟨_, rfl, b, _, _, _, rfl, rfl, SqT.of hb, rfl, rfl, _, rfl, ?_⟩
    refine dec_false (by decide +kernel) ?_
    refine ⟨_, kv, rfl, s1, h1, ?_⟩
    rw [en, rmF_sk]; exact row
  ·rintro σ H1 ⟨v2, kv, rfl, s1, h1, row⟩
   rw [hlen, List.take_length] at row
   exact ⟨_, rfl, k p H1 kv hp s1 h1 row⟩
noncomputable abbrev s__law_none : Stmt := top 32
theorem sc__law_none : FnScope ["_law_house_here", "_law_found", "_law_place"] ["_law_house_here"] (defScope s__law_none) := scF
theorem ok__law_none {ca : Ca} (D : DefAt K mg "_law_none" s__law_none) (T : Txt K mg ca) : FnAt P w K mg base CX0 1 "_law_none" ["_law_house_here"] (spNone K) := by
 refine D.ok sc__law_none (fun vs H Q E h => ?_) (fun _ _ _ _ _ _ us hl => match us, hl with | [_], _ => rfl) (fun f cdv A outer s H vs Q E hr h => ?_)
 ·obtain ⟨a, xs, ps, rfl, hS, hP, hH, k⟩ := h; rfl
 ·obtain ⟨a, xs, ps, rfl, hS, hP, hH, k⟩ := h
  have nd := sc__law_none.nd
  refine ⟨_, (pss_cons (ps_set (i := 1) nd rfl (Or.inl rfl) pe_dnewK)
   (pss_cons (ps_for PassesOwn.never rfl (pi_list' (K := K) rfl (pv 0)) (pg_name (i := 2) nd rfl (Or.inl rfl)) (pss_one (ps_dput (hu_of hr) (pv 1) (pixT (pv 2) pe_int) (pe_tup (pa_cons pe_int (pa_cons pe_int pa_nil))) rfl)))
   (pss_one (ps_ret (pv 1))))), ?_⟩
  have hlen : xs.length = ps.length := hP.length
  intro p hp
  have tp := Same.upd (o := .dK []) hp
  refine ⟨_, rfl, a, rfl, ⟨_, tp.seq hS⟩, ?_⟩
  refine for_list (xs := xs) (fun i σ H1 => ∃ (v2 : Option V) (kv : List (Key × V)), σ = [some (.ref a), some (.ref p), v2] /\ Same H H1 /\ H1 p = some (.dK kv) /\ RowAt H1 kv (all (allN (ps.take i)) fun _ => 0)) ⟨none, [], rfl, tp, upd_same, (by rw [List.take_zero]; exact (all_nil _) ▸ RowAt.nil _)⟩ ?_ ?_ ?_
  ·rintro i σ H1 hi ⟨v2, kv, rfl, s1, h1, row⟩
   exact s1.seq hS
  ·rintro i x σ H1 hx ⟨v2, kv, rfl, s1, h1, row⟩
   obtain ⟨pl, hpl, pv⟩ := paired_get hP hx
   have pv := pv.same s1
   have en := take_one hpl
   have len : kv.length <= (allN (ps.take i)).length := row.lenO fun z hz => all_sub hz
   have l8 : kv.length <= 8 := by
    unfold allN at len
    rw [List.length_map, List.length_take] at len
    have := hH.len
    lia
   obtain ⟨b, ys, rfl, hb, _, e1⟩ := pv.at
   refine ⟨sz (by simp), fun q hq => ?_⟩
   have tq := Same.upd (o := .tup [.int 0, .int 1]) hq
   have h1q := tq _ _ h1
   refine ⟨_, rfl, _, rfl, b, _, _, _, rfl, rfl, SqT.of (tq _ _ hb), e1, p, upd (upd H1 q (.tup [.int 0, .int 1])) p (.dK (putK kv (.inr (nmP pl)) (.ref q))), rfl, DPut.k (k := .inr (nmP pl)) h1q (sz (by lia)), ?_⟩
   refine ⟨_, putK kv (.inr (nmP pl)) (.ref q), rfl, (s1.trans tq).updD hp, upd_same, ?_⟩
   have ea : allN (ps.take (i + 1)) = allN (ps.take i) ++ [nmP pl] := by unfold allN; rw [en, List.map_append]; rfl
   rw [ea, all_snoc]
   exact ((row.same fun _ _ g => g.same tq).put (z := nmP pl) (r := 0) (FrV.newOf rfl rfl)).same fun v r g => g.tup (tup_of h1q (fun _ z => nomatch z))
  ·rintro σ H1 ⟨v2, kv, rfl, s1, h1, row⟩
   rw [hlen, List.take_length] at row
   exact ⟨_, rfl, k p H1 kv hp s1 h1 row⟩
noncomputable abbrev s__law_amount : Stmt := top 33
theorem sc__law_amount : FnScope ["_law_cell"] ["_law_cell"] (defScope s__law_amount) := scF
theorem ok__law_amount {ca : Ca} (D : DefAt K mg "_law_amount" s__law_amount) (T : Txt K mg ca) (G__law_mixed : FnAt P w K mg base CX0 1 "_law_mixed" ["_law_cell", "_law_k"] (spMixed2)) (G__law_low : FnAt P w K mg base CX0 1 "_law_low" ["_law_top", "_law_bottom"] (spLow)) : FnAt P w K mg base CX0 2 "_law_amount" ["_law_cell"] (spAmount) := by
 refine D.ok sc__law_amount (fun vs H Q E h => ?_) (fun _ _ _ _ _ _ us hl => match us, hl with | [_], _ => rfl) (fun f cdv A outer s H vs Q E hr h => ?_)
 ·obtain ⟨c, rfl, k⟩ := h; rfl
 ·obtain ⟨c, rfl, k⟩ := h
  have nd := sc__law_amount.nd
  refine ⟨_, (pss_cons (ps_if (pt_cmpR op_eq (pe_op op_modN (pfn G__law_mixed hr (pa_cons (pv 0) (pa_cons pe_int pa_nil))) pe_int) pe_int (nomark _)) (pss_one (ps_ret (pe_tup (pa_cons (pe_op op_add pe_int (pe_op op_modN (pv 0) (pe_op op_sub (pe_op op_pow pe_int pe_int) pe_int))) (pa_cons pe_int pa_nil))))) pss_nil)
   (pss_one (ps_ret (pfn G__law_low hr (pa_cons (pe_op op_add pe_int (pe_op op_modN (pv 0) pe_int)) (pa_cons (pe_op op_add pe_int (pe_op op_modN (pfn G__law_mixed hr (pa_cons (pv 0) (pa_cons pe_int pa_nil))) pe_int)) pa_nil)))))), ?_⟩
  refine ⟨_, rfl, c, 44, rfl, ⟨by decide, by decide⟩, fun m m0 => ⟨_, _, rfl, rfl, (show (8 : Int) ≠ 0 by decide), rfl, _, rfl, ?_⟩⟩
  refine ite2 (fun _ => ?_) (fun _ => ?_)
  ·have q := fmod_lt (c := c) (m := (10 : Int) ^ (12 : Int).toNat - 1) (by rw [pow12]; decide)
   refine ⟨_, rfl, _, _, rfl, rfl, ⟨by decide, by decide, by decide⟩, _, _, rfl, rfl, _, _, rfl, rfl, (by rw [pow12]; show (_ : Int) ≠ 0; decide), _, _, rfl, rfl, sz (by simp), fun p hp => ?_⟩
   refine k _ _ ((1 + c.fmod ((10 : Int) ^ (12 : Int).toNat - 1) : Int) : Rat) (Same.upd hp) (FrV.newOf (Rat.num_intCast _).symm (by rw [Rat.den_intCast]; rfl)) ?_
   rw [<- divInt_one]
   rw [pow12] at q ⊢
   exact Szd.amt (by lia) (by lia) (by decide) (by decide)
  ·refine ⟨_, rfl, _, _, rfl, rfl, (show (40 : Int) ≠ 0 by decide), _, _, rfl, rfl, _, rfl, c, 43, rfl, ⟨by decide, by decide⟩, fun m2 m20 => ⟨_, _, rfl, rfl, (show (4 : Int) ≠ 0 by decide), _, _, rfl, rfl, ?_⟩⟩
   have q1 := fmod_lt (c := c) (m := 40) (by decide)
   have q2 := fmod_lt (c := m2) (m := 4) (by decide)
   exact ⟨1 + c.fmod 40, 1 + m2.fmod 4, rfl, by lia, Nat.lt_of_le_of_lt (m := 10) (by lia) (by decide), fun v H' s f => k v H' _ s f (Szd.amt (by lia) (by lia) (by lia) (by lia))⟩
noncomputable abbrev s__law_move : Stmt := top 34
theorem sc__law_move : FnScope ["_law_x", "_law_y", "_law_cell", "_law_there", "_law_whole_here"] ["_law_x", "_law_y", "_law_cell", "_law_there"] (defScope s__law_move) := scF
theorem ok__law_move {ca : Ca} (D : DefAt K mg "_law_move" s__law_move) (T : Txt K mg ca) (G__law_mixed : FnAt P w K mg base CX0 1 "_law_mixed" ["_law_cell", "_law_k"] (spMixed2)) (G__law_amount : FnAt P w K mg base CX0 2 "_law_amount" ["_law_cell"] (spAmount)) : FnAt P w K mg base CX0 3 "_law_move" ["_law_x", "_law_y", "_law_cell", "_law_there"] (spMove) := by
 refine D.ok sc__law_move (fun vs H Q E h => ?_) (fun _ _ _ _ _ _ us hl => match us, hl with | [_, _, _, _], _ => rfl) (fun f cdv A outer s H vs Q E hr h => ?_)
 ·obtain ⟨x, y, c, _, u, rfl, ⟨a, rfl, ha⟩, bu, k⟩ := h; rfl
 ·obtain ⟨x, y, c, _, u, rfl, ⟨a, rfl, ha⟩, bu, k⟩ := h
  have nd := sc__law_move.nd
  refine ⟨_, (pss_cons (ps_set (i := 4) nd rfl (Or.inl rfl) (pe_op op_fdivB (pe_op op_mulB (pixT (pv 3) pe_int) (pe_op op_add pe_int (pe_op op_modN (pfn G__law_mixed hr (pa_cons (pv 2) (pa_cons pe_int pa_nil))) pe_int))) (pe_op op_mulB pe_int (pixT (pv 3) pe_int))))
   (pss_cons (ps_if (PW.pt (pw_and (pt_cmpR op_gt (pe_op op_modN (pfn G__law_mixed hr (pa_cons (pv 2) (pa_cons pe_int pa_nil))) pe_int) pe_int (nomark _)) (pw_and1 (pt_chain op_lt op_lt pe_int (pv 4) (pe_op op_pow pe_int pe_int))))) (pss_one (ps_ret (pe_tup (pa_cons pe_str (pa_cons (pv 0) (pa_cons (pv 1) (pa_cons (pe_tup (pa_cons (pv 4) (pa_cons pe_int pa_nil))) pa_nil))))))) pss_nil)
   (pss_one (ps_ret (pe_tup (pa_cons pe_str (pa_cons (pv 0) (pa_cons (pv 1) (pa_cons (pfn G__law_amount hr (pa_cons (pv 2) pa_nil)) pa_nil))))))))), ?_⟩
  have du := rat_den_pos u
  have q45 : ∀ m : Int, 1 <= 1 + m.fmod 4 /\ 1 + m.fmod 4 <= 4 := fun m => by
   have := fmod_lt (c := m) (m := 4) (by decide)
   lia
  refine ⟨_, rfl, a, _, _, _, rfl, rfl, SqT.of ha, rfl, _, rfl, c, 45, rfl, ⟨by decide, by decide⟩, fun m m0 => ⟨_, _, rfl, rfl, (show (4 : Int) ≠ 0 by decide), _, _, rfl, rfl, _, _, rfl, rfl, mulOk_of 400 bu.num (Nat.lt_of_le_of_lt (m := 4) (by have := q45 m; lia) (by decide)) (by decide), _, rfl, a, _, _, _, rfl, rfl, SqT.of ha, rfl, _, _, rfl, rfl, mulOk_of 400 (by decide) bu.den (by decide), _, _, rfl, rfl, ?_, ?_⟩⟩
  ·refine divB_of (show (4 : Int) * (u.den : Nat) ≠ 0 by lia) ?_
   have h1 : ((u.den : Int)).natAbs < 2 ^ 400 := bu.den
   have h2 : (4 : Int).natAbs < 2 ^ 400 := by decide
   exact Nat.lt_of_lt_of_le (natAbs_mul_lt h2 h1) (pow_le (by decide))
  let wv : Int := (u.num * (1 + m.fmod 4)).fdiv (4 * (u.den : Nat))
  refine ⟨_, rfl, c, 46, rfl, ⟨by decide, by decide⟩, fun m2 m20 => ⟨_, _, rfl, rfl, (show (4 : Int) ≠ 0 by decide), _, _, rfl, rfl, _, rfl, ?_⟩⟩
  refine ite2 (fun _ => ?A1) (fun _ => ?B)
  case' A1 =>
   refine ⟨_, rfl, _, _, rfl, rfl, _, rfl, ?_⟩
   refine ite2 (fun hpos => ?A2) (fun _ => ?C)
  case' A2 =>
   refine ⟨_, _, rfl, rfl, ⟨by decide, by decide, by decide⟩, _, _, rfl, rfl, _, rfl, ?_⟩
   refine ite2 (fun hlt => ?A) (fun _ => ?D)
  case' C =>
   refine ⟨_, rfl, ?_⟩
   refine iteF ?_
  case A =>
   have hpos : (0 : Int) < wv := of_decide_eq_true hpos
   have hlt : wv < (10 : Int) ^ (12 : Int).toNat := of_decide_eq_true hlt
   refine ⟨_, rfl, _, rfl, _, rfl, sz (by simp), fun p hp => ?_⟩
   have tp := Same.upd (o := .tup [.int wv, .int 1]) hp
   refine ⟨sz (by simp), fun p2 hp2 => ?_⟩
   have t2 := Same.upd (o := .tup [V.str "move", .str x, .str y, .ref p]) hp2
   refine k _ _ ((wv : Int) : Rat) (tp.trans t2) ⟨p2, .ref p, rfl, upd_same, ?_⟩ ?_
   ·exact (FrV.newOf (Rat.num_intCast _).symm (by rw [Rat.den_intCast]; rfl)).same t2
   ·rw [<- divInt_one]
    rw [pow12] at hlt
    exact Szd.amt (by lia) (by lia) (by decide) (by decide)
  all_goals
   refine ⟨_, rfl, _, rfl, _, rfl, c, rfl, fun v H1 r s1 f1 z1 => ?_⟩
   refine ⟨sz (by simp), fun p2 hp2 => ?_⟩
   have t2 := Same.upd (o := .tup [V.str "move", .str x, .str y, v]) hp2
   exact k _ _ r (s1.trans t2) ⟨p2, v, rfl, upd_same, f1.same t2⟩ z1
noncomputable abbrev s__law_deed : Stmt := top 35
theorem sc__law_deed : FnScope ["_law_one", "_law_other", "_law_house_here", "_law_totals", "_law_casks", "_law_names_here", "_law_x", "_law_y", "_law_way"] ["_law_one", "_law_other", "_law_house_here", "_law_totals"] (defScope s__law_deed) := scF
theorem ok__law_deed {ca : Ca} (D : DefAt K mg "_law_deed" s__law_deed) (T : Txt K mg ca) (G__law_mixed : FnAt P w K mg base CX0 1 "_law_mixed" ["_law_cell", "_law_k"] (spMixed2)) (G__law_amount : FnAt P w K mg base CX0 2 "_law_amount" ["_law_cell"] (spAmount)) (G__law_names : FnAt P w K mg base CX0 2 "_law_names" ["_law_cell", "_law_many"] (spNm 6)) (G__law_low : FnAt P w K mg base CX0 1 "_law_low" ["_law_top", "_law_bottom"] (spLow)) (G__law_move : FnAt P w K mg base CX0 3 "_law_move" ["_law_x", "_law_y", "_law_cell", "_law_there"] (spMove)) : FnAt P w K mg base CX0 4 "_law_deed" ["_law_one", "_law_other", "_law_house_here", "_law_totals"] (spDeed K) := by
 refine D.ok sc__law_deed (fun vs H Q E h => ?_) (fun _ _ _ _ _ _ us hl => match us, hl with | [_, _, _, _], _ => rfl) (fun f cdv A outer s H vs Q E hr h => ?_)
 ·obtain ⟨c1, c2, ah, pt, xs, ps, kvt, t, i, rfl, hS, hP, hH, h2, ht, rt, hI, hi, k⟩ := h; rfl
 ·obtain ⟨c1, c2, ah, pt, xs, ps, kvt, t, i, rfl, hS, hP, hH, h2, ht, rt, hI, hi, k⟩ := h
  have nd := sc__law_deed.nd
  refine ⟨_, (pss_cons (ps_setcomp ["_law_place"] [] [] (i := 4) nd rfl rfl rfl (by rfl) (pi_list' (K := K) rfl (pv 2)) (fun _ _ _ _ => (pg_name (i := 0) (show List.Nodup (["_law_place"] : List Str) from by decide) rfl (Or.inl rfl))) (fun _ _ _ _ => (pif_one (pt_cmpR op_eq (pixT (pv 0) pe_int) pe_str (nomark _)))) (fun _ _ _ _ => (pixT (pv 0) pe_int)))
   (pss_cons (ps_setcomp ["_law_place"] [] [] (i := 5) nd rfl rfl rfl (by rfl) (pi_list' (K := K) rfl (pv 2)) (fun _ _ _ _ => (pg_name (i := 0) (show List.Nodup (["_law_place"] : List Str) from by decide) rfl (Or.inl rfl))) (fun _ _ _ _ => pif_none) (fun _ _ _ _ => (pixT (pv 0) pe_int)))
   (pss_cons (ps_set (i := 6) nd rfl (Or.inl rfl) (pixL (pv 4) (pe_op op_modN (pfn G__law_mixed hr (pa_cons (pv 0) (pa_cons pe_int pa_nil))) (pe_callB (call_len' (K := K) rfl) (by rfl) T.z_len PySem.boot_len (pa_cons (pv 4) pa_nil)))))
   (pss_cons (ps_set (i := 7) nd rfl (Or.inl rfl) (pixL (pv 5) (pe_op op_modN (pfn G__law_mixed hr (pa_cons (pv 0) (pa_cons pe_int pa_nil))) (pe_callB (call_len' (K := K) rfl) (by rfl) T.z_len PySem.boot_len (pa_cons (pv 5) pa_nil)))))
   (pss_cons (ps_if (pt_cmpR op_eq (pv 7) (pv 6) (nomark _)) (pss_one (ps_set (i := 7) nd rfl (Or.inl rfl) (pixL (pv 5) (pe_op op_modN (pe_op op_add (pe_bm' (K := K) rfl PySem.F.plainAttrs_list PySem.F.slot_list_index PySem.F.type_list_index mt_index (pv 5) (pa_cons (pv 6) pa_nil)) pe_int) (pe_callB (call_len' (K := K) rfl) (by rfl) T.z_len PySem.boot_len (pa_cons (pv 5) pa_nil)))))) pss_nil)
   (pss_cons (ps_set (i := 8) nd rfl (Or.inl rfl) (pe_op op_modN (pfn G__law_mixed hr (pa_cons (pv 0) (pa_cons pe_int pa_nil))) pe_int))
   (pss_cons (ps_if (pt_cmpR op_lt (pv 8) pe_int (nomark _)) (pss_one (ps_ret (pe_tup (pa_cons pe_str (pa_cons (pixL (pfn G__law_names hr (pa_cons (pe_callB (call_len' (K := K) rfl) (by rfl) T.z_len PySem.boot_len (pa_cons (pv 5) pa_nil)) (pa_cons pe_int pa_nil))) (pe_op op_modN (pfn G__law_mixed hr (pa_cons (pv 1) (pa_cons pe_int pa_nil))) pe_int)) (pa_cons (pv 6) (pa_cons (pfn G__law_amount hr (pa_cons (pv 1) pa_nil)) pa_nil))))))) pss_nil)
   (pss_cons (ps_if (pt_cmpR op_eq (pv 8) pe_int (nomark _)) (pss_one (ps_ret (pe_tup (pa_cons pe_str (pa_cons (pv 6) (pa_cons (pv 7) (pa_cons (pfn G__law_low hr (pa_cons (pe_op op_modN (pv 1) pe_int) (pa_cons pe_int pa_nil))) pa_nil))))))) pss_nil)
   (pss_cons (ps_if (pt_cmpR op_eq (pv 8) pe_int (nomark _)) (pss_one (ps_ret (pe_tup (pa_cons pe_str (pa_cons (pv 6) (pa_cons (pv 7) pa_nil)))))) pss_nil)
   (pss_cons (ps_if (pt_cmpR op_eq (pv 8) pe_int (nomark _)) (pss_one (ps_ret (pe_tup (pa_cons pe_str (pa_cons (pv 6) (pa_cons (pixL (pv 4) (pe_op op_modN (pe_op op_add (pe_bm' (K := K) rfl PySem.F.plainAttrs_list PySem.F.slot_list_index PySem.F.type_list_index mt_index (pv 4) (pa_cons (pv 6) pa_nil)) pe_int) (pe_callB (call_len' (K := K) rfl) (by rfl) T.z_len PySem.boot_len (pa_cons (pv 4) pa_nil)))) pa_nil)))))) pss_nil)
   (pss_cons (ps_if (pt_cmpR op_eq (pv 8) pe_int (nomark _)) (pss_one (ps_ret (pe_tup (pa_cons pe_str pa_nil)))) pss_nil)
   (pss_one (ps_ret (pfn G__law_move hr (pa_cons (pv 6) (pa_cons (pv 7) (pa_cons (pv 1) (pa_cons (pe_dget (hu_of hr) (pv 3) (pv 6) (fun _ _ => rfl)) pa_nil)))))))))))))))))), ?_⟩
  have hlen : xs.length = ps.length := hP.length
  have h8 := hH.len
  have ckL : (ckN ps).length <= ps.length := ck_len
  have alL : (allN ps).length = ps.length := by unfold allN; exact List.length_map ..
  have ckm : ((ckN ps).map V.str).length = (ckN ps).length := List.length_map ..
  have alm : ((allN ps).map V.str).length = (allN ps).length := List.length_map ..
  have hckp : 0 < ((((ckN ps).map V.str).length : Nat) : Int) := by rw [ckm]; lia
  have halp : 0 < ((((allN ps).map V.str).length : Nat) : Int) := by rw [alm]; lia
  have hck0 : ((((ckN ps).map V.str).length : Nat) : Int) ≠ 0 := Int.ne_of_gt hckp
  have hal0 : ((((allN ps).map V.str).length : Nat) : Int) ≠ 0 := Int.ne_of_gt halp
  refine ⟨_, rfl, ah, rfl, ⟨_, hS⟩, fun D hD => ?_⟩
  refine block_list (xs := xs) (fun j σ' H' => ∃ (v : Option V), σ' = [v] /\ Same H H' /\ H' D = some (.lst ((ckN (ps.take j)).map V.str))) ⟨none, rfl, Same.upd hD, upd_same⟩ ?_ ?_ ?_
  ·rintro j σ' H' hj ⟨v, rfl, s2, hd⟩
   exact s2.seq hS
  ·rintro j y σ' H' hy ⟨v, rfl, s2, hd⟩
   obtain ⟨p, hp, pv⟩ := paired_get hP hy
   obtain ⟨b, ys, rfl, hb, e0, e1⟩ := pv.at
   refine ⟨_, rfl, b, _, _, _, rfl, rfl, SqT.of (s2 _ _ hb), e0, rfl, _, rfl, ?_⟩
   cases hc : isC p with
   | true =>
    refine dec_true rfl ?_
    refine ⟨_, rfl, b, _, _, _, rfl, rfl, SqT.of (s2 _ _ hb), e1, _, hd, ?_, _, rfl, s2.updD hD, ?_⟩
    ·have h1 := ck_len (ps := ps.take j)
     rw [List.length_take] at h1
     rw [List.length_map]
     exact sz (by lia)
    ·unfold ckN
     rw [upd_same, take_one hp, List.filter_append, List.map_append, List.map_append]
     simp [hc]
   | false =>
    refine dec_false (by decide +kernel) ?_
    refine ⟨_, rfl, s2, ?_⟩
    rw [hd]
    unfold ckN
    rw [take_one hp, List.filter_append]
    simp [hc]
  rintro σ' H1 ⟨v, rfl, s1, hC⟩
  rw [hlen, List.take_length] at hC
  have hP1 := house_same hP s1
  refine ⟨_, rfl, ah, rfl, ⟨_, s1.seq hS⟩, fun D2 hD2 => ?_⟩
  refine block_list (xs := xs) (fun j σ' H' => ∃ (v : Option V), σ' = [v] /\ Same H1 H' /\ H' D2 = some (.lst ((allN (ps.take j)).map V.str))) ⟨none, rfl, Same.upd hD2, upd_same⟩ ?_ ?_ ?_
  ·rintro j σ' H' hj ⟨v, rfl, s2, hd⟩
   exact s2.seq (s1.seq hS)
  ·rintro j y σ' H' hy ⟨v, rfl, s2, hd⟩
   obtain ⟨p, hp, pv⟩ := paired_get hP1 hy
   obtain ⟨b, ys, rfl, hb, _, e1⟩ := pv.at
   refine ⟨_, rfl, b, _, _, _, rfl, rfl, SqT.of (s2 _ _ hb), e1, _, hd, ?_, _, rfl, s2.updD hD2, ?_⟩
   ·have := hlen
    rw [List.length_map]
    unfold allN
    rw [List.length_map, List.length_take]
    exact sz (by lia)
   ·unfold allN
    rw [upd_same, take_one hp, List.map_append, List.map_append]; rfl
  rintro σ' H2 ⟨v, rfl, s2, hA⟩
  rw [hlen, List.take_length] at hA
  have hC2 := s2 _ _ hC
  have s02 := s1.trans s2
  have ht2 := s02 _ _ ht
  have rt2 := rt.same fun _ _ g => g.same s02
  refine ⟨_, rfl, _, rfl, c1, 40, rfl, ⟨by decide, by decide⟩, fun m1 m10 => ⟨_, rfl, _, _, rfl, .inl ⟨_, SqL.of hC2, rfl⟩, _, _, rfl, rfl, hck0, ?_⟩⟩
  have qx := fmod_lt (c := m1) (m := ((((ckN ps).map V.str).length : Nat) : Int)) hckp
  obtain ⟨x, hx, hatx⟩ := str_at (zs := ckN ps) qx.1 (by have := qx.2; rw [ckm] at this ⊢; exact this)
  refine ⟨D, _, _, _, rfl, rfl, SqL.of hC2, hatx, ?_⟩
  refine ⟨_, rfl, _, rfl, c1, 41, rfl, ⟨by decide, by decide⟩, fun m2 m20 => ⟨_, rfl, _, _, rfl, .inl ⟨_, SqL.of hA, rfl⟩, _, _, rfl, rfl, hal0, ?_⟩⟩
  have qy := fmod_lt (c := m2) (m := ((((allN ps).map V.str).length : Nat) : Int)) halp
  obtain ⟨y0, hy0, haty⟩ := str_at (zs := allN ps) qy.1 (by have := qy.2; rw [alm] at this ⊢; exact this)
  refine ⟨D2, _, _, _, rfl, rfl, SqL.of hA, haty, ?_⟩
  have hxA := ck_sub hx
  obtain ⟨jx, hjx, hjn⟩ := idx_of hH.nd hxA
  obtain ⟨jc, hjc, hjcn⟩ := idx_of hH.ck hx
  obtain ⟨y2, hy2, hxy2, haty2⟩ := next_of hH.ck h2 hjc
  refine ⟨_, rfl, _, rfl, rfl, _, rfl, ?_⟩
  refine' by_key1 (C := fun y : Str => y ∈ allN ps /\ x ≠ y) (fun key => ?go) ?body
  case go =>
   obtain ⟨y1, hy1, hxy1, haty1⟩ := next_of hH.nd (by lia) hjx
   refine ite2 (fun hyx => ?_) (fun hyx => ?_)
   ·exact ⟨_, rfl, _, rfl, .inl ⟨rfl, _, SqL.of hA⟩, _, rfl, D2, _, x, jx, rfl, rfl, hA, hjx, hjn, _, _, rfl, rfl, _, rfl, _, _, rfl, .inl ⟨_, SqL.of hA, rfl⟩, _, _, rfl, rfl, hal0, D2, _, _, _, rfl, rfl, SqL.of hA, haty1, key y1 ⟨hy1, hxy1⟩⟩
   ·exact key y0 ⟨hy0, fun e => hyx (decide_eq_true (by show V.str y0 = V.str x; rw [e]))⟩
  case body =>
   rintro y ⟨hy, hxy⟩
   refine ⟨_, rfl, c1, 42, rfl, ⟨by decide, by decide⟩, fun m3 m30 => ⟨_, _, rfl, rfl, (show (10 : Int) ≠ 0 by decide), ?_⟩⟩
   refine ⟨_, rfl, _, _, rfl, rfl, _, rfl, ?_⟩
   refine ite2 (fun _ => ?_) (fun _ => ?_)
   ·refine ⟨_, rfl, _, _, rfl, .inl ⟨_, SqL.of hA, rfl⟩, _, 3, rfl, by decide, fun an H3 L hna s3 hN hL nd lay => ?_⟩
    refine ⟨_, rfl, c2, 47, rfl, ⟨by decide, by decide⟩, fun m4 m40 => ⟨_, _, rfl, rfl, (show (3 : Int) ≠ 0 by decide), ?_⟩⟩
    have q3 := fmod_lt (c := m4) (m := 3) (by decide)
    obtain ⟨z, hz, hatz⟩ := str_at (zs := L) q3.1 (by rw [hL]; exact q3.2)
    refine ⟨an, _, _, _, rfl, rfl, SqL.of hN, hatz, _, rfl, _, rfl, c2, rfl, fun v H4 r s4 f4 z4 => ?_⟩
    refine ⟨sz (by simp), fun p hp => ?_⟩
    have t5 := Same.upd (o := .tup [V.str "bring", .str z, .str x, v]) hp
    exact k _ _ (.br z x r) (s02.trans (s3.trans (s4.trans t5))) ⟨p, v, rfl, upd_same, f4.same t5⟩ ⟨hx, lay z hz, z4⟩
   refine ⟨_, rfl, rfl, _, rfl, ?_⟩
   refine ite2 (fun _ => ?_) (fun _ => ?_)
   ·have q5 := fmod_lt (c := c2) (m := 5) (by decide)
    refine ⟨_, rfl, _, rfl, _, rfl, _, _, rfl, rfl, (show (5 : Int) ≠ 0 by decide), c2.fmod 5, 4, rfl, by decide, by decide, fun v H4 s4 f4 => ?_⟩
    refine ⟨sz (by simp), fun p hp => ?_⟩
    have t5 := Same.upd (o := .tup [V.str "part", .str x, .str y, v]) hp
    obtain ⟨g0, g1, g2⟩ := quart q5.1 q5.2
    exact k _ _ (.pt x y _) (s02.trans (s4.trans t5)) ⟨p, v, rfl, upd_same, f4.same t5⟩ ⟨hx, hy, hxy, g0, g1, g2⟩
   refine ⟨_, rfl, rfl, _, rfl, ?_⟩
   refine ite2 (fun _ => ?_) (fun _ => ?_)
   ·refine ⟨_, rfl, _, rfl, sz (by simp), fun p hp => ?_⟩
    exact k _ _ (.al x y) (s02.trans (Same.upd hp)) ⟨p, rfl, upd_same⟩ ⟨hx, hy, hxy⟩
   refine ⟨_, rfl, rfl, _, rfl, ?_⟩
   refine ite2 (fun _ => ?_) (fun _ => ?_)
   ·refine ⟨_, rfl, _, rfl, _, rfl, .inl ⟨rfl, _, SqL.of hC2⟩, _, rfl, D, _, x, jc, rfl, rfl, hC2, hjc, hjcn, _, _, rfl, rfl, _, rfl, _, _, rfl, .inl ⟨_, SqL.of hC2, rfl⟩, _, _, rfl, rfl, hck0, D, _, _, _, rfl, rfl, SqL.of hC2, haty2, sz (by simp), fun p hp => ?_⟩
    exact k _ _ (.fl x y2) (s02.trans (Same.upd hp)) ⟨p, rfl, upd_same⟩ ⟨hx, hy2, hxy2⟩
   refine ⟨_, rfl, rfl, _, rfl, ?_⟩
   refine ite2 (fun _ => ?_) (fun _ => ?_)
   ·refine ⟨sz (by simp), fun p hp => ?_⟩
    exact k _ _ .yr (s02.trans (Same.upd hp)) ⟨p, rfl, upd_same⟩ trivial
   obtain ⟨u, eu, fu⟩ := rt2.get hxA
   have dg := DGet.k (k := .inr x) ht2
   rw [eu] at dg
   refine ⟨_, rfl, _, rfl, _, rfl, _, rfl, _, rfl, pt, u, rfl, dg, x, y, c2, u, t x, rfl, fu, (hI.sz x hxA).bd (by lia), fun w H4 r s4 dv4 z4 => ?_⟩
   exact k _ _ (.mv x y r) (s02.trans s4) dv4 ⟨hx, hy, hxy, z4⟩
noncomputable abbrev s__law_judged : Stmt := top 36
theorem sc__law_judged : FnScope ["_law_deed_here", "_law_totals", "_law_rooms_here", "_law_y", "_law_goes", "_law_there"] ["_law_deed_here", "_law_totals", "_law_rooms_here"] (defScope s__law_judged) := scF
theorem ok__law_judged {ca : Ca} (D : DefAt K mg "_law_judged" s__law_judged) (T : Txt K mg ca) (G__law_low : FnAt P w K mg base CX0 1 "_law_low" ["_law_top", "_law_bottom"] (spLow)) (G__law_add : FnAt P w K mg base CX0 2 "_law_add" ["_law_one", "_law_other"] (sp2 4000 (· + ·))) (G__law_less : FnAt P w K mg base CX0 1 "_law_less" ["_law_one", "_law_other"] (spUnder)) : FnAt P w K mg base CX0 3 "_law_judged" ["_law_deed_here", "_law_totals", "_law_rooms_here"] (spJudgedR) := by
 refine D.ok sc__law_judged (fun vs H Q E h => ?_) (fun _ _ _ _ _ _ us hl => match us, hl with | [_, _, _], _ => rfl) (fun f cdv A outer s H vs Q E hr h => ?_)
 ·obtain ⟨v, d, ps, t, pt, pr, kvt, kvr, i, rfl, hs, dv0, ok, hI, hi, hro, k⟩ := h; rfl
 ·obtain ⟨v, d, ps, t, pt, pr, kvt, kvr, i, rfl, hs, dv0, ok, hI, hi, hro, k⟩ := h
  have nd := sc__law_judged.nd
  refine ⟨_, (pss_cons (ps_if (pt_cmpR op_eq (pixT (pv 0) pe_int) pe_str (nomark _)) (pss_one (ps_ret (pe_tup (pa_cons pe_str (pa_cons (pe_tup (pa_cons pe_int (pa_cons pe_int pa_nil))) pa_nil))))) pss_nil)
   (pss_cons (ps_set (i := 3) nd rfl (Or.inl rfl) (pixT (pv 0) pe_int))
   (pss_cons (ps_set (i := 4) nd rfl (Or.inl rfl) (pixT (pv 0) (pe_un un_neg pe_int)))
   (pss_cons (ps_if (pt_cmpR op_ne (pixT (pv 0) pe_int) pe_str (nomark _)) (pss_cons (ps_set (i := 5) nd rfl (Or.inl rfl) (pe_dget (hu_of hr) (pv 1) (pixT (pv 0) pe_int) (fun _ _ => rfl)))
   (pss_cons (ps_if (pt_cmpR op_eq (pixT (pv 0) pe_int) pe_str (nomark _)) (pss_one (ps_set (i := 4) nd rfl (Or.inl rfl) (pfn G__law_low hr (pa_cons (pe_op op_mulB (pixT (pv 5) pe_int) (pixT (pv 4) pe_int)) (pa_cons (pe_op op_mulB (pixT (pv 5) pe_int) (pixT (pv 4) pe_int)) pa_nil))))) pss_nil)
   (pss_cons (ps_if (pt_cmpR op_eq (pixT (pv 0) pe_int) pe_str (nomark _)) (pss_one (ps_set (i := 4) nd rfl (Or.inl rfl) (pv 5))) pss_nil)
   (pss_cons (ps_if (pt_cmpR op_eq (pixT (pv 0) pe_int) pe_str (nomark _)) (pss_one (ps_set (i := 4) nd rfl (Or.inl rfl) (pfn G__law_add hr (pa_cons (pe_dget (hu_of hr) (pv 2) (pv 3) (fun _ _ => rfl)) (pa_cons (pe_tup (pa_cons (pe_op op_sub pe_int (pixT (pe_dget (hu_of hr) (pv 1) (pv 3) (fun _ _ => rfl)) pe_int)) (pa_cons (pixT (pe_dget (hu_of hr) (pv 1) (pv 3) (fun _ _ => rfl)) pe_int) pa_nil))) pa_nil))))) pss_nil)
   (pss_one (ps_if (pt_val (pfn G__law_less hr (pa_cons (pv 5) (pa_cons (pv 4) pa_nil)))) (pss_one (ps_ret (pe_tup (pa_cons pe_str (pa_cons (pv 4) pa_nil))))) pss_nil)))))) pss_nil)
   (pss_cons (ps_if (PW.pt (pw_and (pt_cmp (pc_din (hu_of hr) (pv 3) (pv 2))) (pw_and1 (pt_val (pfn G__law_less hr (pa_cons (pe_dget (hu_of hr) (pv 2) (pv 3) (fun _ _ => rfl)) (pa_cons (pfn G__law_add hr (pa_cons (pe_dget (hu_of hr) (pv 1) (pv 3) (fun _ _ => rfl)) (pa_cons (pv 4) pa_nil))) pa_nil))))))) (pss_one (ps_ret (pe_tup (pa_cons pe_str (pa_cons (pv 4) pa_nil))))) pss_nil)
   (pss_one (ps_ret (pe_tup (pa_cons pe_str (pa_cons (pv 4) pa_nil)))))))))), ?_⟩
  have brm : ∀ {z : Str} {m : Rat}, rmF ps z = some m -> Bd 2000 m := fun {z m} e => ((hro z m (rmF_mem e).2).bd (by lia)).mono (by decide)
  have btt : ∀ {z : Str}, z ∈ allN ps -> Bd 2000 (t z) := fun {z} hz => ((hI.sz z hz).bd (by lia)).mono (by decide)
  have bgs : Bd 2000 (gsD ps t d) := (gs_bd hI hro hi ok).mono (by decide)
  obtain ⟨a, yy, rfl, _, _⟩ := dv0.kd
  have hcase : (d = .yr) \/ (∃ z x r, d = .br z x r) \/ (∃ x y, d = .fl x y) \/ (∃ x y q, d = .pt x y q) \/ (∃ x y, d = .al x y) \/ (∃ x y r, d = .mv x y r) := by cases d <;> simp
  refine' by_key4 (C := fun (y : Str) (b0 : Addr) (w : V) (H1 : Hp) => Same H H1 /\ FrV H1 w (gsD ps t d) /\ isP d = true /\ y = toD d /\ FrV H1 (.ref b0) (t (frD d))) (fun key => ?go) ?body
  case go =>
   have hc2 := hcase
   rcases hc2 with hd | ⟨z, x, r, hd⟩ | ⟨x, y, hd⟩ | ⟨x, y, q, hd⟩ | ⟨x, y, hd⟩ | ⟨x, y, r, hd⟩
   ·have dv0 : DdV H (.ref a) (.yr) := hd ▸ dv0
    have ok : OkD ps (.yr) := hd ▸ ok
    have bgs : Bd 2000 (gsD ps t (.yr)) := hd ▸ bgs
    clear key
    subst hd
    obtain ⟨a', ea, ha⟩ := dv0
    obtain rfl : a = a' := V.ref.inj ea
    refine ⟨_, rfl, a, _, _, _, rfl, rfl, SqT.of ha, rfl, rfl, _, rfl, ?_⟩
    refine dec_true rfl ?_
    refine ⟨sz (by simp), fun q hq => ?_⟩
    have t1 := Same.upd (o := .tup [.int 0, .int 1]) hq
    refine ⟨sz (by simp), fun p hp => ?_⟩
    have t2 := Same.upd (o := .tup [V.str "goes", .ref q]) hp
    have f0 : FrV (upd H q (.tup [.int 0, .int 1])) (.ref q) 0 := FrV.newOf rfl rfl
    exact k p (.ref q) "goes" _ (t1.trans t2) upd_same (f0.same t2) (.inl ⟨rfl, trivial⟩)
   ·have dv0 : DdV H (.ref a) (.br z x r) := hd ▸ dv0
    have ok : OkD ps (.br z x r) := hd ▸ ok
    have bgs : Bd 2000 (gsD ps t (.br z x r)) := hd ▸ bgs
    clear key
    subst hd
    obtain ⟨a', f, ea, ha, hf⟩ := dv0
    obtain rfl : a = a' := V.ref.inj ea
    refine ⟨_, rfl, a, _, _, _, rfl, rfl, SqT.of ha, rfl, rfl, _, rfl, ?_⟩
    refine dec_false (by decide +kernel) ?_
    refine ⟨_, rfl, a, _, _, _, rfl, rfl, SqT.of ha, rfl, ?_⟩
    refine ⟨_, rfl, 1, rfl, a, _, _, _, rfl, rfl, SqT.of ha, rfl, ?_⟩
    refine ⟨_, rfl, a, _, _, _, rfl, rfl, SqT.of ha, rfl, rfl, _, rfl, ?_⟩
    refine ite2 (fun h => absurd h (by decide +kernel)) (fun _ => ?_)
    let d' : Dd := .br z x r
    let y : Str := x
    let w : V := f
    have hy : y ∈ allN ps := ck_sub ok.1
    have fin : (∀ m, rmF ps y = some m -> t y + gsD ps t d' <= m) -> GoD ps t d' := fun h => h
    have s1 := Same.refl H
    have fg : FrV H w (gsD ps t d') := hf
    have hs1 := hs
    cases e : rmF ps y with
    | none =>
     have dg := DGet.k (k := .inr y) hs1.dr
     rw [hs1.rr.not y e] at dg
     refine ⟨_, rfl, _, rfl, pr, _, rfl, dg, _, rfl, ?_⟩
     refine iteF ?_
     refine ⟨_, rfl, sz (by simp), fun p hp => ?_⟩
     exact k p w "goes" _ (s1.trans (Same.upd hp)) upd_same (fg.same (Same.upd hp)) (.inl ⟨rfl, fin fun m e' => by rw [e] at e'; cases e'⟩)
    | some m =>
     obtain ⟨wr, dg, fm⟩ := hs1.room e
     obtain ⟨u, dt, fu⟩ := hs1.tot hy
     refine ⟨_, rfl, _, rfl, pr, _, rfl, dg, _, rfl, ?_⟩
     refine iteT ?_
     refine ⟨_, rfl, _, rfl, pr, wr, rfl, dg, _, rfl, _, rfl, pt, u, rfl, dt, _, rfl, _, _, t y, gsD ps t d', rfl, fu, fg, (btt hy).mono (by decide), bgs.mono (by decide), fun v2 H2 s2 f2 => ?_⟩
     refine ⟨_, _, m, t y + gsD ps t d', rfl, fm.same s2, f2, (brm e).mono (by decide), ((btt hy).add bgs).mono (by decide), _, rfl, ?_⟩
     refine ite2 (fun hf => ?_) (fun h => ?_)
     ·refine ⟨_, rfl, sz (by simp), fun p hp => ?_⟩
      exact k p w "full" _ (s1.trans (s2.trans (Same.upd hp))) upd_same ((fg.same s2).same (Same.upd hp)) (.inr (.inr ⟨rfl, (fun z => nomatch z), (fun z => nomatch z), m, e, of_decide_eq_true hf⟩))
     ·refine ⟨_, rfl, sz (by simp), fun p hp => ?_⟩
      have nl : ¬ m < t y + gsD ps t d' := fun z => h (decide_eq_true z)
      exact k p w "goes" _ (s1.trans (s2.trans (Same.upd hp))) upd_same ((fg.same s2).same (Same.upd hp)) (.inl ⟨rfl, fin fun m' e' => by rw [e] at e'; cases e'; grind⟩)
   ·have dv0 : DdV H (.ref a) (.fl x y) := hd ▸ dv0
    have ok : OkD ps (.fl x y) := hd ▸ ok
    have bgs : Bd 2000 (gsD ps t (.fl x y)) := hd ▸ bgs
    obtain ⟨a', ea, ha⟩ := dv0
    obtain rfl : a = a' := V.ref.inj ea
    have hxA := ck_sub ok.1
    refine ⟨_, rfl, a, _, _, _, rfl, rfl, SqT.of ha, rfl, rfl, _, rfl, ?_⟩
    refine dec_false (by decide +kernel) ?_
    refine ⟨_, rfl, a, _, _, _, rfl, rfl, SqT.of ha, rfl, ?_⟩
    refine ⟨_, rfl, 1, rfl, a, _, _, _, rfl, rfl, SqT.of ha, rfl, ?_⟩
    refine ⟨_, rfl, a, _, _, _, rfl, rfl, SqT.of ha, rfl, rfl, _, rfl, ?_⟩
    refine ite2 (fun _ => ?_) (fun h => absurd (by decide +kernel) h)
    obtain ⟨u0, dt0, fu0⟩ := hs.tot hxA
    refine ⟨_, rfl, _, rfl, a, _, _, _, rfl, rfl, SqT.of ha, rfl, pt, u0, rfl, dt0, ?_⟩
    have fu0' := fu0
    obtain ⟨b0, rfl, hb0⟩ := fu0'
    refine ⟨_, rfl, a, _, _, _, rfl, rfl, SqT.of ha, rfl, rfl, _, rfl, ?_⟩
    refine dec_false (by decide +kernel) ?_
    refine ⟨_, rfl, a, _, _, _, rfl, rfl, SqT.of ha, rfl, rfl, _, rfl, ?_⟩
    refine dec_false (by decide +kernel) ?_
    refine ⟨_, rfl, a, _, _, _, rfl, rfl, SqT.of ha, rfl, rfl, _, rfl, ?_⟩
    refine dec_true rfl ?_
    obtain ⟨_, m0, hm0, hsz0, _⟩ := hI.rmS hro ok.2.1
    obtain ⟨wr0, dg0, fm0⟩ := hs.room hm0
    obtain ⟨uy, dty, fuy⟩ := hs.tot (ck_sub ok.2.1)
    obtain ⟨by0, rfl, hby⟩ := id fuy
    refine ⟨_, rfl, _, rfl, pr, wr0, rfl, dg0, _, rfl, _, rfl, pt, _, rfl, dty, by0, _, _, _, rfl, rfl, SqT.of hby, rfl, _, _, rfl, rfl, _, rfl, _, rfl, pt, _, rfl, dty, by0, _, _, _, rfl, rfl, SqT.of hby, rfl, sz (by simp), fun qn hqn => ?_⟩
    have tn := Same.upd (o := .tup [.int (0 - (t y).num), .int ((t y).den : Nat)]) hqn
    refine ⟨_, _, m0, -(t y), rfl, fm0.same tn, FrV.newOf (neg_ok _).1 (neg_ok _).2, (brm hm0).mono (by decide), (btt (ck_sub ok.2.1)).neg.mono (by decide), fun w H1 s1' f1 => ?_⟩
    have s1 := tn.trans s1'
    have f1 : FrV H1 w ((rmF ps y).getD 0 - t y) := by
     rw [hm0]
     have f1 : FrV H1 w (m0 + -(t y)) := f1
     rw [sub_eq] at f1
     exact f1
    exact key y b0 w H1 ⟨s1, by rw [hd]; exact f1, by rw [hd]; rfl, by rw [hd]; rfl, by rw [hd]; exact fu0.same s1⟩
   ·have dv0 : DdV H (.ref a) (.pt x y q) := hd ▸ dv0
    have ok : OkD ps (.pt x y q) := hd ▸ ok
    have bgs : Bd 2000 (gsD ps t (.pt x y q)) := hd ▸ bgs
    obtain ⟨a', f, ea, ha, hf⟩ := dv0
    obtain rfl : a = a' := V.ref.inj ea
    have hxA := ck_sub ok.1
    refine ⟨_, rfl, a, _, _, _, rfl, rfl, SqT.of ha, rfl, rfl, _, rfl, ?_⟩
    refine dec_false (by decide +kernel) ?_
    refine ⟨_, rfl, a, _, _, _, rfl, rfl, SqT.of ha, rfl, ?_⟩
    refine ⟨_, rfl, 1, rfl, a, _, _, _, rfl, rfl, SqT.of ha, rfl, ?_⟩
    refine ⟨_, rfl, a, _, _, _, rfl, rfl, SqT.of ha, rfl, rfl, _, rfl, ?_⟩
    refine ite2 (fun _ => ?_) (fun h => absurd (by decide +kernel) h)
    obtain ⟨u0, dt0, fu0⟩ := hs.tot hxA
    refine ⟨_, rfl, _, rfl, a, _, _, _, rfl, rfl, SqT.of ha, rfl, pt, u0, rfl, dt0, ?_⟩
    have fu0' := fu0
    obtain ⟨b0, rfl, hb0⟩ := fu0'
    refine ⟨_, rfl, a, _, _, _, rfl, rfl, SqT.of ha, rfl, rfl, _, rfl, ?_⟩
    refine dec_true rfl ?_
    have hf' := hf
    obtain ⟨b1, rfl, hb1⟩ := hf'
    have bq : Bd 2000 q := (bd01 ok.2.2.2.1 ok.2.2.2.2.1 ok.2.2.2.2.2).mono (by decide)
    have bx := btt hxA
    have d1 := rat_den_pos (t x)
    have d2 := rat_den_pos q
    refine ⟨_, rfl, b0, _, _, _, rfl, rfl, SqT.of hb0, rfl, _, rfl, b1, _, _, _, rfl, rfl, SqT.of hb1, rfl, _, _, rfl, rfl, mulOk_of 2000 bx.num bq.num (by decide), _, rfl, b0, _, _, _, rfl, rfl, SqT.of hb0, rfl, _, rfl, b1, _, _, _, rfl, rfl, SqT.of hb1, rfl, _, _, rfl, rfl, mulOk_of 2000 bx.den bq.den (by decide), _, _, rfl, Int.mul_pos (by lia) (by lia), ?_, fun w H1 s1 f1 => ?_⟩
    ·have n1 : (((t x).den : Int)).natAbs < 2 ^ 2000 := bx.den
     have n2 : ((q.den : Int)).natAbs < 2 ^ 2000 := bq.den
     exact Nat.lt_of_lt_of_le (natAbs_mul_lt n1 n2) (pow_le (by decide))
    rw [mul_eq] at f1
    have ha1 := s1 _ _ ha
    refine ⟨_, rfl, a, _, _, _, rfl, rfl, SqT.of ha1, rfl, rfl, _, rfl, ?_⟩
    refine dec_false (by decide +kernel) ?_
    refine ⟨_, rfl, a, _, _, _, rfl, rfl, SqT.of ha1, rfl, rfl, _, rfl, ?_⟩
    refine dec_false (by decide +kernel) ?_
    exact key y b0 w H1 ⟨s1, by rw [hd]; exact f1, by rw [hd]; rfl, by rw [hd]; rfl, by rw [hd]; exact fu0.same s1⟩
   ·have dv0 : DdV H (.ref a) (.al x y) := hd ▸ dv0
    have ok : OkD ps (.al x y) := hd ▸ ok
    have bgs : Bd 2000 (gsD ps t (.al x y)) := hd ▸ bgs
    obtain ⟨a', ea, ha⟩ := dv0
    obtain rfl : a = a' := V.ref.inj ea
    have hxA := ck_sub ok.1
    refine ⟨_, rfl, a, _, _, _, rfl, rfl, SqT.of ha, rfl, rfl, _, rfl, ?_⟩
    refine dec_false (by decide +kernel) ?_
    refine ⟨_, rfl, a, _, _, _, rfl, rfl, SqT.of ha, rfl, ?_⟩
    refine ⟨_, rfl, 1, rfl, a, _, _, _, rfl, rfl, SqT.of ha, rfl, ?_⟩
    refine ⟨_, rfl, a, _, _, _, rfl, rfl, SqT.of ha, rfl, rfl, _, rfl, ?_⟩
    refine ite2 (fun _ => ?_) (fun h => absurd (by decide +kernel) h)
    obtain ⟨u0, dt0, fu0⟩ := hs.tot hxA
    refine ⟨_, rfl, _, rfl, a, _, _, _, rfl, rfl, SqT.of ha, rfl, pt, u0, rfl, dt0, ?_⟩
    have fu0' := fu0
    obtain ⟨b0, rfl, hb0⟩ := fu0'
    refine ⟨_, rfl, a, _, _, _, rfl, rfl, SqT.of ha, rfl, rfl, _, rfl, ?_⟩
    refine dec_false (by decide +kernel) ?_
    refine ⟨_, rfl, a, _, _, _, rfl, rfl, SqT.of ha, rfl, rfl, _, rfl, ?_⟩
    refine dec_true rfl ?_
    refine ⟨_, rfl, ?_⟩
    refine ⟨_, rfl, a, _, _, _, rfl, rfl, SqT.of ha, rfl, rfl, _, rfl, ?_⟩
    refine dec_false (by decide +kernel) ?_
    let w : V := .ref b0
    have s1 := Same.refl H
    let H1 := H
    have f1 : FrV H w (t x) := fu0
    exact key y b0 (.ref b0) H ⟨Same.refl H, by rw [hd]; exact fu0, by rw [hd]; rfl, by rw [hd]; rfl, by rw [hd]; exact fu0⟩
   ·have dv0 : DdV H (.ref a) (.mv x y r) := hd ▸ dv0
    have ok : OkD ps (.mv x y r) := hd ▸ ok
    have bgs : Bd 2000 (gsD ps t (.mv x y r)) := hd ▸ bgs
    obtain ⟨a', f, ea, ha, hf⟩ := dv0
    obtain rfl : a = a' := V.ref.inj ea
    have hxA := ck_sub ok.1
    refine ⟨_, rfl, a, _, _, _, rfl, rfl, SqT.of ha, rfl, rfl, _, rfl, ?_⟩
    refine dec_false (by decide +kernel) ?_
    refine ⟨_, rfl, a, _, _, _, rfl, rfl, SqT.of ha, rfl, ?_⟩
    refine ⟨_, rfl, 1, rfl, a, _, _, _, rfl, rfl, SqT.of ha, rfl, ?_⟩
    refine ⟨_, rfl, a, _, _, _, rfl, rfl, SqT.of ha, rfl, rfl, _, rfl, ?_⟩
    refine ite2 (fun _ => ?_) (fun h => absurd (by decide +kernel) h)
    obtain ⟨u0, dt0, fu0⟩ := hs.tot hxA
    refine ⟨_, rfl, _, rfl, a, _, _, _, rfl, rfl, SqT.of ha, rfl, pt, u0, rfl, dt0, ?_⟩
    have fu0' := fu0
    obtain ⟨b0, rfl, hb0⟩ := fu0'
    refine ⟨_, rfl, a, _, _, _, rfl, rfl, SqT.of ha, rfl, rfl, _, rfl, ?_⟩
    refine dec_false (by decide +kernel) ?_
    refine ⟨_, rfl, a, _, _, _, rfl, rfl, SqT.of ha, rfl, rfl, _, rfl, ?_⟩
    refine dec_false (by decide +kernel) ?_
    refine ⟨_, rfl, a, _, _, _, rfl, rfl, SqT.of ha, rfl, rfl, _, rfl, ?_⟩
    refine dec_false (by decide +kernel) ?_
    let w : V := f
    have s1 := Same.refl H
    let H1 := H
    have f1 : FrV H w r := hf
    exact key y b0 f H ⟨Same.refl H, by rw [hd]; exact hf, by rw [hd]; rfl, by rw [hd]; rfl, by rw [hd]; exact fu0⟩
  case body =>
   rintro y b0 w H1 ⟨s1, fg, hp, rfl, fu1⟩
   have hyr : d ≠ .yr := by rintro rfl; cases hp
   obtain ⟨hy, hxA⟩ := to_mem ok hyr
   let y : Str := toD d
   have hy : y ∈ allN ps := hy
   have hs1 := hs.same s1
   refine ⟨_, rfl, _, rfl, _, _, t (frD d), gsD ps t d, rfl, fu1, fg, (btt hxA).mono (by decide), bgs.mono (by decide), _, rfl, ?_⟩
   refine ite2 (fun hlt => ?_) (fun hle => ?_)
   ·refine ⟨_, rfl, sz (by simp), fun p hp' => ?_⟩
    exact k p w "lacking" _ (s1.trans (Same.upd hp')) upd_same (fg.same (Same.upd hp')) (.inr (.inl ⟨rfl, hp, of_decide_eq_true hlt⟩))
   have le : gsD ps t d <= t (frD d) := by
    have nl : ¬ t (frD d) < gsD ps t d := fun z => hle (decide_eq_true z)
    grind
   have fin : (∀ m, rmF ps y = some m -> t y + gsD ps t d <= m) -> GoD ps t d := fun h => go_of (d := d) hp le h
   cases e : rmF ps y with
   | none =>
    have dg := DGet.k (k := .inr y) hs1.dr
    rw [hs1.rr.not y e] at dg
    refine ⟨_, rfl, _, rfl, pr, _, rfl, dg, _, rfl, ?_⟩
    refine iteF ?_
    refine ⟨_, rfl, sz (by simp), fun p hp => ?_⟩
    exact k p w "goes" _ (s1.trans (Same.upd hp)) upd_same (fg.same (Same.upd hp)) (.inl ⟨rfl, fin fun m e' => by rw [e] at e'; cases e'⟩)
   | some m =>
    obtain ⟨wr, dg, fm⟩ := hs1.room e
    obtain ⟨u, dt, fu⟩ := hs1.tot hy
    refine ⟨_, rfl, _, rfl, pr, _, rfl, dg, _, rfl, ?_⟩
    refine iteT ?_
    refine ⟨_, rfl, _, rfl, pr, wr, rfl, dg, _, rfl, _, rfl, pt, u, rfl, dt, _, rfl, _, _, t y, gsD ps t d, rfl, fu, fg, (btt hy).mono (by decide), bgs.mono (by decide), fun v2 H2 s2 f2 => ?_⟩
    refine ⟨_, _, m, t y + gsD ps t d, rfl, fm.same s2, f2, (brm e).mono (by decide), ((btt hy).add bgs).mono (by decide), _, rfl, ?_⟩
    refine ite2 (fun hf => ?_) (fun h => ?_)
    ·refine ⟨_, rfl, sz (by simp), fun p hp => ?_⟩
     exact k p w "full" _ (s1.trans (s2.trans (Same.upd hp))) upd_same ((fg.same s2).same (Same.upd hp)) (.inr (.inr ⟨rfl, hyr, (fun _ => le), m, e, of_decide_eq_true hf⟩))
    ·refine ⟨_, rfl, sz (by simp), fun p hp => ?_⟩
     have nl : ¬ m < t y + gsD ps t d := fun z => h (decide_eq_true z)
     exact k p w "goes" _ (s1.trans (s2.trans (Same.upd hp))) upd_same ((fg.same s2).same (Same.upd hp)) (.inl ⟨rfl, fin fun m' e' => by rw [e] at e'; cases e'; grind⟩)
noncomputable abbrev s__law_put : Stmt := top 37
theorem sc__law_put : FnScope ["_law_deed_here", "_law_goes", "_law_totals"] ["_law_deed_here", "_law_goes", "_law_totals"] (defScope s__law_put) := scF
theorem ok__law_put {ca : Ca} (D : DefAt K mg "_law_put" s__law_put) (T : Txt K mg ca) (G__law_add : FnAt P w K mg base CX0 2 "_law_add" ["_law_one", "_law_other"] (sp2 4000 (· + ·))) : FnAt P w K mg base CX0 3 "_law_put" ["_law_deed_here", "_law_goes", "_law_totals"] (spPut) := by
 refine D.ok sc__law_put (fun vs H Q E h => ?_) (fun _ _ _ _ _ _ us hl => match us, hl with | [_, _, _], _ => rfl) (fun f cdv A outer s H vs Q E hr h => ?_)
 ·obtain ⟨v, d, f, pt, kv, ps, t, i, rfl, dv0, ok, go, hI, hi, hro, hH, hf, ht, row, k⟩ := h; rfl
 ·obtain ⟨v, d, f, pt, kv, ps, t, i, rfl, dv0, ok, go, hI, hi, hro, hH, hf, ht, row, k⟩ := h
  have nd := sc__law_put.nd
  refine ⟨_, (pss_cons (ps_if (pt_cmpR op_eq (pixT (pv 0) pe_int) pe_str (nomark _)) (pss_one ps_retN) pss_nil)
   (pss_cons (ps_dput (hu_of hr) (pv 2) (pixT (pv 0) pe_int) (pfn G__law_add hr (pa_cons (pe_dget (hu_of hr) (pv 2) (pixT (pv 0) pe_int) (fun _ _ => rfl)) (pa_cons (pv 1) pa_nil))) rfl)
   (pss_one (ps_if (pt_cmpR op_ne (pixT (pv 0) pe_int) pe_str (nomark _)) (pss_one (ps_dput (hu_of hr) (pv 2) (pixT (pv 0) pe_int) (pfn G__law_add hr (pa_cons (pe_dget (hu_of hr) (pv 2) (pixT (pv 0) pe_int) (fun _ _ => rfl)) (pa_cons (pe_tup (pa_cons (pe_op op_sub pe_int (pixT (pv 1) pe_int)) (pa_cons (pixT (pv 1) pe_int) pa_nil))) pa_nil))) rfl)) pss_nil)))), ?_⟩
  have len : kv.length <= (allN ps).length := row.lenO fun z hz => all_sub hz
  have l8 : (allN ps).length <= 8 := by unfold allN; rw [List.length_map]; exact hH.len
  have bgs : Bd 2000 (gsD ps t d) := (gs_bd hI hro hi ok).mono (by decide)
  have btt : ∀ {z : Str}, z ∈ allN ps -> Bd 2000 (t z) := fun {z} hz => ((hI.sz z hz).bd (by lia)).mono (by decide)
  obtain ⟨a, ys, rfl, ha, e0⟩ := dv0.kd
  refine ⟨_, rfl, a, _, _, _, rfl, rfl, SqT.of ha, e0, rfl, _, rfl, ?_⟩
  by_cases hy : d = .yr
  ·subst hy
   refine dec_true rfl ?_
   exact k H kv (fun c o e _ => e) ht row
  refine dec_false (fun e => hy (kd_yr.mp e)) ?_
  obtain ⟨a', ys', ea, ha', _, e1, e2⟩ := dv0.pass hy
  cases ea
  rw [ha] at ha'
  cases ha'
  obtain ⟨hto, hfr⟩ := to_mem ok hy
  have get : ∀ {H1 : Hp} {kv1 : List (Key × V)} {t1 : Str -> Rat}, H1 pt = some (.dK kv1) -> RowAt H1 kv1 (all (allN ps) t1) -> ∀ {z : Str}, z ∈ allN ps -> ∃ v, DGet H1 pt (.str z) (some v) /\ FrV H1 v (t1 z) := fun {H1 kv1 t1} h1 r1 {z} hz => by
   obtain ⟨v, e, f⟩ := r1.get hz
   refine ⟨v, ?_, f⟩
   have g := DGet.k (k := .inr z) h1
   rw [e] at g; exact g
  obtain ⟨u, dg, fu⟩ := get ht row hto
  refine ⟨_, rfl, _, rfl, a, _, _, _, rfl, rfl, SqT.of ha, e2, pt, u, rfl, dg, _, rfl, _, _, t (toD d), gsD ps t d, rfl, fu, hf, (btt hto).mono (by decide), bgs.mono (by decide), fun v1 H1 s1 f1 => ?_⟩
  have ht1 := s1 _ _ ht
  have ha1 := s1 _ _ ha
  refine ⟨_, rfl, _, rfl, a, _, _, _, rfl, rfl, SqT.of ha1, e2, pt, upd H1 pt (.dK (putK kv (.inr (toD d)) v1)), rfl, DPut.k (k := .inr (toD d)) ht1 (sz (by lia)), ?_⟩
  have tu2 : ∀ b zs, H1 b = some (.tup zs) -> upd H1 pt (.dK (putK kv (.inr (toD d)) v1)) b = some (.tup zs) := tup_of ht1 (fun _ z => nomatch z)
  have row2 := ((row.same fun _ _ g => g.same s1).put (z := toD d) f1).same fun v r g => g.tup tu2
  rw [all_put hto] at row2
  have ha2 := tu2 _ _ ha1
  have hf2 := (hf.same s1).tup tu2
  have ht2 := upd_same (H := H1) (a := pt) (o := .dK (putK kv (.inr (toD d)) v1))
  have k2 : ∀ c o, H c = some o -> c ≠ pt -> upd H1 pt (.dK (putK kv (.inr (toD d)) v1)) c = some o := fun c o e n => by rw [upd_ne n]; exact s1 _ _ e
  have len2 := length_putK kv (.inr (toD d)) v1
  generalize upd H1 pt (.dK (putK kv (.inr (toD d)) v1)) = H2 at *
  generalize putK kv (.inr (toD d)) v1 = kv2 at *
  refine ⟨_, rfl, a, _, _, _, rfl, rfl, SqT.of ha2, e0, rfl, _, rfl, ?_⟩
  cases hp : isP d with
  | false =>
   refine ite2 (fun h => ?_) (fun _ => ?_)
   ·have h : (!decide (V.str (kdD d) = V.str "bring")) = true := h
    rw [decide_eq_true (kd_br.mpr ⟨hp, hy⟩)] at h
    cases h
   cases d with
   | br z x r => exact k H2 kv2 k2 ht2 row2
   | yr => exact absurd rfl hy
   | _ => cases hp
  | true =>
   have P := PsD.of hI hro hi hp ok go
   refine ite2 (fun _ => ?_) (fun h => ?_)
   ·have e1 := e1 hp
    obtain ⟨u3, dg3, fu3⟩ := get ht2 row2 hfr
    rw [if_neg P.ne] at fu3
    obtain ⟨bf, rfl, hbf⟩ := id hf2
    refine ⟨_, rfl, _, rfl, a, _, _, _, rfl, rfl, SqT.of ha2, e1, pt, u3, rfl, dg3, _, rfl, bf, _, _, _, rfl, rfl, SqT.of hbf, rfl, _, _, rfl, rfl, _, rfl, bf, _, _, _, rfl, rfl, SqT.of hbf, rfl, sz (by simp), fun q hq => ?_⟩
    have tq := Same.upd (o := .tup [.int (0 - (gsD ps t d).num), .int ((gsD ps t d).den : Nat)]) hq
    refine ⟨_, _, t (frD d), -(gsD ps t d), rfl, fu3.same tq, FrV.newOf (neg_ok _).1 (neg_ok _).2, (btt hfr).mono (by decide), bgs.neg.mono (by decide), fun v4 H4 s4 f4 => ?_⟩
    have f4 : FrV H4 v4 (t (frD d) + -(gsD ps t d)) := f4
    rw [sub_eq] at f4
    have s24 := tq.trans s4
    have ht4 := s24 _ _ ht2
    refine ⟨_, rfl, _, rfl, a, _, _, _, rfl, rfl, SqT.of (s24 _ _ ha2), e1, pt, upd H4 pt (.dK (putK kv2 (.inr (frD d)) v4)), rfl, DPut.k (k := .inr (frD d)) ht4 (sz (by lia)), ?_⟩
    refine k _ (putK kv2 (.inr (frD d)) v4) (fun c o e n => by rw [upd_ne n]; exact s24 _ _ (k2 c o e n)) upd_same ?_
    have row5 := ((row2.same fun _ _ g => g.same s24).put (z := frD d) f4).same fun v r g => g.tup (tup_of (o := .dK (putK kv2 (.inr (frD d)) v4)) ht4 (fun _ z => nomatch z))
    rw [all_put hfr] at row5
    rw [P.pt]
    exact row5
   ·exfalso
    apply h
    show (!decide (V.str (kdD d) = V.str "bring")) = true
    have nb : ¬ V.str (kdD d) = V.str "bring" := fun e => by
     have := (kd_br.mp e).1
     rw [hp] at this; cases this
    rw [decide_eq_false nb]; rfl
noncomputable abbrev s__law_whole : Stmt := top 38
theorem sc__law_whole : FnScope ["_law_found"] ["_law_found"] (defScope s__law_whole) := scF
theorem ok__law_whole {ca : Ca} (D : DefAt K mg "_law_whole" s__law_whole) (T : Txt K mg ca) : FnAtH P w K mg base 1 "_law_whole" ["_law_found"] (spWhole) := by
 refine D.okH sc__law_whole (fun vs H Q E h => ?_) (fun _ _ _ _ _ _ us hl => match us, hl with | [_], _ => rfl) (fun f cdv A outer s H vs Q E hr h => ?_)
 ·obtain ⟨v, n, rfl, hv, k⟩ := h; rfl
 ·obtain ⟨v, n, rfl, hv, k⟩ := h
  have nd := sc__law_whole.nd
  refine ⟨_, (pss_one (ps_ret (pe_and (pe_callB (call_isi' (K := K) rfl) (by rfl) T.z_isinstance bt_isinstance (pa_cons (pv 0) (pa_cons (pe_bltn (v := .ty "int") (by rfl) T.z_int bt_int rfl) pa_nil))) (pe_one (pe_not (pe_callB (call_isi' (K := K) rfl) (by rfl) T.z_isinstance bt_isinstance (pa_cons (pv 0) (pa_cons (pe_bltn (v := .ty "bool") (by rfl) T.z_bool bt_bool rfl) pa_nil)))))))), ?_⟩
  refine ⟨_, rfl, _, _, _, _, rfl, tyOf_of hv, kit_tt (tyS_mem hv) (by decide), _, rfl, ?_⟩
  refine ite2 (fun h1 => ?_) (fun h1 => ?_)
  ·refine ⟨_, rfl, _, _, _, _, rfl, tyOf_of hv, kit_tt (tyS_mem hv) (by decide), _, rfl, ?_⟩
   rw [sub_int] at h1
   rw [sub_bool]
   have e : (!(n == "bool")) = (n == "int") := by
    rcases Bool.or_eq_true_iff.mp h1 with z | z
    ·have z := beq_iff_eq.mp z; subst z; decide
    ·have z := beq_iff_eq.mp z; subst z; decide
   rw [e]; exact k
  ·rw [sub_int] at h1
   have e : (n == "int") = false := by
    cases q : (n == "int") with
    | false => rfl
    | true => rw [q] at h1; exact absurd rfl h1
   rw [e] at k; exact k
noncomputable abbrev s__law_refusal : Stmt := top 39
theorem sc__law_refusal : FnScope ["_law_e", "_law_others"] ["_law_e"] (defScope s__law_refusal) := scF
theorem ok__law_refusal {ca : Ca} (D : DefAt K mg "_law_refusal" s__law_refusal) (T : Txt K mg ca) (G__law_whole : FnAtH P w K mg base 1 "_law_whole" ["_law_found"] (spWhole)) : FnAtH P w K mg base 2 "_law_refusal" ["_law_e"] (spRef ca.Full ca.Lacking) := by
 refine D.okH sc__law_refusal (fun vs H Q E h => ?_) (fun _ _ _ _ _ _ us hl => match us, hl with | [_], _ => rfl) (fun f cdv A outer s H vs Q E hr h => ?_)
 ·obtain ⟨a, C, dx, n, w, rfl, ha, hx, hC, k⟩ := h; rfl
 ·obtain ⟨a, C, dx, n, w, rfl, ha, hx, hC, k⟩ := h
  have nd := sc__law_refusal.nd
  refine ⟨_, (pss_cons (ps_set (i := 1) nd rfl (Or.inl rfl) (pe_lst (pa_cons (pe_callB (call_isiD' (K := K) rfl) (by rfl) T.z_isinstance bt_isinstance (pa_cons (pv 0) (pa_cons (pe_glob (v := .ref _) (by rfl) T.c_NoCask rfl) pa_nil))) (pa_cons (pe_callB (call_isiD' (K := K) rfl) (by rfl) T.z_isinstance bt_isinstance (pa_cons (pv 0) (pa_cons (pe_glob (v := .ref _) (by rfl) T.c_NoDeed rfl) pa_nil))) (pa_cons (pe_callB (call_isiD' (K := K) rfl) (by rfl) T.z_isinstance bt_isinstance (pa_cons (pv 0) (pa_cons (pe_glob (v := .ref _) (by rfl) T.c_NotSteady rfl) pa_nil))) (pa_cons (pe_callB (call_isiD' (K := K) rfl) (by rfl) T.z_isinstance bt_isinstance (pa_cons (pv 0) (pa_cons (pe_glob (v := .ref _) (by rfl) T.c_Tied rfl) pa_nil))) pa_nil))))))
   (pss_cons (ps_if (PW.pt (pw_or (pt_not (pt_val (pe_callB (call_isiD' (K := K) rfl) (by rfl) T.z_isinstance bt_isinstance (pa_cons (pv 0) (pa_cons (pe_bltn (v := .ty "ValueError") (by rfl) T.z_ValueError bt_ValueError rfl) pa_nil))))) (pw_or (pt_cmpR (op_in_seq' (K := K) rfl) pe_bl (pv 1) (by rfl)) (pw_or1 (pt_cmpR op_eq (pe_callB (call_isiD' (K := K) rfl) (by rfl) T.z_isinstance bt_isinstance (pa_cons (pv 0) (pa_cons (pe_glob (v := .ref _) (by rfl) T.c_Lacking rfl) pa_nil))) (pe_callB (call_isiD' (K := K) rfl) (by rfl) T.z_isinstance bt_isinstance (pa_cons (pv 0) (pa_cons (pe_glob (v := .ref _) (by rfl) T.c_Full rfl) pa_nil))) (nomark _)))))) (pss_one (ps_ret (pe_tup (pa_cons pe_str (pa_cons (pe_un un_neg pe_int) pa_nil))))) pss_nil)
   (pss_cons (ps_if (pt_not (pt_val (pfnH G__law_whole hr (pa_cons (pe_exf' (K := K) rfl (pv 0)) pa_nil)))) (pss_one (ps_ret (pe_tup (pa_cons pe_str (pa_cons (pe_un un_neg pe_int) pa_nil))))) pss_nil)
   (pss_one (ps_ret (pe_tup (pa_cons (pixL (pe_lst (pa_cons pe_str (pa_cons pe_str pa_nil))) (pe_callTy call_int1 (by rfl) T.z_int bt_int (pa_cons (pe_callB (call_isiD' (K := K) rfl) (by rfl) T.z_isinstance bt_isinstance (pa_cons (pv 0) (pa_cons (pe_glob (v := .ref _) (by rfl) T.c_Lacking rfl) pa_nil))) pa_nil))) (pa_cons (pe_exf' (K := K) rfl (pv 0)) pa_nil)))))))), ?_⟩
  obtain ⟨b, xk, c1, c2, c3, c4, cv, cl, cf, hd, fa, hw⟩ : ∃ b : Bool, ExcK K C /\ PySem.W.kitOne K (.ref C) (.ref ca.NoCask) = some false /\ PySem.W.kitOne K (.ref C) (.ref ca.NoDeed) = some false /\ PySem.W.kitOne K (.ref C) (.ref ca.NotSteady) = some false /\ PySem.W.kitOne K (.ref C) (.ref ca.Tied) = some false /\ PySem.W.kitOne K (.ref C) (.type "ValueError") = some true /\ PySem.W.kitOne K (.ref C) (.ref ca.Lacking) = some b /\ PySem.W.kitOne K (.ref C) (.ref ca.Full) = some (!b) /\ PySem.W.hasDictIn K C = true /\ PySem.W.findIn K (.ref C) "at" = some none /\ w = (if b = true then "lacking" else "full") := by
   rcases hC with ⟨rfl, e⟩ | ⟨rfl, e⟩
   ·exact ⟨false, T.x_Full, T.i_Full_NoCask, T.i_Full_NoDeed, T.i_Full_NotSteady, T.i_Full_Tied, T.v_Full, T.i_Full_Lacking, T.i_Full_Full, T.u_Full.hd, T.u_Full.fa, e⟩
   ·exact ⟨true, T.x_Lacking, T.i_Lacking_NoCask, T.i_Lacking_NoDeed, T.i_Lacking_NotSteady, T.i_Lacking_Tied, T.v_Lacking, T.i_Lacking_Lacking, T.i_Lacking_Full, T.u_Lacking.hd, T.u_Lacking.fa, e⟩
  refine ⟨_, rfl, a, C, some dx, _, false, rfl, ha, xk, .inr ⟨_, rfl, c1⟩, _, rfl, a, C, some dx, _, false, rfl, ha, xk, .inr ⟨_, rfl, c2⟩, _, rfl, a, C, some dx, _, false, rfl, ha, xk, .inr ⟨_, rfl, c3⟩, _, rfl, a, C, some dx, _, false, rfl, ha, xk, .inr ⟨_, rfl, c4⟩, sz (by simp), fun p hp => ?_⟩
  have t1 := Same.upd (o := .lst [.bl false, .bl false, .bl false, .bl false]) hp
  have ha1 := t1 _ _ ha
  have hx1 := t1 _ _ hx
  have hp1 := upd_same (H := H) (a := p) (o := .lst [.bl false, .bl false, .bl false, .bl false])
  generalize upd H p (.lst [.bl false, .bl false, .bl false, .bl false]) = H1 at *
  refine ⟨_, rfl, a, C, some dx, _, true, rfl, ha1, xk, .inl ⟨_, rfl, cv⟩, true, rfl, ?_⟩
  refine iteF ?_
  refine ⟨_, rfl, p, _, rfl, .inl (SqL.of hp1), rfl, rfl, _, rfl, ?_⟩
  refine ite2 (fun h => absurd h (by decide)) (fun _ => ?_)
  refine ⟨_, rfl, a, C, some dx, _, b, rfl, ha1, xk, .inr ⟨_, rfl, cl⟩, _, rfl, a, C, some dx, _, !b, rfl, ha1, xk, .inr ⟨_, rfl, cf⟩, rfl, _, rfl, ?_⟩
  refine dec_false (by cases b <;> (intro z; cases z)) ?_
  refine ⟨_, rfl, a, C, dx, _, n, rfl, ha1, hx1, xk, hd, fa, rfl, _, "int", rfl, rfl, true, rfl, ?_⟩
  refine iteF ?_
  refine ⟨sz (by simp), fun q hq => ?_⟩
  have t2 := Same.upd (o := .lst [V.str "full", .str "lacking"]) hq
  have ha2 := t2 _ _ ha1
  have hx2 := t2 _ _ hx1
  have hq2 := upd_same (H := H1) (a := q) (o := .lst [V.str "full", .str "lacking"])
  generalize upd H1 q (.lst [V.str "full", .str "lacking"]) = H2 at *
  refine ⟨_, rfl, a, C, some dx, _, b, rfl, ha2, xk, .inr ⟨_, rfl, cl⟩, .inr ⟨b, rfl, q, _, _, V.str w, rfl, rfl, SqL.of hq2, ?_, ?_⟩⟩
  ·rw [hw]; cases b <;> rfl
  refine ⟨_, rfl, a, C, dx, _, n, rfl, ha2, hx2, xk, hd, fa, rfl, sz (by simp), fun l hl => ?_⟩
  exact k l _ (t1.trans (t2.trans (Same.upd hl))) upd_same
noncomputable abbrev s__law_told : Stmt := top 40
theorem sc__law_told : FnScope ["_law_house_here", "_law_year", "_law_deeds", "_law_handed", "_law_e"] ["_law_house_here", "_law_year", "_law_deeds"] (defScope s__law_told) := scF
theorem ok__law_told {ca : Ca} (D : DefAt K mg "_law_told" s__law_told) (T : Txt K mg ca) (G__law_none : FnAt P w K mg base CX0 1 "_law_none" ["_law_house_here"] (spNone K)) (G_steps_of : FnAt P w K mg base (CXD P w) 6 "steps_of" ["house", "totals", "year", "deeds"] (spStepsR K ca.Full ca.Lacking)) (G__law_refusal : FnAtH P w K mg base 2 "_law_refusal" ["_law_e"] (spRef ca.Full ca.Lacking)) : FnAt P w K mg base CX0 7 "_law_told" ["_law_house_here", "_law_year", "_law_deeds"] (spTold) := by
 refine D.ok sc__law_told (fun vs H Q E h => ?_) (fun _ _ _ _ _ _ us hl => match us, hl with | [_, _, _], _ => rfl) (fun f cdv A outer s H vs Q E hr h => ?_)
 ·obtain ⟨ah, n, ad, xs, ps, ys, ds, rfl, hX, hP, hH, hr0, hD, hPd, hG, h42, kk⟩ := h; rfl
 ·obtain ⟨ah, n, ad, xs, ps, ys, ds, rfl, hX, hP, hH, hr0, hD, hPd, hG, h42, kk⟩ := h
  have nd := sc__law_told.nd
  refine ⟨_, (pss_cons (ps_set (i := 3) nd rfl (Or.inl rfl) (pe_lst (pa_cons (pe_callTy (call_list_of' (K := K) rfl) (by rfl) T.z_list bt_list (pa_cons (pv 0) pa_nil)) (pa_cons (pfn G__law_none hr (pa_cons (pv 0) pa_nil)) (pa_cons (pe_callTy (call_list_of' (K := K) rfl) (by rfl) T.z_list bt_list (pa_cons (pv 2) pa_nil)) pa_nil)))))
   (pss_cons (ps_tryD rfl rfl (pexD_fn G_steps_of hr (by rfl) (pa_cons (pixL (pv 3) pe_int) (pa_cons (pixL (pv 3) pe_int) (pa_cons (pv 1) (pa_cons (pixL (pv 3) pe_int) pa_nil))))) (hdD_as rfl nd (by rfl) T.c_Full (i := 4) rfl rfl (fun _ => (pss_one (ps_ret (pfnH G__law_refusal (hr.h.mark _) (pa_cons (pv 4) pa_nil))))) (hdD_as rfl nd (by rfl) T.c_Lacking (i := 4) rfl rfl (fun _ => (pss_one (ps_ret (pfnH G__law_refusal (hr.h.mark _) (pa_cons (pv 4) pa_nil))))) hdD_none)))
   (pss_cons (ps_if (pt_cmpR (op_neL (K := K) rfl hr) (pv 3) (pe_lst (pa_cons (pv 0) (pa_cons (pfn G__law_none hr (pa_cons (pv 0) pa_nil)) (pa_cons (pv 2) pa_nil)))) (nomark _)) (pss_one (ps_ret (pe_tup (pa_cons pe_str (pa_cons (pe_un un_neg pe_int) pa_nil))))) pss_nil)
   (pss_one (ps_ret (pe_tup (pa_cons pe_str (pa_cons (pe_un un_neg pe_int) pa_nil)))))))), ?_⟩
  refine ⟨_, rfl, ah, _, rfl, .inl (SqL.of hX), fun l1 hl1 => ?_⟩
  have t7 := Same.upd (o := .lst xs) hl1
  refine ⟨_, rfl, ah, xs, ps, rfl, SqL.of (t7 _ _ hX), house_same hP t7, hH, fun pn H8 kvn hpn s8 hn8 rn8 => ?_⟩
  have l18 := s8 _ _ (upd_same (H := H) (a := l1) (o := .lst xs))
  have s08 := t7.trans s8
  refine ⟨_, rfl, ad, _, rfl, .inl (SqL.of (s08 _ _ hD)), fun l2 hl2 => ?_⟩
  have t9 := Same.upd (o := .lst ys) hl2
  refine ⟨sz (by simp), fun lh hlh => ?_⟩
  have t10 := Same.upd (o := .lst [V.ref l1, .ref pn, .ref l2]) hlh
  have s810 := t9.trans t10
  have l1a := s810 _ _ l18
  have hna := s810 _ _ hn8
  have rna := rn8.same fun _ _ g => g.same s810
  have l2a : upd (upd H8 l2 (.lst ys)) lh (.lst [V.ref l1, .ref pn, .ref l2]) l2 = some (.lst ys) := t10 _ _ upd_same
  have lha := upd_same (H := upd H8 l2 (.lst ys)) (a := lh) (o := .lst [V.ref l1, .ref pn, .ref l2])
  have s0a := s08.trans s810
  generalize upd (upd H8 l2 (.lst ys)) lh (.lst [V.ref l1, .ref pn, .ref l2]) = Ha at *
  refine ⟨_, rfl, lh, _, _, _, rfl, rfl, SqL.of lha, rfl, _, rfl, lh, _, _, _, rfl, rfl, SqL.of lha, rfl, _, rfl, _, rfl, lh, _, _, _, rfl, rfl, SqL.of lha, rfl, l1, pn, n, l2, xs, ps, kvn, ys, ds, rfl, SqL.of l1a, house_same hP s0a, hH, hr0, hna, rna, SqL.of l2a, Paired.mapP hPd (fun _ _ g => g.same s0a), hG, h42, ?_⟩
  rcases kk with ⟨hlen, k⟩ | ⟨v, d, w, hv, dv0, ok, rf, k⟩
  rotate_left
  ·refine .inr ⟨v, d, hv, dv0.same s0a, ok, ?_⟩
   rcases rf with ⟨lk, rfl⟩ | ⟨fu, rfl⟩
   ·refine .inl ⟨lk, fun dx H' s' e => ?_⟩
    refine ⟨false, T.m_Lacking_Full, iteF ?_⟩
    refine ⟨true, T.m_Lacking_Lacking, iteT fun a ha => ?_⟩
    have ta := Same.upd (o := excD a (.ref ca.Lacking) (some dx)) ha
    exact ⟨_, rfl, a, ca.Lacking, dx, _, "lacking", rfl, upd_same, ta _ _ e, .inr ⟨rfl, rfl⟩, fun p H2 s2 hp => k p H2 (s0a.trans (s'.trans (ta.trans s2))) hp⟩
   ·refine .inr ⟨fu, fun dx H' s' e => ?_⟩
    refine ⟨true, T.m_Full_Full, iteT fun a ha => ?_⟩
    have ta := Same.upd (o := excD a (.ref ca.Full) (some dx)) ha
    exact ⟨_, rfl, a, ca.Full, dx, _, "full", rfl, upd_same, ta _ _ e, .inl ⟨rfl, rfl⟩, fun p H2 s2 hp => k p H2 (s0a.trans (s'.trans (ta.trans s2))) hp⟩
  refine .inl ⟨hlen, fun la Hb sb => ?_⟩
  have s0b := s0a.trans sb
  have hPb := house_same hP s0b
  have hPd := hPd
  rw [<- hlen, List.take_length] at hPd
  have Yb := Paired.mapP hPd fun _ _ g => g.same s0b
  refine ⟨_, rfl, _, rfl, _, rfl, ah, xs, ps, rfl, SqL.of (s0b _ _ hX), hPb, hH, fun pn2 Hc kvn2 hpn2 sc hn2 rn2 => ?_⟩
  refine ⟨_, rfl, sz (by simp), fun le hle => ?_⟩
  have td := Same.upd (o := .lst [V.ref ah, .ref pn2, .ref ad]) hle
  have sbd := sc.trans td
  have sad := sb.trans sbd
  have s0d := s0b.trans sbd
  have hlayP : ∀ p ∈ ps, Lay (nmP p) := fun p hp => hH.lay _ (List.mem_map.mpr ⟨p, hp, rfl⟩)
  have hlayD : ∀ d ∈ ds, LayD d := fun d hd => by
   obtain ⟨i, hi, e⟩ := List.getElem_of_mem hd
   exact layD hH (hG i d (by rw [List.getElem?_eq_getElem hi, e])).1
  have Pd := house_same hP s0d
  have Yd := Paired.mapP hPd fun _ _ g => g.same s0d
  have hal : AlL K (upd Hc le (.lst [V.ref ah, .ref pn2, .ref ad])) (.ref lh) (.ref le) := by
   refine ⟨lh, le, _, _, rfl, rfl, SqL.of (sad _ _ lha), SqL.of upd_same, .cons ?_ (.cons ?_ (.cons ?_ .nil))⟩
   ·exact al_flat (repL (SqL.of (sad _ _ l1a)) (rep_house Pd hlayP)) (repL (SqL.of (s0d _ _ hX)) (rep_house Pd hlayP)) (lst_depth dPl_depth ps) 3
   ·exact al_row (sad _ _ hna) (td _ _ hn2) (rna.same fun _ _ g => g.same sad) (rn2.same fun _ _ g => g.same td) 2
   ·exact al_flat (repL (SqL.of (sad _ _ l2a)) (rep_deeds Yd hlayD)) (repL (SqL.of (s0d _ _ hD)) (rep_deeds Yd hlayD)) (lst_depth dDd_depth ds) 3
  refine ⟨hal, _, rfl, ?_⟩
  refine iteF ?_
  refine ⟨_, rfl, sz (by simp), fun l hl => ?_⟩
  exact k l _ (s0d.trans (Same.upd hl)) upd_same
noncomputable abbrev s_law : Stmt := top 41
theorem sc_law : FnScope ["_law_script", "_law_house_here", "_law_rooms_here", "_law_year", "_law_totals", "_law_deeds", "_law_passes", "_law_k", "_law_deed_here", "_law_word", "_law_goes", "_law_worse"] ["_law_script"] (defScope s_law) := scF
theorem ok_law {ca : Ca} {f : Addr} {fd : FuncData} (D : Fun K "law" "law" s_law f fd) (T : Txt K mg ca) (G__law_house : FnAt P w K mg base CX0 3 "_law_house" ["_law_cell"] (spHouse)) (G__law_cell_at : FnAt P w K mg base CX0 1 "_law_cell_at" ["_law_script", "_law_k"] (spCell K)) (G__law_rooms : FnAt P w K mg base CX0 1 "_law_rooms" ["_law_house_here"] (spRooms K)) (G__law_none : FnAt P w K mg base CX0 1 "_law_none" ["_law_house_here"] (spNone K)) (G__law_deed : FnAt P w K mg base CX0 4 "_law_deed" ["_law_one", "_law_other", "_law_house_here", "_law_totals"] (spDeed K)) (G__law_judged : FnAt P w K mg base CX0 3 "_law_judged" ["_law_deed_here", "_law_totals", "_law_rooms_here"] (spJudgedR)) (G__law_told : FnAt P w K mg base CX0 7 "_law_told" ["_law_house_here", "_law_year", "_law_deeds"] (spTold)) (G__law_put : FnAt P w K mg base CX0 3 "_law_put" ["_law_deed_here", "_law_goes", "_law_totals"] (spPut)) : FnOk P w K mg base CX0 8 f fd ["_law_script"] (spLaw K) := by
 refine D.ok sc_law (fun vs H Q E h => ?_) (fun cdv A outer s H vs Q E hr h => ?_)
 ·obtain ⟨a, ns, rfl, hS, hlen, k⟩ := h; rfl
 ·obtain ⟨a, ns, rfl, hS, hlen, k⟩ := h
  have nd := sc_law.nd
  refine ⟨_, (pss_cons (ps_set (i := 1) nd rfl (Or.inl rfl) (pfn G__law_house hr (pa_cons (pfn G__law_cell_at hr (pa_cons (pv 0) (pa_cons pe_int pa_nil))) pa_nil)))
   (pss_cons (ps_set (i := 2) nd rfl (Or.inl rfl) (pfn G__law_rooms hr (pa_cons (pv 1) pa_nil)))
   (pss_cons (ps_set (i := 3) nd rfl (Or.inl rfl) (pe_op op_modN (pfn G__law_cell_at hr (pa_cons (pv 0) (pa_cons pe_int pa_nil))) pe_int))
   (pss_cons (ps_set (i := 4) nd rfl (Or.inl rfl) (pfn G__law_none hr (pa_cons (pv 1) pa_nil)))
   (pss_cons (ps_set (i := 5) nd rfl (Or.inl rfl) (pe_lst pa_nil))
   (pss_cons (ps_set (i := 6) nd rfl (Or.inl rfl) pe_int)
   (pss_cons (ps_for PassesOwn.never rfl (pi_range3 (by rfl) T.z_range (pa_cons pe_int (pa_cons (pe_op op_sub (pe_callB (call_min2 rfl) (by rfl) T.z_min bt_min (pa_cons (pe_callB (call_len' (K := K) rfl) (by rfl) T.z_len PySem.boot_len (pa_cons (pv 0) pa_nil)) (pa_cons pe_int pa_nil))) pe_int) (pa_cons pe_int pa_nil)))) (pg_name (i := 7) nd rfl (Or.inl rfl)) (pss_cons (ps_set (i := 8) nd rfl (Or.inl rfl) (pfn G__law_deed hr (pa_cons (pixL (pv 0) (pv 7)) (pa_cons (pixL (pv 0) (pe_op op_add (pv 7) pe_int)) (pa_cons (pv 1) (pa_cons (pv 4) pa_nil))))))
   (pss_cons (ps_asg (pfn G__law_judged hr (pa_cons (pv 8) (pa_cons (pv 4) (pa_cons (pv 2) pa_nil)))) (pg_tup rfl (pgs_cons (pg_name (i := 9) nd rfl (Or.inl rfl)) (pgs_cons (pg_name (i := 10) nd rfl (Or.inl rfl)) pgs_nil))))
   (pss_one (ps_if (pt_cmpR op_ne (pv 9) pe_str (nomark _)) (pss_cons (ps_set (i := 11) nd rfl (Or.inl rfl) (pe_tup (pa_cons pe_str (pa_cons pe_str (pa_cons (pixL (pe_callTy (call_list_keys rfl) (by rfl) T.z_list bt_list (pa_cons (pv 2) pa_nil)) (pe_op op_modN (pv 7) (pe_callB call_lenK (by rfl) T.z_len PySem.boot_len (pa_cons (pv 2) pa_nil)))) (pa_cons (pe_tup (pa_cons (pe_op op_sub (pe_op op_pow pe_int pe_int) pe_int) (pa_cons pe_int pa_nil))) pa_nil))))))
   (pss_one (ps_if (pt_cmpR (op_neD' (K := K) rfl hr) (pfn G__law_told hr (pa_cons (pv 1) (pa_cons (pv 3) (pa_cons (pe_op op_cat (pv 5) (pe_lst (pa_cons (pv 8) (pa_cons (pe_tup (pa_cons pe_str pa_nil)) (pa_cons (pv 11) (pa_cons (pv 11) pa_nil)))))) pa_nil)))) (pe_tup (pa_cons (pv 9) (pa_cons (pe_callB (call_len' (K := K) rfl) (by rfl) T.z_len PySem.boot_len (pa_cons (pv 5) pa_nil)) pa_nil))) (nomark _)) (pss_one (ps_ret pe_bl)) pss_nil))) (pss_one (ps_if (pt_cmpR op_lt (pv 6) pe_int (nomark _)) (pss_cons (ps_expr (pe_bm PySem.F.plainAttrs_list PySem.F.slot_list_append PySem.F.type_list_append mt_append (pv 5) (pa_cons (pv 8) pa_nil)))
   (pss_cons (ps_set (i := 6) nd rfl (Or.inl rfl) (pe_op op_add (pv 6) (pe_callTy call_int1 (by rfl) T.z_int bt_int (pa_cons (pe_cmpR (op_notIn_seq' (K := K) rfl) (pixT (pv 8) pe_int) (pe_tup (pa_cons pe_str (pa_cons pe_str pa_nil))) (by rfl)) pa_nil))))
   (pss_one (ps_expr (pfn G__law_put hr (pa_cons (pv 8) (pa_cons (pv 10) (pa_cons (pv 4) pa_nil)))))))) pss_nil)))))))
   (pss_one (ps_ret (pe_cmpR (op_eqD' (K := K) rfl hr) (pfn G__law_told hr (pa_cons (pv 1) (pa_cons (pv 3) (pa_cons (pv 5) pa_nil)))) (pe_tup (pa_cons pe_str (pa_cons (pe_un un_neg pe_int) pa_nil))) (nomark _))))))))))), ?_⟩
  refine ⟨_, rfl, a, ns, 0, rfl, hS, by decide, fun c0 => ⟨c0, rfl, fun ph H1 xs ps hph s1 hX1 hP1 hH hr0 h2c => ?_⟩⟩
  refine ⟨_, rfl, ph, xs, ps, rfl, SqL.of hX1, hP1, hH, fun pr H2 kvr hpr s2 hr2 rr2 => ?_⟩
  have s02 := s1.trans s2
  have hX2 := s2 _ _ hX1
  have hP2 := house_same hP1 s2
  refine ⟨_, rfl, a, ns, 1, rfl, s02.seq hS, by decide, fun c1 => ⟨_, _, rfl, rfl, (show (9001 : Int) ≠ 0 by decide), ?_⟩⟩
  let n : Int := c1.fmod 9001
  refine ⟨_, rfl, ph, xs, ps, rfl, SqL.of hX2, hP2, hH, fun pt H3 kvt hpt s3 ht3 rt3 => ?_⟩
  refine ⟨sz (by simp), fun pd hpd => ?_⟩
  have t4 := Same.upd (o := .lst []) hpd
  have s25 := s3.trans t4
  have hpd5 := upd_same (H := H3) (a := pd) (o := .lst [])
  have ht5 := t4 _ _ ht3
  have rt5 := rt3.same fun _ _ g => g.same t4
  have npd2 : H2 pd = none := s3.free hpd
  have npt2 : H2 pt = none := hpt
  generalize upd H3 pd (.lst []) = H5 at *
  refine ⟨_, rfl, _, _, rfl, .inl ⟨_, s25.seq (s02.seq hS), rfl⟩, _, _, rfl, _, _, rfl, rfl, 2, _, 2, rfl, ⟨by decide, by decide, ?_, ?_, by decide, by decide⟩, ?_⟩
  ·rw [List.length_map]; split <;> lia
  ·rw [List.length_map]; split <;> lia
  refine for_rangeS (fun i σ H6 => ∃ (np : Int) (v7 v8 v9 v10 v11 : Option V) (ys : List V) (ds : List Dd) (kv : List (Key × V)), σ = [some (.ref a), some (.ref ph), some (.ref pr), some (.int n), some (.ref pt), some (.ref pd), some (.int np), v7, v8, v9, v10, v11] /\ Same H2 H6 /\ Dm H6 ps n xs ys ds kv ph pt pd /\ Goes ps n ds /\ ds.length <= i) ⟨0, none, none, none, none, none, [], [], kvt, rfl, s25, ⟨s25 _ _ hX2, house_same hP2 s25, hpd5, .nil, ht5, rt5⟩, Goes.nil _ _, Nat.le_refl _⟩ ?_ ?_
  ·rintro i σ H6 hi ⟨np, v7, v8, v9, v10, v11, ys, ds, kv, rfl, s6, Z, hG, hdl⟩
   have hS6 := s6.seq (s02.seq hS)
   obtain ⟨i41, ⟨d0, hd0⟩, d1, hd1⟩ := two_at (ns := ns) hi
   have h88 := le88 hdl i41
   have hI : InT ps (run ps n ds).t (2 * ds.length) := by
    have := Goes.inT hr0 hG ds.length (Nat.le_refl _)
    rwa [List.take_length] at this
   have lY : ys.length = ds.length := Z.Y.length
   have sY := small1000 (le1000 (Nat.le_of_eq lY) hdl i41)
   refine ⟨_, rfl, _, rfl, a, _, _, _, rfl, rfl, hS6, hd0, _, rfl, _, rfl, _, _, rfl, rfl, a, _, _, _, rfl, rfl, hS6, hd1, _, rfl, _, rfl, d0, d1, ph, pt, xs, ps, kv, (run ps n ds).t, 2 * ds.length, rfl, SqL.of Z.X, Z.P, hH, h2c, Z.T, Z.R, hI, h88, fun dw H7 d s7 dv7 ok => ?_⟩
   have Z := Z.same s7
   have s27 := s6.trans s7
   have hs7 : Hs H7 ps (run ps n ds).t pt pr kv kvr := ⟨Z.T, Z.R, s27 _ _ hr2, rr2.same fun _ _ g => g.same s27⟩
   refine ⟨_, rfl, _, rfl, _, rfl, dw, d, ps, (run ps n ds).t, pt, pr, kv, kvr, 2 * ds.length, rfl, hs7, dv7, ok, hI, h88, hr0, fun la f wd H8 s8 h8 f8 jd => ?_⟩
   have Z := Z.same s8
   have s28 := s27.trans s8
   have dv8 := dv7.same s8
   obtain ⟨da, dys, rfl, hda, e0⟩ := dv8.kd
   refine ⟨la, _, rfl, SqT.of h8, rfl, _, _, rfl, _, _, rfl, rfl, ?_⟩
   refine ⟨_, rfl, rfl, _, rfl, ?_⟩
   have hr8 := s28 _ _ hr2
   refine ite2 (fun hw => ?_) (fun hw => ?_)
   ·have rf : (LkD ps (run ps n ds).t d /\ wd = "lacking") \/ (FuD ps (run ps n ds).t d /\ wd = "full") := by
     rcases jd with ⟨e, _⟩ | ⟨e, h⟩ | ⟨e, h⟩
     ·subst e
      exact absurd hw (by decide +kernel)
     ·exact .inl ⟨h, e⟩
     ·exact .inr ⟨h, e⟩
    have hlay : Lay wd := by
     rcases rf with ⟨_, rfl⟩ | ⟨_, rfl⟩ <;> decide +kernel
    clear jd
    have hk0 := rows_pos rr2 h2c
    refine ⟨_, rfl, pr, _, rfl, hr8, rfl, fun pss hpss l hl => ?_⟩
    have t9 := Same.upd (o := .lst (pss.map fun x => x.fst)) hl
    have hlp : (pss.map fun x => x.fst).length = kvr.length := by
     have e : pss = kvr.map fun kv => (kV kv.1, kv.2) := hpss
     rw [e, List.length_map, List.length_map]
    obtain ⟨vv, hvv⟩ := at_mod (k := 2 + (i : Int) * 2) hlp hk0
    refine ⟨_, rfl, _, rfl, pr, kvr, rfl, t9 _ _ hr8, _, _, rfl, rfl, (show ((kvr.length : Nat) : Int) ≠ 0 by lia), l, _, _, vv, rfl, rfl, SqL.of upd_same, hvv, ?_⟩
    have s2A := s28.trans t9
    have ZA := Z.same t9
    have dvA := dv8.same t9
    generalize upd H8 l (.lst (pss.map fun x => x.fst)) = HA at *
    refine ⟨_, _, rfl, rfl, ⟨by decide, by decide, by decide⟩, _, _, rfl, rfl, sz (by simp), fun q hq => ?_⟩
    have t10 := Same.upd (o := .tup [V.int (10 ^ Int.toNat 12 - 1), .int 1]) hq
    refine ⟨sz (by simp), fun q2 hq2 => ?_⟩
    have t11 := Same.upd (o := .tup [V.str "bring", .str "late", vv, .ref q]) hq2
    have tAB := t10.trans t11
    have s2B := s2A.trans tAB
    have ZB := ZA.same tAB
    have dvB := dvA.same tAB
    generalize upd (upd HA q (.tup [V.int (10 ^ Int.toNat 12 - 1), .int 1])) q2 (.tup [V.str "bring", .str "late", vv, .ref q]) = HB at *
    refine ⟨_, rfl, _, rfl, _, rfl, _, rfl, sz (by simp), fun yy hyy => ?_⟩
    have t12 := Same.upd (o := .tup [V.str "year"]) hyy
    refine ⟨_, rfl, _, rfl, sz (by simp), fun l3 hl3 => ?_⟩
    have t13 := Same.upd (o := .lst [V.ref da, .ref yy, .ref q2, .ref q2]) hl3
    have tBC := t12.trans t13
    have s2C := s2B.trans tBC
    have ZC := ZB.same tBC
    have dvC := dvB.same tBC
    have hl3C := upd_same (H := upd HB yy (.tup [V.str "year"])) (a := l3) (o := .lst [V.ref da, .ref yy, .ref q2, .ref q2])
    generalize upd (upd HB yy (.tup [V.str "year"])) l3 (.lst [V.ref da, .ref yy, .ref q2, .ref q2]) = HC at *
    refine ⟨pd, l3, ys, _, rfl, rfl, ZC.D, hl3C, sz (by simp; lia), fun l4 hl4 => ?_⟩
    have t14 := Same.upd (o := .lst (ys ++ [V.ref da, .ref yy, .ref q2, .ref q2])) hl4
    have s2D := s2C.trans t14
    have ZD := ZC.same t14
    have dvD := dvC.same t14
    have hl4D := upd_same (H := HC) (a := l4) (o := .lst (ys ++ [V.ref da, .ref yy, .ref q2, .ref q2]))
    generalize upd HC l4 (.lst (ys ++ [V.ref da, .ref yy, .ref q2, .ref q2])) = HD at *
    have etk : (ys ++ [V.ref da, .ref yy, .ref q2, .ref q2]).take ds.length = ys := by rw [<- lY, List.take_left']; rfl
    have eat : (ys ++ [V.ref da, .ref yy, .ref q2, .ref q2])[ds.length]? = some (V.ref da) := by rw [<- lY, List.getElem?_append_right (Nat.le_refl _), Nat.sub_self]; rfl
    refine ⟨ph, n, l4, xs, ps, _, ds, rfl, ZD.X, ZD.P, hH, hr0, hl4D, (by rw [etk]; exact ZD.Y), hG, by lia, .inr ⟨_, d, wd, eat, dvD, ok, rf, fun pp HE sE hpp => ?_⟩⟩
    have ZE := ZD.same sE
    refine ⟨_, rfl, _, rfl, _, _, rfl, .inl ⟨_, SqL.of ZE.D, rfl⟩, sz (by simp), fun p2 hp2 => ?_⟩
    have tF := Same.upd (o := .tup [V.str wd, .int (ys.length : Nat)]) hp2
    have r1 := rep_si (K := K) (tF _ _ hpp) hlay
    have r2 := rep_si (K := K) (upd_same (H := HE) (a := p2) (o := .tup [V.str wd, .int (ys.length : Nat)])) hlay
    rw [lY] at r2
    refine ⟨_, _, r1, (by rw [lY]; exact r2), si_depth _ _, _, rfl, ?_⟩
    rw [PySem.SeqAt.eqv_refl _ r1.lay]
    refine iteF ?_
    exact ⟨np, _, _, _, _, _, ys, ds, kv, rfl, s2D.trans (sE.trans tF), ZE.same tF, hG, Nat.le_succ_of_le hdl⟩
   have hwd : wd = "goes" := by
    by_cases e : V.str wd = V.str "goes"
    ·exact V.str.inj e
    ·exact absurd (by rw [decide_eq_false e]; rfl) hw
   have go : GoD ps (run ps n ds).t d := by
    rcases jd with ⟨_, h⟩ | ⟨e, _⟩ | ⟨e, _⟩
    ·exact h
    ·rw [hwd] at e; exact absurd e (by decide +kernel)
    ·rw [hwd] at e; exact absurd e (by decide +kernel)
   clear jd
   refine ⟨_, rfl, _, _, rfl, rfl, _, rfl, ?_⟩
   refine ite2 (fun _ => ?_) (fun _ => ⟨np, _, _, _, _, _, ys, ds, kv, rfl, s28, Z, hG, Nat.le_succ_of_le hdl⟩)
   have er := run_snoc ps n ds d
   have hG' := hG.snoc ok go
   refine ⟨_, rfl, .inl ⟨rfl, _, SqL.of Z.D⟩, _, rfl, pd, _, _, rfl, rfl, Z.D, sY, ?_⟩
   have tu9 : ∀ b zs, H8 b = some (.tup zs) -> upd H8 pd (.lst (ys ++ [.ref da])) b = some (.tup zs) := tup_of Z.D (fun _ z => nomatch z)
   have dv9 := dv8.tup tu9
   have hda9 := tu9 _ _ hda
   have f9 := f8.tup tu9
   have s29 := s28.updD (o := .lst (ys ++ [.ref da])) npd2
   have nhd : ph ≠ pd := ne_of_none hX2 npd2
   have ntd : pt ≠ pd := ne_of Z.T Z.D (by intro z; cases z)
   have hX9 : upd H8 pd (.lst (ys ++ [.ref da])) ph = some (.lst xs) := by rw [upd_ne nhd]; exact Z.X
   have hD9 := upd_same (H := H8) (a := pd) (o := .lst (ys ++ [.ref da]))
   have hT9 : upd H8 pd (.lst (ys ++ [.ref da])) pt = some (.dK kv) := by rw [upd_ne ntd]; exact Z.T
   have P9 := Paired.mapP Z.P fun _ _ g => g.tup tu9
   have Y9 := Paired.snoc (Paired.mapP Z.Y fun _ _ g => g.tup tu9) dv9
   have R9 := Z.R.same fun _ _ g => g.tup tu9
   generalize upd H8 pd (.lst (ys ++ [.ref da])) = H9 at *
   refine ⟨_, rfl, _, rfl, da, _, _, _, rfl, rfl, SqT.of hda9, e0, sz (by simp), fun lj hlj => ?_⟩
   have tj := Same.upd (o := .tup [V.str "bring", .str "year"]) hlj
   refine ⟨lj, _, rfl, .inr (SqT.of upd_same), rfl, rfl, .inr ⟨_, rfl, _, _, rfl, rfl, ?_⟩⟩
   have dv10 := dv9.same tj
   have f10 := f9.same tj
   have s210 := s29.trans tj
   have hX10 := tj _ _ hX9
   have hD10 := tj _ _ hD9
   have hT10 := tj _ _ hT9
   have P10 := house_same P9 tj
   have Y10 := Paired.mapP Y9 fun _ _ g => g.same tj
   have R10 := R9.same fun _ _ g => g.same tj
   generalize upd H9 lj (.tup [V.str "bring", .str "year"]) = H10 at *
   refine ⟨_, rfl, _, rfl, _, rfl, .ref da, d, f, pt, kv, ps, (run ps n ds).t, 2 * ds.length, rfl, dv10, ok, go, hI, h88, hr0, hH, f10, hT10, R10, fun H11 kv11 k11 hT11 R11 => ?_⟩
   have tu11 : ∀ b zs, H10 b = some (.tup zs) -> H11 b = some (.tup zs) := fun b zs e => k11 b _ e (ne_of e hT10 (by intro z; cases z))
   refine ⟨_, _, _, _, _, _, ys ++ [.ref da], ds ++ [d], kv11, rfl, fun c o e => k11 _ _ (s210 _ _ e) (ne_of_none e npt2), ⟨k11 _ _ hX10 (ne_of hX10 hT10 (by intro z; cases z)), Paired.mapP P10 fun _ _ g => g.tup tu11, k11 _ _ hD10 (ne_of hD10 hT10 (by intro z; cases z)), Paired.mapP Y10 fun _ _ g => g.tup tu11, hT11, ?_⟩, hG', by rw [List.length_append]; exact Nat.succ_le_succ hdl⟩
   rw [er]; exact R11
  rintro σ H6 ⟨np, v7, v8, v9, v10, v11, ys, ds, kv, rfl, s6, Z, hG, hdl⟩
  have hdl : ds.length <= 42 := Nat.le_trans hdl (rng42 _)
  have lY : ys.length = ds.length := Z.Y.length
  refine ⟨_, rfl, _, rfl, _, rfl, ph, n, pd, xs, ps, ys, ds, rfl, Z.X, Z.P, hH, hr0, Z.D, (by rw [<- lY, List.take_length]; exact Z.Y), hG, hdl, .inl ⟨lY, fun pp H7 s7 hpp => ?_⟩⟩
  refine ⟨_, rfl, sz (by simp), fun p2 hp2 => ?_⟩
  have hlay : Lay "goes" := by decide +kernel
  have r1 := rep_si (K := K) ((Same.upd (o := .tup [V.str "goes", .int (-1)]) hp2) _ _ hpp) hlay
  have r2 := rep_si (K := K) (upd_same (H := H7) (a := p2) (o := .tup [V.str "goes", .int (-1)])) hlay
  refine ⟨_, _, r1, r2, si_depth _ _, ?_⟩
  rw [PySem.SeqAt.eqv_refl _ r1.lay]
  exact k _
end
end T21
namespace T21
open PySem L2 Tc
theorem all_mk {l : PySem.W.OpenLaw} {w : World} {K : PySem.W.Frag} {h : Heap} {mg : Str -> Option Value} {fa : Addr} (X : K.In h) (G : h.Ns mainGlobals mg) (hfa : mg "law" = some (.ref fa))
  {k_Full : Addr}
  {k_Lacking : Addr}
  {k_NoCask : Addr}
  {k_NoDeed : Addr}
  {k_NotSteady : Addr}
  {k_Tied : Addr}
  {k_TierError : Addr}
  {f29 : Addr} {oc29 kV29 dc29 pm29 cd29 ct29 : Value} {od29 an29 : Option Addr} {sl29 : Array (Option Value)}
  (D_common_divisor : DefAt K mg "common_divisor" s_common_divisor)
  (D_plus : DefAt K mg "plus" s_plus)
  (D_minus : DefAt K mg "minus" s_minus)
  (D_times : DefAt K mg "times" s_times)
  (D_over : DefAt K mg "over" s_over)
  (D_under : DefAt K mg "under" s_under)
  (D_rooms_of : DefAt K mg "rooms_of" s_rooms_of)
  (D_check_room : DefAt K mg "check_room" s_check_room)
  (D_share_of : DefAt K mg "share_of" s_share_of)
  (D_step_of : DefAt K mg "step_of" s_step_of)
  (D_add_step : DefAt K mg "add_step" s_add_step)
  (D_steps_of : DefAt K mg "steps_of" s_steps_of)
  (D__law_cell_at : DefAt K mg "_law_cell_at" s__law_cell_at)
  (D__law_mixed : DefAt K mg "_law_mixed" s__law_mixed)
  (D__law_names : DefAt K mg "_law_names" s__law_names)
  (D__law_low : DefAt K mg "_law_low" s__law_low)
  (D__law_add : DefAt K mg "_law_add" s__law_add)
  (D__law_less : DefAt K mg "_law_less" s__law_less)
  (D__law_house : DefAt K mg "_law_house" s__law_house)
  (D__law_rooms : DefAt K mg "_law_rooms" s__law_rooms)
  (D__law_none : DefAt K mg "_law_none" s__law_none)
  (D__law_amount : DefAt K mg "_law_amount" s__law_amount)
  (D__law_move : DefAt K mg "_law_move" s__law_move)
  (D__law_deed : DefAt K mg "_law_deed" s__law_deed)
  (D__law_judged : DefAt K mg "_law_judged" s__law_judged)
  (D__law_put : DefAt K mg "_law_put" s__law_put)
  (D__law_whole : DefAt K mg "_law_whole" s__law_whole)
  (D__law_refusal : DefAt K mg "_law_refusal" s__law_refusal)
  (D__law_told : DefAt K mg "_law_told" s__law_told)
  (a29 : PySem.W.nsIn K mainGlobals "law" = some (some (.ref f29))) (l29 : K.lookup f29 = some ⟨oc29, od29, .func (PySem.W.fnOf "law" "law" (defArgs s_law) (defBody s_law) (defScope s_law) .none kV29 dc29 pm29 an29 cd29 ct29), sl29⟩) (c29 : PySem.W.codeIn K cd29 "law" = true) (k29 : PySem.W.keepIn K (.ref f29) = true)
  (D_Full_init : InitDef K k_Full "Full.__init__" s_Full_init)
  (D_Lacking_init : InitDef K k_Lacking "Lacking.__init__" s_Lacking_init)
  (z_ValueError : PySem.W.nsIn K mainGlobals "ValueError" = some none)
  (z_abs : PySem.W.nsIn K mainGlobals "abs" = some none)
  (z_bool : PySem.W.nsIn K mainGlobals "bool" = some none)
  (z_dict : PySem.W.nsIn K mainGlobals "dict" = some none)
  (z_enumerate : PySem.W.nsIn K mainGlobals "enumerate" = some none)
  (z_int : PySem.W.nsIn K mainGlobals "int" = some none)
  (z_isinstance : PySem.W.nsIn K mainGlobals "isinstance" = some none)
  (z_len : PySem.W.nsIn K mainGlobals "len" = some none)
  (z_list : PySem.W.nsIn K mainGlobals "list" = some none)
  (z_min : PySem.W.nsIn K mainGlobals "min" = some none)
  (z_range : PySem.W.nsIn K mainGlobals "range" = some none)
  (y_Full : PySem.W.nsIn K mainGlobals "Full" = some (some (.ref k_Full)))
  (y_Lacking : PySem.W.nsIn K mainGlobals "Lacking" = some (some (.ref k_Lacking)))
  (y_NoCask : PySem.W.nsIn K mainGlobals "NoCask" = some (some (.ref k_NoCask)))
  (y_NoDeed : PySem.W.nsIn K mainGlobals "NoDeed" = some (some (.ref k_NoDeed)))
  (y_NotSteady : PySem.W.nsIn K mainGlobals "NotSteady" = some (some (.ref k_NotSteady)))
  (y_Tied : PySem.W.nsIn K mainGlobals "Tied" = some (some (.ref k_Tied)))
  (y_TierError : PySem.W.nsIn K mainGlobals "TierError" = some (some (.ref k_TierError)))
  (q_TierError : ExcT K k_TierError)
  (u_Full : ExcI K k_Full k_TierError "at")
  (x_Full : ExcK K k_Full)
  (i_Full_Full : PySem.W.kitOne K (.ref k_Full) (.ref k_Full) = some true)
  (m_Full_Full : PySem.W.exmOne K (.ref k_Full) (.ref k_Full) = some true)
  (i_Full_Lacking : PySem.W.kitOne K (.ref k_Full) (.ref k_Lacking) = some false)
  (m_Full_Lacking : PySem.W.exmOne K (.ref k_Full) (.ref k_Lacking) = some false)
  (i_Full_NoCask : PySem.W.kitOne K (.ref k_Full) (.ref k_NoCask) = some false)
  (m_Full_NoCask : PySem.W.exmOne K (.ref k_Full) (.ref k_NoCask) = some false)
  (i_Full_NoDeed : PySem.W.kitOne K (.ref k_Full) (.ref k_NoDeed) = some false)
  (m_Full_NoDeed : PySem.W.exmOne K (.ref k_Full) (.ref k_NoDeed) = some false)
  (i_Full_NotSteady : PySem.W.kitOne K (.ref k_Full) (.ref k_NotSteady) = some false)
  (m_Full_NotSteady : PySem.W.exmOne K (.ref k_Full) (.ref k_NotSteady) = some false)
  (i_Full_Tied : PySem.W.kitOne K (.ref k_Full) (.ref k_Tied) = some false)
  (m_Full_Tied : PySem.W.exmOne K (.ref k_Full) (.ref k_Tied) = some false)
  (i_Full_TierError : PySem.W.kitOne K (.ref k_Full) (.ref k_TierError) = some true)
  (m_Full_TierError : PySem.W.exmOne K (.ref k_Full) (.ref k_TierError) = some true)
  (v_Full : PySem.W.kitOne K (.ref k_Full) (.type "ValueError") = some true)
  (u_Lacking : ExcI K k_Lacking k_TierError "at")
  (x_Lacking : ExcK K k_Lacking)
  (i_Lacking_Full : PySem.W.kitOne K (.ref k_Lacking) (.ref k_Full) = some false)
  (m_Lacking_Full : PySem.W.exmOne K (.ref k_Lacking) (.ref k_Full) = some false)
  (i_Lacking_Lacking : PySem.W.kitOne K (.ref k_Lacking) (.ref k_Lacking) = some true)
  (m_Lacking_Lacking : PySem.W.exmOne K (.ref k_Lacking) (.ref k_Lacking) = some true)
  (i_Lacking_NoCask : PySem.W.kitOne K (.ref k_Lacking) (.ref k_NoCask) = some false)
  (m_Lacking_NoCask : PySem.W.exmOne K (.ref k_Lacking) (.ref k_NoCask) = some false)
  (i_Lacking_NoDeed : PySem.W.kitOne K (.ref k_Lacking) (.ref k_NoDeed) = some false)
  (m_Lacking_NoDeed : PySem.W.exmOne K (.ref k_Lacking) (.ref k_NoDeed) = some false)
  (i_Lacking_NotSteady : PySem.W.kitOne K (.ref k_Lacking) (.ref k_NotSteady) = some false)
  (m_Lacking_NotSteady : PySem.W.exmOne K (.ref k_Lacking) (.ref k_NotSteady) = some false)
  (i_Lacking_Tied : PySem.W.kitOne K (.ref k_Lacking) (.ref k_Tied) = some false)
  (m_Lacking_Tied : PySem.W.exmOne K (.ref k_Lacking) (.ref k_Tied) = some false)
  (i_Lacking_TierError : PySem.W.kitOne K (.ref k_Lacking) (.ref k_TierError) = some true)
  (m_Lacking_TierError : PySem.W.exmOne K (.ref k_Lacking) (.ref k_TierError) = some true)
  (v_Lacking : PySem.W.kitOne K (.ref k_Lacking) (.type "ValueError") = some true)
  : ∃ fd : FuncData, (∀ (s : Shared) (v : Value), BindsTo s fd ⟨[v], []⟩ [("_law_script", v)]) /\ ∀ base : Heap, K.In base -> base.Ns mainGlobals mg -> FnOk l.prog w K mg base CX0 8 fa fd ["_law_script"] (spLaw K) := by
 have T : Txt K mg (⟨k_Full, k_Lacking, k_NoCask, k_NoDeed, k_NotSteady, k_Tied, k_TierError⟩ : Ca) := ⟨PySem.W.mg_none_of X G z_ValueError, PySem.W.mg_none_of X G z_abs, PySem.W.mg_none_of X G z_bool, PySem.W.mg_none_of X G z_dict, PySem.W.mg_none_of X G z_enumerate, PySem.W.mg_none_of X G z_int, PySem.W.mg_none_of X G z_isinstance, PySem.W.mg_none_of X G z_len, PySem.W.mg_none_of X G z_list, PySem.W.mg_none_of X G z_min, PySem.W.mg_none_of X G z_range, PySem.W.mg_of X G y_Full, PySem.W.mg_of X G y_Lacking, PySem.W.mg_of X G y_NoCask, PySem.W.mg_of X G y_NoDeed, PySem.W.mg_of X G y_NotSteady, PySem.W.mg_of X G y_Tied, PySem.W.mg_of X G y_TierError, q_TierError, u_Full, x_Full, i_Full_Full, m_Full_Full, i_Full_Lacking, m_Full_Lacking, i_Full_NoCask, m_Full_NoCask, i_Full_NoDeed, m_Full_NoDeed, i_Full_NotSteady, m_Full_NotSteady, i_Full_Tied, m_Full_Tied, i_Full_TierError, m_Full_TierError, v_Full, u_Lacking, x_Lacking, i_Lacking_Full, m_Lacking_Full, i_Lacking_Lacking, m_Lacking_Lacking, i_Lacking_NoCask, m_Lacking_NoCask, i_Lacking_NoDeed, m_Lacking_NoDeed, i_Lacking_NotSteady, m_Lacking_NotSteady, i_Lacking_Tied, m_Lacking_Tied, i_Lacking_TierError, m_Lacking_TierError, v_Lacking⟩
 have e := hfa.symm.trans (PySem.W.mg_of X G a29)
 cases e
 refine ⟨PySem.W.fnOf "law" "law" (defArgs s_law) (defBody s_law) (defScope s_law) .none kV29 dc29 pm29 an29 cd29 ct29, fun s v => .of_eq rfl, fun base _ _ => ?_⟩
 have I_Full := ok_Full_init (P := l.prog) (w := w) (base := base) D_Full_init T
 have I_Lacking := ok_Lacking_init (P := l.prog) (w := w) (base := base) D_Lacking_init T
 have G_common_divisor := ok_common_divisor (P := l.prog) (w := w) (base := base) D_common_divisor T
 have G_plus := ok_plus (P := l.prog) (w := w) (base := base) D_plus T G_common_divisor
 have G_minus := ok_minus (P := l.prog) (w := w) (base := base) D_minus T G_plus
 have G_times := ok_times (P := l.prog) (w := w) (base := base) D_times T G_common_divisor
 have G_over := ok_over (P := l.prog) (w := w) (base := base) D_over T G_times
 have G_under := ok_under (P := l.prog) (w := w) (base := base) D_under T
 have G_rooms_of := ok_rooms_of (P := l.prog) (w := w) (base := base) D_rooms_of T
 have G_check_room := ok_check_room (P := l.prog) (w := w) (base := base) D_check_room T G_under G_plus I_Full
 have G_share_of := ok_share_of (P := l.prog) (w := w) (base := base) D_share_of T G_minus G_under G_over I_Lacking
 have G_step_of := ok_step_of (P := l.prog) (w := w) (base := base) D_step_of T G_check_room G_share_of G_times
 have G_add_step := ok_add_step (P := l.prog) (w := w) (base := base) D_add_step T G_plus G_times G_minus
 have G_steps_of := ok_steps_of (P := l.prog) (w := w) (base := base) D_steps_of T G_rooms_of G_step_of G_add_step
 have G__law_cell_at := ok__law_cell_at (P := l.prog) (w := w) (base := base) D__law_cell_at T
 have G__law_mixed := ok__law_mixed (P := l.prog) (w := w) (base := base) D__law_mixed T
 have G__law_names := ok__law_names (P := l.prog) (w := w) (base := base) D__law_names T G__law_mixed
 have G__law_low := ok__law_low (P := l.prog) (w := w) (base := base) D__law_low T
 have G__law_add := ok__law_add (P := l.prog) (w := w) (base := base) D__law_add T G__law_low
 have G__law_less := ok__law_less (P := l.prog) (w := w) (base := base) D__law_less T
 have G__law_house := ok__law_house (P := l.prog) (w := w) (base := base) D__law_house T G__law_names G__law_mixed G__law_low
 have G__law_rooms := ok__law_rooms (P := l.prog) (w := w) (base := base) D__law_rooms T
 have G__law_none := ok__law_none (P := l.prog) (w := w) (base := base) D__law_none T
 have G__law_amount := ok__law_amount (P := l.prog) (w := w) (base := base) D__law_amount T G__law_mixed G__law_low
 have G__law_move := ok__law_move (P := l.prog) (w := w) (base := base) D__law_move T G__law_mixed G__law_amount
 have G__law_deed := ok__law_deed (P := l.prog) (w := w) (base := base) D__law_deed T G__law_mixed G__law_amount G__law_names G__law_low G__law_move
 have G__law_judged := ok__law_judged (P := l.prog) (w := w) (base := base) D__law_judged T G__law_low G__law_add G__law_less
 have G__law_put := ok__law_put (P := l.prog) (w := w) (base := base) D__law_put T G__law_add
 have G__law_whole := ok__law_whole (P := l.prog) (w := w) (base := base) D__law_whole T
 have G__law_refusal := ok__law_refusal (P := l.prog) (w := w) (base := base) D__law_refusal T G__law_whole
 have G__law_told := ok__law_told (P := l.prog) (w := w) (base := base) D__law_told T G__law_none G_steps_of G__law_refusal
 exact ok_law (fun_mk (st := s_law) l29 c29 k29) T G__law_house G__law_cell_at G__law_rooms G__law_none G__law_deed G__law_judged G__law_told G__law_put
end T21
namespace PySem.W.Fast
def tw11278702856743631804 := 0
def tw4774681678651386274 := 0
def tw5458194754718430374 := 0
def tw5631279598769316743 := 0
def tw12355599660984590809 := 0
def tw5788962199244035779 := 0
def tw10079388184150494719 := 0
def tw15671839678620154226 := 0
def tw17549085491858717069 := 0
def tw18062732112648366557 := 0
def tw10183844216746680176 := 0
def tw16897792644608193030 := 0
def tw11543059631515899567 := 0
def tw11308997611383604753 := 0
def tw8439047120554857753 := 0
def tw13572081869447723210 := 0
def tw1905155013643366066 := 0
def tw10900645308366902159 := 0
def tw13254609068988696285 := 0
def tw13912853538578468034 := 0
def tw12421586238225409090 := 0
def tw10999424664688267345 := 0
def tw17097633276196498857 := 0
def tw16728291038341771030 := 0
def tw12386718183375117734 := 0
def tw16824687180186751047 := 0
def tw1638274611303286039 := 0
def tw6044299590780052969 := 0
def tw8729440820257133651 := 0
def tw18027334162026059962 := 0
def tw17478185959846127949 := 0
def tw6499807653013081198 := 0
def tw13619297158589920209 := 0
def tw11243030138303443118 := 0
def tw10635067225224147799 := 0
def tw1303157149968589665 := 0
def tw18122660135004034458 := 0
def tw3294748963007350832 := 0
def tw13911992820653465300 := 0
def tw15910753723741489043 := 0
def tw1851701167539068454 := 0
def tw11280689437461748017 := 0
def tw14687651259990936917 := 0
def tw6158368916709476520 := 0
def tw10329970678066805151 := 0
def tw17123141714037227757 := 0
def tw6536519715349611108 := 0
def tw5701875034647142479 := 0
def tw6528404036343495335 := 0
def tw16642001924280919520 := 0
def tw2921471497577152831 := 0
def tw1691904914366909344 := 0
def tw11878363178545772473 := 0
def tw16131956770728605301 := 0
def tw16424979324158992958 := 0
def tw12949310790895231645 := 0
def tw8486316691928470799 := 0
def tw3129600229635418368 := 0
def tw9985061678028999612 := 0
def tw1322309021866582097 := 0
def tw7246917509987551435 := 0
def tw12335859510775901643 := 0
def tw17641086797459887302 := 0
def tw938147599610062033 := 0
def tw4111330497580276052 := 0
def tw11041506565835699102 := 0
def tw12946045381178123090 := 0
def tw16306763613899445822 := 0
def tw8361611146274819383 := 0
def tw307272329205804299 := 0
def tw16582486453081931046 := 0
def tw18232232236280482562 := 0
def tw14881651915516059680 := 0
def tw13067177838043503446 := 0
def tw4469700954386743305 := 0
def tw1143515682794947923 := 0
def tw16410066134403528224 := 0
def tw15462639621146045227 := 0
def tw17860407722170326725 := 0
def tw1023743200339002519 := 0
def tw7035456773423362391 := 0
def tw12023500278690764736 := 0
def tw11469454645600805633 := 0
def tw8648962390540206923 := 0
def tw2940885290576461643 := 0
def tw16272450123124898999 := 0
def tw10396781844788043471 := 0
def tw3865749838363690082 := 0
def tw11213647111010917003 := 0
def tw3828820325172281967 := 0
def tw308324531110357629 := 0
def tw3992996493092151106 := 0
def tw3293992677010710902 := 0
def tw11914333259529398476 := 0
def tw4972112949772816334 := 0
def tw18446478183375655449 := 0
def tw5852148544827115970 := 0
def tw7101727399543797651 := 0
def tw5202154785617655090 := 0
def tw11402541278244788941 := 0
def tw14071127417290540137 := 0
def tw13896323343180110807 := 0
def tw13853259735613868460 := 0
def tw15603073265827459151 := 0
def tw16666935621335428125 := 0
def tw17772864116871750774 := 0
def tw11972734109429327416 := 0
def tw8821609493852774671 := 0
def tw3129574942452406137 := 0
def tw1260041668172711098 := 0
def tw3333583473183196156 := 0
def tw5740016612990151956 := 0
def tw9274469385663611729 := 0
def tw18148412564327537358 := 0
def tw7733737310347346339 := 0
def tw1788135176425096042 := 0
def tw18226498026792508704 := 0
def tw12061760802100727628 := 0
def tw16192566527122695511 := 0
def tw269154609409786351 := 0
def tw2897345953669209402 := 0
def tw12128912158453974627 := 0
def tw11139729100736093463 := 0
def tw12908772339394847699 := 0
def tw6229637244925339451 := 0
def tw8959687811155585526 := 0
def tw1106310998363671015 := 0
def tw2472794321169976334 := 0
def tw7023018366526200264 := 0
def tw15206641926995092129 := 0
def tw13210554930636853525 := 0
def tw574487822812435083 := 0
def tw12185338027749073355 := 0
def tw16198367881228191730 := 0
def tw16049520132689644763 := 0
def tw11218119561295987674 := 0
def tw11677676528311003547 := 0
def tw14749102054996573765 := 0
def tw1940904042047702827 := 0
def tw88278714968507357 := 0
def tw9273856547316809702 := 0
def tw9691630132976669097 := 0
def tw2214839312308668812 := 0
def tw18025101067139316142 := 0
def tw17431717460904399144 := 0
def tw8239206308224519158 := 0
def tw15428529889209823711 := 0
def tw3089502051902777461 := 0
def tw18168755742232140134 := 0
def tw11785133844465558475 := 0
def tw2940649048747985339 := 0
def tw16315209675834741202 := 0
def tw6523125986097615829 := 0
def tw5767312527172530967 := 0
def tw13766978866290174617 := 0
def tw556252108656240652 := 0
def tw11628391280590197237 := 0
def tw5202887030694619703 := 0
def tw17117966959456529782 := 0
def tw13197238236112718728 := 0
def tw11053048755094949670 := 0
def tw9804000172599077708 := 0
def tw8376108106145414478 := 0
def tw12196916739439362712 := 0
def tw13067353038961781861 := 0
def tw9688673284150086456 := 0
def tw4853525570966147622 := 0
def tw4361824680138053420 := 0
def tw5383017471786203371 := 0
def tw18410288999082057699 := 0
def tw5198808179946591860 := 0
def tw11779744484730740197 := 0
def tw27252708033268704 := 0
def tw7743432870078923317 := 0
def tw750383377058154037 := 0
def tw12389840547052942234 := 0
def tw17070600785308512965 := 0
def tw14038690253068826719 := 0
def tw16736909168672397070 := 0
def tw4281761539371395950 := 0
def tw15753523297628055675 := 0
def tw17662298204664474687 := 0
def tw11992828938544930917 := 0
def tw15985997667487577901 := 0
def tw1345349797607810309 := 0
def tw788128080576854836 := 0
def tw1647074565832584393 := 0
def tw9193927684994058993 := 0
def tw4189808827903132793 := 0
def tw6995721007991129192 := 0
def tw1430554638065846988 := 0
def tw11276428316299952874 := 0
def tw8209914620373063346 := 0
def tw17874880216419141150 := 0
def tw16901429380877435276 := 0
def tw17409706635383327981 := 0
def tw8157692942019003369 := 0
def tw10909094921423907114 := 0
def tw5708889409203020158 := 0
def tw12682014452333965311 := 0
def tw2953426883493540727 := 0
def tw13285412867975839946 := 0
def tw8547302488150634954 := 0
def tw14262659306723179536 := 0
def tw5925904281053996649 := 0
def tw3385780282707527681 := 0
def tw14243572995172165234 := 0
def tw9012025176482665826 := 0
def tw11268150038876614546 := 0
def tw11142212952463720175 := 0
def tw4838438124727222756 := 0
def tw10734988951717511856 := 0
def tw13109971177108334290 := 0
def tw16558814785473538016 := 0
def tw17886270651011024103 := 0
def tw7867632065253663650 := 0
def tw671750098676498392 := 0
def tw3646152965856235806 := 0
def tw12797663477423147810 := 0
def tw16990225279416790820 := 0
def tw13105167026262983404 := 0
def tw1322177900080917150 := 0
def tw8855679668688416196 := 0
def tw14902327920283340502 := 0
def tw3712012897263266275 := 0
def tw8857129461584875367 := 0
def tw13505779344948111886 := 0
def tw17502290617277737948 := 0
def tw17703959528587196836 := 0
def tw15714125099955914746 := 0
def tw5589012417790994724 := 0
def tw2550486646068180330 := 0
def tw3904253822936438284 := 0
def tw15345124512281405928 := 0
def tw12119406095520187009 := 0
def tw10497981304406447574 := 0
def tw10424886028794217762 := 0
def tw12989732677382728185 := 0
def tw5813189405390095474 := 0
def tw10118380494616982938 := 0
def tw13080163204033999407 := 0
def tw4006685193765916093 := 0
def tw11450572680655381078 := 0
def tw13182980441898604511 := 0
def tw16364348283958057087 := 0
def tw17261298830097763329 := 0
def tw3283989975755759585 := 0
def tw15759791489736263559 := 0
def tw5085539300573618608 := 0
def tw13416474157377738028 := 0
def tw15354613600890131270 := 0
def tw14340902073727602503 := 0
def tw293798659884193500 := 0
def tw17311173966755167767 := 0
def tw916257028530647022 := 0
def tw17430908232175607806 := 0
def tw8463057751663680729 := 0
def tw3380907608770801686 := 0
def tw9607284492644784765 := 0
def tw17359495967985916572 := 0
def tw1011578572468270868 := 0
def tw839366322875959838 := 0
def tw12544025924938936968 := 0
def tw2585030223893690860 := 0
def tw16873647724755122206 := 0
def tw10070871048223539285 := 0
def tw2794547316174381305 := 0
def tw6434185350041559271 := 0
def tw5147473289018945525 := 0
def tw3848517478659190196 := 0
def tw956219669536717892 := 0
def tw11359853657913152638 := 0
def tw12639450503390312977 := 0
def tw16770224743055071511 := 0
def tw14953465848800448546 := 0
def tw5743568601435775585 := 0
def tw13570377032851723655 := 0
def tw8692704701893268109 := 0
def tw3352185273176486486 := 0
def tw6236136447458943979 := 0
def tw6485903885728463717 := 0
def tw9043286370858542197 := 0
def tw16168452083851274898 := 0
def tw9028469811812951582 := 0
def tw688326307278229386 := 0
def tw17705858135931192223 := 0
def tw15970486285377710097 := 0
def tw12607138595486077471 := 0
def tw8820518028754959461 := 0
def tw8249973358284593598 := 0
def tw9830875112928809572 := 0
def tw15344488895589958559 := 0
def tw4685993255150882999 := 0
def tw4649581952542228594 := 0
def tw14883173005691018295 := 0
def tw6990868865875135557 := 0
def tw14531182657144771721 := 0
def tw12205543755142248303 := 0
def tw10710012965274894220 := 0
def tw7940713379188849184 := 0
def tw6849694224748252870 := 0
def tw4524116004067749672 := 0
def tw8937765752952263665 := 0
def tw12440319501116344329 := 0
def tw2079877384781593559 := 0
def tw5389048745571844412 := 0
def tw16515688785526345907 := 0
def tw9158551352649310857 := 0
def tw12083675859284246058 := 0
def tw6175322260278801533 := 0
def tw10699687723054647916 := 0
def tw761965926559169083 := 0
def tw11059542062658437431 := 0
def tw1233531083226975622 := 0
def tw15688153520385542157 := 0
def tw17146919514537265617 := 0
def tw15980878478172433203 := 0
def tw16943658704491370163 := 0
def tw3762646086472042065 := 0
def tw14087549423138691138 := 0
def tw8360794677095153297 := 0
def tw7841259869830411350 := 0
def tw10319242175668760606 := 0
def tw8105235651117091581 := 0
def tw8528263097823449659 := 0
def tw557737590378235320 := 0
def tw1197601902880308945 := 0
def tw5296579874528712888 := 0
def tw6450269209421451329 := 0
def tw7329372397946744651 := 0
def tw7152054090261294571 := 0
def tw2474578842342899460 := 0
end PySem.W.Fast
open PySem PySem.W PyProof.Rows
set_option maxRecDepth 100000 in
set_option maxHeartbeats 0 in
theorem PySem.Challenge.cw_tiercask_k21_steps_refused_holds : PySem.Challenge.rw_tiercask_k21_steps_refused.Holds := by
 w_on; o_law; k_head; (case hw => w_witness2)
 k_fill
 refine L2.walk_ofK (l := PySem.Challenge.rw_tiercask_k21_steps_refused) (n := 63) (k := 8) (x := "_law_script") (CX := L2.CX0) (sp := Tc.spLaw) rfl (by decide) rfl ⟨rfl, by decide, by decide⟩ (fun w h Y => PySem.W.kIn_of Y) ?F ?S ?C
 case F =>
  intro w mg fa h KX G hmg
  refine' T21.all_mk KX G hmg ?_ ?_ ?_ ?_ ?_ ?_ ?_ ?_ ?_ ?_ ?_ ?_ ?_ ?_ ?_ ?_ ?_ ?_ ?_ ?_ ?_ ?_ ?_ ?_ ?_ ?_ ?_ ?_ ?_ ?a29 ?l29 ?c29 ?k29 ?D_Full_init ?D_Lacking_init ?z_ValueError ?z_abs ?z_bool ?z_dict ?z_enumerate ?z_int ?z_isinstance ?z_len ?z_list ?z_min ?z_range ?y_Full ?y_Lacking ?y_NoCask ?y_NoDeed ?y_NotSteady ?y_Tied ?y_TierError ?q_TierError ?u_Full ?x_Full ?i_Full_Full ?m_Full_Full ?i_Full_Lacking ?m_Full_Lacking ?i_Full_NoCask ?m_Full_NoCask ?i_Full_NoDeed ?m_Full_NoDeed ?i_Full_NotSteady ?m_Full_NotSteady ?i_Full_Tied ?m_Full_Tied ?i_Full_TierError ?m_Full_TierError ?v_Full ?u_Lacking ?x_Lacking ?i_Lacking_Full ?m_Lacking_Full ?i_Lacking_Lacking ?m_Lacking_Lacking ?i_Lacking_NoCask ?m_Lacking_NoCask ?i_Lacking_NoDeed ?m_Lacking_NoDeed ?i_Lacking_NotSteady ?m_Lacking_NotSteady ?i_Lacking_Tied ?m_Lacking_Tied ?i_Lacking_TierError ?m_Lacking_TierError ?v_Lacking
  all_goals (try (refine' L2.DefAt.mk' KX G ?a ?l ?c ?k; (case a => k_is); (case l => k_is); (case c => k_is); (case k => k_is)))
  (case a29 => k_is); (case l29 => k_is); (case c29 => k_is); (case k29 => k_is); (case z_ValueError => k_is); (case z_abs => k_is); (case z_bool => k_is); (case z_dict => k_is)
  (case z_enumerate => k_is); (case z_int => k_is); (case z_isinstance => k_is); (case z_len => k_is); (case z_list => k_is); (case z_min => k_is); (case z_range => k_is); (case y_Full => k_is)
  (case y_Lacking => k_is); (case y_NoCask => k_is); (case y_NoDeed => k_is); (case y_NotSteady => k_is); (case y_Tied => k_is); (case y_TierError => k_is)
  (case D_Full_init => refine' L2.InitDef.mk' ?a ?t ?l ?c ?k; (case a => k_is); (case t => k_is); (case l => k_is); (case c => k_is); (case k => k_is))
  (case D_Lacking_init => refine' L2.InitDef.mk' ?a ?t ?l ?c ?k; (case a => k_is); (case t => k_is); (case l => k_is); (case c => k_is); (case k => k_is))
  (case q_TierError => refine ⟨?_, ?_, ?_, ?_⟩; k_exc; k_is; k_is; k_is)
  (case u_Full => refine' L2.ExcI.mk' ?l ?a ?b ?c ?d ?e ?f ?g; (case l => k_is); (case a => k_is); (case b => k_is); (case c => k_is); (case d => k_is); (case e => k_is); (case f => k_is); (case g => k_is))
  (case x_Full => refine ⟨?_, ?_, ?_, ?_, ?_⟩ <;> k_is)
  (case i_Full_Full => kit_is)
  (case m_Full_Full => kts_exm)
  (case i_Full_Lacking => kit_is)
  (case m_Full_Lacking => kts_exm)
  (case i_Full_NoCask => kit_is)
  (case m_Full_NoCask => kts_exm)
  (case i_Full_NoDeed => kit_is)
  (case m_Full_NoDeed => kts_exm)
  (case i_Full_NotSteady => kit_is)
  (case m_Full_NotSteady => kts_exm)
  (case i_Full_Tied => kit_is)
  (case m_Full_Tied => kts_exm)
  (case i_Full_TierError => kit_is)
  (case m_Full_TierError => kts_exm)
  (case v_Full => kit_is)
  (case u_Lacking => refine' L2.ExcI.mk' ?l ?a ?b ?c ?d ?e ?f ?g; (case l => k_is); (case a => k_is); (case b => k_is); (case c => k_is); (case d => k_is); (case e => k_is); (case f => k_is); (case g => k_is))
  (case x_Lacking => refine ⟨?_, ?_, ?_, ?_, ?_⟩ <;> k_is)
  (case i_Lacking_Full => kit_is)
  (case m_Lacking_Full => kts_exm)
  (case i_Lacking_Lacking => kit_is)
  (case m_Lacking_Lacking => kts_exm)
  (case i_Lacking_NoCask => kit_is)
  (case m_Lacking_NoCask => kts_exm)
  (case i_Lacking_NoDeed => kit_is)
  (case m_Lacking_NoDeed => kts_exm)
  (case i_Lacking_NotSteady => kit_is)
  (case m_Lacking_NotSteady => kts_exm)
  (case i_Lacking_Tied => kit_is)
  (case m_Lacking_Tied => kts_exm)
  (case i_Lacking_TierError => kit_is)
  (case m_Lacking_TierError => kts_exm)
  (case v_Lacking => kit_is)
 case S => exact fun K H a ns hl hO hS => ⟨a, ns, rfl, hS, hl, fun _ => rfl⟩
 case C => exact fun H s e s' z => z
